import PyProof.Rows.All
import KE.KSortKeySt
import KE.KSortTupG
import PySem.Challenge.RW_lotstore_s01_answers
import Open.SpecLaws
import KE.OsGo
set_option Elab.async false
set_option linter.all false
set_option maxRecDepth 100000
set_option maxHeartbeats 0
noncomputable section
open List (mem_cons_self pairwise_cons take_append_drop take_succ Pairwise Nodup Sublist)
open Vbdlal (lotOf onSes good byExpiry shelf flat THOUSANDMILLION MAXLOT needs total avail lacking heldOf usesOf addAt isId GREAT thrownCall open_ unusedCall bagSub countCall closeCall bagDrop bagAdd takeCall releaseCall sweepCall fefo picks isArt isFew issueCall reserveCall dropWhere callBack recallCall flat3 isDay dayCall dropped putSes putArt openCall MAXSES partsOf isKit MILLION leastCall articleCall MAXART receiveCall needCall shortCall partsCall whoCall usesCall heldCall lotCall shelfCall soonCall ableCall lastsCall shelfRow cluster clusterCall setParts DEEP goodParts pairs sound recipeCall distinct decodeAt stepRaw BOUND answersFrom)
open PySem.W (mg_of instObj methodObj Frag lookIn plainGet hasDictIn findIn handedIn plainOver takerIn Looks makesIn emptyDict keepIn callWith_K isFn fnOf codeIn codeHdIn kla_obj codeHd_of_K tabObj kla_fn envX kdl_values kdu_collect WRecords nsIn)
open VbdlalNeutral (whole64 asked1 numbers row asked)
open PyVbdlal (answers_asked calls)
open Option (isSome_some)
open PyProof.Rows (boot_sum firstMet boot_set)
open Vbdlal.Call (recipe)
open PySem (IsL)
abbrev FL:=@Array.length_toList
abbrev Hh:=@Array.toArray_toList
abbrev Lk:=@Bool.and_assoc
abbrev cy:=@Bool.and_eq_true
abbrev gY:=@Bool.and_true
abbrev l5:=@Bool.eq_iff_iff
abbrev E5:=@Bool.false_eq_true
abbrev fg:=@Bool.false_ne_true
abbrev Me:=@Bool.true_and
abbrev yD:=@Classical.byContradiction
abbrev qj:=@Decidable.byContradiction
abbrev cY:=@Int.toNat_natCast
abbrev O5:=@List.Perm.eq_of_pairwise
abbrev Iw:=@List.Perm.of_eq
abbrev Ia:=@List.Perm.refl
abbrev AM:=@List.all_cons
abbrev dr:=@List.all_eq_true
abbrev Ih:=@List.all_map
abbrev tD:=@List.any_cons
abbrev xE:=@List.any_eq_true
abbrev AS:=@List.append_assoc
abbrev mr:=@List.append_nil
abbrev LU:=@List.cons_append
abbrev Pl:=@List.dropLast_concat_getLast
abbrev Io:=@List.filter_congr
abbrev jP:=@List.filter_cons
abbrev Lh:=@List.filter_cons_of_neg
abbrev MC:=@List.filter_cons_of_pos
abbrev MS:=@List.filter_eq_nil_iff
abbrev HB:=@List.filter_filter
abbrev vp:=@List.filter_map
abbrev Dq:=@List.filter_sublist
abbrev uZ:=@List.find?_cons
abbrev HP:=@List.flatMap_cons
abbrev Mz:=@List.flatten_cons
abbrev DM:=@List.foldl_append
abbrev gZ:=@List.foldl_cons
abbrev Mh:=@List.forIn_cons
abbrev Ii:=@List.forIn_nil
abbrev MG:=@List.getD_eq_getElem?_getD
abbrev vc:=@List.getElem?_eq_getElem
abbrev HA:=@List.getElem?_eq_none
abbrev fu:=@List.getElem?_eq_some_iff
abbrev cO:=@List.getElem?_map
abbrev Gz:=@List.getElem?_set_ne
abbrev Fj:=@List.getElem?_zip_eq_some
abbrev fL:=@List.getElem_mem
abbrev dv:=@List.length_append
abbrev cH:=@List.length_cons
abbrev Gq:=@List.length_drop
abbrev qt:=@List.length_eq_zero_iff
abbrev fN:=@List.length_filter_le
abbrev ay:=@List.length_map
abbrev lz:=@List.length_take
abbrev CN:=@List.length_zip
abbrev rj:=@List.lookup_cons
abbrev gS:=@List.map_append
abbrev cE:=@List.map_congr_left
abbrev bF:=@List.map_cons
abbrev jm:=@List.map_id
abbrev aV:=@List.map_map
abbrev om:=@List.map_nil
abbrev fK:=@List.mem_append
abbrev h_:=@List.mem_append_left
abbrev lJ:=@List.mem_append_right
abbrev bM:=@List.mem_cons
abbrev cP:=@List.mem_cons_of_mem
abbrev cQ:=@mem_cons_self
abbrev eC:=@List.mem_filter
abbrev A9:=@List.mem_filterMap
abbrev aZ:=@List.mem_map
abbrev dJ:=@List.mem_of_getElem?
abbrev Ha:=@List.mem_of_mem_take
abbrev BG:=@List.mem_singleton
abbrev BA:=@List.nodup_append
abbrev fO:=@List.nodup_cons
abbrev lA:=@List.nodup_nil
abbrev rl:=@List.not_mem_nil
abbrev Cv:=@List.of_mem_zip
abbrev dH:=@pairwise_cons
abbrev Mv:=@List.pairwise_iff_getElem
abbrev hY:=@List.pairwise_map
abbrev GV:=@List.replicate_succ
abbrev cu:=@List.size_toArray
abbrev KI:=@take_append_drop
abbrev du:=@List.take_length
abbrev t_:=@List.take_sublist
abbrev gx:=@take_succ
abbrev F1:=@List.take_zero
abbrev rh:=@Nat.le_of_eq
abbrev jn:=@Nat.le_of_lt
abbrev bo:=@Nat.le_refl
abbrev aG:=@Nat.le_trans
abbrev gu:=@Nat.lt_irrefl
abbrev fe:=@Nat.lt_of_le_of_lt
abbrev fH:=@Nat.lt_of_lt_of_le
abbrev yN:=@Nat.lt_succ_of_lt
abbrev CC:=@Nat.min_self
abbrev LZ:=@Nat.mul_ne_zero
abbrev BS:=@Nat.mul_zero
abbrev uC:=@Nat.ne_of_gt
abbrev cC:=@Nat.ne_of_lt
abbrev FC:=@Nat.succ_mul
abbrev fJ:=@Nat.zero_le
abbrev aR:=@Ne.symm
abbrev Ge:=@Option.isSome_map
abbrev cV:=@Option.some.inj
abbrev Cj:=@Option.some.injEq
abbrev nV:=@PyProof.Rows.boot_sorted
abbrev jt:=@boot_sum
abbrev LH:=@PyProof.Rows.callWith_builtin1
abbrev xg:=@PyProof.Rows.callWith_type1
abbrev yf:=@PySem.Calls.callWith_builtin
abbrev Cz:=@PySem.Calls.evalArgs_plain
abbrev j6:=@PySem.Calls.spliced_cons
abbrev nO:=@PySem.Calls.spliced_nil
abbrev Mi:=@PySem.F.args_dict_keyiterator_next_1
abbrev qD:=@PySem.F.plainAttrs_dict
abbrev nJ:=@PySem.F.plainAttrs_list
abbrev A4:=@PySem.F.plain_extend_loop
abbrev G':=@PySem.F.slot_dict_get
abbrev GC:=@PySem.F.slot_dict_getitem
abbrev CD:=@PySem.F.slot_dict_items
abbrev uH:=@PySem.F.slot_dict_keyiterator_next
abbrev LN:=@PySem.F.slot_dict_setdefault
abbrev CH:=@PySem.F.slot_dict_values
abbrev F8:=@PySem.F.slot_list_append
abbrev q0:=@PySem.F.slot_list_extend
abbrev BB:=@PySem.F.slot_zip_next
abbrev J_:=@PySem.F.type_list_append
abbrev yR:=@PySem.F.type_list_extend
abbrev BI:=@PySem.Heap.SameBut.update
abbrev w9:=@PySem.Heap.get?_none_of_le
abbrev bB:=@PySem.Heap.get?_push_of_some
abbrev bU:=@PySem.Heap.get?_push_size
abbrev uh:=@PySem.Heap.get?_update_other
abbrev ra:=@PySem.Heap.get?_update_self
abbrev bb:=@PySem.Heap.lt_size
abbrev ff:=@PySem.Heap.size_push
abbrev MK:=@PySem.Heap.size_update
abbrev B':=@PySem.Obj.data_mapFields
abbrev bZ:=@PySem.Paired.length
abbrev dj:=@PySem.PassesOwn.never
abbrev F3:=@PySem.W.kdl_dict
abbrev LX:=@PySem.W.length_le_weightAllW
abbrev nG:=@mg_of
abbrev gb:=@PySem.boot_len
abbrev uK:=@PySem.call_meets
abbrev xw:=@PySem.call_meetsIn
abbrev A8:=@PySem.codeAny_mono
abbrev xD:=@PySem.evalArgs_none
abbrev gc:=@PySem.mem_of_lookup
abbrev CG:=@PySem.method_meetsIn
abbrev F7:=@PySem.pushCells_keeps
abbrev Cf:=@PySem.sizeLine_eq
abbrev GU:=@PySem.slot_list_getitem
abbrev xU:=@PySem.tupleKind_room_in1
abbrev qC:=@PySem.wpAny_Call_Name_kw
abbrev qy:=@PySem.wpAny_Call_method
abbrev G0:=@PySem.wpAny_Constant_int
abbrev uJ:=@PySem.wpAny_Name
abbrev Bn:=@PySem.wpAny_attempt
abbrev aq:=@PySem.wpAny_bind
abbrev xq:=@PySem.wpAny_callSpecial?_slot
abbrev lX:=@PySem.wpAny_call_entry
abbrev Fg:=@PySem.wpAny_dictEntries
abbrev Cn:=@PySem.wpAny_execs_nil
abbrev jV:=@PySem.wpAny_field
abbrev Fy:=@PySem.wpAny_getItem_of
abbrev qT:=@PySem.wpAny_holding
abbrev GA:=@PySem.wpAny_isInstance
abbrev Ce:=@PySem.wpAny_loadName_local
abbrev gM:=@PySem.wpAny_mono
abbrev tX:=@PySem.wpAny_newObj_type
abbrev qr:=@PySem.wpAny_passesOwn
abbrev aL:=@PySem.wpAny_pure
abbrev F9:=@PySem.wpAny_pyIter_list
abbrev Gb:=@PySem.wpAny_pyIter_zip
abbrev lB:=@PySem.wpAny_seqItems
abbrev Bm:=@PySem.wpAny_setField
abbrev xH:=@PySem.wpAny_setField_rec
abbrev BV:=@PySem.wpAny_standAt
abbrev j8:=@PySem.wpAny_truthy_bool
abbrev BL:=@PySem.wpAny_typeNameOfWhole_keyiter
abbrev yZ:=@PySem.wpAny_updateSeq
abbrev qu:=@decide_eq_false
abbrev iy:=@decide_eq_true
abbrev iw:=@decide_eq_true_eq
abbrev jW:=@if_false
abbrev ak:=@if_neg
abbrev aw:=@if_pos
abbrev qF:=@if_true
abbrev CA:=@not_false_eq_true
abbrev bW:=@of_decide_eq_true
namespace Vm
open Vbdlal
section
variable{α:Type}
def cK (l:List (Nat×α))(k:Nat):Option α:=(l.find? fun p=>decide (p.1=k)).map (·.2)
noncomputable def dput (l:List (Nat×α))(k:Nat)(v:α):List (Nat×α):=
 if(l.any fun p=>decide (p.1=k))=true then l.map (fun p=>if p.1=k then(p.1,v)else p)else l++[(k,v)]
def jO (l:List (Nat×α))(k:Nat):List (Nat×α):=l.filter fun p=>decide (p.1≠k)
abbrev keys (l:List (Nat×α)):List Nat:=l.map (·.1)
def rP (k:Nat):cK ([]:List (Nat×α)) k=none:=rfl
theorem dg (p:Nat×α)(r:List (Nat×α))(k:Nat):cK (p::r) k=if p.1=k then some p.2 else cK r k:=by
 unfold cK;split<;>simp_all
theorem de {l:List (Nat×α)}{k:Nat}:cK l k=none↔k∉keys l:=by
 induction l with
 | nil=>simp[rP]
 | cons p r ih=>
  rw[dg];split<;>grind
def r_ {l:List (Nat×α)}{k:Nat}{v:α}(h:cK l k=some v):(k,v)∈l:=by
 induction l with
 | nil=>simp[rP]at h
 | cons p r ih=>
  rw[dg]at h;grind
def oA {l:List (Nat×α)}(hn:(keys l).Nodup){k:Nat}{v:α}(h:(k,v)∈l):cK l k=some v:=by
 induction l with
 | nil=>simp at h
 | cons p r ih=>
  rw[dg];simp_all;split<;>grind
def ox {l:List (Nat×α)}(hn:(keys l).Nodup){k:Nat}{v:α}:cK l k=some v↔(k,v)∈l:=⟨r_,oA hn⟩
theorem j_:∀{l:List (Nat×α)},(keys l).Nodup→l.Nodup
 | [],_=>lA
 | p::r,h=>by
  have h':=fO.mp h;exact fO.mpr ⟨fun m=>h'.1 (aZ.mpr ⟨p,m,rfl⟩),j_ h'.2⟩
theorem gC {l l':List (Nat×α)}(hn:(keys l).Nodup)(jx:(keys l').Nodup)(h:∀k,cK l k=cK l' k):l.Perm l':=by
 refine(List.perm_ext_iff_of_nodup (j_ hn) (j_ jx)).mpr fun p=>?_;obtain⟨k,v⟩:=p;rw[←ox hn,←ox jx,h]
def IF {l l':List (Nat×α)}(hn:(keys l).Nodup)(hp:l.Perm l')(k:Nat):cK l k=cK l' k:=by
 have jx:(keys l').Nodup:=(hp.map _).nodup_iff.mp hn;cases e:cK l' k with
 | none=>
  rw[de]at e ⊢;grind
 | some v=>exact(ox hn).mpr (hp.mem_iff.mpr ((ox jx).mp e))
theorem Q0 (l:List (Nat×α))(k:Nat):(l.any fun p=>decide (p.1=k))=(cK l k).isSome:=by
 induction l with
 | nil=>rfl
 | cons p r ih=>
  rw[tD,dg];split<;>simp_all
theorem Ke (l:List (Nat×α))(k j:Nat)(v:α):cK (l.map fun p=>if p.1=k then(p.1,v)else p) j=(cK l j).map fun x=>if j=k then v else x:=by
 induction l with
 | nil=>rfl
 | cons p r ih=>grind[dg]
def Am (l:List (Nat×α))(k j:Nat)(v:α)(h:cK l k=none):cK (l++[(k,v)]) j=if j=k then some v else cK l j:=by
 induction l with
 | nil=>(simp_all;grind[dg])
 | cons p r ih=>(simp_all;grind[dg])
def xG (l:List (Nat×α))(k j:Nat)(v:α):cK (dput l k v) j=if j=k then some v else cK l j:=by
 unfold dput;rw[Q0];cases e:cK l k with
 | none=>rw[ak (by simp)];exact Am l k j v e
 | some x=>
  rw[aw (show(some x).isSome=true from rfl),Ke];by_cases ej:j=k;simp_all;simp[ej]
def keys_map (l:List (Nat×α))(k:Nat)(v:α):keys (l.map fun p=>if p.1=k then(p.1,v)else p)=keys l:=by (simp_all;lia)
theorem MB (l:List (Nat×α))(k:Nat)(v:α):keys (dput l k v)=if(cK l k).isSome then keys l else keys l++[k]:=by
 unfold dput;rw[Q0];cases e:cK l k with
 | none=>simp
 | some x=>simp only[isSome_some,qF];exact keys_map l k v
def ug {l:List (Nat×α)}(hn:(keys l).Nodup)(k:Nat)(v:α):(keys (dput l k v)).Nodup:=by (simp[MB,cK];grind[MB,cK])
theorem t4 (l:List (Nat×α))(k j:Nat):cK (jO l k) j=if j=k then none else cK l j:=by
 induction l with
 | nil=>simp[jO,rP]
 | cons p r ih=>grind[jO,dg]
theorem yg {l:List (Nat×α)}(hn:(keys l).Nodup)(k:Nat):(keys (jO l k)).Nodup:=by
 unfold keys jO;grind
end
structure bL (b:Bag):Prop where
 up:b.Pairwise fun p q=>p.1<q.1
 pos:∀p∈b,p.2≠0
def bL.nil:bL []:=⟨Pairwise.nil,by decide⟩
def bL.nd {b:Bag}(h:bL b):(keys b).Nodup:=by
 unfold keys;rw[Nodup,hY];exact h.up.imp fun h=>cC h
def bL.tail {p:Nat×Nat}{b:Bag}(h:bL (p::b)):bL b:=⟨(dH.mp h.up).2,fun q hq=>h.pos q (cP _ hq)⟩
theorem ll (b:Bag)(k:Nat):bagOf b k=(cK b k).getD 0:=by rfl
theorem eN (p:Nat×Nat)(b:Bag)(k:Nat):bagOf (p::b) k=if p.1=k then p.2 else bagOf b k:=by grind[ll,dg]
theorem oT (k:Nat):bagOf [] k=0:=rfl
theorem eM {b:Bag}(h:bL b)(k:Nat):cK b k=if bagOf b k=0 then none else some (bagOf b k):=by
 rw[ll];cases e:cK b k with
 | none=>rfl
 | some v=>
  have:=h.pos _ (r_ e);simp_all
theorem wK {b:Bag}(h:bL b){k n:Nat}:(k,n)∈b↔n≠0∧bagOf b k=n:=by
 rw[←ox h.nd,eM h];simp_all
theorem Ie {b c:Bag}(hb:bL b)(hc:bL c)(h:∀k,bagOf b k=bagOf c k):b=c:=by
 have hp:b.Perm c:=gC hb.nd hc.nd fun k=>by rw[eM hb,eM hc,h]
 refine O5 (le:=fun p q=>p.1<q.1) ?_ hb.up hc.up hp;lia
def Dc (b:Bag)(k:Nat):bagAdd b k 0=b:=by
 cases b with
 | nil=>rfl
 | cons p r=>obtain⟨j,m⟩:=p;rfl
def mK {b:Bag}{k n:Nat}{p:Nat×Nat}(h:p∈bagAdd b k n):p.1=k∨p.1∈keys b:=by
 induction b with
 | nil=>
  unfold bagAdd at h;simp_all
 | cons q r ih=>grind[bagAdd]
theorem lg {b:Bag}(h:bL b)(k n:Nat):bL (bagAdd b k n):=by
 induction b with
 | nil=>
  unfold bagAdd;split;exact bL.nil;refine⟨by simp,?_⟩;simp_all
 | cons q r ih=>
  obtain⟨j,m⟩:=q;unfold bagAdd;have hu:=dH.mp h.up;split;exact h;rename_i hn;split
  ·rename_i hk;refine⟨dH.mpr ⟨fun p hp=>?_,h.up⟩,fun p hp=>?_⟩;grind;rcases bM.mp hp with e|hp;simp_all;exact h.pos p hp
  split
  ·rename_i hk;refine⟨dH.mpr ⟨fun p hp=>hu.1 p hp,hu.2⟩,fun p hp=>?_⟩;rcases bM.mp hp with e|hp;simp_all;exact h.pos p (cP _ hp)
  rename_i h1 h2;have:=ih h.tail;refine⟨dH.mpr ⟨fun p hp=>?_,this.up⟩,fun p hp=>?_⟩
  ·rcases mK hp with e|hm
   ·lia
   grind -order
  rcases bM.mp hp with e|hp;rw[e];exact h.pos _ cQ;exact this.pos p hp
theorem Ec {b:Bag}{k:Nat}(h:∀p∈b,k<p.1):bagOf b k=0:=by grind[ll,de]
theorem Ah {b:Bag}(h:bL b)(k n j:Nat):bagOf (bagAdd b k n) j=bagOf b j+if j=k then n else 0:=by
 induction b with
 | nil=>(simp[bagAdd,eN,oT];grind[bagAdd,eN,oT])
 | cons q r ih=>
  obtain⟨i,m⟩:=q;have hu:=dH.mp h.up;unfold bagAdd;split;simp_all;split;grind[eN,Ec];split;split<;>grind[eN];rename_i h1 h2;rw[eN,eN,ih h.tail];((repeat' split)<;>simp_all)
theorem jj {b:Bag}(h:bL b)(k:Nat):bL (bagDrop b k):=⟨h.up.sublist Dq,fun p hp=>h.pos p (eC.mp hp).1⟩
theorem Gx (b:Bag)(k:Nat):bagDrop b k=jO b k:=by
 unfold bagDrop jO;lia
theorem yH (b:Bag)(k j:Nat):bagOf (bagDrop b k) j=if j=k then 0 else bagOf b j:=by grind[Gx,ll,t4]
def kR {b:Bag}(h:bL b)(k n:Nat):bL (bagSub b k n):=by
 refine⟨Pairwise.sublist Dq ?_,fun p hp=>?_⟩
 ·rw[hY];refine h.up.imp fun{p q} hpq=>?_;((repeat' split)<;>omega)
 have:=(eC.mp hp).2;simpa using this
def A3 {b:Bag}(h:bL b)(k n j:Nat):bagOf (bagSub b k n) j=bagOf b j-if j=k then n else 0:=by
 unfold bagSub
 induction b with
 | nil=>simp[oT]
 | cons q r ih=>
  obtain⟨i,m⟩:=q;have hu:=dH.mp h.up;have hr:i≠j→True:=fun _=>trivial;rw[bF,jP,eN];have ih:=ih h.tail;by_cases e:i=k;subst_vars;grind -order[Ec,eN];have hm:=h.pos _ (cQ);simp only at hm;by_cases e2:i=j
  ·subst e2;simp[e,hm,eN]
  simp_all[eN]
theorem lC {l:List (Nat×Nat)}{b:Bag}(hb:bL b)(hp:l.Perm b):(keys l).Nodup:=(hp.map _).nodup_iff.mpr hb.nd
theorem fU {l:List (Nat×Nat)}{b:Bag}(hb:bL b)(hp:l.Perm b)(k:Nat):cK l k=if bagOf b k=0 then none else some (bagOf b k):=by
 rw[IF (lC hb hp) hp,eM hb]
def yz {l:List (Nat×Nat)}{b:Bag}(hb:bL b)(hp:l.Perm b)(k:Nat):(cK l k).getD 0=bagOf b k:=by
 rw[fU hb hp];split<;>simp_all
def xN {l:List (Nat×Nat)}{b:Bag}(hb:bL b)(hp:l.Perm b)(k n:Nat)(hn:n≠0):(dput l k (bagOf b k+n)).Perm (bagAdd b k n):=by
 refine gC (ug (lC hb hp) _ _) (lg hb k n).nd fun j=>?_;rw[xG,eM (lg hb k n),Ah hb,fU hb hp];split<;>simp_all
def z9 {l:List (Nat×Nat)}{b:Bag}(hb:bL b)(hp:l.Perm b)(k:Nat):(jO l k).Perm (bagDrop b k):=by grind[gC,yg,lC,jj,t4,eM,yH,fU]
def KP {l:List (Nat×Nat)}{b:Bag}(hb:bL b)(hp:l.Perm b)(k n:Nat)(hn:n<bagOf b k):(dput l k (bagOf b k-n)).Perm (bagSub b k n):=by
 refine gC (ug (lC hb hp) _ _) (kR hb k n).nd fun j=>?_;rw[xG,eM (kR hb k n),A3 hb,fU hb hp];split<;>grind
def Bl {l:List (Nat×Nat)}{b:Bag}(hb:bL b)(hp:l.Perm b)(k n:Nat)(hn:bagOf b k=n):(jO l k).Perm (bagSub b k n):=by
 refine gC (yg (lC hb hp) _) (kR hb k n).nd fun j=>?_;rw[t4,eM (kR hb k n),A3 hb,fU hb hp];split<;>simp_all
def x9:∀{l m:List Nat},l.Perm m→total l=total m:=by
 intro l m h;unfold total
 induction h with
 | nil=>rfl
 | cons x _ ih=>simp only[List.foldr_cons,ih]
 | swap x y l=>simp only[List.foldr_cons];lia
 | trans _ _ h1 h2=>exact h1.trans h2
def qO {l:List (Nat×Nat)}{b:Bag}(hb:bL b)(hp:l.Perm b)(hs:l.Pairwise fun p q=>p.1<q.1∨(p.1=q.1∧p.2≤q.2)):l=b:=by
 have hn:(keys l).Nodup:=lC hb hp;have hs':l.Pairwise fun p q=>p.1<q.1:=by
  unfold keys at hn;rw[Nodup,hY]at hn;have:=hs.and hn;clear hs;clear hn;grind
 refine O5 (le:=fun p q=>p.1<q.1) ?_ hs' hb.up hp;lia
theorem eZ:total []=0:=rfl
theorem bJ (a:Nat)(l:List Nat):total (a::l)=a+total l:=rfl
theorem iL (l m:List Nat):total (l++m)=total l+total m:=by
 induction l with
 | nil=>simp[eZ]
 | cons a l ih=>rw[LU,bJ,bJ,ih];lia
def nF (l:List Nat):Nat:=l.foldr max 0
theorem AV (a:Nat)(l:List Nat):nF (a::l)=max a (nF l):=rfl
def B3 {l:List Nat}{x:Nat}(h:x∈l):x≤nF l:=by
 induction l with
 | nil=>simp at h
 | cons a l ih=>
  rw[AV];simp_all;grind
def N6 {l:List Nat}{n:Nat}(h:∀x∈l,x≤n):nF l≤n:=by
 induction l with
 | nil=>exact fJ _
 | cons a l ih=>(simp[AV,mem_cons_self];grind -order[AV,mem_cons_self])
def Kg {l:List Nat}(h:l≠[]):nF l∈l:=by
 induction l with
 | nil=>exact absurd rfl h
 | cons a l ih=>(simp[nF];grind[nF])
def iX (A:List Article):Nat→Nat→Bool
 | 0,_=>false
 | f+1,a=>(partsOf A a).all fun p=>iX A f p.1
def ie (A:List Article):Nat→Nat→Nat
 | 0,_=>0
 | f+1,a=>1+total ((partsOf A a).map fun p=>ie A f p.1)
def qM (A:List Article):Nat→Nat→Nat
 | 0,_=>0
 | f+1,a=>if partsOf A a=[]then 0 else 1+nF ((partsOf A a).map fun p=>qM A f p.1)
noncomputable def jz (A:List Article):Nat→Nat→Nat→Nat
 | 0,_,_=>0
 | f+1,a,j=>if partsOf A a=[]then(if j=a then 1 else 0)else total ((partsOf A a).map fun p=>p.2*jz A f p.1 j)
theorem Jt {A:List Article}{f:Nat}(ih:∀a b,walk A f a b=if(iX A f a&&decide (ie A f a≤b))=true then some (b-ie A f a)else none):
  ∀(ps:List (Nat×Nat)) (c:Nat),ps.foldl (fun r p=>r.bind fun left=>walk A f p.1 left) (some c)=
   if((ps.all fun p=>iX A f p.1)&&decide (total (ps.map fun p=>ie A f p.1)≤c))=true then some (c-total (ps.map fun p=>ie A f p.1))else none:=by
 have nn:∀ps:List (Nat×Nat),ps.foldl (fun r p=>r.bind fun left=>walk A f p.1 left) none=none:=by
  intro ps
  induction ps with
  | nil=>rfl
  | cons p ps ih=>rw[gZ];exact ih
 intro ps
 induction ps with
 | nil=>intro c;rfl
 | cons p ps ih2=>(simp[bJ];grind[bJ])
theorem BK (A:List Article):∀(f a b:Nat),walk A f a b=if(iX A f a&&decide (ie A f a≤b))=true then some (b-ie A f a)else none
 | 0,a,b=>by rfl
 | f+1,a,b=>by
  unfold walk;by_cases hb:b=0;simp_all[ie];rw[ak hb,Jt (BK A f)];show _=if((partsOf A a).all (fun p=>iX A f p.1)&&decide (1+total ((partsOf A a).map fun p=>ie A f p.1)≤b))=true then some (b-(1+total ((partsOf A a).map fun p=>ie A f p.1)))else none;grind
theorem ID {A:List Article}{f:Nat}(ih:∀a n b,bL b→bL (need A f a n b)∧∀j,bagOf (need A f a n b) j=bagOf b j+n*jz A f a j)(n:Nat):
  ∀(ps:List (Nat×Nat)) (b:Bag),bL b→bL (ps.foldl (fun r q=>need A f q.1 (n*q.2) r) b)∧∀j,bagOf (ps.foldl (fun r q=>need A f q.1 (n*q.2) r) b) j=bagOf b j+n*total (ps.map fun p=>p.2*jz A f p.1 j):=by
 intro ps
 induction ps with
 | nil=>intro b hb;exact⟨hb,fun j=>by rfl⟩
 | cons p ps ih2=>(simp_all;(simp[bJ];grind[bJ]))
theorem yB (A:List Article):∀(f a n:Nat) (b:Bag),bL b→bL (need A f a n b)∧∀j,bagOf (need A f a n b) j=bagOf b j+n*jz A f a j
 | 0,a,n,b,hb=>⟨hb,fun j=>by simp[need,jz]⟩
 | f+1,a,n,b,hb=>by
  unfold need;cases e:partsOf A a with
  | nil=>(simp[lg,Ah,jz];(simp_all;grind[lg,Ah,jz]))
  | cons p ps=>
   obtain⟨h1,h2⟩:=ID (yB A f) n (p::ps) b hb;refine⟨h1,fun j=>?_⟩;show bagOf (List.foldl (fun r q=>need A f q.1 (n*q.2) r) b (p::ps)) j=_;rw[h2]
   conv=>rhs;unfold jz
   simp_all
theorem xT (A:List Article):∀(f g a:Nat),f≤g→iX A f a=true→iX A g a=true
 | 0,_,_,_,h=>by simp[iX]at h
 | f+1,0,_,h,_=>by lia
 | f+1,g+1,a,h,ha=>by
  unfold iX at ha ⊢;rw[dr]at ha ⊢;exact fun p hp=>xT A f g p.1 (by lia) (ha p hp)
def bX {α β:Type}{l:List α}{f g:α→β}(h:∀x∈l,f x=g x):l.map f=l.map g:=cE h
theorem x8 (A:List Article):∀(f g a:Nat),f≤g→iX A f a=true→ie A g a=ie A f a
 | 0,_,_,_,h=>by simp[iX]at h
 | f+1,0,_,h,_=>by trivial
 | f+1,g+1,a,h,ha=>by
  unfold iX at ha;rw[dr]at ha;unfold ie;rw[bX fun p hp=>x8 A f g p.1 (by lia) (ha p hp)]
theorem DY (A:List Article):∀(f g a:Nat),f≤g→iX A f a=true→qM A g a=qM A f a
 | 0,_,_,_,h=>by simp[iX]at h
 | f+1,0,_,h,_=>by omega
 | f+1,g+1,a,h,ha=>by
  unfold iX at ha;rw[dr]at ha;unfold qM;rw[bX fun p hp=>DY A f g p.1 (by omega) (ha p hp)]
theorem rC (A:List Article)(j:Nat):∀(f g a:Nat),f≤g→iX A f a=true→jz A g a j=jz A f a j
 | 0,_,_,_,h=>by simp[iX]at h
 | f+1,0,_,h,_=>by omega
 | f+1,g+1,a,h,ha=>by
  unfold iX at ha;rw[dr]at ha;unfold jz;rw[bX fun p hp=>by rw[rC A j f g p.1 (by omega) (ha p hp)]]
theorem mI (A:List Article)(x:Nat):∀(f g a:Nat),f≤g→iX A f a=true→contains A g a x=contains A f a x
 | 0,_,_,_,h=>by simp[iX]at h
 | f+1,0,_,h,_=>by omega
 | f+1,g+1,a,h,ha=>by
  unfold iX at ha;rw[dr]at ha;unfold contains;have:((partsOf A a).any fun p=>contains A g p.1 x)=((partsOf A a).any fun p=>contains A f p.1 x):=by
   rw[l5,xE,xE];constructor;rintro⟨p,hp,h2⟩;exact⟨p,hp,by rw[←mI A x f g p.1 (by omega) (ha p hp)];exact h2⟩;rintro⟨p,hp,h2⟩;exact⟨p,hp,by rw[mI A x f g p.1 (by omega) (ha p hp)];exact h2⟩
  rw[this]
def Wf (A:List Article):Prop:=∀a,iX A 19 a=true
def dep (A:List Article)(a:Nat):Nat:=qM A 20 a
def CB (A:List Article)(a:Nat):Nat:=ie A 20 a
def cnt (A:List Article)(a j:Nat):Nat:=jz A 20 a j
def cont (A:List Article)(a x:Nat):Bool:=contains A 20 a x
section
variable{A:List Article}(W:Wf A)
include W
theorem t6 (a:Nat):dep A a=if partsOf A a=[]then 0 else 1+nF ((partsOf A a).map fun p=>dep A p.1):=by
 show qM A 20 a=_;unfold qM;have:((partsOf A a).map fun p=>qM A 19 p.1)=(partsOf A a).map fun p=>dep A p.1:=bX fun p _=>(DY A 19 20 p.1 (by exact Nat.le_succ _) (W p.1)).symm;rw[this]
theorem FZ (a:Nat):CB A a=1+total ((partsOf A a).map fun p=>CB A p.1):=by
 show ie A 20 a=_;unfold ie;have:((partsOf A a).map fun p=>ie A 19 p.1)=(partsOf A a).map fun p=>CB A p.1:=bX fun p _=>(x8 A 19 20 p.1 (by omega) (W p.1)).symm;rw[this]
theorem qZ (a j:Nat):cnt A a j=if partsOf A a=[]then(if j=a then 1 else 0)else total ((partsOf A a).map fun p=>p.2*cnt A p.1 j):=by
 show jz A 20 a j=_;unfold jz;have:((partsOf A a).map fun p=>p.2*jz A 19 p.1 j)=(partsOf A a).map fun p=>p.2*cnt A p.1 j:=bX fun p _=>by rw[show cnt A p.1 j=jz A 20 p.1 j from rfl,rC A j 19 20 p.1 (by omega) (W p.1)]
 rw[this]
theorem tF (a x:Nat):cont A a x=(a==x||(partsOf A a).any fun p=>cont A p.1 x):=by
 have e:((partsOf A a).any fun p=>contains A 19 p.1 x)=(partsOf A a).any fun p=>cont A p.1 x:=by
  rw[l5,xE,xE];constructor
  ·rintro⟨p,hp,h2⟩;exact⟨p,hp,(mI A x 19 20 p.1 (by omega) (W p.1)).trans h2⟩
  rintro⟨p,hp,h2⟩;exact⟨p,hp,(mI A x 19 20 p.1 (by omega) (W p.1)).symm.trans h2⟩
 rw[←e];rfl
theorem rU {a:Nat}{p:Nat×Nat}(hp:p∈partsOf A a):dep A p.1<dep A a:=by
 rw[t6 W a,ak (fun e=>by rw[e]at hp;simp at hp)];have:=B3 (aZ.mpr ⟨p,hp,rfl⟩:dep A p.1∈(partsOf A a).map fun p=>dep A p.1);lia
theorem xl:∀(n a:Nat),iX A (n+1) a=decide (dep A a≤n)
 | 0,a=>by
  unfold iX;rw[t6 W];by_cases e:partsOf A a=[];simp[e];rw[ak e];cases h:partsOf A a with
  | nil=>exact absurd h e
  | cons p ps=>simp[iX]
 | n+1,a=>by
  unfold iX;rw[t6 W];by_cases e:partsOf A a=[];simp[e];rw[ak e,l5,dr,iw];constructor
  ·intro h;have:nF ((partsOf A a).map fun p=>dep A p.1)≤n:=N6 fun x hx=>by
    obtain⟨p,hp,e⟩:=aZ.mp hx;have:=h p hp;rw[xl n p.1,iw]at this;rw[←e];exact this
   lia
  intro h p hp;rw[xl n p.1,iw];have:=B3 (aZ.mpr ⟨p,hp,rfl⟩:dep A p.1∈(partsOf A a).map fun p=>dep A p.1);lia
theorem An (a:Nat):((walk A (DEEP+1) a WIDE).isSome&&(needs A a 1).all fun p=>decide (p.2≤MOSTNEED))=true↔(dep A a≤8∧CB A a≤256)∧∀j,cnt A a j≤1000000:=by
 have hw:(walk A (DEEP+1) a WIDE).isSome=true↔dep A a≤8∧CB A a≤256:=by
  rw[BK];show(if(iX A 9 a&&decide (ie A 9 a≤256))=true then some (256-ie A 9 a)else none).isSome=true↔_;rw[xl W 8];by_cases h1:dep A a≤8;simp[xl,CB,x8];grind[xl,CB,x8];simp[h1]
 rw[cy,hw];refine and_congr_right fun⟨h1,_⟩=>?_;have h9:iX A 9 a=true:=by rw[xl W 8];simpa using h1
 obtain⟨hb,hc⟩:=yB A 9 a 1 [] bL.nil;have Va:∀j,bagOf (needs A a 1) j=cnt A a j:=fun j=>by
  have:=hc j;rw[oT,Nat.zero_add,Nat.one_mul,←rC A j 9 20 a (by decide) h9]at this;exact this
 have hb:bL (needs A a 1):=hb;rw[dr];constructor
 ·intro h j;by_cases e:cnt A a j=0;lia;have:=h (j,cnt A a j) ((wK hb).mpr ⟨e,Va j⟩);exact bW this
 intro h p hp;obtain⟨k,n⟩:=p;have:=((wK hb).mp hp).2;rw[Va k]at this;have h2:=h k;refine iy (show n≤1000000 from ?_);subst_vars;omega
theorem oG:sound A=true↔∀x∈A,(dep A x.id≤8∧CB A x.id≤256)∧∀j,cnt A x.id j≤1000000:=by
 unfold sound;rw[dr];exact⟨fun h x hx=>(An W x.id).mp (h x hx),fun h x hx=>(An W x.id).mpr (h x hx)⟩
end
theorem iO {A:List Article}{a:Nat}(h:∀x∈A,x.id≠a):partsOf A a=[]:=by grind[partsOf,List.find?_eq_none]
def cN {A:List Article}(h:sound A=true):∀a,iX A 9 a=true:=by
 intro a;by_cases e:∃x∈A,x.id=a
 ·obtain⟨x,hx,rfl⟩:=e;unfold sound at h;rw[dr]at h;have:=h x hx;rw[cy,BK]at this;have h1:=this.1;split at h1
  ·rename_i h2;rw[cy]at h2;exact h2.1
  simp at h1
 (simp_all;grind[iX,iO])
def Wf.HY {A:List Article}(h:∀a,iX A 9 a=true):Wf A:=fun a=>xT A 9 19 a (by decide) (h a)
def Wf.kQ {A:List Article}(h:sound A=true):Wf A:= .HY (cN h)
def hJ {A:List Article}(h:∀a,iX A 9 a=true)(a n:Nat):bL (needs A a n)∧∀j,bagOf (needs A a n) j=n*cnt A a j:=by
 obtain⟨hb,hc⟩:=yB A 9 a n [] bL.nil;refine⟨hb,fun j=>?_⟩;have:=hc j;rw[oT,Nat.zero_add,←rC A j 9 20 a (by decide) (h a)]at this;exact this
def pK {A:List Article}(h:∀a,iX A 9 a=true)(a x:Nat):contains A (DEEP+1) a x=cont A a x:=(mI A x 9 20 a (by decide) (h a)).symm
def iq {A:List Article}{a:Nat}{ps:List (Nat×Nat)}(ha:∃x∈A,x.id=a)(x:Nat):partsOf (setParts A a ps) x=if x=a then ps else partsOf A x:=by
 unfold partsOf setParts
 induction A with
 | nil=>obtain⟨x,hx,_⟩:=ha;simp at hx
 | cons y r ih=>
  rw[bF,uZ,uZ];by_cases hy:y.id=a
  ·by_cases hx:x=a
   ·simp[hy,hx]
   have h1:¬a=x:=fun z=>hx z.symm;have h2:¬y.id=x:=fun z=>hx (z.symm.trans hy);simp only[hy,beq_self_eq_true,qF,hx,jW];have h3:(a==x)=false:=by simpa using h1
   simp only[h3];by_cases hr:∃z∈r,z.id=a;simp_all;simp_all[jm,cE]
  grind
section
variable{A:List Article}{a:Nat}{ps:List (Nat×Nat)}(h9:∀x,iX A 9 x=true)(ha:∃x∈A,x.id=a)(hr:∀p∈ps,cont A p.1 a=false)
include h9 ha hr
theorem jq:∀(f x:Nat),cont A x a=false→iX A f x=iX (setParts A a ps) f x∧ie A f x=ie (setParts A a ps) f x∧qM A f x=qM (setParts A a ps) f x∧∀j,jz A f x j=jz (setParts A a ps) f x j
 | 0,x,_=>⟨rfl,rfl,rfl,fun _=>rfl⟩
 | f+1,x,h=>by
  have h':=h;rw[tF (.HY h9),Bool.or_eq_false_iff]at h';have hx:¬x=a:=by simpa using h'.1
  have e:partsOf (setParts A a ps) x=partsOf A x:=by rw[iq ha,ak hx]
  have hp:∀p∈partsOf A x,cont A p.1 a=false:=fun p hp=>by (simp_all;grind)
  refine⟨?_,?_,?_,fun j=>?_⟩
  ·unfold iX;rw[e,l5,dr,dr];exact⟨fun q p He=>by rw[←(jq f p.1 (hp p He)).1];exact q p He,fun q p He=>by rw[(jq f p.1 (hp p He)).1];exact q p He⟩
  ·unfold ie;rw[e,bX fun p He=>(jq f p.1 (hp p He)).2.1]
  ·unfold qM;rw[e,bX fun p He=>(jq f p.1 (hp p He)).2.2.1]
  unfold jz;rw[e,bX fun p He=>by rw[(jq f p.1 (hp p He)).2.2.2 j]]
theorem T9:iX (setParts A a ps) 10 a=true:=by
 unfold iX;rw[iq ha,aw rfl,dr];intro p hp;rw[←(jq h9 ha hr 9 p.1 (hr p hp)).1];exact h9 p.1
theorem EF:∀(f x:Nat),iX A f x=true→iX (setParts A a ps) (f+10) x=true
 | 0,x,h=>by simp[iX]at h
 | f+1,x,h=>by
  by_cases hx:x=a;rw[hx];exact xT _ 10 _ a (by lia) (T9 h9 ha hr);show iX (setParts A a ps) ((f+10)+1) x=true;unfold iX at h ⊢;rw[iq ha,ak hx,dr];rw[dr]at h;exact fun p hp=>EF f p.1 (h p hp)
theorem Ma:Wf (setParts A a ps):=fun x=>EF h9 ha hr 9 x (h9 x)
theorem ML (x:Nat)(h:cont A x a=false):CB A x=CB (setParts A a ps) x∧dep A x=dep (setParts A a ps) x∧∀j,cnt A x j=cnt (setParts A a ps) x j:=(jq h9 ha hr 20 x h).2
end
def g_ (A:List Article)(R:List Nat)(o:Nat):List Nat:=if((partsOf A o).any fun p=>decide (p.1∈R))=true then(if o∈R then R else R++[o])else R
structure Above (A:List Article)(a:Nat)(ids R:List Nat):Prop where
 nd:R.Nodup
 mem:∀x,x∈R↔(x=a∨(x∈ids∧cont A x a=true))
 first:∃r,R=a::r
 order:∀R1 o R2,R=R1++o::R2→o≠a→∀p∈partsOf A o,p.1∈R→p.1∈R1
theorem G_ {A:List Article}(W:Wf A){a:Nat}{ids:List Nat}(iA:∀x∈ids,∀p∈partsOf A x,p.1∈ids)(os:List Nat)(hp:os.Perm ids)(hs:os.Pairwise fun x y=>dep A x≤dep A y):
  ∀(pre post R:List Nat),os=pre++post→R.Nodup→(∃r,R=a::r)→(∀x∈R,x=a∨(x∈pre∧cont A x a=true))→(∀x∈pre,cont A x a=true→x∈R)→
   (∀R1 o R2,R=R1++o::R2→o≠a→∀p∈partsOf A o,p.1∈pre∧(p.1∈R→p.1∈R1))→Above A a ids (post.foldl (g_ A) R):=by
 intro pre post
 induction post generalizing pre with
 | nil=>
  intro R e nd hf h1 h2 h3;rw[mr]at e;subst e;refine⟨nd,fun x=>⟨fun h=>(h1 x h).imp id fun⟨q,c⟩=>⟨hp.mem_iff.mp q,c⟩,fun h=>?_⟩,hf,fun R1 o R2 e ho p EI hm=>(h3 R1 o R2 e ho p EI).2 hm⟩;simp;grind
 | cons o post ih=>
  intro R e nd hf h1 h2 h3;rw[gZ];have e':os=(pre++[o])++post:=by rw[e,AS];rfl
  have haR:a∈R:=by obtain⟨r,e2⟩:=hf;rw[e2];exact cQ
  have Mw:∀p∈partsOf A o,p.1∈pre:=by
   intro p EI;have ho:o∈os:=by rw[e];simp
   have U9:p.1∈os:=hp.mem_iff.mpr (iA o (hp.mem_iff.mp ho) p EI);have lu:=rU W EI;grind
  have KN:((partsOf A o).any fun p=>decide (p.1∈R))=((partsOf A o).any fun p=>cont A p.1 a):=by grind[tF]
  have Pg:∀{x},x∈pre→x∈pre++[o]:=fun h=>h_ _ h;unfold g_;rw[KN];cases hc:(partsOf A o).any fun p=>cont A p.1 a with
  | false=>
   rw[ak (by simp)];refine ih (pre++[o]) R e' nd hf (fun x hx=>(h1 x hx).imp id fun⟨q,c⟩=>⟨Pg q,c⟩) (fun x hx c=>?_) (fun R1 o' R2 e2 ho p EI=>?_);clear e' e;grind[tF];grind
  | true=>
   rw[aw rfl];have RU:cont A o a=true:=by rw[tF W,hc,Bool.or_true]
   by_cases OY:o∈R
   ·rw[aw OY];refine ih (pre++[o]) R e' nd hf (fun x hx=>(h1 x hx).imp id fun⟨q,c⟩=>⟨Pg q,c⟩) (fun x hx c=>?_) (fun R1 o' R2 e2 ho p EI=>?_);clear e';grind;grind
   rw[ak OY];refine ih (pre++[o]) (R++[o]) e' ?_ ?_ (fun x hx=>?_) (fun x hx c=>?_) (fun R1 o' R2 e2 ho p EI=>?_);grind;grind;clear e' hf;grind;grind
   ·
    rcases List.eq_nil_or_concat R2 with VG|⟨R2',z,VG⟩;grind[List.append_inj'];rw[List.concat_eq_append]at VG;subst VG;have e3:R++[o]=(R1++o'::R2')++[z]:=by rw[e2];simp
    have h5:=List.append_inj' e3 rfl;simp;grind
def K6 {A:List Article}(W:Wf A){a:Nat}{ids:List Nat}(iA:∀x∈ids,∀p∈partsOf A x,p.1∈ids)(os:List Nat)(hp:os.Perm ids)(hs:os.Pairwise fun x y=>dep A x≤dep A y):
  Above A a ids (os.foldl (g_ A) [a]):=by
 refine G_ W iA os hp hs [] os [a] rfl (by simp) ⟨[],rfl⟩ (fun x hx=> .inl (by simpa using hx)) (fun x hx=>by simp at hx) (fun R1 o R2 e ho=>?_);have h5:o∈[a]:=by rw[e];simp
 exact absurd (by simpa using h5) ho
section
variable{A:List Article}{a:Nat}{ps:List (Nat×Nat)}{ids R:List Nat}(h9:∀x,iX A 9 x=true)(ha:∃x∈A,x.id=a)(hr:∀p∈ps,cont A p.1 a=false)
theorem Eo (B:Above A a ids R)(ha:∃x∈A,x.id=a)(hr:∀p∈ps,cont A p.1 a=false)(iA:∀x∈ids,∀p∈partsOf A x,p.1∈ids){R1 R2:List Nat}{o:Nat}(e:R=R1++o::R2):
  ∀p∈partsOf (setParts A a ps) o,p.1∈R1∨cont A p.1 a=false:=by
 intro p hp;rw[iq ha]at hp;by_cases ho:o=a;grind;rw[ak ho]at hp;by_cases hm:p.1∈R;exact .inl (B.order R1 o R2 e ho p hp hm);refine .inr ?_;have OY:o∈R:=by rw[e];simp
 rcases(B.mem o).mp OY with q|⟨q,_⟩;trivial;cases c:cont A p.1 a with
 | false=>rfl
 | true=>exact absurd ((B.mem p.1).mpr (.inr ⟨iA o q p hp,c⟩)) hm
theorem Ju (B:Above A a ids R){x:Nat}(hx:x∈ids)(h:x∉R):cont A x a=false:=by
 cases c:cont A x a with
 | false=>rfl
 | true=>exact absurd ((B.mem x).mpr (.inr ⟨hx,c⟩)) h
end
theorem js {l:List Nat}(h:∀x∈l,x=0):total l=0:=by
 induction l with
 | nil=>rfl
 | cons a l ih=>(simp[bJ,mem_cons_self];grind[bJ,mem_cons_self])
def Mb {l:List Nat}{x:Nat}(h:x∈l):x≤total l:=by
 induction l with
 | nil=>simp at h
 | cons a l ih=>
  rw[bJ];grind
theorem CW {A:List Article}(W:Wf A)(N4:∀x,∀p∈partsOf A x,p.2≠0):∀(n a:Nat),dep A a≤n→∃j,cnt A a j≠0
 | n,a,hn=>by
  by_cases e:partsOf A a=[];simp_all[qZ];obtain⟨p,hp⟩:=List.exists_mem_of_ne_nil _ e;have h1:=rU W hp
  match n with
  | 0=>lia
  | n+1=>
   obtain⟨j,hj⟩:=CW W N4 n p.1 (by lia);refine⟨j,?_⟩;rw[qZ W,ak e];have h2:=Mb (aZ.mpr ⟨p,hp,rfl⟩:p.2*cnt A p.1 j∈(partsOf A a).map fun p=>p.2*cnt A p.1 j);have h3:p.2*cnt A p.1 j≠0:=LZ (N4 a p hp) hj;lia
theorem pA {α:Type}{key:α→Int}:∀{l m:List α},l.Pairwise (fun x y=>key x≤key y)→m.Pairwise (fun x y=>key x≤key y)→
  (∀c,l.filter (fun x=>key x==c)=m.filter (fun x=>key x==c))→l=m
 | [],[],_,_,_=>rfl
 | [],y::m,_,_,h=>by
  have:=h (key y);simp_all
 | x::l,[],_,_,h=>by
  have:=h (key x);simp_all
 | x::l,y::m,hl,hm,h=>by
  have fi:=dH.mp hl;have QL:=dH.mp hm;have k1:key x=key y:=by
   by_cases e:key x≤key y
   ·by_cases e2:key y≤key x
    ·lia
    ·
     have:=h (key x);rw[jP,aw (by simp)]at this;have h2:(y::m).filter (fun z=>key z==key x)=[]:=MS.mpr fun z hz=>by (simp;grind)
     rw[h2]at this;simp at this
   have:=h (key y);rw[jP (x:=y),aw (by simp)]at this;have h2:(x::l).filter (fun z=>key z==key y)=[]:=MS.mpr fun z hz=>by (simp;grind)
   simp_all
  have h0:=h (key x);rw[jP,aw (by simp),jP,aw (by simp[k1])]at h0;have hxy:x=y:=(List.cons.inj h0).1;subst hxy
  congr 1
  refine pA fi.2 QL.2 fun c=>?_;have:=h c;grind
theorem rg (x:Lot):∀l:List Lot,(putIn x l).Perm (x::l)
 | []=>Ia _
 | y::r=>by
  unfold putIn;split;rfl;exact((rg x r).cons y).trans (List.Perm.swap x y r)
def j3 (x:Lot)(l:List Lot):byExpiry (x::l)=putIn x (byExpiry l):=rfl
theorem cW:∀l:List Lot,(byExpiry l).Perm l
 | []=>Ia _
 | x::l=>by
  rw[j3];exact(rg x _).trans ((cW l).cons x)
theorem DD (x:Lot):∀{l:List Lot},l.Pairwise (fun a b=>a.expiry≤b.expiry)→(putIn x l).Pairwise fun a b=>a.expiry≤b.expiry
 | [],_=>by simp[putIn]
 | y::r,h=>by
  unfold putIn;have h':=dH.mp h;split;grind -order[pairwise_cons];refine dH.mpr ⟨fun z hz=>?_,DD x h'.2⟩;rcases bM.mp ((rg x r).mem_iff.mp hz)with e|q;rw[e];lia;exact h'.1 z q
theorem jE:∀l:List Lot,(byExpiry l).Pairwise fun a b=>a.expiry≤b.expiry
 | []=>Pairwise.nil
 | x::l=>by rw[j3];exact DD x (jE l)
theorem sA (x:Lot)(c:Nat):∀{l:List Lot},l.Pairwise (fun a b=>a.expiry≤b.expiry)→(putIn x l).filter (fun a=>a.expiry==c)=(x::l).filter fun a=>a.expiry==c
 | [],_=>rfl
 | y::r,h=>by
  unfold putIn;have h':=dH.mp h;split;rfl;rename_i hx;rw[jP,sA x c h'.2,jP,jP,jP];((repeat' split)<;>simp_all)
theorem mz (c:Nat):∀l:List Lot,(byExpiry l).filter (fun a=>a.expiry==c)=l.filter fun a=>a.expiry==c
 | []=>rfl
 | x::l=>by
  rw[j3,sA x c (jE l),jP,mz c l,jP]
def iZ (l f:Nat)(r:List (Nat×Nat))(n:Nat):fefo ((l,f)::r) n=(if min f n=0 then []else [(l,min f n)])++fefo r (n-min f n):=by
 have z:∀r:List (Nat×Nat),fefo r 0=[]:=fun r=>by cases r with
  | nil=>rfl
  | cons p r=>obtain⟨a,b⟩:=p;rfl
 conv=>lhs;unfold fefo
 by_cases h0:n=0;subst h0;simp[z];rw[ak h0];by_cases hf:f=0;subst hf;rfl;rw[ak hf];by_cases hle:n≤f;simp_all;simp_all;grind
theorem vL:∀(l m:List (Nat×Nat)) (n:Nat),fefo (l++m) n=fefo l n++fefo m (n-total (l.map (·.2)))
 | [],m,n=>by rfl
 | (a,f)::l,m,n=>by
  rw[LU,iZ,iZ,vL l m,AS,bF,bJ];grind
theorem sH:∀{l:List (Nat×Nat)} {n:Nat} {p:Nat×Nat},p∈fefo l n→∃f,(p.1,f)∈l∧p.2≤f∧p.2≠0
 | [],n,p,h=>by simp[fefo]at h
 | (a,f)::l,n,p,h=>by
  rw[iZ]at h;rcases fK.mp h with h|h;simp_all<;>omega;obtain⟨f',h1,h2⟩:=sH h;grind -order
theorem lE (s:St)(i:Nat)(f:Lot→Lot):(onLot s i f).lots=s.lots.map fun l=>if l.id==i then f l else l:=rfl
def dA (s:St)(p:Nat×Nat):St:=onLot s p.1 fun l=>{l with free:=l.free-p.2}
def mE (k:Nat)(s:St)(p:Nat×Nat):St:=onLot s p.1 fun l=>{l with uses:=bagAdd l.uses k p.2}
def j7 (k:Nat)(s:St)(p:Nat×Nat):St:=onLot s p.1 fun l=>{l with held:=bagAdd l.held k p.2}
def wW (s:St)(i j:Nat)(f g:Lot→Lot)(hf:∀l,(f l).id=l.id)(hg:∀l,(g l).id=l.id)(h:∀l,f (g l)=g (f l)):onLot (onLot s i f) j g=onLot (onLot s j g) i f:=by
 unfold onLot
 congr 1
 rw[aV,aV];refine cE fun l _=>?_;grind
def vj (s:St)(i:Nat)(f g:Lot→Lot)(hf:∀l,(f l).id=l.id):onLot (onLot s i f) i g=onLot s i fun l=>g (f l):=by
 unfold onLot
 congr 1
 rw[aV];refine cE fun l _=>?_;split<;>simp_all
theorem q_ {α:Type}{f g h:St→α→St}(hh:∀s x,h s x=g (f s x) x)(hc:∀s x y,g (f s y) x=f (g s x) y):∀(ps:List α) (s:St),ps.foldl h s=ps.foldl g (ps.foldl f s)
 | [],_=>rfl
 | p::ps,s=>by
  rw[gZ,gZ,gZ,q_ hh hc ps,hh]
  congr 1
  have:∀(qs:List α) (s:St),qs.foldl f (g s p)=g (qs.foldl f s) p:=by
   intro qs
   induction qs with
   | nil=>intro s;rfl
   | cons q qs ih=>intro s;rw[gZ,gZ,←hc,ih]
  grind
def qP (s:St)(k:Nat)(ps:List (Nat×Nat)):used s k ps=ps.foldl (mE k) (ps.foldl dA s):=by
 unfold used;refine q_ (fun s x=>?_) (fun s x y=>?_) ps s;exact(vj s x.1 (fun l=>{l with free:=l.free-x.2}) (fun l=>{l with uses:=bagAdd l.uses k x.2}) fun _=>rfl).symm;exact wW _ _ _ _ _ (fun _=>rfl) (fun _=>rfl) fun _=>rfl
theorem qL (s:St)(k:Nat)(ps:List (Nat×Nat)):kept s k ps=ps.foldl (j7 k) (ps.foldl dA s):=by
 unfold kept;refine q_ (fun s x=>?_) (fun s x y=>?_) ps s;exact(vj s x.1 (fun l=>{l with free:=l.free-x.2}) (fun l=>{l with held:=bagAdd l.held k x.2}) fun _=>rfl).symm;exact wW _ _ _ _ _ (fun _=>rfl) (fun _=>rfl) fun _=>rfl
theorem nS {α:Type}{p:α→Bool}{f:α→α}:∀{l:List α},(∀x∈l,p (f x)=p x)→(∀x∈l,p x=true→f x=x)→(l.map f).filter p=l.filter p
 | [],_,_=>rfl
 | x::l,h1,h2=>by
  have ih:=nS (l:=l) (fun y hy=>h1 y (cP _ hy)) fun y hy=>h2 y (cP _ hy);grind
def JH {s:St}{a i:Nat}{f:Lot→Lot}(h:∀l∈s.lots,l.id=i→l.article≠a∧(f l).article=l.article):shelf (onLot s i f) a=shelf s a:=by
 show byExpiry ((s.lots.map fun l=>if(l.id==i)=true then f l else l).filter fun l=>l.article==a&&good s.today l)=byExpiry (s.lots.filter fun l=>l.article==a&&good s.today l);rw[nS (p:=fun l=>l.article==a&&good s.today l)];grind;intros;split<;>simp_all
def DH (s:St)(a:Nat):total ((shelf s a).map fun l=>l.free)=avail s a:=x9 ((cW _).map _)
theorem k9 {s:St}{a:Nat}{l:Lot}(h:l∈shelf s a):l∈s.lots∧l.article=a∧good s.today l=true:=by
 have:=(cW _).mem_iff.mp h;simp_all
theorem uO (s:St)(p:Nat×Nat):(dA s p).lots=s.lots.map fun l=>if l.id==p.1 then{l with free:=l.free-p.2}else l:=rfl
theorem xI {a:Nat}:∀(ps:List (Nat×Nat)) (s:St),(∀p∈ps,∀l∈s.lots,l.id=p.1→l.article≠a)→shelf (ps.foldl dA s) a=shelf s a
 | [],_,_=>rfl
 | p::ps,s,h=>by
  rw[gZ,xI ps];exact JH fun l hl e=>⟨h p cQ l hl e,rfl⟩;grind[uO]
theorem kj {ls:List Lot}(hn:(ls.map (·.id)).Nodup){l m:Lot}(hl:l∈ls)(hm:m∈ls)(e:l.id=m.id):l=m:=by
 induction ls with
 | nil=>simp at hl
 | cons x r ih=>(simp_all;grind)
def Dx {s:St}(hn:(s.lots.map (·.id)).Nodup){b:Bag}(hb:bL b){b1 b2:Bag}{p:Nat×Nat}(e:b=b1++p::b2):shelf ((picks s b1).foldl dA s) p.1=shelf s p.1:=by
 refine xI _ s fun q hq l hl iA=>?_;unfold picks at hq;obtain⟨r,hr,hq⟩:=List.mem_flatMap.mp hq;obtain⟨f,hm,_⟩:=sH hq;obtain⟨m,hm,e2⟩:=aZ.mp hm;obtain⟨h1,h2,_⟩:=k9 hm;have hid2:m.id=q.1:=congrArg Prod.fst e2;have:l=m:=kj hn hl h1 (iA.trans hid2.symm);rw[this,h2];have hu:=hb.up;rw[e]at hu;have:=(List.pairwise_append.mp hu).2.2 r hr p cQ;lia
theorem Fl (s:St)(b:Bag)(p:Nat×Nat):picks s (b++[p])=picks s b++fefo ((shelf s p.1).map fun l=>(l.id,l.free)) p.2:=by
 unfold picks;simp
structure oV (A:List Article)(ps:List (Nat×Nat)):Prop where
 known:∀p∈ps,∃x∈A,x.id=p.1
 pos:∀p∈ps,1≤p.2∧p.2≤1000
 nd:(ps.map (·.1)).Nodup
 len:ps.length≤16
structure ig (S:List Ses)(l:Lot):Prop where
 held:bL l.held
 uses:bL l.uses
 hk:∀p∈l.held,∃x∈S,x.id=p.1
 uk:∀p∈l.uses,∃x∈S,x.id=p.1
structure aM (s:St):Prop where
 Iq:s.articles.Pairwise fun x y=>x.id<y.id
 m6:s.articles.length≤64
 c7:sound s.articles=true
 fw:∀x∈s.articles,oV s.articles x.parts
 iK:(s.lots.map (·.id)).Nodup
 gX:s.lots.length≤256
 lots:∀l∈s.lots,ig s.sessions l
 J5:s.sessions.Pairwise fun x y=>x.id<y.id
 o7:s.sessions.length≤128
 sF:s.reasons.length=9
def Mt:aM start:=by
 refine⟨?_,?_,?_,?_,?_,?_,?_,?_,?_,rfl⟩;exact Pairwise.nil;exact fJ _;rfl;simp[start];exact lA;exact fJ _;simp[start];exact Pairwise.nil;exact fJ _
theorem dz {s:St}{a:Nat}:(art s a).isSome=true↔∃x∈s.articles,x.id=a:=by
 unfold art;simp
def Qv {s:St}(h:aM s){x:Article}(hx:x∈s.articles):art s x.id=some x:=by
 unfold art;have zU:=h.Iq;generalize s.articles=A at hx zU
 induction A with
 | nil=>simp at hx
 | cons y r ih=>grind[pairwise_cons]
theorem jF {s:St}{a:Nat}{x:Article}(h:art s a=some x):x∈s.articles∧x.id=a:=by
 unfold art at h;grind
def kG {s:St}(h:aM s){x:Article}(hx:x∈s.articles):partsOf s.articles x.id=x.parts:=by
 have:=Qv h hx;unfold art at this;unfold partsOf;rw[this];rfl
def fV {s:St}{k:Nat}:(ses s k).isSome=true↔∃x∈s.sessions,x.id=k:=by
 unfold ses;simp
def iI {s:St}{k:Nat}{x:Ses}(h:ses s k=some x):x∈s.sessions∧x.id=k:=by
 unfold ses at h;grind
def gK {s:St}{k:Nat}{x:Lot}(h:lotOf s k=some x):x∈s.lots∧x.id=k:=by
 unfold lotOf at h;grind
def EH {s:St}{k:Nat}:lotOf s k=none↔∀x∈s.lots,x.id≠k:=by
 unfold lotOf;simp
theorem II {S:List Ses}(h:S.Pairwise fun x y=>x.id<y.id){x y:Ses}(hx:x∈S)(hy:y∈S)(e:x.id=y.id):x=y:=by
 induction S with
 | nil=>simp at hx
 | cons z r ih=>grind[pairwise_cons]
theorem zW {S:List Article}(h:S.Pairwise fun x y=>x.id<y.id){x y:Article}(hx:x∈S)(hy:y∈S)(e:x.id=y.id):x=y:=by
 induction S with
 | nil=>simp at hx
 | cons z r ih=>grind[pairwise_cons]
def ig.of {S:List Ses}{l m:Lot}(h:ig S l)(e1:m.held=l.held)(e2:m.uses=l.uses):ig S m:=⟨by rw[e1];exact h.held,by rw[e2];exact h.uses,by rw[e1];exact h.hk,by rw[e2];exact h.uk⟩
def ig.ids {S S':List Ses}{l:Lot}(h:ig S l)(e:∀k,(∃x∈S,x.id=k)→∃x∈S',x.id=k):ig S' l:=⟨h.held,h.uses,fun p hp=>e _ (h.hk p hp),fun p hp=>e _ (h.uk p hp)⟩
def aM.iU {s:St}(h:aM s){f:Lot→Lot}(iA:∀l∈s.lots,(f l).id=l.id)(hf:∀l∈s.lots,ig s.sessions (f l)):aM {s with lots:=s.lots.map f}:=by
 refine⟨h.Iq,h.m6,h.c7,h.fw,?_,?_,?_,h.J5,h.o7,h.sF⟩
 ·show((s.lots.map f).map (·.id)).Nodup;rw[aV,show(s.lots.map ((fun l=>l.id)∘f))=s.lots.map (·.id)from cE iA];exact h.iK
 ·show(s.lots.map f).length≤256;rw[ay];exact h.gX
 simp_all
theorem aM.onLot {s:St}(h:aM s){i:Nat}{f:Lot→Lot}(iA:∀l,(f l).id=l.id)(hf:∀l∈s.lots,l.id=i→ig s.sessions (f l)):aM (onLot s i f):=by
 refine h.iU (f:=fun l=>if(l.id==i)=true then f l else l) (fun l _=>?_) fun l hl=>?_
 ·show(if(l.id==i)=true then f l else l).id=l.id;split;exact iA l;rfl
 show ig s.sessions (if(l.id==i)=true then f l else l);split
 ·rename_i e;exact hf l hl (eq_of_beq e)
 exact h.lots l hl
def aM.yU {s:St}(h:aM s){f:Ses→Ses}(iA:∀x,(f x).id=x.id):aM {s with sessions:=s.sessions.map f}:=by
 refine⟨h.Iq,h.m6,h.c7,h.fw,h.iK,h.gX,fun l hl=>(h.lots l hl).ids fun k ⟨x,hx,e⟩=>⟨f x,aZ.mpr ⟨x,hx,rfl⟩,by rw[iA];exact e⟩,?_,?_,h.sF⟩
 ·show(s.sessions.map f).Pairwise _;rw[hY];exact h.J5.imp fun{x y} q=>by rw[iA,iA];exact q
 show(s.sessions.map f).length≤128;rw[ay];exact h.o7
def aM.today {s:St}(h:aM s)(d:Nat):aM {s with today:=d}:=⟨h.Iq,h.m6,h.c7,h.fw,h.iK,h.gX,h.lots,h.J5,h.o7,h.sF⟩
def aM.why {s:St}(h:aM s){r:List Nat}(hr:r.length=9):aM {s with reasons:=r}:=⟨h.Iq,h.m6,h.c7,h.fw,h.iK,h.gX,h.lots,h.J5,h.o7,hr⟩
theorem oF:∀(l:List Nat) (k n:Nat),(addAt l k n).length=l.length
 | [],_,_=>rfl
 | x::r,0,n=>rfl
 | x::r,k+1,n=>by rw[addAt,cH,oF r k n,cH]
def ig.Lm {S:List Ses}{l:Lot}(h:ig S l){k n:Nat}(hk:∃x∈S,x.id=k){m:Lot}(e1:m.held=l.held)(e2:m.uses=bagAdd l.uses k n):ig S m:=by
 refine⟨by rw[e1];exact h.held,by rw[e2];exact lg h.uses k n,by rw[e1];exact h.hk,fun p hp=>?_⟩;rw[e2]at hp;rcases mK hp with e|hm;simp_all;obtain⟨q,hq,e⟩:=aZ.mp hm;rw[←e];exact h.uk q hq
def ig.Oa {S:List Ses}{l:Lot}(h:ig S l){k n:Nat}(hk:∃x∈S,x.id=k){m:Lot}(e1:m.uses=l.uses)(e2:m.held=bagAdd l.held k n):ig S m:=by
 refine⟨by rw[e2];exact lg h.held k n,by rw[e1];exact h.uses,fun p hp=>?_,by rw[e1];exact h.uk⟩;rw[e2]at hp;rcases mK hp with e|hm;simp_all;obtain⟨q,hq,e⟩:=aZ.mp hm;rw[←e];exact h.hk q hq
def Nc {s:St}(h:aM s)(p:Nat×Nat):aM (dA s p):=h.onLot (fun _=>rfl) fun l hl _=>(h.lots l hl).of rfl rfl
def Oh {s:St}(h:aM s){k:Nat}(hk:∃x∈s.sessions,x.id=k)(p:Nat×Nat):aM (mE k s p):=h.onLot (fun _=>rfl) fun l hl _=>(h.lots l hl).Lm (n:=p.2) hk rfl rfl
def NA {s:St}(h:aM s){k:Nat}(hk:∃x∈s.sessions,x.id=k)(p:Nat×Nat):aM (j7 k s p):=h.onLot (fun _=>rfl) fun l hl _=>(h.lots l hl).Oa (n:=p.2) hk rfl rfl
theorem eO:∀(ps:List (Nat×Nat)) {s:St},aM s→aM (ps.foldl dA s)
 | [],_,h=>h
 | p::ps,s,h=>eO ps (Nc h p)
theorem lM {k:Nat}:∀(ps:List (Nat×Nat)) {s:St},aM s→(∃x∈s.sessions,x.id=k)→aM (ps.foldl (mE k) s)
 | [],_,h,_=>h
 | p::ps,s,h,hk=>lM ps (Oh h hk p) hk
theorem lU {k:Nat}:∀(ps:List (Nat×Nat)) {s:St},aM s→(∃x∈s.sessions,x.id=k)→aM (ps.foldl (j7 k) s)
 | [],_,h,_=>h
 | p::ps,s,h,hk=>lU ps (NA h hk p) hk
theorem fZ:∀(ps:List (Nat×Nat)) (s:St),(ps.foldl dA s).sessions=s.sessions
 | [],_=>rfl
 | p::ps,s=>by rw[gZ,fZ ps];rfl
def N_ {s:St}(h:aM s){k:Nat}(hk:∃x∈s.sessions,x.id=k)(ps:List (Nat×Nat)):aM (used s k ps):=by simp_all[qP,lM,eO,fZ]
def Ox {s:St}(h:aM s){k:Nat}(hk:∃x∈s.sessions,x.id=k)(ps:List (Nat×Nat)):aM (kept s k ps):=by simp_all[qL,lU,eO,fZ]
def gw {s:St}(h:aM s)(p:Lot→Bool):aM (dropWhere p s):=by
 have h1:aM {s with lots:=s.lots.map fun l=>if p l=true then{l with free:=l.free+bagSum l.held,held:=[]}else l}:=by
  refine h.iU (fun l _=>?_) fun l hl=>?_
  ·split<;>rfl
  split;exact⟨bL.nil,(h.lots l hl).uses,by simp,(h.lots l hl).uk⟩;exact h.lots l hl
 exact h1.yU (f:=fun x=>if((dropped p s).any fun t=>t.1==x.id)=true then{x with broken:=true}else x) fun x=>by split<;>rfl
theorem nA {s:St}(h:aM s)(p:Lot→Bool):aM (callBack p s):=by
 have h1:=gw h p;refine h1.iU (f:=fun l=>if p l=true then{l with called:=true}else l) (fun l _=>?_) fun l hl=>?_
 ·split<;>rfl
 split;exact(h1.lots l hl).of rfl rfl;exact h1.lots l hl
theorem di {x y:Article}:∀{l:List Article},y∈putArt x l↔y=x∨y∈l
 | []=>by simp[putArt]
 | z::r=>by
  unfold putArt;split;simp;rw[bM,di,bM];constructor<;>grind
theorem zZ {x:Article}:∀{l:List Article},l.Pairwise (fun x y=>x.id<y.id)→(∀y∈l,y.id≠x.id)→(putArt x l).Pairwise fun x y=>x.id<y.id
 | [],_,_=>by simp[putArt]
 | z::r,h,hn=>by
  unfold putArt;have hu:=dH.mp h;split;clear hu;grind[pairwise_cons];rename_i hx;refine dH.mpr ⟨fun y hy=>?_,zZ hu.2 fun y hy=>hn y (cP _ hy)⟩;rcases di.mp hy with e|q;simp_all;grind -order;exact hu.1 y q
theorem yQ {x:Article}:∀{l:List Article},(putArt x l).length=l.length+1
 | []=>rfl
 | z::r=>by
  unfold putArt;split;rfl;rw[cH,yQ,cH]
theorem dI {x y:Ses}:∀{l:List Ses},y∈putSes x l↔y=x∨y∈l
 | []=>by simp[putSes]
 | z::r=>by
  unfold putSes;split;simp;rw[bM,dI,bM];constructor<;>grind
theorem Az {x:Ses}:∀{l:List Ses},l.Pairwise (fun x y=>x.id<y.id)→(∀y∈l,y.id≠x.id)→(putSes x l).Pairwise fun x y=>x.id<y.id
 | [],_,_=>by simp[putSes]
 | z::r,h,hn=>by
  unfold putSes;have hu:=dH.mp h;split;clear hu;grind[pairwise_cons];rename_i hx;refine dH.mpr ⟨fun y hy=>?_,Az hu.2 fun y hy=>hn y (cP _ hy)⟩;rcases dI.mp hy with e|q;simp_all;grind -order;exact hu.1 y q
theorem wR {x:Ses}:∀{l:List Ses},(putSes x l).length=l.length+1
 | []=>rfl
 | z::r=>by
  unfold putSes;split;rfl;rw[cH,wR,cH]
theorem ir {A B:List Article}(h:∀a,partsOf B a=partsOf A a):∀(f x:Nat),iX B f x=iX A f x∧ie B f x=ie A f x∧qM B f x=qM A f x∧∀j,jz B f x j=jz A f x j
 | 0,x=>⟨rfl,rfl,rfl,fun _=>rfl⟩
 | f+1,x=>by
  refine⟨?_,?_,?_,fun j=>?_⟩
  ·unfold iX;rw[h,l5,dr,dr];exact⟨fun q p hp=>by rw[←(ir h f p.1).1];exact q p hp,fun q p hp=>by rw[(ir h f p.1).1];exact q p hp⟩
  ·unfold ie;rw[h,bX fun p _=>(ir h f p.1).2.1]
  ·unfold qM;rw[h,bX fun p _=>(ir h f p.1).2.2.1]
  unfold jz;rw[h,bX fun p _=>by rw[(ir h f p.1).2.2.2 j]]
def yL {A B:List Article}(h:∀a,partsOf B a=partsOf A a)(hs:sound A=true):sound B=true:=by
 have W:=Wf.kQ hs;have WB:Wf B:=fun a=>by rw[(ir h 19 a).1];exact W a
 rw[oG WB];intro x _;have hz:∀a,(dep A a≤8∧CB A a≤256)∧∀j,cnt A a j≤1000000:=by grind -order[oG,iO,t6,FZ,eZ,qZ]
 obtain⟨h1,h2,h3,h4⟩:=ir h 20 x.id;have:=hz x.id;refine⟨⟨?_,?_⟩,fun j=>?_⟩
 ·show qM B 20 x.id≤8;rw[h3];exact this.1.1
 ·show ie B 20 x.id≤256;rw[h2];exact this.1.2
 show jz B 20 x.id j≤1000000;rw[h4];exact this.2 j
theorem nr {x:Article}(hx:x.parts=[]):∀{A:List Article},(∀y∈A,y.id≠x.id)→∀a,partsOf (putArt x A) a=partsOf A a
 | [],_,a=>by
  unfold putArt partsOf;simp;split<;>simp_all
 | z::r,h,a=>by
  have ih:=nr hx (A:=r) (fun y hy=>h y (cP _ hy)) a;unfold putArt;split;simp[partsOf,List.find?_eq_none];grind[partsOf,List.find?_eq_none];unfold partsOf at ih ⊢;grind
def Cq (A:List Article)(a:Nat)(ps:List (Nat×Nat)):(setParts A a ps).map (·.id)=A.map (·.id):=by (simp[setParts,List.map_congr_left];lia)
def IU {A B:List Article}(h:B.map (·.id)=A.map (·.id)){a:Nat}(hx:∃x∈A,x.id=a):∃x∈B,x.id=a:=by
 obtain⟨x,hx,e⟩:=hx;have:x.id∈B.map (·.id):=by rw[h];exact aZ.mpr ⟨x,hx,rfl⟩
 grind
def MX {A B:List Article}(h:B.map (·.id)=A.map (·.id))(hu:A.Pairwise fun x y=>x.id<y.id):B.Pairwise fun x y=>x.id<y.id:=by
 rw[←hY (f:=fun x:Article=>x.id) (R:=fun x y=>x<y)]at hu ⊢;rw[h];exact hu
def oV.ids {A B:List Article}(h:B.map (·.id)=A.map (·.id)){ps:List (Nat×Nat)}(hp:oV A ps):oV B ps:=⟨fun p q=>IU h (hp.known p q),hp.pos,hp.nd,hp.len⟩
theorem jD {x:Int}{lo hi:Nat}:inR x lo hi=true↔(lo:Int)≤x∧x≤(hi:Int):=by
 unfold inR;exact decide_eq_true_iff
theorem pairs_len:∀(l:List Int),2*(pairs l).length≤l.length
 | []=>by simp[pairs]
 | [x]=>by simp[pairs]
 | b::c::r=>by
  have:=pairs_len r;simp only[pairs,cH];lia
theorem vk:∀{l:List Int},goodParts.pairsOk l=true→∀p∈pairs l,1≤p.2∧p.2≤1000
 | [],_,p,hp=>by simp[pairs]at hp
 | [x],_,p,hp=>by simp[pairs]at hp
 | b::c::r,h,p,hp=>by
  unfold goodParts.pairsOk at h;rw[cy,cy,jD]at h;obtain⟨_,h2,h3⟩:=h;rcases bM.mp (show p∈(b.toNat,c.toNat)::pairs r from hp)with e|q;simp_all;grind;exact vk h3 p q
theorem vq:∀{l:List Nat},distinct l=true→l.Nodup
 | [],_=>lA
 | x::r,h=>by
  unfold distinct at h;rw[cy]at h;refine fO.mpr ⟨fun hm=>?_,vq h.2⟩;simp_all
def rB {A:List Article}{ps:List Int}(h:goodParts ps=true)(hk:∀q∈pairs ps,∃x∈A,x.id=q.1):oV A (pairs ps):=by
 unfold goodParts at h;rw[cy,cy,cy]at h;obtain⟨_,h2,h3,h4⟩:=h;refine⟨hk,vk h3,vq h4,?_⟩;have:=pairs_len ps;grind
def nE {s:St}{p:List (Nat×Nat)}(h:(p.all fun q=>(art s q.1).isSome)=true):∀q∈p,∃x∈s.articles,x.id=q.1:=fun q hq=>dz.mp (dr.mp h q hq)
def nA_ {c:Prop}[Decidable c]{s:St}{k:Nat}{b:St×List Int}(h:aM s)(q:aM b.1):aM (if c then no s k else b).1:=by split;exact h;exact q
theorem Ny {s:St}(h:aM s):∀c:Call,aM (step s c).1
 | .day d=>by
  show aM (dayCall s d).1;unfold dayCall no done;dsimp only;refine nA_ h (nA_ h ?_);exact(gw h _).today _
 | .article a m=>by
  show aM (articleCall s a m).1;unfold articleCall no done;refine nA_ h ?_;split;exact h;rename_i h3;split;exact h;rename_i h4;have hn:∀y∈s.articles,y.id≠a.toNat:=fun y hy e=>h3 (dz.mpr ⟨y,hy,e⟩);refine⟨zZ h.Iq hn,?_,?_,?_,h.iK,h.gX,h.lots,h.J5,h.o7,h.sF⟩
  ·show(putArt _ _).length≤64;rw[yQ];have:¬64≤s.articles.length:=h4;lia
  exact yL (nr rfl hn) h.c7;intro x hx;rcases di.mp hx with e|q
  ·rw[e];exact⟨fun p hp=>absurd hp (by simp),fun p hp=>absurd hp (by simp),lA,fJ _⟩
  have hp:=h.fw x q;exact⟨fun p EI=>by obtain⟨y,hy,e⟩:=hp.known p EI;exact⟨y,di.mpr (.inr hy),e⟩,hp.pos,hp.nd,hp.len⟩
 | .least a m=>by
  show aM (leastCall s a m).1;unfold leastCall no done;refine nA_ h (nA_ h (nA_ h ?_));have e:(s.articles.map fun x=>if(x.id==a.toNat)=true then{x with least:=m.toNat}else x).map (·.id)=s.articles.map (·.id):=by (simp[List.map_congr_left];lia)
  have e2:∀b,partsOf (s.articles.map fun x=>if(x.id==a.toNat)=true then{x with least:=m.toNat}else x) b=partsOf s.articles b:=by
   intro b;unfold partsOf;generalize s.articles=A
   induction A with
   | nil=>rfl
   | cons y r ih=>grind
  refine⟨MX e h.Iq,?_,yL e2 h.c7,fun x hx=>?_,h.iK,h.gX,h.lots,h.J5,h.o7,h.sF⟩
  ·show(List.map _ _).length≤64;rw[ay];exact h.m6
  obtain⟨y,hy,e3⟩:=aZ.mp hx;have:x.parts=y.parts:=by rw[←e3];split<;>rfl
  rw[this];exact(h.fw y hy).ids e
 | .recipe a ps=>by
  show aM (recipeCall s a ps).1;unfold recipeCall no done;dsimp only;split;exact h;rename_i hg;split;exact h;rename_i hk;refine nA_ h (nA_ h ?_);split;exact h;rename_i hs;simp only[Bool.not_eq_false]at hg hk hs;rw[cy]at hg hk;have e:=Cq s.articles a.toNat (pairs ps);refine⟨MX e h.Iq,?_,hs,fun x hx=>?_,h.iK,h.gX,h.lots,h.J5,h.o7,h.sF⟩
  ·show(setParts s.articles a.toNat (pairs ps)).length≤64;have:=congrArg List.length e;rw[ay,ay]at this;rw[this];exact h.m6
  obtain⟨y,hy,e3⟩:=aZ.mp (show x∈s.articles.map _ from hx);rw[←e3];show oV (setParts s.articles a.toNat (pairs ps)) _;split;exact(rB hg.2 (nE hk.2)).ids e;exact(h.fw y hy).ids e
 | .receive l a n e=>by
  show aM (receiveCall s l a n e).1;unfold receiveCall no done;refine nA_ h (nA_ h (nA_ h ?_));split
  ·rename_i x hx;refine nA_ h (nA_ h (nA_ h (nA_ h ?_)));exact h.onLot (fun _=>rfl) fun l hl _=>(h.lots l hl).of rfl rfl
  rename_i hx;refine nA_ h ?_;split;exact h;rename_i h4;refine⟨h.Iq,h.m6,h.c7,h.fw,?_,?_,fun x IV=>?_,h.J5,h.o7,h.sF⟩
  ·show((s.lots++[_]).map fun x:Lot=>x.id).Nodup;rw[gS,BA];refine⟨h.iK,by simp,fun i hi j hj=>?_⟩;obtain⟨y,hy,e1⟩:=aZ.mp hi;have hj:j=l.toNat:=by simpa using hj
   rw[hj,←e1];exact EH.mp hx y hy
  ·show(s.lots++[_]).length≤256;rw[dv];have:¬256≤s.lots.length:=h4;simp;lia
  rcases fK.mp (show x∈s.lots++[_]from IV)with q|q;exact h.lots x q;rw[BG.mp q];exact⟨bL.nil,bL.nil,by simp,by simp⟩
 | .opened k=>by
  show aM (openCall s k).1;unfold openCall no done;refine nA_ h ?_;split;exact h;rename_i h3;split;exact h;rename_i h4;have hn:∀y∈s.sessions,y.id≠k.toNat:=fun y hy e=>h3 (fV.mpr ⟨y,hy,e⟩);refine⟨h.Iq,h.m6,h.c7,h.fw,h.iK,h.gX,fun l hl=>(h.lots l hl).ids fun i ⟨x,hx,e⟩=>⟨x,dI.mpr (.inr hx),e⟩,Az h.J5 hn,?_,h.sF⟩;show(putSes _ _).length≤128;rw[wR];have:¬128≤s.sessions.length:=h4;lia
 | .close k=>by
  show aM (closeCall s k).1;unfold closeCall no done;refine nA_ h (nA_ h (nA_ h (nA_ h ?_)));exact h.yU (f:=fun x=>if(x.id==k.toNat)=true then{x with closed:=true,broken:=false}else x) fun x=>by split<;>rfl
 | .issue k a n=>by
  show aM (issueCall s k a n).1;unfold issueCall no done;dsimp only;refine nA_ h ?_;split;exact h;rename_i hk;refine nA_ h (nA_ h (nA_ h ?_));simp_all[N_,fV,ses,absurd]
 | .reserve k a n=>by
  show aM (reserveCall s k a n).1;unfold reserveCall no done;dsimp only;refine nA_ h ?_;split;exact h;rename_i hk;refine nA_ h (nA_ h (nA_ h (nA_ h ?_)));simp_all[Ox,fV,ses,absurd]
 | .take k=>by
  show aM (takeCall s k).1;unfold takeCall no done;refine nA_ h ?_;split;exact h;rename_i hk;refine nA_ h (nA_ h (nA_ h ?_));have hk:∃x∈s.sessions,x.id=k.toNat:=fV.mp (by
   cases e:ses s k.toNat with
   | none=>rw[e]at hk;exact absurd rfl hk
   | some x=>rfl)
  refine h.iU (f:=fun l=>{l with held:=bagDrop l.held k.toNat,uses:=bagAdd l.uses k.toNat (bagOf l.held k.toNat)}) (fun _ _=>rfl) fun l hl=>?_;have hl:=h.lots l hl;have h1:=hl.Lm (n:=bagOf l.held k.toNat) (m:={l with uses:=bagAdd l.uses k.toNat (bagOf l.held k.toNat)}) hk rfl rfl;exact⟨jj hl.held _,h1.uses,fun p hp=>hl.hk p (eC.mp hp).1,h1.uk⟩
 | .release k=>by
  show aM (releaseCall s k).1;unfold releaseCall no done;dsimp only;refine nA_ h (nA_ h (nA_ h ?_));have h1:aM {s with lots:=s.lots.map fun l=>{l with held:=bagDrop l.held k.toNat,free:=l.free+bagOf l.held k.toNat}}:=
   h.iU (fun _ _=>rfl) fun l hl=>⟨jj (h.lots l hl).held _,(h.lots l hl).uses,fun p hp=>(h.lots l hl).hk p (eC.mp hp).1,(h.lots l hl).uk⟩
  exact h1.yU (f:=fun x=>if(x.id==k.toNat)=true then{x with broken:=false}else x) fun x=>by split<;>rfl
 | .unused k l n=>by
  show aM (unusedCall s k l n).1;unfold unusedCall no done;refine nA_ h (nA_ h (nA_ h ?_));split;exact h;refine nA_ h ?_;refine h.onLot (fun _=>rfl) fun l hl _=>⟨(h.lots l hl).held,kR (h.lots l hl).uses _ _,(h.lots l hl).hk,fun p hp=>?_⟩;have hp:=(eC.mp (show p∈bagSub l.uses k.toNat n.toNat from hp)).1;obtain⟨q,hq,e⟩:=aZ.mp hp;have:p.1=q.1:=by rw[←e];split<;>rfl
  rw[this];exact(h.lots l hl).uk q hq
 | .thrown l n w=>by
  show aM (thrownCall s l n w).1;unfold thrownCall no done;dsimp only;refine nA_ h ?_;split;exact h;refine nA_ h ?_;exact(h.onLot (i:=l.toNat) (f:=fun x=>{x with free:=x.free-n.toNat,thrown:=x.thrown+n.toNat}) (fun _=>rfl) fun l hl _=>(h.lots l hl).of rfl rfl).why ((oF s.reasons (w.toNat-1) n.toNat).trans h.sF)
 | .sweep w=>by
  show aM (sweepCall s w).1;unfold sweepCall no done;dsimp only;refine nA_ h ?_;refine(h.iU (f:=fun l=>if good s.today l=true then l else{l with free:=0,thrown:=l.thrown+l.free}) (fun l _=>by split<;>rfl) fun l hl=>?_).why (by rw[oF];exact h.sF);split;exact h.lots l hl;exact(h.lots l hl).of rfl rfl
 | .count l m=>by
  show aM (countCall s l m).1;unfold countCall no done;dsimp only;refine nA_ h ?_;split;exact h;refine nA_ h (nA_ h ?_);exact h.onLot (fun _=>rfl) fun l hl _=>(h.lots l hl).of rfl rfl
 | .recall l=>by
  show aM (recallCall s l).1;unfold recallCall no done;refine nA_ h ?_;((repeat' split)<;>grind[nA])
 | .recallOf a d e=>by
  show aM (recallOfCall s a d e).1;unfold recallOfCall no done;dsimp only;refine nA_ h ?_;((repeat' split)<;>grind[nA])
 | .need _ _=>h
 | .able _=>h
 | .short _ _=>h
 | .shelf _=>h
 | .lot _=>h
 | .who _=>h
 | .uses _=>h
 | .held _=>h
 | .parts _=>h
 | .low=>h
 | .soon _=>h
 | .lasts _ _=>h
 | .reasons=>h
 | .cluster _=>h
theorem oJ:∀{l m:List Nat},l.Nodup→(∀x∈l,x∈m)→l.length≤m.length
 | [],m,_,_=>fJ _
 | a::l,m,hn,hs=>by
  have jx:=fO.mp hn;have ha:a∈m:=hs a cQ;have ih:=oJ (l:=l) (m:=m.erase a) jx.2 fun x hx=>by grind
  (simp_all;grind)
def fB {S:List Ses}{b:Bag}(h:bL b)(hk:∀p∈b,∃x∈S,x.id=p.1):b.length≤S.length:=by
 have:=oJ (l:=keys b) (m:=S.map (·.id)) h.nd fun k JB=>by grind
 simpa using this
def MP (l:List (Nat×Nat)):(flat l).length=2*l.length:=by
 unfold flat
 induction l with
 | nil=>rfl
 | cons p l ih=>rw[HP,dv,ih];simp;lia
def AG (l:List (Nat×Nat×Nat)):(flat3 l).length=3*l.length:=by
 unfold flat3
 induction l with
 | nil=>rfl
 | cons p l ih=>rw[HP,dv,ih];simp;lia
def c5 (l:List (Nat×Nat)):(rowOf l).length=2*l.length+1:=by simp[rowOf,MP]
def dq (s:St):Nat:=total (s.lots.map fun l=>l.held.length)
def rO {α:Type}{f g:α→Nat}{l:List α}(h:∀x∈l,f x≤g x):total (l.map f)≤total (l.map g):=by
 induction l with
 | nil=>exact bo _
 | cons a l ih=>(simp[bJ];(simp_all;grind[bJ]))
theorem qm {α:Type}{f g:α→Nat}{l:List α}:total (l.map fun x=>f x+g x)=total (l.map f)+total (l.map g):=by
 induction l with
 | nil=>rfl
 | cons a l ih=>simp only[bF,bJ,ih];lia
theorem C7 {α:Type}(l:List α)(c:Nat):total (l.map fun _=>c)=l.length*c:=by
 induction l with
 | nil=>simp[eZ]
 | cons a l ih=>rw[bF,bJ,ih,cH,Nat.add_mul];lia
theorem FF (b:Bag)(k n:Nat):(bagAdd b k n).length≤b.length+1:=by
 induction b with
 | nil=>unfold bagAdd;split<;>simp
 | cons q r ih=>(simp[bagAdd];((repeat' split)<;>grind[bagAdd]))
theorem yE:∀(b:Bag) (ls:List Lot),bL b→total (b.map fun p=>(ls.filter fun l=>l.article==p.1).length)≤ls.length
 | b,[],_=>by simp[C7]
 | b,l::ls,hb=>by
  have ih:=yE b ls hb;have e:(b.map fun p=>((l::ls).filter fun l=>l.article==p.1).length)=b.map fun p=>(if p.1=l.article then 1 else 0)+(ls.filter fun l=>l.article==p.1).length:=by (simp;grind)
  rw[e,qm,cH];have h1:total (b.map fun p=>if p.1=l.article then 1 else 0)≤1:=by
   clear e ih
   induction b with
   | nil=>simp[eZ]
   | cons q r ih=>
    rw[bF,bJ];by_cases h:q.1=l.article
    ·rw[aw h];have:total (r.map fun p=>if p.1=l.article then 1 else 0)=0:=js fun x hx=>by
      obtain⟨p,hp,e⟩:=aZ.mp hx;have:=(dH.mp hb.up).1 p hp;lia
     lia
    rw[ak h];have:=ih hb.tail;simp;omega
  lia
theorem k_:∀(l:List (Nat×Nat)) (n:Nat),(fefo l n).length≤l.length
 | [],_=>by simp[fefo]
 | (a,f)::l,n=>by
  rw[iZ,dv];have:=k_ l (n-min f n);grind
theorem hW (s:St){b:Bag}(hb:bL b):(picks s b).length≤s.lots.length:=by
 refine aG ?_ (yE b s.lots hb);unfold picks
 induction b with
 | nil=>simp[eZ]
 | cons p b ih=>
  rw[HP,dv,bF,bJ];have h1:=ih hb.tail;have h2:=k_ ((shelf s p.1).map fun l=>(l.id,l.free)) p.2;rw[ay]at h2;have h3:(shelf s p.1).length≤(s.lots.filter fun l=>l.article==p.1).length:=by
   show(byExpiry _).length≤_;rw[(cW _).length_eq];have:(s.lots.filter fun l=>l.article==p.1&&good s.today l)=(s.lots.filter fun l=>l.article==p.1).filter fun l=>good s.today l:=by
    rw[HB];grind
   grind -order
  omega
def fD {s:St}{i:Nat}{f:Lot→Lot}(h:∀l,(f l).held=l.held):dq (onLot s i f)=dq s:=by (simp[dq,lE,List.map_congr_left];grind[dq,lE,List.map_congr_left])
theorem C6 (s:St)(p:Nat×Nat):dq (dA s p)=dq s:=fD fun _=>rfl
def MF (k:Nat)(s:St)(p:Nat×Nat):dq (mE k s p)=dq s:=fD fun _=>rfl
theorem rV {f:St→Nat×Nat→St}(h:∀s p,dq (f s p)=dq s):∀(ps:List (Nat×Nat)) (s:St),dq (ps.foldl f s)=dq s
 | [],_=>rfl
 | p::ps,s=>by rw[gZ,rV h ps,h]
def LR (s:St)(k:Nat)(ps:List (Nat×Nat)):dq (used s k ps)=dq s:=by
 rw[qP,rV (MF k),rV C6]
theorem LM {ls:List Lot}(hn:(ls.map (·.id)).Nodup)(i:Nat):total (ls.map fun l=>if(l.id==i)=true then 1 else 0)≤1:=by
 induction ls with
 | nil=>simp[eZ]
 | cons x r ih=>(simp[total,js];grind -order[total,js])
def K0 {s:St}(hn:(s.lots.map (·.id)).Nodup)(k:Nat)(p:Nat×Nat):dq (j7 k s p)≤dq s+1:=by
 unfold dq j7;rw[lE,aV];have h1:=rO (l:=s.lots) (f:=(fun l=>l.held.length)∘fun l=>if(l.id==p.1)=true then{l with held:=bagAdd l.held k p.2}else l) (g:=fun l=>l.held.length+if(l.id==p.1)=true then 1 else 0) fun l _=>by (simp[FF];(split<;>grind[FF]))
 rw[qm]at h1;have:=LM hn p.1;omega
def Au (s:St)(i:Nat)(f:Lot→Lot)(hf:∀l,(f l).id=l.id):(onLot s i f).lots.map (·.id)=s.lots.map (·.id):=by (simp[lE,List.map_congr_left];grind[lE,List.map_congr_left])
theorem Af {k:Nat}:∀(ps:List (Nat×Nat)) {s:St},(s.lots.map (·.id)).Nodup→dq (ps.foldl (j7 k) s)≤dq s+ps.length
 | [],_,_=>bo _
 | p::ps,s,hn=>by
  have h1:=K0 hn k p;have h2:=Af (k:=k) ps (s:=j7 k s p) (by rw[show(j7 k s p).lots.map (·.id)=s.lots.map (·.id)from Au s p.1 _ fun _=>rfl];exact hn);simp;lia
theorem EX:∀(ps:List (Nat×Nat)) (s:St),(ps.foldl dA s).lots.map (·.id)=s.lots.map (·.id)
 | [],_=>rfl
 | p::ps,s=>by rw[gZ,EX ps,show(dA s p).lots.map (·.id)=s.lots.map (·.id)from Au s p.1 _ fun _=>rfl]
def KL {s:St}(hn:(s.lots.map (·.id)).Nodup)(k:Nat)(ps:List (Nat×Nat)):dq (kept s k ps)≤dq s+ps.length:=by grind[qL,Af,EX,rV,C6]
theorem vK (p:Lot→Bool)(s:St):(dropped p s).length+dq (dropWhere p s)=dq s:=by
 unfold dropped dropWhere dq;dsimp only;generalize s.lots=ls
 induction ls with
 | nil=>rfl
 | cons l ls ih=>(simp_all;(simp[bJ];grind[bJ]))
def rX (p:Lot→Bool)(s:St):dq (callBack p s)≤dq s:=by (simp[vK,dq,callBack,List.map_congr_left];grind[vK,dq,callBack,List.map_congr_left])
theorem Hg {A:List Article}(W:Wf A):∀(n a j:Nat),dep A a≤n→cnt A a j≠0→j=a∨∃x∈A,∃p∈x.parts,j=p.1
 | n,a,j,hn,h=>by
  rw[qZ W]at h;by_cases e:partsOf A a=[];constructor<;>grind;rw[ak e]at h;have:∃p∈partsOf A a,p.2*cnt A p.1 j≠0:=by grind[js]
  obtain⟨p,hp,hz⟩:=this;have hz2:cnt A p.1 j≠0:=fun z=>hz (by rw[z,BS]);have h1:=rU W hp
  match n with
  | 0=>(exfalso;omega)
  | n+1=>
   rcases Hg W n p.1 j (by lia) hz2 with q|q
   ·refine .inr ?_;unfold partsOf at hp;cases hf:A.find? fun x=>x.id==a with
    | none=>rw[hf]at hp;simp at hp
    | some x=>grind
   exact .inr q
theorem dY {s:St}(h:aM s){a n:Nat}(ha:∃x∈s.articles,x.id=a):(needs s.articles a n).length≤64:=by
 have h9:=cN h.c7;obtain⟨hb,hc⟩:=hJ h9 a n;have W:=Wf.kQ h.c7;refine aG ?_ h.m6;have:=oJ (l:=keys (needs s.articles a n)) (m:=s.articles.map (·.id)) hb.nd fun j hj=>by
  obtain⟨p,hp,e⟩:=aZ.mp hj;obtain⟨k,c⟩:=p;have h1:=(wK hb).mp hp;rw[hc]at h1;have hz:cnt s.articles a k≠0:=fun z=>h1.1 (by rw[←h1.2,z,BS]);have e:k=j:=e;rw[←e];rcases Hg W _ a k (bo _) hz with q|⟨x,hx,p,hp,q⟩;simp_all;obtain⟨y,hy,e⟩:=(h.fw x hx).known p hp;grind
 simpa using this
def nz {s:St}{g:Lot→Lot}{t:St}(e:t.lots=s.lots.map g)(h:∀l∈s.lots,(g l).held.length≤l.held.length):dq t≤dq s:=by
 unfold dq;rw[e,aV];exact rO h
def one {s:St}{k:Nat}:(no s k).2.length+3*dq (no s k).1≤3*dq s+2000:=by
 show 1+3*dq s≤_;lia
def qK (s:St)(k:Nat):(heldOf s k).length≤s.lots.length:=by
 unfold heldOf;grind -order
def lO (s:St)(k:Nat):(usesOf s k).length≤s.lots.length:=by
 unfold usesOf;grind -order
def jI (s:St)(b:Bag):(lacking s b).length≤b.length:=by
 unfold lacking;simp_all;grind -order
theorem uX (s:St):∀(n:Nat) (set:List Nat),set.length≤s.sessions.length+1→(closure s n set).length≤s.sessions.length+1
 | 0,set,h=>h
 | n+1,set,h=>by
  unfold closure;dsimp only;split;exact h;refine uX s n _ ?_;unfold grown;grind -order
def yK (l:List Nat):(Vbdlal.ints l).length=l.length:=by unfold Vbdlal.ints;rw[ay]
def nB_ {c:Prop}[Decidable c]{s:St}{k:Nat}{b:St×List Int}(q:b.2.length+3*dq b.1≤3*dq s+2000):(if c then no s k else b).2.length+3*dq (if c then no s k else b).1≤3*dq s+2000:=by split;exact one;exact q
theorem LF {s:St}(h:aM s):∀c:Call,(step s c).2.length+3*dq (step s c).1≤3*dq s+2000
 | .day d=>by
  show(dayCall s d).2.length+3*dq (dayCall s d).1≤_;unfold dayCall;dsimp only;refine nB_ (nB_ ?_);have:=vK (fun l=>decide (l.expiry<d.toNat)) s;show(_::flat3 _).length+3*dq {dropWhere _ s with today:=d.toNat}≤_;rw[cH,AG,show dq {dropWhere (fun l=>decide (l.expiry<d.toNat)) s with today:=d.toNat}=dq (dropWhere (fun l=>decide (l.expiry<d.toNat)) s)from rfl];lia
 | .article a m=>by
  show(articleCall s a m).2.length+3*dq (articleCall s a m).1≤_;unfold articleCall;refine nB_ (nB_ (nB_ ?_));show 1+3*dq s≤_;lia
 | .least a m=>by
  show(leastCall s a m).2.length+3*dq (leastCall s a m).1≤_;unfold leastCall;refine nB_ (nB_ (nB_ ?_));show 1+3*dq s≤_;lia
 | .recipe a ps=>by
  show(recipeCall s a ps).2.length+3*dq (recipeCall s a ps).1≤_;unfold recipeCall;dsimp only;refine nB_ (nB_ (nB_ (nB_ (nB_ ?_))));show 1+3*dq s≤_;lia
 | .receive l a n e=>by
  show(receiveCall s l a n e).2.length+3*dq (receiveCall s l a n e).1≤_;unfold receiveCall;refine nB_ (nB_ (nB_ ?_));split
  ·split
   ·exact one
   refine nB_ (nB_ (nB_ ?_));show 1+3*dq (onLot s l.toNat _)≤_;rw[fD (f:=fun x=>{x with received:=x.received+n.toNat,free:=x.free+n.toNat}) fun _=>rfl];lia
  refine nB_ (nB_ ?_);show 1+3*dq {s with lots:=s.lots++[_]}≤_;unfold dq;rw[gS,iL];simp[bJ,eZ];lia
 | .opened k=>by
  show(openCall s k).2.length+3*dq (openCall s k).1≤_;unfold openCall;refine nB_ (nB_ (nB_ ?_));show 1+3*dq s≤_;lia
 | .close k=>by
  show(closeCall s k).2.length+3*dq (closeCall s k).1≤_;unfold closeCall;refine nB_ (nB_ (nB_ (nB_ ?_)));show 1+3*dq s≤_;lia
 | .issue k a n=>by
  show(issueCall s k a n).2.length+3*dq (issueCall s k a n).1≤_;unfold issueCall;dsimp only;refine nB_ (nB_ (nB_ (nB_ (nB_ ?_))));show(rowOf _).length+3*dq (used _ _ _)≤_;have hb:=(hJ (cN h.c7) a.toNat n.toNat).1;have:=hW s hb;have:=h.gX;rw[c5,LR];lia
 | .reserve k a n=>by
  show(reserveCall s k a n).2.length+3*dq (reserveCall s k a n).1≤_;unfold reserveCall;dsimp only;refine nB_ (nB_ (nB_ (nB_ (nB_ (nB_ ?_)))));show(rowOf _).length+3*dq (kept _ _ _)≤_;have hb:=(hJ (cN h.c7) a.toNat n.toNat).1;have h1:=hW s hb;have h2:=h.gX;have h3:=KL h.iK k.toNat (picks s (needs s.articles a.toNat n.toNat));rw[c5];lia
 | .take k=>by
  show(takeCall s k).2.length+3*dq (takeCall s k).1≤_;unfold takeCall;refine nB_ (nB_ (nB_ (nB_ (nB_ ?_))));show(rowOf _).length+3*dq {s with lots:=s.lots.map _}≤_;have h1:=qK s k.toNat;have h2:=h.gX;have h3:=nz (s:=s) (t:={s with lots:=s.lots.map fun l=>{l with held:=bagDrop l.held k.toNat,uses:=bagAdd l.uses k.toNat (bagOf l.held k.toNat)}}) rfl fun l _=>fN _ _;rw[c5];lia
 | .release k=>by
  show(releaseCall s k).2.length+3*dq (releaseCall s k).1≤_;unfold releaseCall;dsimp only;refine nB_ (nB_ (nB_ ?_));show(rowOf _).length+3*dq {s with lots:=s.lots.map fun l=>{l with held:=bagDrop l.held k.toNat,free:=l.free+bagOf l.held k.toNat}}≤_;have h1:=qK s k.toNat;have h2:=h.gX;have h3:=nz (s:=s) (t:={s with lots:=s.lots.map fun l=>{l with held:=bagDrop l.held k.toNat,free:=l.free+bagOf l.held k.toNat}}) rfl fun l _=>fN _ _;rw[c5];lia
 | .unused k l n=>by
  show(unusedCall s k l n).2.length+3*dq (unusedCall s k l n).1≤_;unfold unusedCall;refine nB_ (nB_ (nB_ ?_));split;exact one;refine nB_ ?_;show 1+3*dq (onLot s l.toNat _)≤_;rw[fD (f:=fun x=>{x with free:=x.free+n.toNat,uses:=bagSub x.uses k.toNat n.toNat}) fun _=>rfl];lia
 | .thrown l n w=>by
  show(thrownCall s l n w).2.length+3*dq (thrownCall s l n w).1≤_;unfold thrownCall;dsimp only;refine nB_ ?_;split;exact one;refine nB_ ?_;show 1+3*dq (onLot s l.toNat fun x=>{x with free:=x.free-n.toNat,thrown:=x.thrown+n.toNat})≤_;rw[fD (f:=fun x=>{x with free:=x.free-n.toNat,thrown:=x.thrown+n.toNat}) fun _=>rfl];lia
 | .sweep w=>by
  show(sweepCall s w).2.length+3*dq (sweepCall s w).1≤_;unfold sweepCall;dsimp only;refine nB_ ?_;show(rowOf _).length+3*dq {s with lots:=s.lots.map fun l=>if good s.today l=true then l else{l with free:=0,thrown:=l.thrown+l.free}}≤_;have h2:=h.gX;have h3:=nz (s:=s) (t:={s with lots:=s.lots.map fun l=>if good s.today l=true then l else{l with free:=0,thrown:=l.thrown+l.free}}) rfl fun l _=>by split<;>exact bo _
  have h4:=fN (fun l=>!good s.today l&&l.free != 0) s.lots;rw[c5,ay];lia
 | .count l m=>by
  show(countCall s l m).2.length+3*dq (countCall s l m).1≤_;unfold countCall;dsimp only;refine nB_ ?_;split;exact one;refine nB_ (nB_ ?_);show 2+3*dq (onLot s l.toNat _)≤_;rw[fD];lia;intro _;rfl
 | .recall l=>by
  show(recallCall s l).2.length+3*dq (recallCall s l).1≤_;unfold recallCall;refine nB_ ?_;split;exact one;rename_i x hx;refine nB_ ?_;show(rowOf x.uses++rowOf x.held).length+3*dq (callBack _ s)≤_;have h1:=rX (fun y=>y.id==l.toNat) s;have hl:=h.lots x (gK hx).1;have h2:=fB hl.held hl.hk;have h3:=fB hl.uses hl.uk;have h4:=h.o7;rw[dv,c5,c5];lia
 | .recallOf a d e=>by
  show(recallOfCall s a d e).2.length+3*dq (recallOfCall s a d e).1≤_;unfold recallOfCall;dsimp only;refine nB_ (nB_ (nB_ ?_));show(_::Vbdlal.ints _).length+3*dq (callBack _ s)≤_;have h1:=rX (fun y=>y.article==a.toNat&&(!y.called&&(decide (d.toNat≤y.day)&&decide (y.day≤e.toNat)))) s;have h2:=fN (fun y=>y.article==a.toNat&&(!y.called&&(decide (d.toNat≤y.day)&&decide (y.day≤e.toNat)))) s.lots;have h3:=h.gX;rw[cH,yK,ay];lia
 | .need a n=>by
  show(needCall s a n).length+3*dq s≤_;unfold needCall;split;simp_all<;>omega;split;simp_all<;>omega;rename_i hk;have ha:∃x∈s.articles,x.id=a.toNat:=dz.mp (by
   cases e:art s a.toNat with
   | none=>rw[e]at hk;exact absurd rfl hk
   | some x=>rfl)
  have:=dY h (n:=n.toNat) ha;rw[c5];lia
 | .able a=>by
  show(ableCall s a).length+3*dq s≤_;unfold ableCall;((repeat' split)<;>simp_all<;>omega)
 | .short a n=>by
  show(shortCall s a n).length+3*dq s≤_;unfold shortCall;split;simp;grind;split;simp;grind;rename_i hk;have ha:∃x∈s.articles,x.id=a.toNat:=dz.mp (by
   cases e:art s a.toNat with
   | none=>rw[e]at hk;exact absurd rfl hk
   | some x=>rfl)
  have h1:=dY h (n:=n.toNat) ha;have h2:=jI s (needs s.articles a.toNat n.toNat);rw[c5];lia
 | .shelf a=>by
  show(shelfCall s a).length+3*dq s≤_;unfold shelfCall;dsimp only;split;grind;split;grind;split;simp_all<;>omega;show 4+_≤_;lia
 | .lot l=>by
  show(lotCall s l).length+3*dq s≤_;unfold lotCall;split;grind;split;simp_all<;>omega;show 11+_≤_;lia
 | .who l=>by
  show(whoCall s l).length+3*dq s≤_;unfold whoCall;split;grind;split;simp;grind;rename_i x hx;have hl:=h.lots x (gK hx).1;have h3:=fB hl.uses hl.uk;have h4:=h.o7;rw[c5];lia
 | .uses k=>by
  show(usesCall s k).length+3*dq s≤_;unfold usesCall;split;grind;split;simp_all<;>omega;have h1:=lO s k.toNat;have h2:=h.gX;rw[c5];lia
 | .held k=>by
  show(heldCall s k).length+3*dq s≤_;unfold heldCall;split;grind;split;simp;grind;have h1:=qK s k.toNat;have h2:=h.gX;rw[dv,c5];simp;lia
 | .parts a=>by
  show(partsCall s a).length+3*dq s≤_;unfold partsCall;split;grind;split;grind;rename_i x hx;have:=(h.fw x (jF hx).1).len;rw[cH,c5];lia
 | .low=>by
  show(rowOf (lowOf s)).length+3*dq s≤_;have h1:(lowOf s).length≤s.articles.length:=by
   unfold lowOf;simp_all;grind -order
  have h2:=h.m6;rw[c5];lia
 | .soon d=>by
  show(soonCall s d).length+3*dq s≤_;unfold soonCall;dsimp only;split;grind;have h1:=fN (fun l=>good s.today l&&(l.free != 0&&decide (l.expiry≤s.today+d.toNat))) s.lots;have h2:=h.gX;rw[cH,AG,ay,(cW _).length_eq];lia
 | .lasts a q=>by
  show(lastsCall s a q).length+3*dq s≤_;unfold lastsCall;dsimp only;split;grind;split;grind;split;simp;grind;show 2+_≤_;lia
 | .reasons=>by
  show(Vbdlal.ints s.reasons).length+3*dq s≤_;have:=h.sF;rw[yK];lia
 | .cluster k=>by
  show(clusterCall s k).length+3*dq s≤_;unfold clusterCall;dsimp only;split;grind;split;grind;have h1:=uX s s.sessions.length [k.toNat] (by simp);have h2:=h.o7;show(_::Vbdlal.ints (cluster s k.toNat)).length+_≤_;rw[cH,yK];unfold cluster;lia
theorem f_ {f:Lot→Lot}(iA:∀l,(f l).id=l.id):∀(ids:List Nat) (s:St),ids.Nodup→ids.foldl (fun t i=>onLot t i f) s={s with lots:=s.lots.map fun l=>if l.id∈ids then f l else l}
 | [],s,_=>by simp
 | i::ids,s,hn=>by
  have jx:=fO.mp hn;rw[gZ,f_ iA ids _ jx.2];unfold onLot;dsimp only;rw[aV]
  congr 1
  refine cE fun l _=>?_;grind
def map_some {f:Lot→Lot}{ls:List Lot}{ids:List Nat}(h:∀l∈ls,l.id∉ids→f l=l):(ls.map fun l=>if l.id∈ids then f l else l)=ls.map f:=by simp_all
def rH {b:Bag}{k:Nat}(h:bL b)(e:bagOf b k=0):bagDrop b k=b:=by grind[Ie,jj,yH]
def hU {ls:List Lot}(hn:(ls.map (·.id)).Nodup)(p:Lot→Bool):((ls.filter p).map (·.id)).Nodup:=Nodup.sublist (Sublist.map _ Dq) hn
def oo {ls:List Lot}(hn:(ls.map (·.id)).Nodup){p:Lot→Bool}{l:Lot}(hl:l∈ls):l.id∈(ls.filter p).map (·.id)↔p l=true:=by (constructor<;>grind[kj])
def among (ids:List Nat):Lot→Bool:=fun l=>decide (l.id∈ids)
def iz {p q:Lot→Bool}{s:St}(h:∀l∈s.lots,p l=q l):dropWhere p s=dropWhere q s:=by
 have h1:dropped p s=dropped q s:=by
  unfold dropped;rw[Io h]
 unfold dropWhere;dsimp only;rw[h1];simp_all
def mM (p:Lot→Bool)(s:St)(k:Nat):((dropped p s).any fun t=>t.1==k)=true↔∃l∈s.lots,p l=true∧k∈keys l.held:=by
 unfold dropped;simp
theorem AQ {s:St}(ids:List Nat)(i:Nat)(hi:i∉ids):dropWhere (among [i]) (dropWhere (among ids) s)=dropWhere (among (ids++[i])) s:=by
 have hl:((s.lots.map fun l=>if among ids l=true then{l with free:=l.free+bagSum l.held,held:=[]}else l).map fun l=>if among [i] l=true then{l with free:=l.free+bagSum l.held,held:=[]}else l)=
   s.lots.map fun l=>if among (ids++[i]) l=true then{l with free:=l.free+bagSum l.held,held:=[]}else l:=by
  rw[aV];refine cE fun l _=>?_;simp only[Function.comp,among,iw,fK,BG];by_cases e:l.id=i;simp_all;lia
 show({s with lots:=_,sessions:=_}:St)={s with lots:=_,sessions:=_}
 congr 1
 show((s.sessions.map _).map _)=s.sessions.map _;rw[aV];refine cE fun x _=>?_;simp only[Function.comp];have iA:(if((dropped (among ids) s).any fun t=>t.1==x.id)=true then{x with broken:=true}else x).id=x.id:=by split<;>rfl
 rw[iA];have hor:((dropped (among (ids++[i])) s).any fun t=>t.1==x.id)=true↔((dropped (among ids) s).any fun t=>t.1==x.id)=true∨((dropped (among [i]) (dropWhere (among ids) s)).any fun t=>t.1==x.id)=true:=by
  rw[mM,mM,mM];constructor
  ·rintro⟨l,h1,h2,hk⟩;by_cases hm:l.id∈ids;constructor<;>grind[among];refine .inr ⟨l,?_,?_,hk⟩;exact aZ.mpr ⟨l,h1,by simp[among,hm]⟩;simp_all[among]
  rintro(⟨l,h1,h2,hk⟩|⟨l,h1,h2,hk⟩);grind[among];obtain⟨m,hm,e⟩:=aZ.mp (show l∈s.lots.map _ from h1);by_cases TC:among ids m=true;exfalso;grind;grind[among]
 (split<;>grind)
def z0 (s:St):dropWhere (among []) s=s:=by
 have h1:(s.lots.map fun l=>if among [] l=true then{l with free:=l.free+bagSum l.held,held:=[]}else l)=s.lots:=by simp[jm,cE,among]
 have h2:dropped (among []) s=[]:=by simp[dropped,among,MS]
 unfold dropWhere;simp_all
def tP {s:St}(hn:(s.lots.map (·.id)).Nodup)(p:Lot→Bool):∀l∈s.lots,among ((s.lots.filter p).map (·.id)) l=p l:=fun l hl=>by simp_all[among,oo]
def drop_one (s:St){l:Lot}(hl:l∈s.lots)(hn:(s.lots.map (·.id)).Nodup):dropWhere (among [l.id]) s=
  {s with lots:=s.lots.map fun m=>if(m.id==l.id)=true then{m with free:=m.free+bagSum m.held,held:=[]}else m,sessions:=s.sessions.map fun x=>if x.id∈keys l.held then{x with broken:=true}else x}:=by
 have e1:dropped (among [l.id]) s=l.held.map fun h=>(h.1,l.id,h.2):=by
  unfold dropped;have:s.lots.filter (among [l.id])=[l]:=by
   have h1:s.lots.filter (among [l.id])=s.lots.filter fun m=>m.id==l.id:=Io fun m _=>by
    unfold among;simp;grind
   rw[h1];generalize s.lots=ls at hl hn
   induction ls with
   | nil=>simp at hl
   | cons x r ih=>
    have jx:=fO.mp hn;rw[jP];rcases bM.mp hl with e|q;simp_all;simp_all;grind
  rw[this];simp
 unfold dropWhere;dsimp only;rw[e1];have h1:(s.lots.map fun m=>if among [l.id] m=true then{m with free:=m.free+bagSum m.held,held:=[]}else m)=s.lots.map fun m=>if(m.id==l.id)=true then{m with free:=m.free+bagSum m.held,held:=[]}else m:=by simp[among]
 have h2:(s.sessions.map fun x=>if((l.held.map fun h=>(h.1,l.id,h.2)).any fun t=>t.1==x.id)=true then{x with broken:=true}else x)=s.sessions.map fun x=>if x.id∈keys l.held then{x with broken:=true}else x:=by
  refine cE fun x _=>?_;have:((l.held.map fun h=>(h.1,l.id,h.2)).any fun t=>t.1==x.id)=true↔x.id∈keys l.held:=by simp
  lia
 rw[h1,h2]
def zk {s:St}{ids:List Nat}{l:Lot}(hl:l∈s.lots)(h:l.id∉ids):l∈(dropWhere (among ids) s).lots:=aZ.mpr ⟨l,hl,by simp[among,h]⟩
theorem AZ:∀(r:List Nat) (k a b:Nat),addAt (addAt r k a) k b=addAt r k (a+b)
 | [],_,_,_=>rfl
 | x::r,0,a,b=>by show(x+a+b)::r=(x+(a+b))::r;rw[Nat.add_assoc]
 | x::r,k+1,a,b=>by show x::addAt (addAt r k a) k b=x::addAt r k (a+b);rw[AZ r k a b]
theorem yl:∀(r:List Nat) (k:Nat),addAt r k 0=r
 | [],_=>rfl
 | x::r,0=>rfl
 | x::r,k+1=>by show x::addAt r k 0=_;rw[yl r k]
theorem EU:∀{r:List Nat} {k a x:Nat},r[k]? =some x→addAt r k a=r.set k (x+a)
 | [],k,a,x,h=>by simp at h
 | y::r,0,a,x,h=>by
  have e:y=x:=by simpa using h
  subst e;rfl
 | y::r,k+1,a,x,h=>by
  show y::addAt r k a=y::r.set k (x+a);rw[EU (r:=r) (k:=k) (by simpa using h)]
def arity (p:Nat):Nat:=(VbdlalNeutral.shape p).elim 0 (·.1)
def Ms (p:Int):PyVbdlal.shape p=if 0≤p then VbdlalNeutral.shape p.toNat else none:=by
 by_cases h:0≤p∧p≤30
 ·obtain⟨n,rfl⟩:=Int.eq_ofNat_of_zero_le h.1;have hn:n≤30:=by have:=h.2;lia
  rw[aw h.1];have:∀n:Nat,n≤30→PyVbdlal.shape (n:Int)=VbdlalNeutral.shape (n:Int).toNat:=by decide
  exact this n hn
 have h1:PyVbdlal.shape p=none:=by
  unfold PyVbdlal.shape
  repeat(first|rw[ak (by omega)]|rfl)
 rw[h1];by_cases h0:0≤p
 ·rw[aw h0];have:∃k,p.toNat=k+31:=⟨p.toNat-31,by lia⟩;obtain⟨k,e⟩:=this;rw[e];rfl
 rw[ak h0]
def Shaped (c:List (List Int)):Prop:=∃(p:Nat) (args:List Int) (rows:List (List Int)),c=((p:Int)::args)::rows∧p≤30∧args.length=arity p∧(p≠3→rows=[])∧(p=3→∃r,rows=[r])
def Ew {z:Int}:whole64 z=true↔ -9223372036854775808≤z∧z≤9223372036854775807:=by
 unfold whole64;simp
def QT (z:Int):Prop:= -9223372036854775808≤z∧z≤9223372036854775807
theorem Gh {n:Nat}(h:n≤1000):QT (n:Int):=⟨by (constructor<;>omega),by lia⟩
theorem MQ {z:Int}(h:whole64 z=true):QT z:=Ew.mp h
def Wz (p:Nat):Prop:=∀args rows,args.length=arity p→(p≠3→rows=[])→(p=3→∃r,rows=[r])→PyVbdlal.whole (((p:Int)::args)::rows)=((p:Int)::args)::rows∧(asked1 (((p:Int)::args)::rows)=true→∀x∈numbers (((p:Int)::args)::rows),QT x)
def Wq {p n:Nat}(d:p≤30∧p≠3∧arity p=n)(q:∀l:List Int,l.length=n→PyVbdlal.whole [(p:Int)::l]=[(p:Int)::l]∧(asked1 [(p:Int)::l]=true→∀x∈l,whole64 x=true)):Wz p:=by
 intro l rows ha h0 _;cases h0 d.2.1;obtain⟨e,a⟩:=q l (ha.trans d.2.2);refine⟨e,fun h x hx=>?_⟩;simp[numbers]at hx;rcases hx with e|hx;rw[e];exact Gh (Nat.le_trans d.1 (by decide));exact MQ (a h x hx)
def W1 {p:Nat}(e:∀x,PyVbdlal.whole [[(p:Int),x]]=[[(p:Int),x]]∧asked1 [[(p:Int),x]]=whole64 x)(d:p≤30∧p≠3∧arity p=1:=by decide):Wz p:=Wq d fun
 | [x],_=>by simp[e]
def W2 {p:Nat}(e:∀x y,PyVbdlal.whole [[(p:Int),x,y]]=[[(p:Int),x,y]]∧asked1 [[(p:Int),x,y]]=(whole64 x&&whole64 y))(d:p≤30∧p≠3∧arity p=2:=by decide):Wz p:=Wq d fun
 | [x,y],_=>by simp[e]
def W3 {p:Nat}(e:∀x y z,PyVbdlal.whole [[(p:Int),x,y,z]]=[[(p:Int),x,y,z]]∧asked1 [[(p:Int),x,y,z]]=(whole64 x&&(whole64 y&&whole64 z)))(d:p≤30∧p≠3∧arity p=3:=by decide):Wz p:=Wq d fun
 | [x,y,z],_=>by simp[e]
def Wt:∀p≤30,Wz p
 | 0,_|5,_|6,_|9,_|10,_|13,_|15,_|18,_|20,_|21,_|22,_|23,_|24,_|25,_|27,_|30,_=>W1 fun _=>⟨rfl,rfl⟩
 | 1,_|2,_|14,_|17,_|19,_|28,_=>W2 fun _ _=>⟨rfl,rfl⟩
 | 4,_=>Wq (n:=4) (by decide) fun | [x,y,z,w],_=>⟨rfl,fun(h:(whole64 x&&(whole64 y&&(whole64 z&&whole64 w)))=true)=>by simp_all⟩
 | 7,_|8,_|11,_|12,_|16,_=>W3 fun _ _ _=>⟨rfl,rfl⟩
 | 26,_|29,_=>Wq (n:=0) (by decide) fun | [],_=>⟨rfl,by simp⟩
 | 3,_=>fun l _ ha _ h=>by
  obtain⟨r,rfl⟩:=h rfl
  match l,ha with
  | [x0],_=>
   refine⟨rfl,fun h x hx=>?_⟩;have h:(whole64 x0&&row r 97)=true:=h;unfold row at h;rw[cy,cy,iw,dr]at h;simp[numbers]at hx;rcases hx with e|hx;rw[e];exact Gh (by decide);simp_all;grind[MQ,Gh]
 | n+31,hp=>by lia
def tH {c:List (List Int)}(h:Shaped c):PyVbdlal.whole c=c∧(asked1 c=true→∀x∈numbers c,QT x):=by
 obtain⟨p,l,w,rfl,hp,a,b,c⟩:=h;exact Wt p hp l w a b c
structure Chunk (ch:List Int):Prop where
 bound:∀x∈ch, -9223372036854775808≤x∧x≤9223372036854775807
 QV:∃(p:Nat) (args:List Int),ch=(p:Int)::args∧p≤30∧(p≠3→args.length=arity p)∧(p=3→∃a ps,args=a::(ps.length:Int)::ps∧ps.length≤97)
theorem call_of {l:List Int}{c:List (List Int)}{t:List Int}(h:PyFlat.call PyVbdlal.shape l=some (c,t)):
  l=numbers c++t∧∃(p:Nat) (args:List Int) (rows:List (List Int)),c=((p:Int)::args)::rows∧p≤30∧args.length=arity p∧(p≠3→rows=[])∧(p=3→∃r,rows=[r]):=by
 unfold PyFlat.call at h;cases l with
 | nil=>simp at h
 | cons p r=>
  simp only at h;rw[Ms]at h;by_cases h0:0≤p
  ·rw[aw h0]at h;obtain⟨n,rfl⟩:=Int.eq_ofNat_of_zero_le h0;rw[cY]at h;cases hs:VbdlalNeutral.shape n with
   | none=>rw[hs]at h;simp at h
   | some x=>
    rw[hs]at h;obtain⟨m,k⟩:=x;simp only at h;have hn:n≤30:=by
     refine Nat.le_of_not_lt fun q=>?_;obtain⟨j,e⟩:∃j,n=j+31:=⟨n-31,by grind⟩;rw[e]at hs;cases hs
    have hm:arity n=m:=by unfold arity;rw[hs];rfl
    split at h;cases h;rename_i hlen;have hk:(n≠3→k=0)∧(n=3→k=1):=by
     have:∀n:Nat,n≤30→∀m k,VbdlalNeutral.shape n=some (m,k)→(n≠3→k=0)∧(n=3→k=1):=by
      intro n hn;have:∀n:Nat,n≤30→(VbdlalNeutral.shape n).all (fun x=>(n==3||x.2==0)&&(!(n==3)||x.2==1))=true:=by decide
      (intros;grind)
     grind
    have sk:(r.take m).length=m:=by rw[lz];lia
    by_cases h3:n=3
    ·have k1:=hk.2 h3;subst k1;unfold PyFlat.rows at h;cases hr:PyFlat.row (r.drop m)with
     | none=>rw[hr]at h;simp at h
     | some y=>
      rw[hr]at h;obtain⟨x,s⟩:=y;unfold PyFlat.rows at h;simp only[Cj,Prod.mk.injEq]at h;obtain⟨e1,e2⟩:=h;subst e1 e2;unfold PyFlat.row at hr;cases hd:r.drop m with
      | nil=>rw[hd]at hr;simp at hr
      | cons z w=>
       rw[hd]at hr;simp only at hr;split at hr
       ·rename_i hz;cases hr;refine⟨?_,n,r.take m,[w.take z.toNat],rfl,hn,by rw[sk,hm],fun q=>absurd h3 q,fun _=>⟨_,rfl⟩⟩;show(n:Int)::r=((n:Int)::r.take m++[w.take z.toNat].flatMap fun x=>(x.length:Int)::x)++w.drop z.toNat;have hzl:((w.take z.toNat).length:Int)=z:=by rw[lz];lia
        simp only[HP,List.flatMap_nil,mr,LU,AS];rw[hzl]
        congr 1
        conv=>lhs;rw[←KI m r,hd]
        simp
       cases hr
    have k0:=hk.1 h3;subst k0;unfold PyFlat.rows at h;simp only[Cj,Prod.mk.injEq]at h;obtain⟨e1,e2⟩:=h;subst e1 e2;refine⟨?_,n,r.take m,[],rfl,hn,by rw[sk,hm],fun _=>rfl,fun q=>absurd q h3⟩;show(n:Int)::r=((n:Int)::r.take m++[].flatMap fun x=>(x.length:Int)::x)++r.drop m;simp
  simp_all
theorem Df:∀(f:Nat) (l:List Int) (cs:List (List (List Int))),PyFlat.calls PyVbdlal.shape f l=some cs→
  l=(cs.map numbers).flatten∧∀c∈cs,∃(p:Nat) (args:List Int) (rows:List (List Int)),c=((p:Int)::args)::rows∧p≤30∧args.length=arity p∧(p≠3→rows=[])∧(p=3→∃r,rows=[r])
 | f,[],cs,h=>by
  unfold PyFlat.calls at h;simp_all
 | 0,_::_,cs,h=>by
  unfold PyFlat.calls at h;cases h
 | f+1,p::r,cs,h=>by
  unfold PyFlat.calls at h;cases hc:PyFlat.call PyVbdlal.shape (p::r)with
  | none=>rw[hc]at h;simp at h
  | some y=>
   obtain⟨c,t⟩:=y;rw[hc]at h;simp only at h;cases ht:PyFlat.calls PyVbdlal.shape f t with
   | none=>rw[ht]at h;simp at h
   | some ds=>
    rw[ht]at h;simp only[Cj]at h;subst h;obtain⟨h1,h2⟩:=call_of hc;obtain⟨h3,h4⟩:=Df f t ds ht;grind -order
theorem AD:∀(cs:List (List (List Int))) (s:St),PyFlat.played VbdlalNeutral.step s cs=answersFrom s (cs.map numbers)
 | [],_=>rfl
 | c::cs,s=>by
  show(stepRaw s (numbers c)).2::PyFlat.played VbdlalNeutral.step (stepRaw s (numbers c)).1 cs=_;rw[AD cs];rfl
theorem F5:arity 3=1:=rfl
def parse {l:List Int}(h:answers_asked l=true):∃fI:List (List Int),l=fI.flatten∧1≤fI.length∧fI.length≤400∧(∀ch∈fI,Chunk ch)∧PyVbdlal.answers l=PyFlat.told (answersFrom start fI):=by
 unfold answers_asked at h;unfold PyVbdlal.answers;unfold calls at h ⊢;cases hc:PyFlat.calls PyVbdlal.shape l.length l with
 | none=>rw[hc]at h;simp at h
 | some cs=>
  rw[hc]at h;simp only at h ⊢;obtain⟨h3,h4⟩:=Df _ _ _ hc;have hw:cs.map PyVbdlal.whole=cs:=by
   conv=>rhs;rw[←jm cs]
   exact cE fun c M5=>(tH (h4 c M5)).1
  rw[hw]at h ⊢;rw[cy]at h;have h2:=h.2;unfold asked at h2;rw[cy,iw,dr]at h2;refine⟨cs.map numbers,h3,by rw[ay];exact h2.1.1,by rw[ay];exact h2.1.2,fun ch CO=>?_,?_⟩
  ·obtain⟨c,M5,e⟩:=aZ.mp CO;subst e;obtain⟨p,args,rows,e,hp,ha,MZ,VX⟩:=h4 c M5;have hq:=h2.2 c M5;have hb:∀x∈numbers c, -9223372036854775808≤x∧x≤9223372036854775807:=(tH (h4 c M5)).2 hq;subst e;by_cases h3:p=3
   ·obtain⟨r,er⟩:=VX h3;subst er h3;rw[F5]at ha
    match args,ha with
    | [a],_=>
     have hq:(whole64 a&&(row r 97))=true:=hq;rw[cy]at hq;have hr:=hq.2;unfold row at hr;rw[cy,iw]at hr;exact⟨hb,3,[a,(r.length:Int)]++r,by simp[numbers],by omega,fun z=>absurd rfl z,fun _=>⟨a,r,rfl,hr.1⟩⟩
   have er:=MZ h3;subst er;exact⟨hb,p,args,by simp[numbers],hp,fun _=>ha,fun z=>absurd z h3⟩
  show PyFlat.told (PyFlat.played VbdlalNeutral.step start cs)=_;rw[AD]
def fW (D t e:Nat):Nat:=min (e+1-t) D
def df (D t q:Nat)(z:Nat×Nat)(p:Nat×Nat):Nat×Nat:=
 (z.1+min p.2 (fW D t p.1*q-z.1),if fW D t p.1<D then z.2+(p.2-min p.2 (fW D t p.1*q-z.1))else z.2)
def c9 (D t q:Nat)(l:List (Nat×Nat))(z:Nat×Nat):Nat×Nat:=l.foldl (df D t q) z
def t7 {D t e:Nat}(h:t≤e):fW (D+1) t e=fW D (t+1) e+1:=by
 simp only[fW];lia
def E4 {D t q:Nat}{l:List (Nat×Nat)}(hl:∀p∈l,t≤p.1)(a b:Nat):c9 (D+1) t q l (a+q,b)=((c9 D (t+1) q l (a,b)).1+q,(c9 D (t+1) q l (a,b)).2):=by
 induction l generalizing a b with
 | nil=>rfl
 | cons p r ih=>
  have h1:=t7 (D:=D) (hl p (cQ ..));have hr:∀p∈r,t≤p.1:=fun x hx=>hl x (cP _ hx);simp only[c9,gZ]at *;have e:df (D+1) t q (a+q,b) p=((df D (t+1) q (a,b) p).1+q,(df D (t+1) q (a,b) p).2):=by
   simp only[df,h1,FC];have:fW D (t+1) p.1*q+q-(a+q)=fW D (t+1) p.1*q-a:=by lia
   (simp_all;lia)
  rw[e,ih hr]
theorem JF {D t q:Nat}{l:List (Nat×Nat)}(hl:∀p∈l,t≤p.1)(a b n:Nat)(hn:a+n=q)(ht:n≤total (l.map fun p=>p.2)):
  c9 (D+1) t q l (a,b)=((c9 D (t+1) q (eat l n) (0,b)).1+q,(c9 D (t+1) q (eat l n) (0,b)).2):=by
 induction l generalizing a b n with
 | nil=>simp_all[total,c9,eat]
 | cons p r ih=>
  obtain⟨e,f⟩:=p;have h1:fW (D+1) t e=fW D (t+1) e+1:=t7 (D:=D) (hl (e,f) (cQ ..));have hr:∀p∈r,t≤p.1:=fun x hx=>hl x (cP _ hx);simp only[bF,bJ]at ht;simp only[eat];by_cases hf:f≤n
  ·rw[aw hf];have e1:df (D+1) t q (a,b) (e,f)=(a+f,b):=by (simp[Nat.succ_mul,df];(simp_all;grind[Nat.succ_mul,df]))
   show c9 (D+1) t q r (df (D+1) t q (a,b) (e,f))=_;rw[e1];exact ih hr (a+f) b (n-f) (by lia) (by clear h1 hn;(simp;lia))
  rw[ak hf];have e1:df (D+1) t q (a,b) (e,f)=((df D (t+1) q (0,b) (e,f-n)).1+q,(df D (t+1) q (0,b) (e,f-n)).2):=by
   have hm:min f (fW (D+1) t e*q-a)=n+min (f-n) (fW D (t+1) e*q-0):=by
    rw[h1,FC];lia
   have e2:(fW D (t+1) e+1<D+1)=(fW D (t+1) e<D):=by simp
   simp only[df,hm];lia
  show c9 (D+1) t q r (df (D+1) t q (a,b) (e,f))=_;rw[e1,E4 hr];rfl
def FO {D t q:Nat}(l:List (Nat×Nat))(a b:Nat):
  c9 (D+1) t q l (a,b)=c9 (D+1) t q (l.filter fun p=>decide (t≤p.1)) (a,b+total ((l.filter fun p=>decide (p.1<t)).map fun p=>p.2)):=by
 have gen:∀(l:List (Nat×Nat)) (a b:Nat),c9 (D+1) t q l (a,b)=c9 (D+1) t q (l.filter fun p=>decide (t≤p.1)) (a,b+total ((l.filter fun p=>decide (p.1<t)).map fun p=>p.2)):=by
  intro l
  induction l with
  | nil=>intro a b;rfl
  | cons p r ih=>
   intro a b;by_cases h:t≤p.1
   ·have h2:¬p.1<t:=by (simp;omega)
    rw[MC (by simpa using h),Lh (by simpa using h2)];show c9 (D+1) t q r (df (D+1) t q (a,b) p)=c9 (D+1) t q _ (df (D+1) t q (a,b+_) p);rw[show df (D+1) t q (a,b) p=((df (D+1) t q (a,b) p).1,(df (D+1) t q (a,b) p).2)from rfl,ih]
    congr 1
    simp only[df];split<;>simp<;>omega
   have h2:p.1<t:=by lia
   rw[Lh (by simpa using h),MC (by simpa using h2)];simp only[bF,bJ];show c9 (D+1) t q r (df (D+1) t q (a,b) p)=_;have hd:fW (D+1) t p.1=0:=by simp only[fW];simp_all;omega
   have e1:df (D+1) t q (a,b) p=(a,b+p.2):=by simp[df,hd]
   (simp_all;lia)
 exact gen l a b
theorem JY {D t q:Nat}{l:List (Nat×Nat)}(hl:∀p∈l,t≤p.1)(a b:Nat)(ht:a+total (l.map fun p=>p.2)<q):
  c9 (D+1) t q l (a,b)=(a+total (l.map fun p=>p.2),b):=by
 induction l generalizing a b with
 | nil=>rfl
 | cons p r ih=>
  have h1:=t7 (D:=D) (hl p (cQ ..));simp only[bF,bJ]at ht ⊢;have hm:min p.2 (fW (D+1) t p.1*q-a)=p.2:=by rw[h1,FC];lia
  show c9 (D+1) t q r (df (D+1) t q (a,b) p)=_;have e1:df (D+1) t q (a,b) p=(a+p.2,b):=by simp only[df,hm];simp
  (simp_all;grind)
def DJ (D:Nat):∀(t q:Nat) (_:0<q) (l:List (Nat×Nat)) (b:Nat),serve D t q l b=((c9 D t q l (0,b)).1/q,(c9 D t q l (0,b)).2):=by
 induction D with
 | zero=>
  intro t q hq l b;have:∀(l:List (Nat×Nat)) (b:Nat),c9 0 t q l (0,b)=(0,b):=by
   intro l
   induction l with
   | nil=>intro b;rfl
   | cons p r ih=>intro b;show c9 0 t q r (df 0 t q (0,b) p)=_;rw[show df 0 t q (0,b) p=(0,b) by simp[df,fW],ih]
  rw[this];simp[serve]
 | succ D ih=>
  intro t q hq l b;simp only[serve];rw[FO l 0 b];generalize hb:b+total ((l.filter fun p=>decide (p.1<t)).map fun p=>p.2)=g;have fi:∀p∈(l.filter fun p=>decide (t≤p.1)),t≤p.1:=fun p hp=>by simpa using(eC.1 hp).2
  generalize(l.filter fun p=>decide (t≤p.1))=m at fi ⊢;by_cases h:total (m.map fun p=>p.2)<q;grind[JY,Nat.div_eq_of_lt];rw[ak h,JF fi 0 g q (by lia) (by lia),ih (t+1) q hq];simp_all
def Nm {D t:Nat}{e e':Nat}(h:e≤e'):fW D t e≤fW D t e':=by simp only[fW];omega
def Mx {D t q:Nat}{z p:Nat×Nat}(h:z.1≤fW D t p.1*q):(df D t q z p).1≤fW D t p.1*q:=by
 simp only[df];omega
def Cw (s:St)(X:Nat→Prop):Prop:=∀l∈s.lots,∀x∈keys l.uses,X x→∀y∈keys l.uses,X y
structure yn (s:St)(k:Nat)(c:List Nat):Prop where
 one:k∈c
 Xg:Cw s (·∈c)
 least:∀X:Nat→Prop,Cw s X→X k→∀y∈c,X y
def yn.mem {s:St}{k:Nat}{c d:List Nat}(h:yn s k c)(h':yn s k d)(y:Nat):y∈c↔y∈d:=⟨h.least _ h'.Xg h'.one y,h'.least _ h.Xg h.one y⟩
theorem AY:∀{l m:List Nat},l.Pairwise (· < ·)→m.Pairwise (· < ·)→(∀y,y∈l↔y∈m)→l=m
 | [],[],_,_,_=>rfl
 | [],b::m,_,_,h=>absurd ((h b).2 (cQ ..)) (by simp)
 | a::l,[],_,_,h=>absurd ((h a).1 (cQ ..)) (by simp)
 | a::l,b::m,hl,hm,h=>by
  have fi:=dH.1 hl;have QL:=dH.1 hm;have e:a=b:=by grind -order[mem_cons_self]
  subst e;rw[AY fi.2 QL.2 fun y=>?_];constructor<;>grind
def wz {b:Bag}(h:bL b){k:Nat}:k∈keys b↔bagOf b k≠0:=by
 have:=eM h k;constructor;grind[de];intro e;rw[ak e]at this;exact aZ.2 ⟨_,r_ this,rfl⟩
def oM {s:St}(h:aM s){set:List Nat}{y:Nat}:y∈grown s set↔(∃x∈s.sessions,x.id=y)∧(y∈set∨∃l∈s.lots,(∃x∈keys l.uses,x∈set)∧y∈keys l.uses):=by
 simp only[grown,eC,aZ,Bool.or_eq_true,List.contains_iff_mem,xE,bne_iff_ne];constructor
 ·rintro⟨hy,h1|⟨l,⟨hl,u,hu,hs⟩,hb⟩⟩
  ·simp_all
  exact⟨hy,Or.inr ⟨l,hl,⟨u.1,⟨u,hu,rfl⟩,hs⟩,aZ.1 ((wz (h.lots l hl).uses).2 hb)⟩⟩
 rintro⟨hy,h1|⟨l,hl,⟨x,hx,hs⟩,hb⟩⟩;simp_all;obtain⟨u,hu,e⟩:=hx;exact⟨hy,Or.inr ⟨l,⟨hl,u,hu,by rw[e];exact hs⟩,(wz (h.lots l hl).uses).1 (aZ.2 hb)⟩⟩
def Du {s:St}(h:aM s)(set:List Nat):(grown s set).Pairwise (· < ·):=by
 refine Pairwise.sublist Dq ?_;rw[hY];exact h.J5
theorem sub_len:∀{l m:List Nat},l.Pairwise (· < ·)→m.Pairwise (· < ·)→(∀y∈l,y∈m)→l.length≤m.length∧(l.length=m.length→l=m)
 | [],[],_,_,_=>⟨bo _,fun _=>rfl⟩
 | [],b::m,_,_,_=>⟨by simp,fun h=>absurd h (by trivial)⟩
 | a::l,[],_,_,h=>absurd (h a (cQ ..)) (by simp)
 | a::l,b::m,hl,hm,h=>by
  have fi:=dH.1 hl;have QL:=dH.1 hm;by_cases e:a=b
  ·subst e;have:=sub_len fi.2 QL.2 fun y hy=>by grind
   simp_all
  have ha:a∈m:=by simp_all
  have hb:=QL.1 a ha;have:=sub_len hl QL.2 fun y hy=>by grind -order
  grind
theorem qe {s:St}(h:aM s){k:Nat}:∀(n:Nat) (set:List Nat),set.Pairwise (· < ·)→(∀x∈set,∃y∈s.sessions,y.id=x)→k∈set→
  (∀X:Nat→Prop,Cw s X→X k→∀y∈set,X y)→s.sessions.length<n+set.length→yn s k (closure s n set)∧(closure s n set).Pairwise (· < ·)
 | 0,set,hs,hi,_,_,hn=>by
  have h1:(s.sessions.map (·.id)).Pairwise (· < ·):=by rw[hY];exact h.J5
  have:=(sub_len hs h1 fun y hy=>by obtain⟨z,hz,e⟩:=hi y hy;exact aZ.2 ⟨z,hz,e⟩).1;simp_all;grind
 | n+1,set,hs,hi,hk,hX,hn=>by
  have KR:∀y∈set,y∈grown s set:=fun y hy=>(oM h).2 ⟨hi y hy,Or.inl hy⟩;have hl:=sub_len hs (Du h set) KR;simp only[closure];by_cases e:(grown s set).length=set.length
  ·rw[aw e];have eg:set=grown s set:=hl.2 e.symm;refine⟨⟨hk,?_,hX⟩,hs⟩;intro l fi x hx WO y hy;show y∈set;rw[eg];obtain⟨p,hp,ep⟩:=aZ.1 hy;exact(oM h).2 ⟨by rw[←ep];exact(h.lots l fi).uk p hp,Or.inr ⟨l,fi,⟨x,hx,WO⟩,hy⟩⟩
  rw[ak e];refine qe h n _ (Du h set) (fun x hx=>((oM h).1 hx).1) (KR k hk) ?_ (by have:=hl.1;(clear hl;lia));intro X hc Xk y hy;rcases((oM h).1 hy).2 with h1|⟨l,fi,⟨x,hx,WO⟩,h2⟩;simp_all;exact hc l fi x hx (hX X hc Xk x WO) y h2
def j0 {s:St}(h:aM s){k:Nat}(hk:∃x∈s.sessions,x.id=k):yn s k (cluster s k)∧(cluster s k).Pairwise (· < ·):=
 qe h _ [k] (by simp) (fun x hx=>by simp at hx;subst hx;exact hk) (by simp) (fun X _ hX y hy=>by simp at hy;subst hy;exact hX) (by simp)
def Gy {s:St}(h:aM s){k:Nat}(hk:∃x∈s.sessions,x.id=k){c:List Nat}(hc:yn s k c)(hu:c.Pairwise (· < ·)):c=cluster s k:=
 AY hu (j0 h hk).2 fun y=>hc.mem (j0 h hk).1 y
structure Reach (s:St)(k:Nat)(R W L:List Nat)(x:Option Nat)(P:List Nat):Prop where
 one:k∈R
 nd:R.Nodup
 wait:∀y∈W,y∈R
 ids:∀y∈R,∃z∈s.sessions,z.id=y
 looked:∀l∈s.lots,l.id∈L→∀y∈keys l.uses,y∈R
 fin:∀y∈R,y∉W→x≠some y→∀l∈s.lots,y∈keys l.uses→l.id∈L
 here:∀y,x=some y→y∈R
 so:∀i∈P,i∈L
 least:∀X:Nat→Prop,Cw s X→X k→∀y∈R,X y
def Reach.start {s:St}{k:Nat}(hk:∃x∈s.sessions,x.id=k):Reach s k [k] [k] [] none []:=
 ⟨by simp,by simp,by lia,fun y hy=>by simp at hy;subst hy;exact hk,by grind,fun y hy hn=>by simp at hy;subst hy;simp at hn,by lia,by decide,fun X _ hX y hy=>by simp at hy;subst hy;exact hX⟩
def Reach.pop {s:St}{k:Nat}{R W L:List Nat}{x:Nat}(h:Reach s k R (W++[x]) L none []):Reach s k R W L (some x) []:=
 ⟨h.one,h.nd,fun y hy=>h.wait y (h_ _ hy),h.ids,h.looked,fun y hy hn hx l hl hu=>h.fin y hy (fun hm=>by
   rcases fK.1 hm with e|e;exact hn e
   ·simp at e;subst e;exact hx rfl) (by simp) l hl hu,fun y e=>by cases e;exact h.wait x (by simp),by simp,h.least⟩
def Reach.skip {s:St}{k:Nat}{R W L P:List Nat}{x:Nat}(h:Reach s k R W L (some x) P){i:Nat}(hi:i∈L):Reach s k R W L (some x) (P++[i]):=
 ⟨h.one,h.nd,h.wait,h.ids,h.looked,h.fin,h.here,fun j hj=>by
  rcases fK.1 hj with e|e;exact h.so j e
  ·simp at e;subst e;exact hi,h.least⟩
def Reach.more {s:St}(ok:aM s){k:Nat}{R W L P:List Nat}{x:Nat}(h:Reach s k R W L (some x) P){l:Lot}(hl:l∈s.lots)(hx:x∈keys l.uses){f:List Nat}(hn:f.Nodup)
  (hf:∀y,y∈f↔y∈keys l.uses∧y∉R):Reach s k (R++f) (W++f) (L++[l.id]) (some x) (P++[l.id]):=by
 have hi:∀y∈f,∃z∈s.sessions,z.id=y:=fun y hy=>by
  obtain⟨p,hp,e⟩:=aZ.1 ((hf y).1 hy).1;rw[←e];exact(ok.lots l hl).uk p hp
 refine⟨h_ _ h.one,?_,?_,?_,?_,?_,fun y e=>h_ _ (h.here y e),?_,?_⟩;exact BA.2 ⟨h.nd,hn,fun a ha b hb e=>by subst e;exact((hf a).1 hb).2 ha⟩
 ·intro y hy;rcases fK.1 hy with e|e;exact h_ _ (h.wait y e);grind
 ·intro y hy;rcases fK.1 hy with e|e;exact h.ids y e;exact hi y e
 ·intro m hm TC y hy;rcases fK.1 TC with e|e;exact h_ _ (h.looked m hm e y hy);simp at e;have:m=l:=kj ok.iK hm hl e;grind
 ·intro y hy hw eP m hm hu;have hyR:y∈R:=by grind
  exact h_ _ (h.fin y hyR (fun e=>hw (h_ _ e)) eP m hm hu)
 ·intro i hi;rcases fK.1 hi with e|e;exact h_ _ (h.so i e);grind
 intro X hc hk y hy;rcases fK.1 hy with e|e;exact h.least X hc hk y e;exact hc l hl x hx (h.least X hc hk x (h.here x rfl)) y ((hf y).1 e).1
def Reach.through {s:St}{k:Nat}{R W L P:List Nat}{x:Nat}(h:Reach s k R W L (some x) P)(hp:∀l∈s.lots,x∈keys l.uses→l.id∈P):Reach s k R W L none []:=
 ⟨h.one,h.nd,h.wait,h.ids,h.looked,fun y hy hw _ l hl hu=>by
  by_cases e:y=x;subst e;exact h.so _ (hp l hl hu)
  ·exact h.fin y hy hw (fun e'=>e (cV e').symm) l hl hu,by lia,by simp,h.least⟩
theorem xW:∀{l m:List Nat},l.Nodup→(∀y∈l,y∈m)→l.length≤m.length
 | [],_,_,_=>fJ _
 | a::l,m,hn,h=>by
  have jx:=fO.1 hn;have:=xW (m:=m.erase a) jx.2 fun y hy=>(List.mem_erase_of_ne (fun e=>by subst e;exact jx.1 hy)).2 (h y (cP _ hy));simp_all;grind
def Reach.len {s:St}{k:Nat}{R W L P:List Nat}{x:Option Nat}(h:Reach s k R W L x P):R.length≤s.sessions.length:=by
 have:=xW (m:=s.sessions.map (·.id)) h.nd fun y hy=>by obtain⟨z,hz,e⟩:=h.ids y hy;exact aZ.2 ⟨z,hz,e⟩
 simpa using this
def Reach.end_ {s:St}{k:Nat}{R L:List Nat}(h:Reach s k R [] L none []):yn s k R:=
 ⟨h.one,fun l hl x hx hxR y hy=>h.looked l hl (h.fin x hxR (by simp) (by simp) l hl hx) y hy,h.least⟩
noncomputable def nk (ids:List Nat)(s:St):St:={s with lots:=s.lots.map fun l=>if among ids l=true then{l with called:=true}else l}
def pk (ids:List Nat)(s:St):callBack (among ids) s=nk ids (dropWhere (among ids) s):=rfl
def Gu (ids J:List Nat)(l:Lot):among J (if among ids l=true then{l with called:=true}else l)=among J l:=by split<;>rfl
def Bk (ids J:List Nat)(s:St):dropped (among J) (nk ids s)=dropped (among J) s:=by
 unfold dropped nk;dsimp only;rw[vp,List.flatMap_map,show(among J∘fun l:Lot=>if among ids l=true then{l with called:=true}else l)=among J from funext fun l=>Gu ids J l];grind
def Jy (ids J:List Nat)(s:St):dropWhere (among J) (nk ids s)=nk ids (dropWhere (among J) s):=by
 have e:=Bk ids J s;unfold dropWhere;dsimp only;rw[e];unfold nk;dsimp only
 congr 1
 rw[aV,aV];refine cE fun l _=>?_;simp only[Function.comp,among];lia
def T8 (b c:Bool)(l:Lot):(if c=true then{(if b=true then{l with called:=true}else l)with called:=true}else(if b=true then{l with called:=true}else l))=if(b||c)=true then{l with called:=true}else l:=by ((repeat' split)<;>simp_all)
def JU (ids:List Nat)(i:Nat)(s:St):nk [i] (nk ids s)=nk (ids++[i]) s:=by
 unfold nk;dsimp only
 congr 1
 rw[aV];refine cE fun l _=>?_;have e:among (ids++[i]) l=(among ids l||among [i] l):=by simp[among]
 lia
theorem Ji {s:St}(ids:List Nat)(i:Nat)(hi:i∉ids):callBack (among [i]) (callBack (among ids) s)=callBack (among (ids++[i])) s:=by simp_all[pk,Jy,JU,AQ]
def IT (s:St):callBack (among []) s=s:=by simp[pk,z0,nk,among,jm,cE]
def mQ {p q:Lot→Bool}{s:St}(h:∀l∈s.lots,p l=q l)(hp:∀l:Lot,∀n b,p {l with free:=n,held:=b}=p l)(hq:∀l:Lot,∀n b,q {l with free:=n,held:=b}=q l):callBack p s=callBack q s:=by
 unfold callBack;dsimp only;rw[iz h]
 congr 1
 refine cE fun l hl=>?_;obtain⟨m,hm,e⟩:=aZ.1 (show l∈s.lots.map _ from hl);grind
def Fh {s:St}{ids:List Nat}{l:Lot}(hl:l∈s.lots)(h:l.id∉ids):l∈(callBack (among ids) s).lots:=
 aZ.mpr ⟨l,zk hl h,by simp[among,h]⟩
theorem Dz (f:Nat×Nat→Nat):∀(l:List (Nat×Nat)) (m:Nat),l.foldl (fun m p=>min m (f p)) m=(l.map f).foldl min m
 | [],_=>rfl
 | p::l,m=>by simp only[gZ,bF];exact Dz f l _
def Tab (kvs:List (Nat×Nat))(c:Nat→Nat):Prop:=(keys kvs).Nodup∧∀k,cK kvs k=if c k=0 then none else some (c k)
def Tab.nil:Tab [] (fun _=>0):=⟨lA,fun _=>rfl⟩
theorem Tab.get {kvs:List (Nat×Nat)}{c:Nat→Nat}(h:Tab kvs c)(k:Nat):(cK kvs k).getD 0=c k:=by
 rw[h.2 k];by_cases e:c k=0;simp_all;simp_all
def Tab.put {kvs:List (Nat×Nat)}{c:Nat→Nat}(h:Tab kvs c)(k:Nat){v:Nat}(hv:v≠0):Tab (dput kvs k (c k+v)) (fun j=>c j+if j=k then v else 0):=by
 refine⟨ug h.1 k _,fun j=>?_⟩;rw[xG];by_cases e:j=k;simp_all;rw[ak e,h.2 j];simp only[e,jW,Nat.add_zero]
def Tab.congr {kvs:List (Nat×Nat)}{c d:Nat→Nat}(h:Tab kvs c)(e:∀j,c j=d j):Tab kvs d:=by
 have:c=d:=funext e;simp_all
def Tab.walk {kvs l:List (Nat×Nat)}{c:Nat→Nat}{n i:Nat}{p:Nat×Nat}(hl:(keys l).Nodup)(hp:l[i]? =some p)(hn:n≠0)(hv:p.2≠0)
  (h:Tab kvs fun j=>c j+n*(cK (l.take i) j).getD 0):Tab (dput kvs p.1 ((cK kvs p.1).getD 0+n*p.2)) fun j=>c j+n*(cK (l.take (i+1)) j).getD 0:=by
 have hi:=(fu.mp hp).1;have h0:cK (l.take i) p.1=none:=by grind[de,take_append_drop]
 have et:l.take (i+1)=l.take i++[p]:=by rw[gx,hp];rfl
 have hg:=h.get p.1;rw[hg];refine(h.put p.1 (v:=n*p.2) (LZ hn hv)).congr fun j=>?_;rw[et,show p=(p.1,p.2)from rfl,Am _ _ _ _ h0];by_cases e:j=p.1;simp_all;simp_all
def Tab.whole {l:List (Nat×Nat)}{d:Nat→Nat}(h:Tab l d)(j:Nat):(cK (l.take l.length) j).getD 0=d j:=by
 rw[du];exact h.get j
def vM {l:List Nat}{i x:Nat}(h:l[i]? =some x):total (l.take (i+1))=total (l.take i)+x:=by grind -order[take_succ,iL,bJ]
def Tab.some {l:List (Nat×Nat)}{d:Nat→Nat}(h:Tab l d){j:Nat}(hj:d j≠0):l≠[]:=fun e=>by
 have:=h.2 j;rw[e,ak hj]at this;cases this
def KO (l:List Nat):∀{m:Int},(∀x∈l,(x:Int)≤m)→(∃x∈l,m=(x:Int))→m=(nF l:Int):=by
 intro m h1 h2;obtain⟨x,hx,e⟩:=h2;have eP:l≠[]:=fun z=>by rw[z]at hx;cases hx
 have:=h1 _ (Kg eP);have:=B3 hx;lia
theorem fold_min:∀(l:List Nat) (m:Nat),l.foldl min m∈m::l∧∀y∈m::l,l.foldl min m≤y
 | [],m=>⟨by simp,by simp⟩
 | a::l,m=>by
  obtain⟨h1,h2⟩:=fold_min l (min m a);simp only[gZ];refine⟨?_,fun y hy=>?_⟩;grind;grind[mem_cons_self]
def Ol (s:St)(a:Nat):ableOf s a=((needs s.articles a 1).map fun p=>avail s p.1/p.2).foldl min 1000000:=by simp[ableOf,MILLION,Dz]
def LB (s:St)(a:Nat){m:Int}(h1:m∈(1000000:Int)::(needs s.articles a 1).map fun p=>((avail s p.1/p.2:Nat):Int))(h2:∀y∈(1000000:Int)::(needs s.articles a 1).map fun p=>((avail s p.1/p.2:Nat):Int),m≤y):m=(ableOf s a:Int):=by
 rw[Ol];obtain⟨g1,g2⟩:=fold_min ((needs s.articles a 1).map fun p=>avail s p.1/p.2) 1000000;have e:(1000000:Int)::(needs s.articles a 1).map (fun p=>((avail s p.1/p.2:Nat):Int))=(1000000::(needs s.articles a 1).map fun p=>avail s p.1/p.2).map fun(n:Nat)=>(n:Int):=by simp
 rw[e]at h1 h2;obtain⟨n,hn,rfl⟩:=aZ.1 h1;have a1:=g2 n hn;have a2:=h2 _ (aZ.2 ⟨_,g1,rfl⟩);lia
def za {D t q:Nat}{l:List (Nat×Nat)}{i:Nat}{p:Nat×Nat}(h:l[i]? =some p)(z:Nat×Nat):c9 D t q (l.take (i+1)) z=df D t q (c9 D t q (l.take i) z) p:=by simp_all[c9,List.take_add_one]
theorem Dt {D t q:Nat}{l:List (Nat×Nat)}(hs:l.Pairwise fun x y=>x.1≤y.1)(b:Nat):∀(i:Nat) (p:Nat×Nat),l[i]? =some p→(c9 D t q (l.take i) (0,b)).1≤fW D t p.1*q
 | 0,p,_=>by simp[c9]
 | i+1,p,h=>by
  have hi:=(fu.mp h).1;have h0:l[i]? =some l[i]:=by simp[show i<l.length by omega]
  have ih:=Dt (D:=D) (t:=t) (q:=q) hs b i _ h0;rw[za h0];refine aG (Mx ih) (Nat.mul_le_mul_right _ (Nm ?_));have:=Mv.1 hs i (i+1) (by exact Nat.le_of_lt ‹_›) hi (by exact Nat.le_refl _);simp_all
def Kv (s:St)(a:Nat):(shelfRow s a).Pairwise fun x y=>x.1≤y.1:=by (simp[shelfRow,shelf,jE];grind[shelfRow,shelf,jE])
def QQ (s:St):lacking s ((s.articles.filter fun x=>x.parts.isEmpty).map fun x=>(x.id,x.least))=lowOf s:=by
 unfold lacking lowOf;rw[vp,aV,HB]
 congr 1
 (simp_all;grind -order)
def Fp {s:St}(h:s.articles.Pairwise fun x y=>x.id<y.id){ks:List Nat}(hp:ks.Perm (s.articles.map (·.id)))(hs:ks.Pairwise (·≤·)):ks=s.articles.map (·.id):=
 hp.eq_of_pairwise (le:=(·≤·)) (fun _ _ _ _ h1 h2=>Nat.le_antisymm h1 h2) hs (by rw[hY];exact h.imp jn)
section
variable{A:List Article}(W:Wf A){o:Nat}
include W
theorem L8 {d:Nat→Nat}(h:∀p∈partsOf A o,d p.1=dep A p.1):(if partsOf A o=[]then 0 else 1+nF ((partsOf A o).map fun p=>d p.1))=dep A o:=by grind[t6,List.map_congr_left]
theorem LI {d:Nat→Nat}(h:∀p∈partsOf A o,d p.1=CB A p.1):1+total ((partsOf A o).map fun p=>d p.1)=CB A o:=by grind[FZ,List.map_congr_left]
theorem Lv {c:Nat→Nat→Nat}(h:∀p∈partsOf A o,∀j,c p.1 j=cnt A p.1 j)(j:Nat):(if partsOf A o=[]then(if j=o then 1 else 0)else total ((partsOf A o).map fun p=>p.2*c p.1 j))=cnt A o j:=by
 rw[qZ W o j];by_cases e:partsOf A o=[];simp_all;rw[ak e,ak e]
 congr 1
 exact cE fun p hp=>by rw[h p hp]
end
def wB (A:List Article)(a:Nat)(ps:List (Nat×Nat)):(setParts A a ps).map (·.id)=A.map (·.id):=by (simp[setParts,List.map_congr_left];grind[setParts,List.map_congr_left])
def F6 {s:St}(ok:aM s):∀x∈s.articles.map (·.id),∀p∈partsOf s.articles x,p.1∈s.articles.map (·.id):=fun x hx p hp=>by
 obtain⟨y,hy,rfl⟩:=aZ.1 hx;rw[kG ok hy]at hp;obtain⟨z,hz,e⟩:=(ok.fw y hy).known p hp;simp;grind
structure mR (s:St)(a:Nat)(ps:List (Nat×Nat)):Prop where
 ha:∃x∈s.articles,x.id=a
 known:∀p∈ps,∃x∈s.articles,x.id=p.1
 pos:∀p∈ps,1≤p.2∧p.2≤1000
 nd:(ps.map (·.1)).Nodup
 len:ps.length≤16
 ring:∀p∈ps,cont s.articles p.1 a=false
section
variable{s:St}(ok:aM s){a:Nat}{ps:List (Nat×Nat)}(F:mR s a ps)
include ok F
theorem mR.wf:Wf (setParts s.articles a ps):=Ma (cN ok.c7) F.ha F.ring
theorem mR.parts (x:Nat):partsOf (setParts s.articles a ps) x=if x=a then ps else partsOf s.articles x:=iq F.ha x
theorem mR.Hu {x:Nat}(hx:x∈s.articles.map (·.id)):(∀p∈partsOf (setParts s.articles a ps) x,p.1∈s.articles.map (·.id)∧1≤p.2∧p.2≤1000)∧(partsOf (setParts s.articles a ps) x).length≤16:=by
 rw[F.parts ok];by_cases e:x=a
 ·rw[aw e];refine⟨fun p hp=>⟨?_,F.pos p hp⟩,F.len⟩;obtain⟨y,hy,q⟩:=F.known p hp;simp;grind
 rw[ak e];obtain⟨y,hy,rfl⟩:=aZ.1 hx;refine⟨fun p hp=>⟨F6 ok _ hx p hp,?_⟩,?_⟩
 ·rw[kG ok hy]at hp;exact(ok.fw y hy).pos p hp
 rw[kG ok hy];exact(ok.fw y hy).len
theorem mR.wN:∀(n x j:Nat),dep (setParts s.articles a ps) x≤n→x∈s.articles.map (·.id)→cnt (setParts s.articles a ps) x j≠0→j∈s.articles.map (·.id)
 | n,x,j,hn,hx,hc=>by
  have W:=F.wf ok;rw[qZ W]at hc;by_cases e:partsOf (setParts s.articles a ps) x=[];simp_all;rw[ak e]at hc;obtain⟨p,hp,hz⟩:∃p∈partsOf (setParts s.articles a ps) x,cnt (setParts s.articles a ps) p.1 j≠0:=yD fun z=>hc (js fun y hy=>by
   obtain⟨p,hp,rfl⟩:=aZ.1 hy;have:cnt (setParts s.articles a ps) p.1 j=0:=yD fun q=>z ⟨p,hp,q⟩;rw[this,BS])
  have h1:=rU W hp
  match n with
  | 0=>lia
  | n+1=>exact wN n p.1 j (by lia) ((F.Hu ok hx).1 p hp).1 hz
theorem mR.off {x:Nat}(h:cont s.articles x a=false):CB s.articles x=CB (setParts s.articles a ps) x∧dep s.articles x=dep (setParts s.articles a ps) x∧∀j,cnt s.articles x j=cnt (setParts s.articles a ps) x j:=
 ML (cN ok.c7) F.ha F.ring x h
end
end Vm
namespace L2
open PySem PySem.Spec PyProof.Rows
abbrev Key:=Sum Int Str
def qi:Key→Value→Bool
 | .inl k,v=>Value.isInt k v
 | .inr x,v=>Value.isStrOf x v
def Xn (w:World):Key→Int
 | .inl k=>hashInt k
 | .inr x=>hashStr w x
theorem cX:∀{k:Key} {v:Value},qi k v=true→(∃i t,k=Sum.inl i∧v=Value.int i t)∨(∃x t,k=Sum.inr x∧v=Value.str x t)
 | .inl i,v,h=>by
  obtain⟨t,e⟩:=Value.isInt_shape (k:=i) (v:=v) h;constructor<;>grind
 | .inr x,v,h=>by
  obtain⟨t,e⟩:=Value.isStrOf_shape (x:=x) (v:=v) h;simp_all
def Jh (i:Int)(t:Tok):qi (.inl i) (.int i t)=true:=by simp[qi,Value.isInt]
def JN (x:Str)(t:Tok):qi (.inr x) (.str x t)=true:=by simp[qi,Value.isStrOf]
def P6 (a b:Int):decide ((Sum.inl a:Key)=Sum.inl b)=(a==b):=by (simp;rfl)
def QG (a b:Str):decide ((Sum.inr a:Key)=Sum.inr b)=decide (a=b):=by simp
def Q5 (a:Int)(b:Str):decide ((Sum.inl a:Key)=Sum.inr b)=false:=qu (fun q=>nomatch q)
def P1 (a:Str)(b:Int):decide ((Sum.inr a:Key)=Sum.inl b)=false:=qu (fun q=>nomatch q)
def bw (prog:Program)(w:World):PySem.KeyKind prog w Key where
 is:=qi
 hash:=Xn w
 inj:=fun v a b ha hb=>by
  rcases cX ha with⟨i,t,rfl,rfl⟩|⟨x,t,rfl,rfl⟩
  ·rcases cX hb with⟨j,u,rfl,e⟩|⟨y,u,rfl,e⟩
   ·injection e with e1 _;rw[e1]
   ·exact nomatch e
  ·rcases cX hb with⟨j,u,rfl,e⟩|⟨y,u,rfl,e⟩
   ·exact nomatch e
   ·injection e with e1 _;rw[e1]
 byValue:=fun k v h=>by
  rcases cX h with⟨i,t,rfl,rfl⟩|⟨x,t,rfl,rfl⟩<;>rfl
 pyHash:=fun hv h=>by
  rcases cX hv with⟨i,t,rfl,rfl⟩|⟨x,t,rfl,rfl⟩
  ·exact wpAny_pyHash_int h
  ·exact wpAny_pyHash_str h
 eqBool:=fun hu hv h=>by
  rcases cX hu with⟨i,t,rfl,rfl⟩|⟨x,t,rfl,rfl⟩
  ·rcases cX hv with⟨j,u,rfl,rfl⟩|⟨y,u,rfl,rfl⟩
   ·rw[P6]at h;exact wpAny_eqBool_int h
   ·rw[Q5]at h;exact SeqAt.EqAt.int_str i t y u _ _ _ _ h
  ·rcases cX hv with⟨j,u,rfl,rfl⟩|⟨y,u,rfl,rfl⟩
   ·rw[P1]at h;exact SeqAt.EqAt.str_int x t j u _ _ _ _ h
   ·rw[QG]at h;exact wpAny_eqBool_str h
 «strs»:=fun k x t v h=>by
  rcases cX h with⟨i,u,rfl,e⟩|⟨y,u,rfl,e⟩
  ·exact nomatch e
  ·injection e with e1 _
   subst e1;cases v<;>rfl
def Em (prog:Program)(w:World)(i:Int)(t:Tok):(bw prog w).is (.inl i) (.int i t)=true:=Jh i t
def mT (prog:Program)(w:World)(x:Str)(t:Tok):(bw prog w).is (.inr x) (.str x t)=true:=JN x t
inductive V where
 | gq|bl (b:Bool)|int (i:Int)|str (x:Str)|CQ (b:Array UInt8)|UK (b:UInt64)|ref (a:Addr)|ty (n:String)
 deriving DecidableEq
def RelV:V→Value→Prop
 | .gq,u=>u=Value.none
 | .bl b,u=>u=Value.bool b
 | .int i,u=>∃t,u=Value.int i t
 | .str x,u=>∃t,u=Value.str x t
 | .CQ b,u=>∃t,u=Value.bytes b t
 | .UK b,u=>∃t,u=Value.float b t
 | .ref a,u=>u=Value.ref a
 | .ty n,u=>u=Value.type n
abbrev Vals:List V→List Value→Prop:=Paired RelV
def Vals.length {xs:List V}{us:List Value}(r:Vals xs us):xs.length=us.length:=bZ r
theorem Vals.get:∀{xs:List V} {us:List Value} {i:Nat} {x:V},Vals xs us→xs[i]? =some x→∃u,us[i]? =some u∧RelV x u
 | _,_,_,_,.nil,e=>by simp at e
 | _,_,0,_,.cons r _,e=>by simp at e;subst e;exact⟨_,rfl,r⟩
 | _,_,i+1,x,.cons _ t,e=>by
  obtain⟨u,h1,h2⟩:=Vals.get (i:=i) (x:=x) t (by simpa using e);simp_all
theorem Vals.set {x:V}{u:Value}(r:RelV x u):∀{xs:List V} {us:List Value} (i:Nat),Vals xs us→Vals (xs.set i x) (us.set i u)
 | _,_,_,.nil=> .nil
 | _,_,0,.cons _ t=> .cons r t
 | _,_,i+1,.cons q t=> .cons q (Vals.set r i t)
theorem Vals.append:∀{xs ys:List V} {us ws:List Value},Vals xs us→Vals ys ws→Vals (xs++ys) (us++ws)
 | _,_,_,_,.nil,s=>s
 | _,_,_,_,.cons r t,s=> .cons r (Vals.append t s)
theorem Vals.take:∀{xs:List V} {us:List Value} (n:Nat),Vals xs us→Vals (xs.take n) (us.take n)
 | _,_,0,_=> .nil
 | _,_,_+1,.nil=> .nil
 | _,_,n+1,.cons r t=> .cons r (Vals.take n t)
theorem Vals.drop:∀{xs:List V} {us:List Value} (n:Nat),Vals xs us→Vals (xs.drop n) (us.drop n)
 | _,_,0,r=>r
 | _,_,_+1,.nil=> .nil
 | _,_,n+1,.cons _ t=>Vals.drop n t
def oz:Option V→Option Value→Prop
 | some v,some u=>RelV v u
 | none,none=>True
 | _,_=>False
def KV {κ:Type}:List (κ×V)→List (κ×Value)→Prop:=Paired fun(p:κ×V) (q:κ×Value)=>p.1=q.1∧RelV p.2 q.2
def kV:Key→V
 | .inl i=> .int i
 | .inr x=> .str x
inductive HO where
 | lst (xs:List V)
 | tup (xs:List V)
 | dK (kvs:List (Key×V))|dT (kvs:List (List Key×V))
 | set (S:Int→Bool) (n:Nat)
 | ins (C dx:Addr) (fs:List (Str×V))
 | own (x:Addr)
 | xd (fs:List (Str×V))
 | met (f x:Addr)
 | QE (lo hi:Int)
 | eS (o:Obj) (u:HO)
 | lQ (ps:Array Value)
 | ext(φ:Heap→Prop)
abbrev Hp:=Addr→Option HO
def upd (H:Hp)(a:Addr)(o:HO):Hp:=fun b=>if b=a then some o else H b
theorem af {H:Hp}{a:Addr}{o:HO}:upd H a o a=some o:=by unfold upd;rw[aw rfl]
theorem ah {H:Hp}{a b:Addr}{o:HO}(h:b≠a):upd H a o b=H b:=by unfold upd;rw[ak h]
def cp {H:Hp}{a:Addr}{o u:HO}:upd (upd H a o) a u=upd H a u:=by
 funext b;unfold upd;split<;>rfl
def Ss {H:Hp}{a b:Addr}{o u:HO}(h:H a=some o)(h':H b=some u)(d:o≠u):a≠b:=by lia
def aP {H:Hp}{a b:Addr}{o:HO}(h:H a=some o)(h':H b=none):a≠b:=by lia
section
variable(P:Program)(w:World)
def c8 (H:Hp)(h:Heap)(a:Addr):HO→Prop
 | .lst xs=>xs.length≤sizeLine∧∃(bp:List Value) (n:Nat),Vals xs bp∧h.get? a=some {cls:= .type "list",data:= .seq bp.toArray n}
 | .tup xs=>xs.length≤sizeLine∧∃bp:List Value,Vals xs bp∧IsTup h a bp.toArray
 | .dK kvs=>kvs.length≤sizeLine∧(a==sysModules)=false∧∃vs,KV kvs vs∧h.DictOf (bw P w) a vs
 | .dT kvs=>kvs.length≤sizeLine∧(a==sysModules)=false∧∃xs:List (List Key×Addr×Value),
   Paired (fun(p:List Key×V) (q:List Key×Addr×Value)=>p.1=q.1∧H q.2.1=some (.tup (p.1.map kV))∧RelV p.2 q.2.2) kvs xs∧
   ∃o es ep,h.get? a=some o∧o.ExactDict∧o.data= .dict es ep∧es.toList=xs.map (entryOfKey (tupleKind (bw P w)))∧(xs.map (·.1)).Nodup
 | .set S n=>h.SetOf (intKind P w) a S n
 | .ins C dx fs=>H dx=some (.own a)∧fs.length≤1000∧dx≠a∧h.get? a=some (instObj C dx)∧
   ∃mA,h.Ns1 dx mA∧(∀f,oz (fs.lookup f) (mA f))∧PySem.Within mA (fs.map (·.1))
 | .own _=>∃o,h.get? a=some o
 | .xd fs=>∃mA,h.Ns1 a mA∧∀f,oz (fs.lookup f) (mA f)
 | .QE lo hi=>∃t u v,h.get? a=some {cls:= .type "range",data:= .fields #[.int lo t,.int hi u,.int 1 v]}
 | .eS o u=>h.get? a=some o∧c8 H h a u
 | .lQ ps=>h.get? a=some {cls:= .none,data:= .fields ps}
 | .met f x=>h.get? a=some (methodObj (.ref f) (.ref x))
 | .ext φ=>φ h∧(∃o,h.get? a=some o)∧∀h1 h2:Heap,φ h1→(∀o,h1.get? a=some o→h2.get? a=some o)→φ h2
def mn (H:Hp)(h:Heap):Prop:=∀a o,H a=some o→c8 P w H h a o
end
section
variable{P:Program}{w:World}{H H':Hp}{h h':Heap}{a:Addr}{o:HO}
def c8.lt (x:c8 P w H h a o):a<h.objs.size:=by
 cases o with
 | lst xs=>obtain⟨_,_,_,_,e⟩:=x;exact bb e
 | tup xs=>obtain⟨_,_,_,p⟩:=x;exact p.lt
 | dK kvs=>obtain⟨_,_,_,_,o,_,_,e,_⟩:=x;exact bb e
 | dT kvs=>obtain⟨_,_,_,_,o,_,_,e,_⟩:=x;exact bb e
 | set S n=>obtain⟨o,_,_,_,e,_⟩:=x;exact bb e
 | ins C dx fs=>obtain⟨_,_,_,e,_⟩:=x;exact bb e
 | own y=>obtain⟨_,e⟩:=x;exact bb e
 | xd fs=>obtain⟨_,⟨_,_,_,e,_⟩,_⟩:=x;exact bb e
 | QE lo hi=>obtain⟨_,_,_,e⟩:=x;exact bb e
 | eS ob u=>obtain⟨e,_⟩:=x;exact bb e
 | lQ ps=>exact bb (show h.get? a=some _ from x)
 | met f y=>exact bb (show h.get? a=some _ from x)
 | ext φ=>obtain⟨_,⟨_,e⟩,_⟩:=x;exact bb e
theorem Paired.tY {α β:Type}{F G:α→β→Prop}:∀{l₁:List α} {l₂:List β},Paired F l₁ l₂→(∀a b,F a b→G a b)→Paired G l₁ l₂
 | _,_,.nil,_=> .nil
 | _,_,.cons r t,f=> .cons (f _ _ r) (Paired.tY t f)
theorem c8.aF (x:c8 P w H h a o)(k:∀b u,(b=a∨H b=some (.own a))→h.get? b=some u→h'.get? b=some u)
  (ho:∀b,H b=some (.own a)→H' b=some (.own a)) (ht:∀b xs,H b=some (.tup xs)→H' b=some (.tup xs)):c8 P w H' h' a o:=by
 induction o with
 | lst xs=>obtain⟨z,bp,n,r,e⟩:=x;exact⟨z,bp,n,r,k _ _ (.inl rfl) e⟩
 | tup xs=>obtain⟨z,bp,r,ob,e,c⟩:=x;exact⟨z,bp,r,ob,k _ _ (.inl rfl) e,c⟩
 | dK kvs=>obtain⟨z,y,vs,r,ob,es,ep,e,c⟩:=x;exact⟨z,y,vs,r,ob,es,ep,k _ _ (.inl rfl) e,c⟩
 | dT kvs=>
  obtain⟨z,y,xs,r,ob,es,ep,e,c⟩:=x;exact⟨z,y,xs,Paired.tY r fun p q z=>⟨z.1,ht _ _ z.2.1,z.2.2⟩,ob,es,ep,k _ _ (.inl rfl) e,c⟩
 | set S n=>obtain⟨ob,es,ep,t,e,c⟩:=x;exact⟨ob,es,ep,t,k _ _ (.inl rfl) e,c⟩
 | ins C dx fs=>
  obtain⟨d,z,ne,e,mA,⟨od,es,ep,e2,c⟩,r⟩:=x;exact⟨ho _ d,z,ne,k _ _ (.inl rfl) e,mA,⟨od,es,ep,k _ _ (.inr d) e2,c⟩,r⟩
 | own y=>obtain⟨ob,e⟩:=x;exact⟨ob,k _ _ (.inl rfl) e⟩
 | xd fs=>obtain⟨mA,⟨od,es,ep,e,c⟩,r⟩:=x;exact⟨mA,⟨od,es,ep,k _ _ (.inl rfl) e,c⟩,r⟩
 | QE lo hi=>obtain⟨t,u,v,e⟩:=x;exact⟨t,u,v,k _ _ (.inl rfl) e⟩
 | eS ob u ih=>obtain⟨e,q⟩:=x;exact⟨k _ _ (.inl rfl) e,ih q⟩
 | lQ ps=>
  have e:h.get? a=some {cls:= .none,data:= .fields ps}:=x;show h'.get? a=some {cls:= .none,data:= .fields ps};simp_all
 | met f y=>
  have e:h.get? a=some (methodObj (.ref f) (.ref y)):=x;show h'.get? a=some (methodObj (.ref f) (.ref y));simp_all
 | ext φ=>obtain⟨p,⟨o,e⟩,st⟩:=x;exact⟨st _ _ p fun o q=>k _ _ (.inl rfl) q,⟨o,k _ _ (.inl rfl) e⟩,st⟩
def mn.lt (x:mn P w H h)(e:H a=some o):a<h.objs.size:=(x a o e).lt
def mn.fresh (x:mn P w H h)(e:h.objs.size≤a):H a=none:=by
 cases q:H a with
 | none=>rfl
 | some u=>exact absurd (fH (x.lt q) e) (gu _)
def mn.kept (x:mn P w H h)(k:∀b u,h.get? b=some u→h'.get? b=some u):mn P w H h':=fun a o e=>
 (x a o e).aF (fun b u _ q=>k b u q) (fun _ q=>q) fun _ _ q=>q
def mn.laid (x:mn P w H h)(k:∀b u,h.get? b=some u→h'.get? b=some u)(hp:h.objs.size≤a)(new:c8 P w (upd H a o) h' a o):mn P w (upd H a o) h':=fun b u e=>by
 have hn:=x.fresh hp;by_cases hb:b=a;simp_all[af];rw[ah hb]at e;exact(x b u e).aF (fun c v _ q=>k c v q) (fun c q=>by rw[ah (aP q hn)];exact q) fun c xs q=>by rw[ah (aP q hn)];exact q
end
def Rd (H:Hp)(a:Addr)(u:HO):Prop:=H a=some u∨∃o,H a=some (.eS o u)
def Rd.ok {P:Program}{w:World}{H:Hp}{h:Heap}{a:Addr}{u:HO}(r:Rd H a u)(x:mn P w H h):c8 P w H h a u:=by
 rcases r with r|⟨o,r⟩;exact x a u r;obtain⟨_,q⟩:=x a _ r;exact q
def NY:Option HO→Prop
 | some (.lst _)=>True
 | some (.dK _)=>True
 | some (.dT _)=>True
 | some (.set _ _)=>True
 | some (.ins _ _ _)=>True
 | some (.ext _)=>True
 | _=>False
section
variable{P:Program}{w:World}{H:Hp}{h h':Heap}{x e:Addr}{o':HO}
def mn.write (ok:mn P w H h)(mu:NY (H x))(he:e=x∨H e=some (.own x))(k:∀b u,b≠e→h.get? b=some u→h'.get? b=some u)(Tw:∃u,h'.get? e=some u)
  (new:c8 P w (upd H x o') h' x o'):mn P w (upd H x o') h':=fun b u q=>by
 have nown:∀c y,H c=some (.own y)→c≠x:=fun c y r z=>by subst z;rw[r]at mu;exact mu
 have ntup:∀c xs,H c=some (.tup xs)→c≠x:=fun c xs r z=>by subst z;rw[r]at mu;exact mu
 by_cases hb:b=x;simp_all[af];rw[ah hb]at q;by_cases hbe:b=e
 ·have q':H b=some (.own x):=by lia
  rw[q]at q';cases q';obtain⟨v,hv⟩:=Tw;exact⟨v,by rw[hbe];exact hv⟩
 refine(ok b u q).aF (fun c v hc r=>k c v ?_ r) (fun c r=>by rw[ah (nown c b r)];exact r) fun c xs r=>by rw[ah (ntup c xs r)];exact r
 grind
end
structure Un (fs ex:List Addr)(H H':Hp)(h h':Heap):Prop where
 keep:∀b o,h.get? b=some o→H b=none→b∉fs→b∉ex→h'.get? b=some o
 slot:∀b o,h.get? b=some o→H b=none→b∈fs→b∉ex→∃sl,h'.get? b=some {o with slots:=sl}
 free:∀b o,h.get? b=some o→H b=none→b∉ex→H' b=none
 there:∀b o,h.get? b=some o→b∉ex→∃o',h'.get? b=some o'
 zb:∀b xs,H b=some (.tup xs)→H' b=some (.tup xs)
 yF:∀b o u,H b=some (.eS o u)→H' b=some (.eS o u)
 zt:∀b ps,H b=some (.lQ ps)→∃more,H' b=some (.lQ (ps++more))
section
variable{fs Pu ex ex':List Addr}{H H1 H2:Hp}{h h1 h2 h':Heap}{a x e:Addr}{o:HO}
def Un.any (u:Un fs ex H H1 h h1){b:Addr}{ob:Obj}(q:h.get? b=some ob)(n:H b=none)(hx:b∉ex):∃sl,h1.get? b=some {ob with slots:=sl}:=by
 by_cases hb:b∈fs;exact u.slot b ob q n hb hx;exact⟨ob.slots,u.keep b ob q n hb hx⟩
def Un.kept (k:∀b u,h.get? b=some u→h'.get? b=some u):Un fs ex H H h h':=
 ⟨fun b ob q _ _ _=>k b ob q,fun b ob q _ _ _=>⟨ob.slots,k b ob q⟩,fun _ _ _ n _=>n,fun b ob q _=>⟨ob,k b ob q⟩,fun _ _ q=>q,fun _ _ _ q=>q,fun _ ps q=>⟨#[],by rw[q];rfl⟩⟩
theorem Un.refl:Un fs ex H H h h:=Un.kept fun _ _ q=>q
def Un.laid (k:∀b u,h.get? b=some u→h'.get? b=some u)(hp:h.objs.size≤a)(hn:H a=none):Un fs ex H (upd H a o) h h' where
 keep:=fun b u q _ _ _=>k b u q
 slot:=fun b u q _ _ _=>⟨u.slots,k b u q⟩
 free:=fun b u q n _=>by rw[ah (cC (fH (bb q) hp))];exact n
 there:=fun b u q _=>⟨u,k b u q⟩
 zb:=fun b xs q=>by rw[ah (aP q hn)];exact q
 yF:=fun b u xs q=>by rw[ah (aP q hn)];exact q
 zt:=fun b ps q=>⟨#[],by rw[ah (aP q hn),q];rfl⟩
def Un.write (mu:NY (H x))(he:e=x∨H e=some (.own x))(k:∀b u,b≠e→h.get? b=some u→h'.get? b=some u)(Tw:∃u,h'.get? e=some u):Un fs ex H (upd H x o) h h':=by
 have hx:∀b,H b=none→b≠x:=fun b n z=>by subst z;rw[n]at mu;exact mu
 have hb:∀b,H b=none→b≠e:=fun b n z=>by simp_all
 have hm:∀b u,H b=some u→¬NY (some u)→b≠x:=fun b u q nm z=>by subst z;rw[q]at mu;exact nm mu
 refine⟨fun b u q n _ _=>k b u (hb b n) q,fun b u q n _ _=>⟨u.slots,k b u (hb b n) q⟩,fun b u q n _=>by rw[ah (hx b n)];exact n,fun b u q _=>?_,
  fun b xs q=>by rw[ah (hm b _ q fun z=>z)];exact q,fun b u xs q=>by rw[ah (hm b _ q fun z=>z)];exact q,fun b ps q=>⟨#[],by rw[ah (hm b _ q fun z=>z),q];rfl⟩⟩
 grind
end
def We (h:Heap)(H:Hp):List Addr:=(List.range h.objs.size).filter fun a=>(H a).isSome
def Cp (h:Heap)(H:Hp):Heap:=PySem.W.hideAll h (We h H)
def JI (h:Heap)(H:Hp):(Cp h H).objs.size=h.objs.size:=PySem.W.hideAll_size _ _
def Kq {h:Heap}{H:Hp}{b:Addr}{o:Obj}(e:h.get? b=some o)(n:H b=none):(Cp h H).get? b=some o:=
 PySem.W.hideAll_get _ e fun hm=>by
  have q:(H b).isSome=true:=(eC.mp hm).2;simp_all
def NC {h:Heap}{H:Hp}{b:Addr}{o:Obj}(e:(Cp h H).get? b=some o):h.get? b=some o∧H b=none:=by
 have e':h.get? b=some o:=PySem.W.of_hideAll (We h H) e;refine⟨e',?_⟩;cases q:H b with
 | none=>rfl
 | some x=>simp_all[We,Heap.lt_size,Cp,PySem.W.hideAll_none]
noncomputable def eK (g h:Heap)(L:Addr):List (Addr×Obj):=(List.range h.objs.size).filterMap fun a=>if a=L∨(g.get? a).isSome=true then none else(h.get? a).map fun o=>(a,o)
def u0 {g h:Heap}{L a:Addr}{o:Obj}(h1:a≠L)(h2:g.get? a=none)(h3:h.get? a=some o):(a,o)∈eK g h L:=
 A9.mpr ⟨a,List.mem_range.mpr (bb h3),by simp[h1,h2,h3]⟩
def zd {g h:Heap}{L:Addr}{p:Addr×Obj}(hp:p∈eK g h L):p.1≠L∧g.get? p.1=none∧h.get? p.1=some p.2:=by
 obtain⟨b,_,e⟩:=A9.mp hp;split at e;cases e;rename_i hn;cases q:h.get? b with
 | none=>rw[q]at e;simp at e
 | some u=>
  rw[q]at e;simp only[Option.map_some,Cj]at e;subst e;simp_all
def xF {g h:Heap}{L:Addr}:News g L h (eK g h L):=fun p hp=>let⟨a,b,c⟩:=zd hp;⟨c,a,b⟩
structure Mod (K:Frag)(mg:Str→Option Value)(base:Heap):Prop where
 UO:K.In base
 glob:base.Ns mainGlobals mg
 blt:∃mb,base.Ns builtinsNs mb∧∀x:Str,x≠"__name__" →mb x=bootBuiltins x
 nolimit:base.NoLimit
structure Cx where
 prog:Program
 w:World
 K:Frag
 mg:Str→Option Value
 base:Heap
 A:Around
 N:List Str
 zX:Shared
 Rg:Hp
 env:Env
 outer:List Env
 stack:List Env
 ex:List Addr
 fn:Str→Bool
 calm:Bool
 pn:List (Addr×Obj)
 xe:Value→Shared→Prop
def MT (l:List Env):List Addr:=l.filterMap (·.frame)
abbrev Cx.fs (X:Cx):List Addr:=MT X.outer
def Sa (sc:Scope)(x:Str):Prop:=sc.names.lookup x=some .local∨sc.names.lookup x=some .cell∨sc.names.lookup x=some .free
def Loc (sc:Scope)(x:Str):Prop:=sc.names.lookup x=some .local∨sc.names.lookup x=some .cell
def Look (env:Env)(h:Heap)(m:Str→Option Value)(x:Str)(u:Value):Prop:=
 (env.kindOf x=some .local∧m x=some u)∨((env.kindOf x=some .cell∨env.kindOf x=some .free)∧∃c,env.cells.lookup x=some c∧h.IsCell c (some u))
structure Cx.Ok (X:Cx):Prop where
 mod:Mod X.K X.mg X.base
 kind:X.env.scope.kind= .function
 glob:X.env.globals=mainGlobals
 blt:X.env.builtins=builtinsNs
 above:X.zX.heap.objs.size≤X.env.locals
 inj:∀x y c,X.env.cells.lookup x=some c→X.env.cells.lookup y=some c→x=y
 has:∀x,(X.env.kindOf x=some .cell∨X.env.kindOf x=some .free)→∃c,X.env.cells.lookup x=some c
 Sk:∀x c,X.fn x=true→X.env.cells.lookup x=some c→X.zX.heap.objs.size≤c
 hd:X.calm=true→X.A.handled=none
 frames:X.A.frames=some X.stack
 Vf:X.stack=X.outer∨(X.stack=X.env::X.outer∧X.env.frame=some X.env.locals)
 Sf:∀b∈X.ex,b≠X.env.locals∧∀x c,X.env.cells.lookup x=some c→c≠b
 bs:∀b o,X.base.get? b=some o→X.zX.heap.get? b=some o∧X.Rg b=none
 JK:X.base.objs.size≤X.zX.heap.objs.size
 Mc:∀b o,X.base.get? b=some o→b∉X.ex
 LC:∀b∈X.ex,b∉X.fs
 vQ:X.zX.heap.FunFrames X.base X.outer
 PX:∀b∈X.fs,X.Rg b=none
structure Inv (X:Cx)(pins:List (Addr×Obj))(σ:List (Option V))(H:Hp)(s:Shared):Prop where
 ok:X.Ok
 os:s.os=X.zX.os
 bare:AllBare s.gens
 base:Un X.fs X.ex X.Rg H X.zX.heap s.heap
 loc:∃m,s.heap.Ns X.env.locals m∧∀(i:Nat) (x:Str) (v:V),X.N[i]? =some x→σ[i]? =some (some v)→Sa X.env.scope x→∃u,RelV v u∧Look X.env s.heap m x u
 cell:∀x c,X.env.cells.lookup x=some c→∃v,s.heap.IsCell c v
 free:H X.env.locals=none
 km:∀x c,X.env.cells.lookup x=some c→H c=none
 pin:∀p∈X.pn++pins,s.heap.get? p.1=some p.2∧H p.1=none∧p.1≠X.env.locals∧p.1∉X.fs∧∀v,p.2.data≠ .cell v
 b9:mn X.prog X.w H s.heap
 len:σ.length=X.N.length
section
variable{X:Cx}{pins:List (Addr×Obj)}{σ:List (Option V)}{H H':Hp}{s:Shared}{h':Heap}
def Cx.Ok.Vu (ok:X.Ok){b:Addr}{o:Obj}(e:X.base.get? b=some o):b∉X.fs:=fun hb=>by
 have:=(ok.vQ.mem hb).1;simp_all
def Inv.bs (I:Inv X pins σ H s):∀b o,X.base.get? b=some o→s.heap.get? b=some o∧H b=none:=fun b o e=>
 ⟨I.base.keep b o (I.ok.bs b o e).1 (I.ok.bs b o e).2 (I.ok.Vu e) (I.ok.Mc b o e),I.base.free b o (I.ok.bs b o e).1 (I.ok.bs b o e).2 (I.ok.Mc b o e)⟩
def Inv.bk (I:Inv X pins σ H s):∀b o,X.base.get? b=some o→s.heap.get? b=some o:=fun b o e=>(I.bs b o e).1
def Inv.mod (I:Inv X pins σ H s):Mod X.K X.mg X.base:=I.ok.mod
def Inv.CP (I:Inv X pins σ H s):X.K.In s.heap:=I.ok.mod.UO.keeps I.bk
def Inv.nolimit (I:Inv X pins σ H s):s.heap.NoLimit:=I.ok.mod.nolimit.keeps I.bk
def Inv.fr (I:Inv X pins σ H s):∃m,Fr X.base X.env.locals s.heap m:=
 let⟨m,hn,_⟩:=I.loc
 ⟨m,hn,I.bk,aG I.ok.JK I.ok.above⟩
def Inv.lt (I:Inv X pins σ H s):X.env.locals<s.heap.objs.size:=let⟨_,hn,_⟩:=I.loc;hn.lt
def Inv.sz (I:Inv X pins σ H s):X.zX.heap.objs.size≤s.heap.objs.size:=aG I.ok.above (jn I.lt)
def Inv.VT (I:Inv X pins σ H s){a:Addr}(h:s.heap.objs.size≤a):a∉X.fs:=fun hb=>by
 obtain⟨_,o,ho,_⟩:=I.ok.vQ.mem hb;exact absurd (fH (bb ho) (aG I.sz h)) (gu _)
def Inv.QD (I:Inv X pins σ H s):∀x c,X.env.cells.lookup x=some c→c≠X.env.locals:=fun x c e z=>by
 obtain⟨v,o,ho,hd⟩:=I.cell x c e;obtain⟨m,⟨o',es,ep,IJ,Yc,_⟩,_⟩:=I.loc;simp_all
def Inv.vQ (I:Inv X pins σ H s):s.heap.FunFrames X.base X.outer:=by
 have all:∀(l:List Env),(∀b∈MT l,b∈X.fs)→X.zX.heap.FunFrames X.base l→s.heap.FunFrames X.base l:=by
  intro l
  induction l with
  | nil=>intro _ _;trivial
  | cons env r ih=>
   intro hs hl;obtain⟨hk,⟨L,o,hf,hn,ho,hd⟩,hr⟩:=hl;have hL:L∈X.fs:=hs L (by unfold MT;rw[List.filterMap_cons,hf];exact cQ);obtain⟨sl,e⟩:=I.base.slot L o ho (I.ok.PX L hL) hL fun z=>I.ok.LC L z hL;exact⟨hk,⟨L,_,hf,hn,e,hd⟩,ih (fun b hb=>hs b (by unfold MT;rw[List.filterMap_cons,hf];exact cP _ hb)) hr⟩
 exact all X.outer (fun _ hb=>hb) I.ok.vQ
def Inv.stack (I:Inv X pins σ H s):s.heap.FunFrames X.base X.stack:=by
 rcases I.ok.Vf with e|⟨e,hf⟩;rw[e];exact I.vQ;rw[e];obtain⟨m,hn,_⟩:=I.loc;refine .cons (by rw[I.ok.kind];decide) hf hn ?_ I.vQ;exact w9 (aG I.ok.JK I.ok.above)
def Inv.FH (I:Inv X pins σ H s):∀b∈MT X.stack,b∈X.env.locals::X.fs:=fun b hb=>by
 rcases I.ok.Vf with e|⟨e,hf⟩;simp_all;simp_all[MT]
def Inv.Ip (I:Inv X pins σ H s):∀b∈MT X.stack,H b=none:=fun b hb=>by
 rcases bM.mp (I.FH b hb)with e|hb;rw[e];exact I.free;obtain⟨_,o,ho,_⟩:=I.ok.vQ.mem hb;exact I.base.free b o ho (I.ok.PX b hb) fun z=>I.ok.LC b z hb
def Inv.step {g':Array GenState}{t':Nat}{d':Drawn}{ch:List Addr}(I:Inv X pins σ H s)
  (CO:∀b∈ch,(b∈X.ex∨X.zX.heap.objs.size≤b)∧b≠X.env.locals∧(∀x c,X.env.cells.lookup x=some c→c≠b)∧∀p∈X.pn++pins,p.1≠b)
  (keep:∀b o,b≠X.env.locals→b∉X.fs→b∉ch→s.heap.get? b=some o→H b=none→h'.get? b=some o)
  (slot:∀b o,b≠X.env.locals→b∈X.fs→b∉ch→s.heap.get? b=some o→H b=none→∃sl,h'.get? b=some {o with slots:=sl}) (free:∀b o,b∉ch→s.heap.get? b=some o→H b=none→H' b=none)
  (there:∀b o,b∉ch→s.heap.get? b=some o→∃o',h'.get? b=some o')
  (zb:∀b xs,H b=some (.tup xs)→H' b=some (.tup xs)) (yF:∀b o u,H b=some (.eS o u)→H' b=some (.eS o u)) (zt:∀b ps,H b=some (.lQ ps)→∃more,H' b=some (.lQ (ps++more)))
  (ns:∀m,s.heap.Ns X.env.locals m→h'.Ns X.env.locals m) (b9:mn X.prog X.w H' h') (hg:AllBare g'):
  Inv X pins σ H' {s with heap:=h',gens:=g',drawn:=d',toks:=t'}:=by
 have XI:∀b o,X.zX.heap.get? b=some o→b≠X.env.locals:=fun b o e=>cC (fH (bb e) I.ok.above);have V5:∀b o,X.zX.heap.get? b=some o→b∉X.ex→b∉ch:=fun b o e hx hb=>by
  rcases(CO b hb).1 with z|z;exact hx z;exact absurd (fH (bb e) z) (gu _)
 have cellK:∀x c,X.env.cells.lookup x=some c→∀v,s.heap.IsCell c v→h'.IsCell c v:=fun x c e v ⟨o,ho,hd⟩=>by
  have X2:c∉ch:=fun z=>(CO c z).2.2.1 x c e rfl;by_cases hc:c∈X.fs
  ·obtain⟨sl,q⟩:=slot c o (I.QD x c e) hc X2 ho (I.km x c e);exact⟨_,q,hd⟩
  exact⟨o,keep c o (I.QD x c e) hc X2 ho (I.km x c e),hd⟩
 refine⟨I.ok,I.os,hg,⟨fun b o e n hb hx=>?_,fun b o e n hb hx=>?_,fun b o e n hx=>?_,fun b o e hx=>?_,fun b xs e=>zb b xs (I.base.zb b xs e),fun b o xs e=>yF b o xs (I.base.yF b o xs e),fun b ps e=>?_⟩,?_,fun x c e=>?_,?_,fun x c e=>?_,fun p hp=>?_,b9,I.len⟩;exact keep b o (XI b o e) hb (V5 b o e hx) (I.base.keep b o e n hb hx) (I.base.free b o e n hx)
 ·obtain⟨sl,e1⟩:=I.base.slot b o e n hb hx;obtain⟨sl',e2⟩:=slot b _ (XI b o e) hb (V5 b o e hx) e1 (I.base.free b o e n hx);exact⟨sl',e2⟩
 ·obtain⟨o',e1⟩:=I.base.there b o e hx;exact free b o' (V5 b o e hx) e1 (I.base.free b o e n hx)
 ·obtain⟨o',e1⟩:=I.base.there b o e hx;simp;grind
 ·obtain⟨m1,e1⟩:=I.base.zt b ps e;grind
 ·obtain⟨m,hn,hl⟩:=I.loc;refine⟨m,ns m hn,fun i x v e1 e2 e3=>?_⟩;obtain⟨u,r,l⟩:=hl i x v e1 e2 e3;refine⟨u,r,?_⟩;rcases l with l|⟨k,c,e,z⟩;exact .inl l;exact .inr ⟨k,c,e,cellK x c e _ z⟩
 ·obtain⟨v,z⟩:=I.cell x c e;simp;grind
 ·obtain⟨m,⟨o,_,_,ho,_⟩,_⟩:=I.loc;exact free _ o (fun z=>(CO _ z).2.1 rfl) ho I.free
 ·obtain⟨v,o,ho,hd⟩:=I.cell x c e;exact free c o (fun z=>(CO c z).2.2.1 x c e rfl) ho (I.km x c e)
 obtain⟨e,n,ne,nf,d⟩:=I.pin p hp;grind
def Inv.un {t':Nat}(I:Inv X pins σ H s)(u:Un X.fs [] H H' s.heap h')(b9:mn X.prog X.w H' h'):Inv X pins σ H' {s with heap:=h',toks:=t'}:=by
 obtain⟨m,⟨o,es,ep,ho,r⟩,_⟩:=id I.loc;obtain⟨sl,hL⟩:=u.any ho I.free (by simp);exact I.step (g':=s.gens) (d':=s.drawn) (ch:=[]) (fun _ z=>nomatch z) (fun b o _ hb _ e n=>u.keep b o e n hb (by simp)) (fun b o _ hb _ e n=>u.slot b o e n hb (by simp)) (fun b o _ e n=>u.free b o e n (by simp)) (fun b o _ e=>u.there b o e (by simp)) u.zb u.yF u.zt (fun m' hm=>by
  obtain⟨o',Hs,Iu,IJ,r'⟩:=hm;rw[ho]at IJ;cases IJ;exact⟨_,Hs,Iu,hL,r'⟩) b9 I.bare
def Inv.call {g':Array GenState}{t':Nat}{d':Drawn}{ch:List Addr}(I:Inv X pins σ H s)(u:Un (MT X.stack) ch H H' s.heap h')(b9:mn X.prog X.w H' h')(hg:AllBare g')
  (CO:∀b∈ch,(b∈X.ex∨X.zX.heap.objs.size≤b)∧b≠X.env.locals∧(∀x c,X.env.cells.lookup x=some c→c≠b)∧∀p∈X.pn++pins,p.1≠b):
  Inv X pins σ H' {s with heap:=h',gens:=g',drawn:=d',toks:=t'}:=by
 obtain⟨m,⟨o,es,ep,ho,r⟩,_⟩:=id I.loc;obtain⟨sl,hL⟩:=u.any ho I.free fun z=>(CO _ z).2.1 rfl;exact I.step (ch:=ch) CO (fun b o hL hb hc e n=>u.keep b o e n (fun z=>(bM.mp (I.FH b z)).elim hL hb) hc) (fun b o _ _ hc e n=>u.any e n hc) (fun b o hc e n=>u.free b o e n hc) (fun b o hc e=>u.there b o e hc) u.zb u.yF u.zt (fun m' hm=>by
  obtain⟨o',Hs,Iu,IJ,r'⟩:=hm;rw[ho]at IJ;cases IJ;exact⟨_,Hs,Iu,hL,r'⟩) b9 hg
def Inv.turned {t':Nat}{it:Addr}(I:Inv X pins σ H s)(k:∀b o,b≠it→s.heap.get? b=some o→h'.get? b=some o)(hn:H it=none)(hL:it≠X.env.locals)
  (h1:it∈X.ex∨X.zX.heap.objs.size≤it) (h2:∀x c,X.env.cells.lookup x=some c→c≠it) (h3:∀p∈X.pn++pins,p.1≠it):Inv X pins σ H {s with heap:=h',toks:=t'}:=by
 have Yz:∀b u,H b=some u→b≠it:=fun b u e z=>by rw[z,hn]at e;cases e
 refine I.step (g':=s.gens) (d':=s.drawn) (ch:=[it]) (fun b hb=>?_) (fun b o _ _ hc e _=>k b o (fun z=>hc (by simp[z])) e) (fun b o _ _ hc e _=>⟨o.slots,k b o (fun z=>hc (by simp[z])) e⟩) (fun _ _ _ _ n=>n)
  (fun b o hc e=>⟨o,k b o (fun z=>hc (by simp[z])) e⟩) (fun _ _ e=>e) (fun _ _ _ e=>e) (fun b ps e=>⟨#[],by rw[e];rfl⟩) (fun m hm=>?_) (fun b u e=>?_) I.bare
 grind -order
 ·obtain⟨o,es,ep,ho,r⟩:=hm;exact⟨o,es,ep,k _ o (aR hL) ho,r⟩
 refine(I.b9 b u e).aF (fun c v hc q=>k c v ?_ q) (fun _ q=>q) fun _ _ q=>q;lia
def Inv.tok (I:Inv X pins σ H s)(t:Nat):Inv X pins σ H {s with toks:=t}:=I.un (h':=s.heap) (t':=t) Un.refl I.b9
def Inv.kept {t':Nat}(I:Inv X pins σ H s)(k:∀b u,s.heap.get? b=some u→h'.get? b=some u):Inv X pins σ H {s with heap:=h',toks:=t'}:=I.un (Un.kept k) (I.b9.kept k)
def Inv.laid {a:Addr}{o:HO}{t':Nat}(I:Inv X pins σ H s)(k:∀b u,s.heap.get? b=some u→h'.get? b=some u)(hp:s.heap.objs.size≤a)(new:c8 X.prog X.w (upd H a o) h' a o):
  Inv X pins σ (upd H a o) {s with heap:=h',toks:=t'}:=I.un (Un.laid k hp (I.b9.fresh hp)) (I.b9.laid k hp new)
def Inv.write {x e:Addr}{o:HO}{t':Nat}(I:Inv X pins σ H s)(mu:NY (H x))(he:e=x∨H e=some (.own x))(k:∀b u,b≠e→s.heap.get? b=some u→h'.get? b=some u)(Tw:∃u,h'.get? e=some u)
  (new:c8 X.prog X.w (upd H x o) h' x o):Inv X pins σ (upd H x o) {s with heap:=h',toks:=t'}:=I.un (Un.write mu he k Tw) (I.b9.write mu he k Tw new)
def Inv.weak {σ':List (Option V)}(I:Inv X pins σ H s)(hl:σ'.length=σ.length)(w:∀(i:Nat) v,σ'[i]? =some (some v)→σ[i]? =some (some v)):Inv X pins σ' H s:=
 ⟨I.ok,I.os,I.bare,I.base,let⟨m,hn,fi⟩:=I.loc;⟨m,hn,fun i x v e1 e2 e3=>fi i x v e1 (w i v e2) e3⟩,I.cell,I.free,I.km,I.pin,I.b9,hl.trans I.len⟩
def Inv.Hr {PF:List (Addr×Obj)}(I:Inv X pins σ H s)(h:∀p∈PF,s.heap.get? p.1=some p.2∧H p.1=none∧p.1≠X.env.locals∧p.1∉X.fs∧∀v,p.2.data≠ .cell v):Inv X PF σ H s:=
 ⟨I.ok,I.os,I.bare,I.base,I.loc,I.cell,I.free,I.km,fun p hp=>(fK.mp hp).elim (fun z=>I.pin p (h_ _ z)) (h p),I.b9,I.len⟩
def xf {N:List Str}(hN:N.Nodup){i j:Nat}{x:Str}(a:N[i]? =some x)(b:N[j]? =some x):i=j:=by grind -order[List.getElem_inj]
def Aj {M:Model}{A:Around}{E:Value→Shared→Prop}{i:Nat}{x:Str}{v:V}{u:Value}{Q:Unit→Shared→Prop}(I:Inv X pins σ H s)(hN:X.N.Nodup)(hi:X.N[i]? =some x)(hx:Loc X.env.scope x)(r:RelV v u)
  (h:∀s',Inv X pins (σ.set i (some v)) H s'→(∃a,Heap.SameBut a s.heap s'.heap∧(a=X.env.locals∨X.env.cells.lookup x=some a))→Q () s') (hf:X.fn x=true∨X.env.scope.names.lookup x=some .local:=by first|exact .inl rfl|exact .inr rfl|assumption):wpAny M A (storeName X.env x u) Q E s:=by
 obtain⟨m,hn,hl⟩:=id I.loc;have hcls:(X.env.scope.kind== .class||(X.env.scope.kind== .module&&X.env.locals != X.env.globals))=false:=by rw[I.ok.kind];rfl
 have XB:i<σ.length:=by rw[I.len];exact(fu.mp hi).1
 have QD:=I.QD;have tracked:∀{a:Addr} {h':Heap},(∃o,s.heap.get? a=some o∧H a=none)→Heap.SameBut a s.heap h'→mn X.prog X.w H h':=fun{a h'} ha hs b ob e=>by
  obtain⟨_,_,AH⟩:=ha;refine(I.b9 b ob e).aF (fun c w' hc q=>(hs.2 c ?_).trans q) (fun _ q=>q) fun _ _ q=>q;lia
 rcases hx with hk|hk
 ·refine wpAny_storeName_local hk hn (fun h' jx hs=>?_) hcls;obtain⟨oL,_,_,UW,_⟩:=id hn;refine h _ ⟨I.ok,I.os,I.bare,⟨fun b o e n hb hx=>?_,fun b o e n hb hx=>?_,I.base.free,fun b o e hx=>?_,I.base.zb,I.base.yF,I.base.zt⟩,⟨_,jx,fun j y v' e1 e2 e3=>?_⟩,fun y c e=>?_,I.free,I.km,fun p hp=>?_,tracked ⟨oL,UW,I.free⟩ hs,by simpa using I.len⟩ ⟨_,hs,.inl rfl⟩;exact(hs.2 b (cC (fH (bb e) I.ok.above))).trans (I.base.keep b o e n hb hx)
  ·obtain⟨sl,e1⟩:=I.base.slot b o e n hb hx;exact⟨sl,(hs.2 b (cC (fH (bb e) I.ok.above))).trans e1⟩
  ·obtain⟨o',e1⟩:=I.base.there b o e hx;exact⟨o',(hs.2 b (cC (fH (bb e) I.ok.above))).trans e1⟩
  ·by_cases hj:j=i
   ·subst hj;rw[hi]at e1;cases e1;rw[List.getElem?_set_self XB]at e2;cases e2;exact⟨u,r,.inl ⟨hk,by simp⟩⟩
   rw[Gz (aR hj)]at e2;obtain⟨u',r',q⟩:=hl j y v' e1 e2 e3;refine⟨u',r',?_⟩;rcases q with⟨k,e⟩|⟨k,c,e,z⟩
   ·refine .inl ⟨k,?_⟩;have:y≠x:=fun e=>hj (xf hN e1 (e▸hi));simp[this,e]
   exact .inr ⟨k,c,e,z.sameBut hs (QD y c e)⟩
  ·obtain⟨w',z⟩:=I.cell y c e;exact⟨w',z.sameBut hs (QD y c e)⟩
  obtain⟨e,n,ne,nf,d⟩:=I.pin p hp;exact⟨(hs.2 p.1 ne).trans e,n,ne,nf,d⟩
 have W_:X.fn x=true:=by simp_all
 obtain⟨c,hc⟩:=I.ok.has x (.inl hk);obtain⟨w',z⟩:=I.cell x c hc;refine wpAny_storeName_cell I.ok.kind hk hc z (fun h' Va hs=>?_);obtain⟨oc,hoc,hocd⟩:=id z;refine h {s with heap:=h'} ⟨I.ok,I.os,I.bare,⟨fun b o e n hb hx=>?_,fun b o e n hb hx=>?_,I.base.free,fun b o e hx=>?_,I.base.zb,I.base.yF,I.base.zt⟩,⟨m,hn.sameBut hs (aR (QD x c hc)),fun j y v' e1 e2 e3=>?_⟩,fun y c' e=>?_,I.free,I.km,fun p hp=>?_,tracked ⟨oc,hoc,I.km x c hc⟩ hs,by simpa using I.len⟩ ⟨c,hs,.inr hc⟩;exact(hs.2 b (cC (fH (bb e) (I.ok.Sk x c W_ hc)))).trans (I.base.keep b o e n hb hx)
 ·obtain⟨sl,e1⟩:=I.base.slot b o e n hb hx;exact⟨sl,(hs.2 b (cC (fH (bb e) (I.ok.Sk x c W_ hc)))).trans e1⟩
 ·obtain⟨o',e1⟩:=I.base.there b o e hx;exact⟨o',(hs.2 b (cC (fH (bb e) (I.ok.Sk x c W_ hc)))).trans e1⟩
 ·by_cases hj:j=i
  ·subst hj;rw[hi]at e1;cases e1;rw[List.getElem?_set_self XB]at e2;cases e2;exact⟨u,r,.inr ⟨.inl hk,c,hc,Va⟩⟩
  rw[Gz (aR hj)]at e2;obtain⟨u',r',q⟩:=hl j y v' e1 e2 e3;refine⟨u',r',?_⟩;rcases q with q|⟨k,c',e,z'⟩;exact .inl q;refine .inr ⟨k,c',e,z'.sameBut hs ?_⟩;rintro rfl;exact hj (xf hN e1 (I.ok.inj _ _ _ e hc▸hi))
 ·by_cases U_:c'=c
  ·grind
  obtain⟨w2,z2⟩:=I.cell y c' e;exact⟨w2,z2.sameBut hs U_⟩
 obtain⟨e,n,ne,nf,d⟩:=I.pin p hp;refine⟨(hs.2 p.1 ?_).trans e,n,ne,nf,d⟩;grind
def xY {M:Model}{A:Around}{E:Value→Shared→Prop}{i:Nat}{x:Str}{v:V}{u:Value}{Q:Unit→Shared→Prop}(I:Inv X pins σ H s)(hN:X.N.Nodup)(hi:X.N[i]? =some x)(hx:Loc X.env.scope x)(r:RelV v u)
  (h:∀s',Inv X pins (σ.set i (some v)) H s'→Q () s') (hf:X.fn x=true∨X.env.scope.names.lookup x=some .local:=by first|exact .inl rfl|exact .inr rfl|assumption):wpAny M A (storeName X.env x u) Q E s:=
 Aj I hN hi hx r (fun s' I' _=>h s' I') hf
def Inv.S7 {s':Shared}{ch:List Addr}(I:Inv X pins σ H s)(ho:s'.os=s.os)(u:Un (MT X.stack) ch H H' s.heap s'.heap)(b9:mn X.prog X.w H' s'.heap)(hg:AllBare s'.gens)
  (CO:∀b∈ch,(b∈X.ex∨X.zX.heap.objs.size≤b)∧b≠X.env.locals∧(∀x c,X.env.cells.lookup x=some c→c≠b)∧∀p∈X.pn++pins,p.1≠b):Inv X pins σ H' s':=by
 obtain⟨h',g',d',t',o'⟩:=s';have e:o'=s.os:=ho;subst e;exact I.call (g':=g') (t':=t') (d':=d') u b9 hg CO
end
abbrev XK:=Value→Option Addr→Hp→Prop
abbrev St:=List (Option V)
abbrev VK:=V→Hp→Prop
abbrev TE:=St→Hp→VK→Prop
abbrev TT:=St→Hp→(Bool→Hp→Prop)→Prop
abbrev TA:=St→Hp→(List V→Hp→Prop)→Prop
structure Ends where
 nx:St→Hp→Prop
 rt:VK
 bk:St→Hp→Prop:=fun _ _=>False
 ct:St→Hp→Prop:=fun _ _=>False
abbrev TS:=Ends→St→Hp→Prop
inductive EP (X:Cx)(pins:List (Addr×Obj))(σ:St)(Q:VK)(u:Value)(s':Shared):Prop|mk v H':Inv X pins σ H' s'→RelV v u→Q v H'→EP X pins σ Q u s'
def TP (X:Cx)(pins:List (Addr×Obj))(σ:St)(Q:Bool→Hp→Prop)(b:Bool)(s':Shared):Prop:=∃H',Inv X pins σ H' s'∧Q b H'
inductive AP (X:Cx)(pins:List (Addr×Obj))(σ:St)(Q:List V→Hp→Prop)(us:List Value)(s':Shared):Prop|mk vs H':Inv X pins σ H' s'→Vals vs us→Q vs H'→AP X pins σ Q us s'
def SP (X:Cx)(pins:List (Addr×Obj))(D:Ends)(f:Flow)(s':Shared):Prop:=
 match f with
 | .next=>∃σ' H',Inv X pins σ' H' s'∧D.nx σ' H'
 | .brk=>∃σ' H',Inv X pins σ' H' s'∧D.bk σ' H'
 | .cont=>∃σ' H',Inv X pins σ' H' s'∧D.ct σ' H'
 | .ret u=>∃v σ' H',Inv X pins σ' H' s'∧RelV v u∧D.rt v H'
def PE (X:Cx)(e:Expr)(t:TE):Prop:=
 ∀(pins:List (Addr×Obj)) (s:Shared) (σ:St) (H:Hp) (Q:VK),Inv X pins σ H s→t σ H Q→wpAny (model X.prog X.w) X.A (eval e X.env) (EP X pins σ Q) X.xe s
def PT (X:Cx)(e:Expr)(t:TT):Prop:=
 ∀(pins:List (Addr×Obj)) (s:Shared) (σ:St) (H:Hp) (Q:Bool→Hp→Prop),Inv X pins σ H s→t σ H Q→wpAny (model X.prog X.w) X.A (isTrue e X.env (eval e X.env)) (TP X pins σ Q) X.xe s
def PW (X:Cx)(e:Expr)(t:TT):Prop:=
 ∀(whole:Sem Value) (pins:List (Addr×Obj)) (s:Shared) (σ:St) (H:Hp) (Q:Bool→Hp→Prop),Inv X pins σ H s→t σ H Q→wpAny (model X.prog X.w) X.A (isTrue e X.env whole) (TP X pins σ Q) X.xe s
def PW.pt {X:Cx}{e:Expr}{t:TT}(h:PW X e t):PT X e t:=h _
def PA (X:Cx)(es:List Expr)(t:TA):Prop:=
 ∀(pos:Pos) (pins:List (Addr×Obj)) (s:Shared) (σ:St) (H:Hp) (Q:List V→Hp→Prop),Inv X pins σ H s→t σ H Q→wpAny (model X.prog X.w) X.A (spliced (backTo pos (starEach es X.env))) (AP X pins σ Q) X.xe s
def PS (X:Cx)(st:Stmt)(t:TS):Prop:=
 ∀(pins:List (Addr×Obj)) (s:Shared) (σ:St) (H:Hp) (D:Ends),Inv X pins σ H s→t D σ H→wpAny (model X.prog X.w) X.A (exec st X.env) (SP X pins D) X.xe s
def Fd (X:Cx)(st:List Stmt)(t:TS):Prop:=
 ∀(pins:List (Addr×Obj)) (s:Shared) (σ:St) (H:Hp) (D:Ends),Inv X pins σ H s→t D σ H→wpAny (model X.prog X.w) X.A (execs st X.env) (SP X pins D) X.xe s
def cS {α:Type}{t:Sem α}{Q Q':α→Shared→Prop}{M:Model}{A:Around}{E:Value→Shared→Prop}{s:Shared}(h:wpAny M A t Q E s)(hQ:∀a s,Q a s→Q' a s):wpAny M A t Q' E s:=gM h hQ fun _ _ x=>x
section
variable{X:Cx}
def bin {a b:Expr}{ta tb:TE}(ha:PE X a ta)(hb:PE X b tb){pins:List (Addr×Obj)}{s:Shared}{σ:St}{H:Hp}{R:V→V→Hp→Prop}(I:Inv X pins σ H s)(h:ta σ H fun x H1=>tb σ H1 fun y H2=>R x y H2)
  {α:Type} {Q:α→Shared→Prop} {f:Value→Value→Sem α}
  (hf:∀v u s2 x y H2,Inv X pins σ H2 s2→RelV x v→RelV y u→R x y H2→wpAny (model X.prog X.w) X.A (f v u) Q X.xe s2):
  wpAny (model X.prog X.w) X.A (eval a X.env) (fun v s₁=>wpAny (model X.prog X.w) X.A (eval b X.env) (fun u s₂=>wpAny (model X.prog X.w) X.A (f v u) Q X.xe s₂) X.xe s₁) X.xe s:=by
 refine cS (ha pins s σ H _ I h) fun v s1 ⟨x,H1,I1,r1,q1⟩=>?_;refine cS (hb pins s1 σ H1 _ I1 q1) fun u s2 ⟨y,H2,I2,r2,q2⟩=>?_;exact hf v u s2 x y H2 I2 r1 r2 q2
def iR (o:Option (Option V))(H:Hp)(Q:VK):Prop:=@Option.rec _ (fun _=>Prop) False (fun x=>@Option.rec _ (fun _=>Prop) False (fun v=>Q v H) x) o
def iE_ {o:Option (Option V)}{H:Hp}{Q:VK}(h:iR o H Q):∃v,o=some (some v)∧Q v H:=by rcases o with _|_|v;exact h.elim;exact h.elim;exact⟨v,rfl,h⟩
def iM_ {o:Option (Option V)}{H:Hp}{Q:VK}{v}(e:o=some (some v))(h:Q v H):iR o H Q:=e▸h
def iD (i:Nat):TE:=fun σ H Q=>iR σ[i]? H Q
def tC (v:V):TE:=fun _ H Q=>Q v H
def Qx {i:Nat}{x:Str}{pos:Pos}(hN:X.N[i]? =some x)(hv:Sa X.env.scope x)(hd:(x==("__debug__" :Str))=false:=by decide)(E':(x==("__classdict__" :Str))=false:=by decide):PE X (.Name x pos) (iD i):=by
 intro pins s σ H Q I h;obtain⟨v,e,h⟩:=iE_ h;obtain⟨m,hn,hl⟩:=I.loc;obtain⟨u,r,l⟩:=hl i x v hN e hv;have fin:EP X pins σ Q u s:=⟨v,H,I,r,h⟩;rcases l with⟨hk,hm⟩|⟨hk,c,hc,qk⟩;exact uJ (Ce I.ok.kind hk hn hm fin) hd;rcases hk with hk|hk;exact uJ (wpAny_loadName_cell I.ok.kind hk hc qk fin) hd;exact uJ (wpAny_loadName_free I.ok.kind hk hc qk fin E') hd
def ax {i j pos}:PE X (.Constant (.int i) j pos) (tC (.int i)):=fun _ _ _ H _ I h=>G0 ⟨.int i,H,I.tok _,⟨_,rfl⟩,h⟩
def gG {b j pos}:PE X (.Constant (.bool b) j pos) (tC (.bl b)):=fun _ _ _ H _ I h=>Constant_bool ⟨.bl b,H,I,rfl,h⟩
def L_ {x j pos}:PE X (.Constant (.str x) j pos) (tC (.str x)):=fun _ _ _ H _ I h=>Calls.Constant_str ⟨.str x,H,I.tok _,⟨_,rfl⟩,h⟩
def Gl (X:Cx)(x:Str):Prop:=X.env.kindOf x=some .globalImplicit
def sJ {E:Value→Shared→Prop}{pins:List (Addr×Obj)}{s:Shared}{σ:St}{H:Hp}{x:Str}{u:Value}{pos:Pos}{Q:Value→Shared→Prop}(I:Inv X pins σ H s)(hg:Gl X x)(hm:X.mg x=some u)(h:Q u s)
  (hd:(x==("__debug__" :Str))=false:=by decide):wpAny (model X.prog X.w) X.A (eval (.Name x pos) X.env) Q E s:=
 Calls.Name_function_global I.ok.kind hg (Calls.loadGlobal_global (by rw[I.ok.glob];exact I.mod.glob.keeps I.bk) hm h) hd
def lR {E:Value→Shared→Prop}{pins:List (Addr×Obj)}{s:Shared}{σ:St}{H:Hp}{x:Str}{u:Value}{pos:Pos}{Q:Value→Shared→Prop}(I:Inv X pins σ H s)(hg:Gl X x)(hm:X.mg x=none)(hv:bootBuiltins x=some u)(h:Q u s)
  (hn:x≠"__name__" :=by decide) (hd:(x==("__debug__" :Str))=false:=by decide):wpAny (model X.prog X.w) X.A (eval (.Name x pos) X.env) Q E s:=by
 obtain⟨mb,h1,h2⟩:=I.mod.blt;exact Calls.Name_function_global I.ok.kind hg (Calls.loadGlobal_builtin (by rw[I.ok.glob];exact I.mod.glob.keeps I.bk) hm (by rw[I.ok.blt];exact h1.keeps I.bk) ((h2 x hn).trans hv) h) hd
def Ou {x:Str}{v:V}{u:Value}{pos:Pos}(hg:Gl X x)(hm:X.mg x=some u)(r:RelV v u)(hd:(x==("__debug__" :Str))=false:=by decide):PE X (.Name x pos) (tC v):=
 fun _ _ _ H _ I h=>sJ I hg hm ⟨v,H,I,r,h⟩ hd
variable{a b:Expr}{ta tb:TE}{pos:Pos}
def PC (X:Cx)(op:CmpOp)(a b:Expr)(t:TE):Prop:=
 ∀(pins:List (Addr×Obj)) (s:Shared) (σ:St) (H:Hp) (Q:VK),Inv X pins σ H s→t σ H Q→
  wpAny (model X.prog X.w) X.A (eval a X.env) (fun v s₁=>wpAny (model X.prog X.w) X.A (eval b X.env) (fun u s₂=>wpAny (model X.prog X.w) X.A (compareOp op v u) (EP X pins σ Q) X.xe s₂) X.xe s₁) X.xe s
inductive iB_ (Q:Bool→Hp→Prop)(x:V)(H:Hp):Prop|mk k:x= .bl k→Q k H→iB_ Q x H
def tB (t:TE):TT:=fun σ H Q=>t σ H (iB_ Q)
def Kr {op:CmpOp}{t:TE}(h:PC X op a b t)(h1:behindInMarks op b=false:=by rfl):PE X (.Compare a [op] [b] pos) t:=fun pins s σ H Q I hw=>wpAny_Compare1 (h pins s σ H Q I hw) h1
def dc {op:CmpOp}{t:TE}(h:PC X op a b t)(h1:behindInMarks op b=false:=by rfl):PT X (.Compare a [op] [b] pos) (tB t):=by
 intro pins s σ H Q I hw;refine wpAny_isTrue_Compare1 (cS (h pins s σ H _ I hw) fun v s1 h1=>cS h1 fun u s2 h2=>cS h2 fun c s3 ⟨x,H1,I1,r1,q1⟩=>?_) h1;obtain⟨d,rfl,q⟩:=q1;cases r1;exact j8 ⟨H1,I1,q⟩
variable{tA UG:TT}{rest:List Expr}
def Tu (t u:TT):TT:=fun σ H Q=>t σ H fun c H1=>if c=true then u σ H1 Q else Q false H1
def YN (t u:TT):TT:=fun σ H Q=>t σ H fun c H1=>if c=true then Q true H1 else u σ H1 Q
def Sj (t:TT):TT:=fun σ H Q=>t σ H fun c H1=>Q (!c) H1
def oB (ha:PT X a tA):PW X (.BoolOp .And [a] pos) tA:=by
 intro wh pins s σ H Q I h;refine isTrue_and (cS (ha pins s σ H Q I h) fun c s1 e=>?_);cases c with
 | true=>exact isTrue_and_nil e
 | false=>exact e
def uE (ha:PT X a tA):PW X (.BoolOp .Or [a] pos) tA:=by
 intro wh pins s σ H Q I h;refine isTrue_or (cS (ha pins s σ H Q I h) fun c s1 e=>?_);cases c with
 | false=>exact isTrue_or_nil e
 | true=>exact e
def ua (ha:PT X a tA)(hb:PW X (.BoolOp .And (b::rest) pos) UG):PW X (.BoolOp .And (a::b::rest) pos) (Tu tA UG):=by
 intro wh pins s σ H Q I h;refine isTrue_and (cS (ha pins s σ H _ I h) fun c s1 ⟨H1,I1,q1⟩=>?_);cases c with
 | true=>exact hb wh pins s1 σ H1 Q I1 q1
 | false=>exact⟨H1,I1,q1⟩
def Aa (ha:PT X a tA)(hb:PW X (.BoolOp .Or (b::rest) pos) UG):PW X (.BoolOp .Or (a::b::rest) pos) (YN tA UG):=by
 intro wh pins s σ H Q I h;refine isTrue_or (cS (ha pins s σ H _ I h) fun c s1 ⟨H1,I1,q1⟩=>?_);cases c with
 | true=>exact⟨H1,I1,q1⟩
 | false=>exact hb wh pins s1 σ H1 Q I1 q1
def jc (ha:PT X a tA):PT X (.UnaryOp .Not a pos) (Sj tA):=by
 intro pins s σ H Q I h;exact isTrue_not (ha pins s σ H (fun c H1=>Q (!c) H1) I h)
def S6 (ta tb:TE):TE:=fun σ H Q=>ta σ H (iB_ fun c H1=>if c=true then tb σ H1 Q else Q (.bl false) H1)
def VZ (ta tb:TE):TE:=fun σ H Q=>ta σ H (iB_ fun c H1=>if c=true then Q (.bl true) H1 else tb σ H1 Q)
def Tz (ta:TE):TE:=fun σ H Q=>ta σ H (iB_ fun c H1=>Q (.bl (!c)) H1)
def yc {op}{t:TE}(h:PE X a t):PE X (.BoolOp op [a] pos) t:=fun pins s σ H Q I hw=>BoolOp_one (h pins s σ H Q I hw)
def RP (ha:PE X a ta)(hb:PE X (.BoolOp .And (b::rest) pos) tb):PE X (.BoolOp .And (a::b::rest) pos) (S6 ta tb):=by
 intro pins s σ H Q I h;refine BoolOp_and (cS (ha pins s σ H _ I h) fun v s1 ⟨x,H1,I1,r1,q1⟩=>?_);obtain⟨c,rfl,q1⟩:=q1;cases r1;refine j8 ?_;cases c with
 | true=>exact hb pins s1 σ H1 Q I1 q1
 | false=>exact⟨.bl false,H1,I1,rfl,q1⟩
def Tn (ha:PE X a ta)(hb:PE X (.BoolOp .Or (b::rest) pos) tb):PE X (.BoolOp .Or (a::b::rest) pos) (VZ ta tb):=by
 intro pins s σ H Q I h;refine BoolOp_or (cS (ha pins s σ H _ I h) fun v s1 ⟨x,H1,I1,r1,q1⟩=>?_);obtain⟨c,rfl,q1⟩:=q1;cases r1;refine j8 ?_;cases c with
 | false=>exact hb pins s1 σ H1 Q I1 q1
 | true=>exact⟨.bl true,H1,I1,rfl,q1⟩
def Qh (ha:PE X a ta):PE X (.UnaryOp .Not a pos) (Tz ta):=by
 intro pins s σ H Q I h;refine UnaryOp_ (cS (ha pins s σ H _ I h) fun v s1 ⟨x,H1,I1,r1,q1⟩=>?_);obtain⟨c,rfl,q1⟩:=q1;cases r1;exact not_of (j8 ⟨.bl (!c),H1,I1,rfl,q1⟩)
def YS (t:TT)(ta tb:TE):TE:=fun σ H Q=>t σ H fun c H1=>if c=true then ta σ H1 Q else tb σ H1 Q
def ft {c:Expr}(hc:PT X c tA)(ha:PE X a ta)(hb:PE X b tb):PE X (.IfExp c a b pos) (YS tA ta tb):=by
 intro pins s σ H Q I h;refine wpAny_IfExp (cS (hc pins s σ H _ I h) fun d s1 ⟨H1,I1,q1⟩=>?_);cases d with
 | true=>exact ha pins s1 σ H1 Q I1 q1
 | false=>exact hb pins s1 σ H1 Q I1 q1
end
def bz (K:Frag)(H:Hp)(a:Addr)(xs:List V):Prop:=
 Rd H a (.lst xs)∨
  ∃(o:Obj) (bp:Array Value) (n:Nat),K.lookup a=some o∧o.cls= .type "list" ∧o.dict=none∧o.data= .seq bp n∧bp.size≤sizeLine∧Vals xs bp.toList
def ju (K:Frag)(H:Hp)(a:Addr)(xs:List V):Prop:=
 Rd H a (.tup xs)∨
  ∃(o:Obj) (bp:Array Value) (n:Nat),K.lookup a=some o∧o.cls= .type "tuple" ∧o.data= .seq bp n∧bp.size≤sizeLine∧Vals xs bp.toList
def VH:Value→Option V
 | .none=>some .gq
 | .bool b=>some (.bl b)
 | .int i _=>some (.int i)
 | .str x _=>some (.str x)
 | .bytes b _=>some (.CQ b)
 | .float b _=>some (.UK b)
 | .ref a=>some (.ref a)
 | .type n=>some (.ty n)
 | _=>none
def RelV.abs {x:V}{u:Value}(r:RelV x u):VH u=some x:=by
 cases x with
 | gq=>cases r;rfl
 | bl _=>cases r;rfl
 | int _=>obtain⟨t,rfl⟩:=r;rfl
 | str _=>obtain⟨t,rfl⟩:=r;rfl
 | CQ _=>obtain⟨t,rfl⟩:=r;rfl
 | UK _=>obtain⟨t,rfl⟩:=r;rfl
 | ref _=>cases r;rfl
 | ty _=>cases r;rfl
def RelV.inj {x y:V}{u:Value}(r:RelV x u)(q:RelV y u):x=y:=cV (r.abs.symm.trans q.abs)
theorem Vals.inj:∀{xs ys:List V} {us:List Value},Vals xs us→Vals ys us→xs=ys
 | _,_,_,.nil,.nil=>rfl
 | _,_,_,.cons r t,.cons r' t'=>by rw[r.inj r',Vals.inj t t']
section
variable{X:Cx}{pins:List (Addr×Obj)}{σ:St}{H:Hp}{s:Shared}{a:Addr}{xs ys:List V}
def bz.of {K:Frag}(h:H a=some (.lst xs)):bz K H a xs:= .inl (.inl h)
def ju.of {K:Frag}(h:H a=some (.tup xs)):ju K H a xs:= .inl (.inl h)
def Inv.list (I:Inv X pins σ H s)(h:bz X.K H a xs):∃bp:List Value,Vals xs bp∧PlainL s.heap a bp.toArray∧xs.length≤sizeLine:=by
 rcases h with h|⟨o,bp,n,hk,hc,hd,hs,hz,r⟩
 ·obtain⟨z,bp,n,r,e⟩:=h.ok I.b9;exact⟨bp,r,⟨_,n,e,rfl,rfl,rfl⟩,z⟩
 refine⟨bp.toList,r,⟨o,n,I.CP a o hk,hc,hd,by simpa using hs⟩,?_⟩;have e:=r.length;simp_all
def Inv.tuple (I:Inv X pins σ H s)(h:ju X.K H a xs):∃bp:List Value,Vals xs bp∧IsTup s.heap a bp.toArray∧xs.length≤sizeLine:=by
 rcases h with h|⟨o,bp,n,hk,hc,hs,hz,r⟩
 ·obtain⟨z,bp,r,p⟩:=h.ok I.b9;simp_all;grind
 refine⟨bp.toList,r,⟨o,I.CP a o hk,hc,n,by simpa using hs⟩,?_⟩;have e:=r.length;simp_all
def Inv.Ed (I:Inv X pins σ H s)(h:bz X.K H a xs)(h':bz X.K H a ys):xs=ys:=by
 obtain⟨bp,r,⟨o,n,e,_,_,d⟩,_⟩:=I.list h;obtain⟨its',r',⟨o',n',e',_,_,d'⟩,_⟩:=I.list h';rw[e]at e';cases e';rw[d]at d';injection d' with d1 _
 have:bp=its':=by simpa using congrArg Array.toList d1
 subst this;exact r.inj r'
def Inv.IC (I:Inv X pins σ H s)(h:ju X.K H a xs)(h':ju X.K H a ys):xs=ys:=by
 obtain⟨bp,r,⟨o,e,_,n,d⟩,_⟩:=I.tuple h;obtain⟨its',r',⟨o',e',_,n',d'⟩,_⟩:=I.tuple h';rw[e]at e';cases e';rw[d]at d';injection d' with d1 _
 have:bp=its':=by simpa using congrArg Array.toList d1
 subst this;exact r.inj r'
end
abbrev Cx.zM (X:Cx)(E:Value→Shared→Prop):Cx:={X with xe:=E}
abbrev Cx.PH (X:Cx):Cx:=X.zM fun _ _=>False
def Cx.Ok.zM {X:Cx}(ok:X.Ok)(E:Value→Shared→Prop):(X.zM E).Ok:=
 ⟨ok.mod,ok.kind,ok.glob,ok.blt,ok.above,ok.inj,ok.has,ok.Sk,ok.hd,ok.frames,ok.Vf,ok.Sf,ok.bs,ok.JK,ok.Mc,ok.LC,ok.vQ,ok.PX⟩
def Cx.Ok.nU {X:Cx}{E:Value→Shared→Prop}(ok:(X.zM E).Ok):X.Ok:=
 ⟨ok.mod,ok.kind,ok.glob,ok.blt,ok.above,ok.inj,ok.has,ok.Sk,ok.hd,ok.frames,ok.Vf,ok.Sf,ok.bs,ok.JK,ok.Mc,ok.LC,ok.vQ,ok.PX⟩
section
variable{X:Cx}{pins:List (Addr×Obj)}{σ:St}{H:Hp}{s:Shared}{E:Value→Shared→Prop}
def Inv.zM (I:Inv X pins σ H s)(E:Value→Shared→Prop):Inv (X.zM E) pins σ H s:=⟨I.ok.zM E,I.os,I.bare,I.base,I.loc,I.cell,I.free,I.km,I.pin,I.b9,I.len⟩
def Inv.nU (I:Inv (X.zM E) pins σ H s):Inv X pins σ H s:=⟨I.ok.nU,I.os,I.bare,I.base,I.loc,I.cell,I.free,I.km,I.pin,I.b9,I.len⟩
def SP.nU {D:Ends}{f:Flow}{s':Shared}(h:SP (X.zM E) pins D f s'):SP X pins D f s':=by
 cases f with
 | next=>obtain⟨σ',H',I,q⟩:=h;exact⟨σ',H',I.nU,q⟩
 | brk=>obtain⟨σ',H',I,q⟩:=h;exact⟨σ',H',I.nU,q⟩
 | cont=>obtain⟨σ',H',I,q⟩:=h;exact⟨σ',H',I.nU,q⟩
 | ret u=>obtain⟨v,σ',H',I,r,q⟩:=h;exact⟨v,σ',H',I.nU,r,q⟩
def Fd.PH {st:List Stmt}{t:TS}(h:Fd X.PH st t):Fd X st t:=fun pins s σ H D I hw=>
 gM (h pins s σ H D (I.zM _) hw) (fun _ _ q=>q.nU) fun _ _ z=>False.elim z
end
section
variable{X:Cx}{st:Stmt}{rest:List Stmt}{t u:TS}{e:Expr}{te:TE}{pos:Pos}
def CS:TS:=fun D σ H=>D.nx σ H
def pb (t u:TS):TS:=fun D σ H=>t {D with nx:=u D} σ H
def aB:Fd X [] CS:=fun _ _ σ H _ I h=>Cn ⟨σ,H,I,h⟩
def ae (h1:PS X st t)(h2:Fd X rest u):Fd X (st::rest) (pb t u):=by
 intro pins s σ H D I h;refine wpAny_execs_cons (cS (h1 pins s σ H {D with nx:=u D} I h) fun f s1 q=>?_);cases f with
 | next=>
  obtain⟨σ',H',I',q⟩:=q;exact h2 pins s1 σ' H' D I' q
 | ret v=>exact q
 | brk=>exact q
 | cont=>exact q
def ai (h1:PS X st t):Fd X [st] t:=by
 intro pins s σ H D I h;refine wpAny_execs_cons (cS (h1 pins s σ H D I h) fun f s1 q=>?_);cases f with
 | next=>exact Cn q
 | ret v=>exact q
 | brk=>exact q
 | cont=>exact q
def Inv.quiet {pins:List (Addr×Obj)}{σ:St}{H:Hp}{s:Shared}(I:Inv X pins σ H s):interactive X.env=false:=by simp[interactive,I.ok.kind]
def TB (te:TE):TS:=fun D σ H=>te σ H fun _ H1=>D.nx σ H1
def dR (he:PE X e te)(hs:swapsWith e none pos.line X.env=pure false:=by rfl):PS X (.Expr e pos) (TB te):=by
 intro pins s σ H D I h;exact wpAny_Expr_any (cS (he pins s σ H _ I h) fun v s1 ⟨x,H1,I1,r1,q1⟩=>⟨σ,H1,I1,q1⟩) I.quiet hs
def GR (te:TE):TS:=fun D σ H=>te σ H D.rt
def au (he:PE X e te):PS X (.Return (some e) pos) (GR te):=by
 intro pins s σ H D I h;exact wpAny_Return_some (cS (he pins s σ H _ I h) fun v s1 ⟨x,H1,I1,r1,q1⟩=>⟨x,σ,H1,I1,r1,q1⟩)
def JT (c:TT)(t u:TS):TS:=fun D σ H=>c σ H fun b H1=>if b=true then t D σ H1 else u D σ H1
def aU {c:Expr}{a b:List Stmt}{tc:TT}(hc:PT X c tc)(ha:Fd X a t)(hb:Fd X b u):PS X (.If c a b pos) (JT tc t u):=by
 intro pins s σ H D I h;refine wpAny_If (cS (hc pins s σ H _ I h) fun d s1 ⟨H1,I1,q1⟩=>?_);cases d with
 | true=>exact ha pins s1 σ H1 D I1 q1
 | false=>exact hb pins s1 σ H1 D I1 q1
end
abbrev TG:=V→St→Hp→(St→Hp→Prop)→Prop
abbrev PD:=List V→St→Hp→(St→Hp→Prop)→Prop
def PG (X:Cx)(target:Expr)(t:TG):Prop:=
 ∀(pins:List (Addr×Obj)) (s:Shared) (σ:St) (H:Hp) (v:V) (u:Value) (Q:St→Hp→Prop),Inv X pins σ H s→RelV v u→t v σ H Q→
  wpAny (model X.prog X.w) X.A (assign target X.env u) (fun _ s'=>∃σ' H',Inv X pins σ' H' s'∧Q σ' H') X.xe s
def Ud (X:Cx)(ts:List Expr)(t:PD):Prop:=
 ∀(pins:List (Addr×Obj)) (s:Shared) (σ:St) (H:Hp) (vs:List V) (us:List Value) (Q:St→Hp→Prop),Inv X pins σ H s→Vals vs us→t vs σ H Q→
  wpAny (model X.prog X.w) X.A (assignInOrder ((assignEach ts X.env).map (·.2)) us) (fun _ s'=>∃σ' H',Inv X pins σ' H' s'∧Q σ' H') X.xe s
abbrev RM:=V→V→V→Hp→(Hp→Prop)→Prop
def SD (X:Cx)(t:RM):Prop:=
 ∀(pins:List (Addr×Obj)) (s:Shared) (σ:St) (H:Hp) (o i v:V) (ov iv u:Value) (Q:Hp→Prop),Inv X pins σ H s→RelV o ov→RelV i iv→RelV v u→t o i v H Q→
  wpAny (model X.prog X.w) X.A (setItem ov iv u) (fun _ s'=>∃H',Inv X pins σ H' s'∧Q H') X.xe s
abbrev Sd:=V→V→Hp→VK→Prop
def UN (X:Cx)(op:Operator)(t:Sd):Prop:=
 ∀(pins:List (Addr×Obj)) (s:Shared) (σ:St) (H:Hp) (x y:V) (v u:Value) (Q:VK),Inv X pins σ H s→RelV x v→RelV y u→t x y H Q→
  wpAny (model X.prog X.w) X.A (inplaceOp op v u) (EP X pins σ Q) X.xe s
section
variable{X:Cx}{pos:Pos}
def pB (i:Nat):TG:=fun v σ H Q=>Q (σ.set i (some v)) H
def aC {i:Nat}{x:Str}(hN:X.N.Nodup)(hi:X.N[i]? =some x:=by rfl)(hx:Loc X.env.scope x:=by first|exact Or.inl rfl|exact Or.inr rfl)(hf:X.fn x=true∨X.env.scope.names.lookup x=some .local:=by first|exact .inl rfl|exact .inr rfl|assumption):PG X (.Name x pos) (pB i):=by
 intro pins s σ H v u Q I r h;exact wpAny_assign_Name (xY I hN hi hx r (fun s' I'=>⟨_,H,I',h⟩) hf)
def SW:PD:=fun vs σ H Q=>vs=[]∧Q σ H
inductive K5 (t:TG)(u:PD)(vs:List V)(σ:St)(H:Hp)(Q:St→Hp→Prop):Prop|mk v r:vs=v::r→t v σ H (fun σ' H'=>u r σ' H' Q)→K5 t u vs σ H Q
def cz:Ud X [] SW:=by
 intro pins s σ H vs us Q I r h;obtain⟨e,h⟩:=h;subst e;cases r;exact assignInOrder_nil ⟨σ,H,I,h⟩
theorem aT {e:Expr}{es:List Expr}{t:TG}{u:PD}(h1:PG X e t)(h2:Ud X es u)
  (hs:(assignEach (e::es) X.env).map (·.2)=assign e X.env::(assignEach es X.env).map (·.2):=by rfl):Ud X (e::es) (K5 t u):=by
 intro pins s σ H vs us Q I r h;obtain⟨v,vr,e1,h⟩:=h;subst e1;cases r with
 | cons r rr=>
  rw[hs];refine assignInOrder_cons (cS (h1 pins s σ H _ _ _ I r h) fun _ s1 ⟨σ1,H1,I1,q1⟩=>?_);exact h2 pins s1 σ1 H1 _ _ Q I1 rr q1
inductive PZ (K:Frag)(n:Nat)(t:PD)(v:V)(σ:St)(H:Hp)(Q:St→Hp→Prop):Prop|mk a xs:v= .ref a→ju K H a xs→xs.length=n→t xs σ H Q→PZ K n t v σ H Q
def gT {es:List Expr}{k:Nat}{t:PD}{n:Nat}(hc:X.calm=true)(h:Ud X es t)
  (hn:(assignEach es X.env).length=n:=by rfl) (pX:(assignEach es X.env).findIdx? (·.1)=none:=by rfl):PG X (.Tuple es k pos) (PZ X.K n t):=by
 intro pins s σ H v u Q I r hw;obtain⟨a,xs,e1,hq,hl,hw⟩:=hw;subst e1;cases r;obtain⟨bp,rv,ht,hz⟩:=I.tuple hq;refine assign_Tuple_tuple (I.ok.hd hc) ht (by simp[hn,←hl,rv.length]) pX fun h' hx=>?_;have I1:Inv X pins σ H {s with heap:=h'}:=I.kept (t':=s.toks) fun b o e=>hx b o (cC (bb e)) e;exact h pins _ σ H xs _ Q I1 (by simpa using rv) hw
def Nj (te:TE)(g:TG):TS:=fun D σ H=>te σ H fun x H1=>g x σ H1 D.nx
def aN {i:Nat}{x:Str}{e:Expr}{te:TE}{pos':Pos}(hN:X.N.Nodup)(he:PE X e te)(hi:X.N[i]? =some x:=by rfl)(hx:Loc X.env.scope x:=by first|exact Or.inl rfl|exact Or.inr rfl)(hs:swapsWith e (some (.Name x pos')) pos.line X.env=pure false:=by rfl)(hf:X.fn x=true∨X.env.scope.names.lookup x=some .local:=by first|exact .inl rfl|exact .inr rfl|assumption):
  PS X (.Assign [.Name x pos'] e pos) (Nj te (pB i)):=by
 intro pins s σ H D I h;refine wpAny_Assign_Name (cS (he pins s σ H _ I h) fun v s1 ⟨y,H1,I1,r1,q1⟩=>?_) hs;exact xY I1 hN hi hx r1 (fun s2 I2=>⟨_,H1,I2,q1⟩) hf
def V8 (i:Nat)(te:TE)(ti:Sd):TS:=fun D σ H=>∃x,σ[i]? =some (some x)∧te σ H fun y H1=>ti x y H1 fun z H2=>D.nx (σ.set i (some z)) H2
def Cr {i:Nat}{x:Str}{e:Expr}{te:TE}{op:Operator}{ti:Sd}{pos':Pos}(hN:X.N.Nodup)(hi:X.N[i]? =some x)(hx:Loc X.env.scope x)(he:PE X e te)(ho:UN X op ti)(hf:X.fn x=true∨X.env.scope.names.lookup x=some .local:=by first|exact .inl rfl|exact .inr rfl|assumption):
  PS X (.AugAssign (.Name x pos') op e pos) (V8 i te ti):=by
 intro pins s σ H D I h;obtain⟨v,e1,h⟩:=h;obtain⟨m,hn,hl⟩:=I.loc;have vis:Sa X.env.scope x:=by rcases hx with k|k;exact .inl k;exact .inr (.inl k)
 obtain⟨u,r,l⟩:=hl i x v hi e1 vis;refine wpAny_AugAssign_Name ?_;have go:wpAny (model X.prog X.w) X.A (eval e X.env) (fun w s₂=>wpAny (model X.prog X.w) X.A (inplaceOp op u w) (fun r s₃=>wpAny (model X.prog X.w) X.A (storeName X.env x r) (fun _=>SP X pins D .next) X.xe s₃) X.xe s₂) X.xe s:=by
  refine cS (he pins s σ H _ I h) fun w s1 ⟨y,H1,I1,r1,q1⟩=>?_;refine cS (ho pins s1 σ H1 v y u w _ I1 r r1 q1) fun z s2 ⟨zv,H2,I2,r2,q2⟩=>?_;exact xY I2 hN hi hx r2 (fun s3 I3=>⟨_,H2,I3,q2⟩) hf
 rcases l with⟨hk,hm⟩|⟨hk,c,hc,qk⟩;exact Ce I.ok.kind hk hn hm go;rcases hk with hk|hk;exact wpAny_loadName_cell I.ok.kind hk hc qk go;rcases hx with k|k
 ·have:X.env.scope.names.lookup x=some .free:=hk;simp_all
 have:X.env.scope.names.lookup x=some .free:=hk;simp_all
def SV (to ti te:TE)(OF:V→V→Hp→VK→Prop)(U4:Sd)(Nt:RM):TS:=fun D σ H=>to σ H fun o H1=>ti σ H1 fun i H2=>OF o i H2 fun x H3=>te σ H3 fun y H4=>U4 x y H4 fun z H5=>Nt o i z H5 fun H6=>D.nx σ H6
def TF (X:Cx)(t:V→V→Hp→VK→Prop):Prop:=
 ∀(pins:List (Addr×Obj)) (s:Shared) (σ:St) (H:Hp) (o i:V) (ov iv:Value) (Q:VK),Inv X pins σ H s→RelV o ov→RelV i iv→t o i H Q→
  wpAny (model X.prog X.w) X.A (getItem ov iv) (EP X pins σ Q) X.xe s
def N7 {o i e:Expr}{to ti te:TE}{OF:V→V→Hp→VK→Prop}{U4:Sd}{Nt:RM}{op:Operator}{tW:Pos}(ho:PE X o to)(hi:PE X i ti)(hg:TF X OF)(he:PE X e te)(hp:UN X op U4)(hs:SD X Nt)
  (ha:∀ov iv new,augStore i ov iv new=(do holding [new,ov,iv] (setItem ov iv new);release [new,ov,iv] [];pure .next):=by intros;rfl):PS X (.AugAssign (.Subscript o i tW) op e pos) (SV to ti te OF U4 Nt):=by
 intro pins s σ H D I h;refine wpAny_AugAssign_SubscriptAny (cS (ho pins s σ H _ I h) fun ov s1 ⟨x1,H1,I1,r1,q1⟩=>?_) ha;refine cS (hi pins s1 σ H1 _ I1 q1) fun iv s2 ⟨x2,H2,I2,r2,q2⟩=>?_;refine cS (hg pins s2 σ H2 x1 x2 ov iv _ I2 r1 r2 q2) fun old s3 ⟨x3,H3,I3,r3,q3⟩=>?_;refine cS (he pins s3 σ H3 _ I3 q3) fun v s4 ⟨x4,H4,I4,r4,q4⟩=>?_;refine cS (hp pins s4 σ H4 x3 x4 old v _ I4 r3 r4 q4) fun new s5 ⟨x5,H5,I5,r5,q5⟩=>?_;exact cS (hs pins s5 σ H5 x1 x2 x5 ov iv new _ I5 r1 r2 r5 q5) fun _ s6 ⟨H6,I6,q6⟩=>⟨σ,H6,I6,q6⟩
def X6 (f:Int→Int→Int):Sd:=fun x y H Q=>∃i j,x= .int i∧y= .int j∧Q (.int (f i j)) H
def Bh:UN X .Add (X6 fun i j=>i+j):=by
 intro pins s σ H x y v u Q I r1 r2 h;obtain⟨i,j,e1,e2,q⟩:=h;subst e1;subst e2;obtain⟨t,rfl⟩:=r1;obtain⟨t',rfl⟩:=r2;exact iadd_int ⟨.int _,H,I.tok _,⟨_,rfl⟩,q⟩
def RQ:UN X .Sub (X6 fun i j=>i-j):=by
 intro pins s σ H x y v u Q I r1 r2 h;obtain⟨i,j,e1,e2,q⟩:=h;subst e1;subst e2;obtain⟨t,rfl⟩:=r1;obtain⟨t',rfl⟩:=r2;exact isub_int ⟨.int _,H,I.tok _,⟨_,rfl⟩,q⟩
end
section
variable{X:Cx}{pos:Pos}
def Rk (c:TT)(tb:TS):TS:=fun D σ H=>∃W:Nat→St→Hp→Prop,(∃m,W m σ H)∧∀m σ H,W m σ H→
 c σ H fun b H1=>if b=true then ∃N:St→Hp→Prop,(∀σ' H',N σ' H'→∃m',m'<m∧W m' σ' H')∧tb {D with nx:=N,ct:=N,bk:=D.nx} σ H1 else D.nx σ H1
def CV {c:Expr}{body:List Stmt}{tc:TT}{tb:TS}(hp:PassesOwn (model X.prog X.w) X.A X.env X.xe)(hc:PT X c tc)(hb:Fd X body tb):PS X (.While c body [] pos) (Rk tc tb):=by
 intro pins s σ H D I h;obtain⟨W,⟨m0,w0⟩,turn⟩:=h;refine wpAny_While (codeAny_whileLoop (fun n s'=>∃σ' H',Inv X pins σ' H' s'∧W n σ' H') ?_ m0 ⟨σ,H,I,w0⟩);rintro n s1 ⟨σ1,H1,I1,w1⟩;refine qr hp (cS (hc pins s1 σ1 H1 _ I1 (turn n σ1 H1 w1)) fun b s2 ⟨H2,I2,q2⟩=>?_);cases b with
 | true=>
  obtain⟨N,hN,q2⟩:=q2;rw[aw rfl];refine qr hp (cS (hb pins s2 σ1 H2 _ I2 q2) fun f s3 q3=>?_);cases f with
  | next=>
   obtain⟨σ3,H3,I3,n3⟩:=q3;grind -order
  | cont=>
   obtain⟨σ3,H3,I3,n3⟩:=q3;grind -order
  | brk=>exact q3
  | ret v=>exact q3
 | false=>
  rw[ak fg];exact Cn ⟨σ1,H2,I2,q2⟩
end
structure It where
 go:Nat→Hp→Prop
 M_:Nat→Hp→V→Hp→Prop
 stop:Nat→Hp→Prop
def vT (X:Cx)(pins:List (Addr×Obj))(H:Hp)(b:Addr):Prop:=
 H b=none∧b≠X.env.locals∧b∉X.fs∧(b∈X.ex∨X.zX.heap.objs.size≤b)∧(∀x c,X.env.cells.lookup x=some c→c≠b)∧∀p∈X.pn++pins,p.1≠b
def Inv.Nf {X:Cx}{pins:List (Addr×Obj)}{σ:St}{H H':Hp}{s:Shared}{b:Addr}(I:Inv X pins σ H s)(hb:s.heap.objs.size≤b)(hn:H' b=none):vT X pins H' b:=by
 refine⟨hn,uC (fH I.lt hb),I.VT hb,.inr (aG I.sz hb),fun x c e z=>?_,fun p hp z=>?_⟩
 ·obtain⟨v,q⟩:=I.cell x c e;exact absurd (fH q.lt (by rw[z];exact hb)) (gu _)
 exact absurd (fH (bb (I.pin p hp).1) (by rw[z];exact hb)) (gu _)
structure Turn (P:Program)(w:World)(K:Frag)(tg:Expr)(J:It)(fp:List Addr)(it:Addr)(tn:Nat→Heap→Prop):Prop where
 mem:it∈fp
 obj:∀i h,tn i h→∀b∈fp,∃o,h.get? b=some o∧∀v,o.data≠ .cell v
 keep:∀i h h',tn i h→(∀b∈fp,∀o,h.get? b=some o→h'.get? b=some o)→tn i h'
 item:∀(X:Cx),X.prog=P→X.w=w→X.K=K→X.calm=true→∀(i:Nat) (pins:List (Addr×Obj)) (s:Shared) (σ:St) (H:Hp) (E:Value→Shared→Prop),Inv X pins σ H s→(∀b∈fp,vT X pins H b)→tn i s.heap→J.go i H→
  wpAny (model P w) X.A (pyNext (.ref it)) (fun r s1=>∃u,r=some u∧
   wpAny (model P w) X.A (letOwnedTupleGo tg (.ref it) u) (fun _ s2=>∃x H',Inv X pins σ H' s2∧RelV x u∧J.M_ i H x H'∧tn (i+1) s2.heap∧∀b∈fp,H' b=none) E s1) E s
 done:∀(X:Cx),X.prog=P→X.w=w→X.K=K→X.calm=true→∀(i:Nat) (pins:List (Addr×Obj)) (s:Shared) (σ:St) (H:Hp) (E:Value→Shared→Prop),Inv X pins σ H s→(∀b∈fp,vT X pins H b)→tn i s.heap→J.stop i H→
  wpAny (model P w) X.A (pyNext (.ref it)) (fun r s1=>r=none∧Inv X pins σ H s1) E s
 self:∀(A:Around) (i:Nat) (s:Shared) (Q:Value→Shared→Prop) (E:Value→Shared→Prop),tn i s.heap→Q (.ref it) s→wpAny (model P w) A (pyIter (.ref it)) Q E s
abbrev TI:=St→Hp→(It→Hp→Prop)→Prop
def UY (X:Cx)(pins:List (Addr×Obj))(σ:St)(tg:Expr)(R:It→Hp→Prop)(Vz:Value)(s2:Shared):Prop:=
 ∃(it:Addr) (fp:List Addr) (tn:Nat→Heap→Prop) (J:It) (H':Hp),Vz= .ref it∧Inv X pins σ H' s2∧Turn X.prog X.w X.K tg J fp it tn∧tn 0 s2.heap∧(∀b∈fp,vT X pins H' b)∧R J H'
def PI (X:Cx)(tg iter:Expr)(wi:TI):Prop:=
 ∀(pins:List (Addr×Obj)) (s:Shared) (σ:St) (H:Hp) (R:It→Hp→Prop),Inv X pins σ H s→wi σ H R→
  wpAny (model X.prog X.w) X.A (eval iter X.env) (fun v s1=>wpAny (model X.prog X.w) X.A (pyIter v) (UY X pins σ tg R) X.xe s1) X.xe s
def HK {M:Model}{A:Around}{E:Value→Shared→Prop}{s:Shared}{tg:Expr}{it:Addr}{u:Value}{o:Obj}{n:String}{vs:Array Value}{Q:Unit→Shared→Prop}(ho:s.heap.get? it=some o)(hc:o.cls= .type n)(hd:o.data= .fields vs)
    (hn:["enumerate","zip","dict_itemiterator","dict_reverseitemiterator","odict_iterator","itertools.zip_longest","itertools.pairwise"].contains n=false) (hQ:Q () s):wpAny M A (letOwnedTupleGo tg (.ref it) u) Q E s:=by
  unfold letOwnedTupleGo;cases tg<;>first
    | exact aL hQ
    | (cases u<;>first
        | exact aL hQ
        | (refine aq (wpAny_load ho ?_)
           rw[hc,hd];show wpAny M A (if(["enumerate","zip","dict_itemiterator","dict_reverseitemiterator","odict_iterator","itertools.zip_longest","itertools.pairwise"].contains n&&vs[0]? ==some (rawInt _))=true then _ else _) Q E s;rw[ak (by intro h;rw[hn,Bool.false_and]at h;cases h)];exact aL hQ))
def Hj (K:Frag)(a:Addr):It:=
 ⟨fun i H=>∃xs x,bz K H a xs∧xs[i]? =some x,fun i H x H'=>H'=H∧∀xs,bz K H a xs→xs[i]? =some x,fun i H=>∃xs,bz K H a xs∧xs.length≤i⟩
def Jv {P:Program}{w:World}{K:Frag}{tg:Expr}(a it:Addr):Turn P w K tg (Hj K a) [it] it (fun i h=>h.IsListIter it a i)where
 mem:=by simp
 obj:=fun i h st b hb=>by
  have e:b=it:=by simpa using hb
  subst e;obtain⟨o,e,c,d⟩:=st;simp_all
 keep:=fun i h h' st k=>st.at fun o e=>k it (by simp) o e
 item:=by
  intro X hP hw hK hc i pins s σ H E I hf st hg;subst hP hw hK;obtain⟨xs,x,hq,hx⟩:=hg;obtain⟨bp,rv,p,hz⟩:=I.list hq;obtain⟨u,hu,ru⟩:=rv.get hx;obtain⟨f0,f1,f2,f3,f4,f5⟩:=hf it (by simp);refine wpAny_pyNext_list_item st p.isList (x:=u) (by simpa using hu) fun h' IZ sb=>?_;have I1:Inv X pins σ H {s with heap:=h'}:=I.turned (t':=s.toks) (fun b o hb e=>(sb.2 b hb).trans e) f0 f1 f3 f4 f5;obtain⟨o,e,c,d⟩:=id IZ;exact⟨u,rfl,HK (s:={s with heap:=h'}) e c d (by decide) ⟨x,H,I1,ru,⟨rfl,fun ys hy=>by rw[I.Ed hy hq];exact hx⟩,IZ,fun b hb=>(hf b hb).1⟩⟩
 done:=by
  intro X hP hw hK hc i pins s σ H E I hf st hg;subst hP hw hK;obtain⟨xs,hq,hx⟩:=hg;obtain⟨bp,rv,p,hz⟩:=I.list hq;obtain⟨f0,f1,f2,f3,f4,f5⟩:=hf it (by simp);have hl:=rv.length;exact wpAny_pyNext_list_end (I.ok.hd hc) st p.isList (by simp;lia) fun h' eb=>⟨rfl,I.turned (t':=s.toks) (fun b o hb e=>eb b o hb e) f0 f1 f3 f4 f5⟩
 self:=fun _ _ _ _ _ st h=>wpAny_pyIter_listiter st h
section
variable{X:Cx}{tg:Expr}
def HV (K:Frag)(tl:TE):TI:=fun σ H R=>tl σ H fun x H1=>∃a,x= .ref a∧(∃xs,bz K H1 a xs)∧R (Hj K a) H1
def bf {l:Expr}{tl:TE}(hl:PE X l tl):PI X tg l (HV X.K tl):=by
 intro pins s σ H R I h;refine cS (hl pins s σ H _ I h) fun v s1 ⟨x,H1,I1,r1,q1⟩=>?_;obtain⟨a,e,⟨xs,hq⟩,q⟩:=q1;subst e;cases r1;obtain⟨bp,rv,p,hz⟩:=I1.list hq;refine F9 p.isList ?_;refine⟨s1.heap.objs.size,[s1.heap.objs.size],_,_,H1,rfl,I1.kept (t':=s1.toks) fun b o e=>bB _ e,Jv a _,⟨_,bU _ rfl,rfl,rfl⟩,fun b hb=>?_,q⟩;have e:b=s1.heap.objs.size:=by simpa using hb
 subst e;exact I1.Nf (bo _) (I1.b9.fresh (bo _))
def NJ (wi:TI)(g:TG)(tb:TS):TS:=fun D σ H=>wi σ H fun J H1=>∃W:Nat→Nat→St→Hp→Prop,(∃m,W 0 m σ H1)∧∀i m σ H,W i m σ H→
 (J.stop i H∧D.nx σ H)∨(J.go i H∧∃N:St→Hp→Prop,(∀σ' H',N σ' H'→∃m',m'<m∧W (i+1) m' σ' H')∧∀x H',J.M_ i H x H'→g x σ H' fun σ2 H2=>tb {D with nx:=N,ct:=N,bk:=D.nx} σ2 H2)
def xp (fp:List Addr)(h:Heap):List (Addr×Obj):=fp.filterMap fun b=>(h.get? b).map fun o=>(b,o)
def qJ {fp:List Addr}{h:Heap}{b:Addr}{o:Obj}(hb:b∈fp)(e:h.get? b=some o):(b,o)∈xp fp h:=A9.mpr ⟨b,hb,by rw[e];rfl⟩
def JM {fp:List Addr}{h:Heap}{p:Addr×Obj}(hp:p∈xp fp h):p.1∈fp∧h.get? p.1=some p.2:=by
 obtain⟨b,hb,e⟩:=A9.mp hp;cases q:h.get? b with
 | none=>rw[q]at e;cases e
 | some o=>grind
def Inv.pinned {pins:List (Addr×Obj)}{σ:St}{H:Hp}{s:Shared}{fp:List Addr}(I:Inv X pins σ H s)(hf:∀b∈fp,vT X pins H b)(ho:∀b∈fp,∃o,s.heap.get? b=some o∧∀v,o.data≠ .cell v):Inv X (pins++xp fp s.heap) σ H s:=
 I.Hr fun p hp=>(fK.mp hp).elim (fun z=>I.pin p (lJ _ z)) fun z=>by
  obtain⟨hb,e⟩:=JM z;obtain⟨f0,f1,f2,_⟩:=hf p.1 hb;simp_all;grind
def Inv.sO {pins pl:List (Addr×Obj)}{σ:St}{H:Hp}{s:Shared}(I:Inv X (pins++pl) σ H s):Inv X pins σ H s:=I.Hr fun p hp=>I.pin p (lJ _ (h_ _ hp))
theorem dM {iter:Expr}{body:List Stmt}{wi:TI}{g:TG}{tb:TS}{pos:Pos}(hp:PassesOwn (model X.prog X.w) X.A X.env X.xe)(hc:X.calm=true)(hi:PI X tg iter wi)(hg:PG X tg g)(hb:Fd X body tb)
  (hs:∀x,foldedSetIterable iter X.env x=pure x:=by intro _;rfl):PS X (.For tg iter body [] pos) (NJ wi g tb):=by
 intro pins s σ H D I h;refine wpAny_For (cS (hi pins s σ H _ I h) fun v s1 h1=>cS h1 fun Vz s2 h2=>?_) hs;obtain⟨it,fp,tn,J,H2,e,I2,T,Fc,f2,W,⟨m0,w0⟩,turn⟩:=h2;subst e;have Ft:∀{H':Hp},(∀b∈fp,H' b=none)→∀b∈fp,vT X pins H' b:=fun hn b hb=>⟨hn b hb,(f2 b hb).2⟩;refine codeAny_forLoop_any (fun n s'=>∃i σ' H',Inv X pins σ' H' s'∧tn i s'.heap∧(∀b∈fp,H' b=none)∧W i n σ' H') ?_ m0 ⟨0,σ,H2,I2,Fc,fun b hb=>(f2 b hb).1,w0⟩;rintro n s3 ⟨i,σ3,H3,I3,Vb,YH,w3⟩;rcases turn i n σ3 H3 w3 with⟨stop,qn⟩|⟨go,N,hN,step⟩
 ·refine qr hp (cS (T.done X rfl rfl rfl hc i pins s3 σ3 H3 X.xe I3 (Ft YH) Vb stop) fun r s4 ⟨hr,I4⟩=>?_);subst hr;exact Cn ⟨σ3,H3,I4,qn⟩
 refine qr hp (cS (T.item X rfl rfl rfl hc i pins s3 σ3 H3 X.xe I3 (Ft YH) Vb go) fun r s4 ⟨u,hr,h4⟩=>?_);subst hr;refine qr hp (cS h4 fun _ s5 ⟨x,H5,I5,r5,y5,Sb,fr5⟩=>?_);have I5':=I5.pinned (Ft fr5) (T.obj _ _ Sb);refine qr hp (cS (hg _ s5 σ3 H5 x u _ I5' r5 (step x H5 y5)) fun _ s6 ⟨σ6,H6,I6,q6⟩=>?_);refine qr hp (cS (hb _ s6 σ6 H6 _ I6 q6) fun f s7 q7=>?_);have again:∀{σ7:St} {H7:Hp},Inv X (pins++xp fp s5.heap) σ7 H7 s7→N σ7 H7→∃m,m<n∧∃i σ' H',Inv X pins σ' H' s7∧tn i s7.heap∧(∀b∈fp,H' b=none)∧W i m σ' H':=fun{σ7 H7} I7 n7=>by
  obtain⟨m',hm,w7⟩:=hN σ7 H7 n7;refine⟨m',hm,i+1,σ7,H7,I7.sO,T.keep _ _ _ Sb fun b hb o e=>(I7.pin (b,o) (lJ _ (lJ _ (qJ hb e)))).1,fun b hb=>?_,w7⟩;obtain⟨o,e,d⟩:=T.obj _ _ Sb b hb;exact(I7.pin (b,o) (lJ _ (lJ _ (qJ hb e)))).2.1
 cases f with
 | next=>obtain⟨σ7,H7,I7,n7⟩:=q7;exact again I7 n7
 | cont=>obtain⟨σ7,H7,I7,n7⟩:=q7;exact again I7 n7
 | brk=>obtain⟨σ7,H7,I7,q7⟩:=q7;exact⟨σ7,H7,I7.sO,q7⟩
 | ret v=>obtain⟨x7,σ7,H7,I7,r7,q7⟩:=q7;exact⟨x7,σ7,H7,I7.sO,r7,q7⟩
end
def dS {K:Frag}{a:Addr}{xs:List V}{g:TG}{tb:TS}{D:Ends}{σ:St}{H:Hp}(Pv:Nat→St→Hp→Prop)(h0:Pv 0 σ H)(hl:∀i σ H,i≤xs.length→Pv i σ H→bz K H a xs)
  (hs:∀i x σ H,xs[i]? =some x→Pv i σ H→g x σ H fun σ2 H2=>tb {D with nx:=Pv (i+1),ct:=Pv (i+1),bk:=D.nx} σ2 H2) (hd:∀σ H,Pv xs.length σ H→D.nx σ H):
  ∃W:Nat→Nat→St→Hp→Prop,(∃m,W 0 m σ H)∧∀i m σ H,W i m σ H→
   ((Hj K a).stop i H∧D.nx σ H)∨((Hj K a).go i H∧∃N:St→Hp→Prop,(∀σ' H',N σ' H'→∃m',m'<m∧W (i+1) m' σ' H')∧∀x H',(Hj K a).M_ i H x H'→g x σ H' fun σ2 H2=>tb {D with nx:=N,ct:=N,bk:=D.nx} σ2 H2):=by
 refine⟨fun i m σ H=>m=xs.length-i∧i≤xs.length∧Pv i σ H,⟨xs.length,by simp,fJ _,h0⟩,?_⟩;rintro i m σ H ⟨rfl,hi,p⟩;have q:=hl i σ H hi p;by_cases lu:i<xs.length
 ·refine .inr ⟨⟨xs,xs[i],q,by simp[lu]⟩,Pv (i+1),fun σ' H' p'=>⟨xs.length-(i+1),by grind,rfl,lu,p'⟩,fun x H' y=>?_⟩;obtain⟨e,y⟩:=y;grind
 have e:i=xs.length:=by lia
 subst e;exact .inl ⟨⟨xs,q,bo _⟩,hd σ H p⟩
abbrev R2:=V→V→Hp→VK→Prop
def wt (X:Cx)(f:Value→Value→Sem Value)(r:R2):Prop:=
 ∀(pins:List (Addr×Obj)) (s:Shared) (σ:St) (H:Hp) (x y:V) (v u:Value) (Q:VK),Inv X pins σ H s→RelV x v→RelV y u→r x y H Q→
  wpAny (model X.prog X.w) X.A (f v u) (EP X pins σ Q) X.xe s
def iF (X:Cx)(f:Value)(r:List V→Hp→VK→Prop):Prop:=
 ∀(pins:List (Addr×Obj)) (s:Shared) (σ:St) (H:Hp) (xs:List V) (us:List Value) (Q:VK),Inv X pins σ H s→Vals xs us→r xs H Q→
  wpAny (model X.prog X.w) X.A (call f us) (EP X pins σ Q) X.xe s
def VB (X:Cx)(r:V→Hp→(Bool→Hp→Prop)→Prop):Prop:=
 ∀(pins:List (Addr×Obj)) (s:Shared) (σ:St) (H:Hp) (x:V) (v:Value) (Q:Bool→Hp→Prop),Inv X pins σ H s→RelV x v→r x H Q→
  wpAny (model X.prog X.w) X.A (truthy v) (TP X pins σ Q) X.xe s
def ON (r:R2)(ta tb:TE):TE:=fun σ H Q=>ta σ H fun x H1=>tb σ H1 fun y H2=>r x y H2 Q
def rI (C:Int→Int→Prop)(g:Int→Int→V):R2:=fun x y H Q=>∃i j,x= .int i∧y= .int j∧C i j∧Q (g i j) H
def N9 (g:Int→Int→V):R2:=fun x y H Q=>∃i j,x= .int i∧y= .int j∧Q (g i j) H
section
variable{X:Cx}{a b c:Expr}{ta tb tc:TE}{pos:Pos}
def Q6 (ha:PE X a ta)(hb:PE X b tb){pins:List (Addr×Obj)}{s:Shared}{σ:St}{H:Hp}{R:V→V→Hp→Prop}(I:Inv X pins σ H s)
  (h:ta σ H fun x H1=>tb σ H1 fun y H2=>R x y H2) {Q:Value→Shared→Prop} {f:Value→Value→Sem Value}
  (hf:∀v u s2 x y H2,Inv X pins σ H2 s2→RelV x v→RelV y u→R x y H2→wpAny (model X.prog X.w) X.A (f v u) Q X.xe s2):
  wpAny (model X.prog X.w) X.A (eval a X.env) (fun v s₁=>wpAny (model X.prog X.w) X.A (eval b X.env) (fun u s₂=>wpAny (model X.prog X.w) X.A (f v u) Q X.xe s₂) X.xe s₁) X.xe s:=by
 refine cS (ha pins s σ H _ I h) fun v s1 ⟨x,H1,I1,r1,q1⟩=>?_;refine cS (hb pins s1 σ H1 _ I1 q1) fun u s2 ⟨y,H2,I2,r2,q2⟩=>?_;exact hf v u s2 x y H2 I2 r1 r2 q2
def cx {op:Operator}{r:R2}(ho:wt X (binaryOp op) r)(ha:PE X a ta)(hb:PE X b tb):PE X (.BinOp a op b pos) (ON r ta tb):=by
 intro pins s σ H Q I h;exact wpAny_BinOp (Q6 ha hb I h fun v u s2 x y H2 I2 rx ry q=>ho pins s2 σ H2 x y v u Q I2 rx ry q)
def WC {f:Value→Value→Sem Value}{C:Int→Int→Prop}{g:Int→Int→Int}
  (rule:∀(i j:Int) (t u:Tok) (s:Shared) (Q:Value→Shared→Prop) (E:Value→Shared→Prop),C i j→Q (.int (g i j) s.toks) {s with toks:=s.toks+1}→wpAny (model X.prog X.w) X.A (f (.int i t) (.int j u)) Q E s):
  wt X f (rI C fun i j=> .int (g i j)):=by
 intro pins s σ H x y v u Q I rx ry h;obtain⟨i,j,rfl,rfl,hc,q⟩:=h;obtain⟨t,rfl⟩:=rx;obtain⟨t',rfl⟩:=ry;exact rule i j t t' s _ _ hc ⟨.int (g i j),H,I.tok _,⟨_,rfl⟩,q⟩
def SO {f:Value→Value→Sem Value}{g:Int→Int→Int}
  (rule:∀(i j:Int) (t u:Tok) (s:Shared) (Q:Value→Shared→Prop) (E:Value→Shared→Prop),Q (.int (g i j) s.toks) {s with toks:=s.toks+1}→wpAny (model X.prog X.w) X.A (f (.int i t) (.int j u)) Q E s):
  wt X f (N9 fun i j=> .int (g i j)):=by
 intro pins s σ H x y v u Q I rx ry h;obtain⟨i,j,rfl,rfl,q⟩:=h;obtain⟨t,rfl⟩:=rx;obtain⟨t',rfl⟩:=ry;exact rule i j t t' s _ _ ⟨.int (g i j),H,I.tok _,⟨_,rfl⟩,q⟩
def OR {f:Value→Value→Sem Value}{g:Int→Int→Bool}
  (rule:∀(i j:Int) (t u:Tok) (s:Shared) (Q:Value→Shared→Prop) (E:Value→Shared→Prop),Q (.bool (g i j)) s→wpAny (model X.prog X.w) X.A (f (.int i t) (.int j u)) Q E s):
  wt X f (N9 fun i j=> .bl (g i j)):=by
 intro pins s σ H x y v u Q I rx ry h;obtain⟨i,j,rfl,rfl,q⟩:=h;obtain⟨t,rfl⟩:=rx;obtain⟨t',rfl⟩:=ry;exact rule i j t t' s _ _ ⟨.bl (g i j),H,I,rfl,q⟩
def WN (i j:Int):Prop:=0<j∧j<1073741824
def QX (i j:Int):Prop:=(-(2^64)<i∧i<2^64)∨(-(2^64)<j∧j<2^64)
def QX.ok {i j:Int}(h:QX i j):IntMulOk i j:=by
 rcases h with⟨h1,h2⟩|⟨h1,h2⟩;exact .of_left (intBits_le_64 h1 h2);exact .of_right (intBits_le_64 h1 h2)
def fP:wt X (binaryOp .Add) (N9 fun i j=> .int (i+j)):=SO fun _ _ _ _ _ _ _ q=>add_int q
def j4:wt X (binaryOp .Sub) (N9 fun i j=> .int (i-j)):=SO fun _ _ _ _ _ _ _ q=>sub_int q
def FI:wt X (binaryOp .Mult) (rI QX fun i j=> .int (i*j)):=WC fun _ _ _ _ _ _ _ hc q=>mul_int q hc.ok
def Iz:wt X (binaryOp .FloorDiv) (rI WN fun i j=> .int (i/j)):=WC fun i j _ _ _ _ _ hc q=>by
 have h1:(0:Int)<j:=hc.1;have h2:j<1073741824:=hc.2;exact floordiv_int (by lia) (by rw[Int.fdiv_eq_ediv_of_nonneg i (by lia)];exact q) (.inl (PyProof.noPylong_small (by omega)))
def Qb:wt X (binaryOp .Mod) (rI (fun _ j=>0<j) fun i j=> .int (i%j)):=WC fun i j _ _ _ _ _ hc q=>by grind[mod_int']
end
def S3:V→V→Bool
 | .gq,.gq=>true | .gq,.int _=>true | .int _,.gq=>true | .gq,.bl _=>true | .bl _,.gq=>true | .gq,.str _=>true | .str _,.gq=>true
 | .int _,.int _=>true | .bl _,.bl _=>true | .str _,.str _=>true | .CQ _,.CQ _=>true
 | .int _,.str _=>true | .str _,.int _=>true | .bl _,.str _=>true | .str _,.bl _=>true
 | _,_=>false
def UU:R2:=fun x y H Q=>S3 x y=true∧Q (.bl (decide (x=y))) H
def YT:R2:=fun x y H Q=>S3 x y=true∧Q (.bl (!decide (x=y))) H
def Hz {i j:Int}:decide (V.int i=V.int j)=(i==j):=by (simp;grind)
def MI {i j:Bool}:decide (V.bl i=V.bl j)=(i==j):=by (simp;rfl)
def HM {i j:Str}:decide (V.str i=V.str j)=(i==j):=by (simp;rfl)
def Ho {i j:Array UInt8}:decide (V.CQ i=V.CQ j)=(i.toList==j.toList):=by
 rw[l5];simp
section
variable{X:Cx}{a b c:Expr}{ta tb tc:TE}{pos:Pos}
def cF {pins:List (Addr×Obj)}{σ:St}{H:Hp}{s:Shared}{Q:VK}{k k':Bool}(I:Inv X pins σ H s)(q:Q (.bl k) H)(e:k=k'):EP X pins σ Q (.bool k') s:=by
 subst e;exact⟨.bl k,H,I,rfl,q⟩
def cG:wt X (compareOp .Eq) UU:=by
 intro pins s σ H x y v u Q I rx ry h;obtain⟨hs,q⟩:=h;cases x with
 | gq=>
  cases rx;cases y with
  | gq=>cases ry;exact PySem.EqNone.eq_none_none (cF I q (by assumption))
  | bl j=>cases ry;exact PySem.EqNone.eq_none_bool (cF I q (by rfl))
  | int j=>obtain⟨t',rfl⟩:=ry;exact PySem.EqNone.eq_none_int (cF I q (by rfl))
  | str j=>obtain⟨t',rfl⟩:=ry;exact PySem.EqNone.eq_none_str (cF I q (by rfl))
  | _=>exact absurd (show false=true from hs) fg
 | bl i=>
  cases rx;cases y with
  | gq=>cases ry;exact PySem.EqNone.eq_bool_none (cF I q (by rfl))
  | bl j=>cases ry;exact eq_bool (cF I q MI)
  | str j=>obtain⟨t',rfl⟩:=ry;exact PySem.EqMixed.eq_bool_str (cF I q (by rfl))
  | _=>exact absurd (show false=true from hs) fg
 | int i=>
  obtain⟨t,rfl⟩:=rx;cases y with
  | gq=>cases ry;exact PySem.EqNone.eq_int_none (cF I q (by rfl))
  | int j=>obtain⟨t',rfl⟩:=ry;exact eq_int (cF I q Hz)
  | str j=>obtain⟨t',rfl⟩:=ry;exact PySem.EqMixed.eq_int_str (cF I q (by rfl))
  | _=>exact absurd (show false=true from hs) fg
 | str i=>
  obtain⟨t,rfl⟩:=rx;cases y with
  | gq=>cases ry;exact PySem.EqNone.eq_str_none (cF I q (by rfl))
  | bl j=>cases ry;exact PySem.EqMixed.eq_str_bool (cF I q (by rfl))
  | int j=>obtain⟨t',rfl⟩:=ry;exact PySem.EqMixed.eq_str_int (cF I q (by rfl))
  | str j=>obtain⟨t',rfl⟩:=ry;exact eq_str (cF I q HM)
  | _=>exact absurd (show false=true from hs) fg
 | CQ i=>
  obtain⟨t,rfl⟩:=rx;cases y with
  | CQ j=>obtain⟨t',rfl⟩:=ry;exact PySem.W.eq_bytes (cF I q Ho)
  | _=>exact absurd (show false=true from hs) fg
 | _=>cases y<;>exact absurd (show false=true from hs) fg
def g0:wt X (compareOp .NotEq) YT:=by
 intro pins s σ H x y v u Q I rx ry h;obtain⟨hs,q⟩:=h;cases x with
 | gq=>
  cases rx;cases y with
  | gq=>cases ry;exact PySem.EqNone.ne_none_none (cF I q (by rfl))
  | bl j=>cases ry;exact PySem.EqNone.ne_none_bool (cF I q (by assumption))
  | int j=>obtain⟨t',rfl⟩:=ry;exact PySem.EqNone.ne_none_int (cF I q (by assumption))
  | str j=>obtain⟨t',rfl⟩:=ry;exact PySem.EqNone.ne_none_str (cF I q (by assumption))
  | _=>exact absurd (show false=true from hs) fg
 | bl i=>
  cases rx;cases y with
  | gq=>cases ry;exact PySem.EqNone.ne_bool_none (cF I q (by assumption))
  | bl j=>cases ry;exact ne_bool (cF I q (congrArg not MI))
  | str j=>obtain⟨t',rfl⟩:=ry;exact PySem.EqMixed.ne_bool_str (cF I q (by assumption))
  | _=>exact absurd (show false=true from hs) fg
 | int i=>
  obtain⟨t,rfl⟩:=rx;cases y with
  | gq=>cases ry;exact PySem.EqNone.ne_int_none (cF I q (by assumption))
  | int j=>obtain⟨t',rfl⟩:=ry;exact ne_int (cF I q (congrArg not Hz))
  | str j=>obtain⟨t',rfl⟩:=ry;exact PySem.EqMixed.ne_int_str (cF I q (by assumption))
  | _=>exact absurd (show false=true from hs) fg
 | str i=>
  obtain⟨t,rfl⟩:=rx;cases y with
  | gq=>cases ry;exact PySem.EqNone.ne_str_none (cF I q (by assumption))
  | bl j=>cases ry;exact PySem.EqMixed.ne_str_bool (cF I q (by assumption))
  | int j=>obtain⟨t',rfl⟩:=ry;exact PySem.EqMixed.ne_str_int (cF I q (by assumption))
  | str j=>obtain⟨t',rfl⟩:=ry;exact ne_str (cF I q (congrArg not HM))
  | _=>exact absurd (show false=true from hs) fg
 | CQ i=>
  obtain⟨t,rfl⟩:=rx;cases y with
  | CQ j=>obtain⟨t',rfl⟩:=ry;exact PySem.W.ne_bytes (cF I q (congrArg not Ho))
  | _=>exact absurd (show false=true from hs) fg
 | _=>cases y<;>exact absurd (show false=true from hs) fg
def pP:wt X (compareOp .Lt) (N9 fun i j=> .bl (decide (i<j))):=OR fun _ _ _ _ _ _ _ q=>lt_int q
def sg:wt X (compareOp .LtE) (N9 fun i j=> .bl (decide (i≤j))):=OR fun _ _ _ _ _ _ _ q=>le_int q
def p8:wt X (compareOp .Gt) (N9 fun i j=> .bl (decide (j<i))):=OR fun _ _ _ _ _ _ _ q=>gt_int q
def DW:wt X (compareOp .GtE) (N9 fun i j=> .bl (decide (j≤i))):=OR fun _ _ _ _ _ _ _ q=>ge_int q
def aJ (b:Expr){op:CmpOp}(h:op≠ .In:=by decide)(h2:op≠ .NotIn:=by decide):behindInMarks op b=false:=by
 have e1:(op==CmpOp.In)=false:=by cases op<;>first|rfl|exact absurd rfl h
 have e2:(op==CmpOp.NotIn)=false:=by cases op<;>first|rfl|exact absurd rfl h2
 cases b<;>first|rfl|(show(_&&(op==CmpOp.In||op==CmpOp.NotIn)&&_)=false;rw[e1,e2];simp)
def lF {op:CmpOp}{r:R2}(ho:wt X (compareOp op) r)(ha:PE X a ta)(hb:PE X b tb)(hm:behindInMarks op b=false):PE X (.Compare a [op] [b] pos) (ON r ta tb):=by
 intro pins s σ H Q I h;exact wpAny_Compare1 (Q6 ha hb I h fun v u s2 x y H2 I2 rx ry q=>ho pins s2 σ H2 x y v u Q I2 rx ry q) hm
def Ae (t:TE):TT:=fun σ H Q=>t σ H (iB_ Q)
def aD {op:CmpOp}{r:R2}(ho:wt X (compareOp op) r)(ha:PE X a ta)(hb:PE X b tb)(hm:behindInMarks op b=false):PT X (.Compare a [op] [b] pos) (Ae (ON r ta tb)):=by
 intro pins s σ H Q I h;refine wpAny_isTrue_Compare1 (cS (ha pins s σ H _ I h) fun v s1 ⟨x,H1,I1,r1,q1⟩=>cS (hb pins s1 σ H1 _ I1 q1) fun u s2 ⟨y,H2,I2,r2,q2⟩=>
  cS (ho pins s2 σ H2 x y v u _ I2 r1 r2 q2) fun c s3 ⟨z,H3,I3,r3,k,e,q3⟩=>?_) hm
 subst e;cases r3;exact j8 ⟨H3,I3,q3⟩
def K9 (r r':R2)(ta tb tc:TE):TE:=fun σ H Q=>ta σ H fun x H1=>tb σ H1 fun y H2=>r x y H2 fun z H3=>∃k,z= .bl k∧
 (if k=true then tc σ H3 fun w' H4=>r' y w' H4 Q else Q (.bl false) H3)
theorem Ld {op Rj:CmpOp}{r r':R2}(ho:wt X (compareOp op) r)(IJ:wt X (compareOp Rj) r')(ha:PE X a ta)(hb:PE X b tb)(hc:PE X c tc)
  (hm:lastMarks [op,Rj] [b,c]=false:=by with_unfolding_all rfl):PE X (.Compare a [op,Rj] [b,c] pos) (K9 r r' ta tb tc):=by
 intro pins s σ H Q I h;refine Compare_chain (cS (ha pins s σ H _ I h) fun v s1 ⟨x,H1,I1,r1,q1⟩=>chain_link (cS (hb pins s1 σ H1 _ I1 q1) fun u s2 ⟨y,H2,I2,r2,q2⟩=>
  cS (ho pins s2 σ H2 x y v u _ I2 r1 r2 q2) fun d s3 ⟨z,H3,I3,r3,k,e,q3⟩=>?_)) hm
 subst e;cases r3;refine j8 ?_;cases k with
 | false=>exact ite_ff ⟨.bl false,H3,I3,rfl,q3⟩
 | true=>exact ite_tt (chain_last (cS (hc pins s3 σ H3 _ I3 q3) fun w' s4 ⟨z',H4,I4,r4,q4⟩=>IJ pins s4 σ H4 y z' u w' Q I4 r2 r4 q4))
theorem Mp {op Rj:CmpOp}{r r':R2}(ho:wt X (compareOp op) r)(IJ:wt X (compareOp Rj) r')(ha:PE X a ta)(hb:PE X b tb)(hc:PE X c tc)
  (hm:lastMarks [op,Rj] [b,c]=false:=by with_unfolding_all rfl):PT X (.Compare a [op,Rj] [b,c] pos) (Ae (K9 r r' ta tb tc)):=by
 intro pins s σ H Q I h;refine isTrue_chain (cS (ha pins s σ H _ I h) fun v s1 ⟨x,H1,I1,r1,q1⟩=>test_link (cS (hb pins s1 σ H1 _ I1 q1) fun u s2 ⟨y,H2,I2,r2,q2⟩=>
  cS (ho pins s2 σ H2 x y v u _ I2 r1 r2 q2) fun d s3 ⟨z,H3,I3,r3,k,e,q3⟩=>?_)) hm
 subst e;cases r3;refine j8 ?_;cases k with
 | false=>
  obtain⟨k',e',q'⟩:=q3;cases e';exact ite_ff ⟨H3,I3,q'⟩
 | true=>
  refine ite_tt (test_last (cS (hc pins s3 σ H3 _ I3 q3) fun w' s4 ⟨z',H4,I4,r4,q4⟩=>cS (IJ pins s4 σ H4 y z' u w' _ I4 r2 r4 q4) fun d' s5 ⟨z2,H5,I5,r5,k2,e2,q5⟩=>?_));subst e2;cases r5;exact j8 ⟨H5,I5,q5⟩
def GO (K:Frag)(x:V)(H:Hp)(k:Bool):Prop:=
 match x with
 | .gq=>k=false
 | .bl b=>k=b
 | .int i=>k=(i != 0)
 | .str y=>y.length≤sizeLine∧k=((y.length:Int) != 0)
 | .CQ y=>y.size≤sizeLine∧k=((y.size:Int) != 0)
 | .ref p=>(∃xs,bz K H p xs∧k=!xs.isEmpty)∨(∃xs,ju K H p xs∧k=!xs.isEmpty)∨∃kvs,H p=some (.dK kvs)∧k=!kvs.isEmpty
 | _=>False
def GJ {κ:Type}{kvs:List (κ×V)}{vs:List (κ×Value)}(r:KV kvs vs):(!vs.isEmpty)=!kvs.isEmpty:=by
 cases r<;>rfl
def wY {xs:List V}{bp:List Value}(r:Vals xs bp):(!bp.toArray.isEmpty)=!xs.isEmpty:=by
 cases r<;>simp
def t9:(sizeLine:Nat)<2^63:=by rw[Cf];decide
theorem QN:VB X (fun x H Q=>∃k,GO X.K x H k∧Q k H):=by
 intro pins s σ H x v Q I rx h;obtain⟨k,e,q⟩:=h;have hl:=t9;have hs:sizeLine=16777216:=Cf;cases x with
 | gq=>
  cases rx;have e':k=false:=e;subst e';exact truthy_none ⟨H,I,q⟩
 | bl b=>
  cases rx;have e':k=b:=e;subst e';exact j8 ⟨H,I,q⟩
 | int i=>
  obtain⟨t,rfl⟩:=rx;have e':k=(i != 0):=e;subst e';exact PySem.P.truthy_int ⟨H,I,q⟩
 | str y=>
  obtain⟨t,rfl⟩:=rx;obtain⟨hy,e'⟩:y.length≤sizeLine∧k=((y.length:Int) != 0):=e;subst e';exact PySem.P.truthy_str (by lia) ⟨H,I.tok _,q⟩
 | CQ y=>
  obtain⟨t,rfl⟩:=rx;obtain⟨hy,e'⟩:y.size≤sizeLine∧k=((y.size:Int) != 0):=e;subst e';exact PySem.W.truthy_bytes (by lia) ⟨H,I.tok _,q⟩
 | ref p=>
  cases rx;have e':(∃xs,bz X.K H p xs∧k=!xs.isEmpty)∨(∃xs,ju X.K H p xs∧k=!xs.isEmpty)∨∃kvs,H p=some (.dK kvs)∧k=!kvs.isEmpty:=e;rcases e' with⟨xs,hx,e'⟩|⟨xs,hx,e'⟩|⟨kvs,hx,e'⟩
  ·subst e';obtain⟨bp,r,pl,hz⟩:=I.list hx;have hlen:=r.length;exact wpAny_truthy_list pl.isList (by simp only[cu];lia) ⟨H,I.tok _,by rw[wY r];exact q⟩
  ·subst e';obtain⟨bp,r,pl,hz⟩:=I.tuple hx;have hlen:=r.length;exact truthy_tuple pl (by simp only[cu];lia) ⟨H,I.tok _,by rw[wY r];exact q⟩
  subst e';obtain⟨hz,hS,vs,r,m⟩:kvs.length≤sizeLine∧(p==sysModules)=false∧∃vs,KV kvs vs∧s.heap.DictOf (bw X.prog X.w) p vs:=I.b9 p _ hx;have hlen:kvs.length=vs.length:=bZ r;exact wpAny_truthy_dict hS m (by lia) ⟨H,I.tok _,by rw[GJ r];exact q⟩
 | _=>exact(show False from e).elim
def bV (ha:PE X a ta)(he:∀whole,isTrue a X.env whole=(do let v ←whole;standAt a.pos;holding [v] (truthy v))):
  PT X a (fun σ H Q=>ta σ H fun x H'=>∃k,GO X.K x H' k∧Q k H'):=by
 intro pins s σ H Q I h;exact isTrue_plain (cS (ha pins s σ H _ I h) fun v s1 ⟨x,H1,I1,r1,q1⟩=>QN pins s1 σ H1 x v Q I1 r1 q1) (he _)
def vals1 {x:V}{us:List Value}(r:Vals [x] us):∃u,us=[u]∧RelV x u:=by
 cases r with
 | cons r1 r2=>cases r2;exact⟨_,rfl,r1⟩
def vals2 {x y:V}{us:List Value}(r:Vals [x,y] us):∃u w',us=[u,w']∧RelV x u∧RelV y w':=by
 cases r with
 | cons r1 r2=>
  cases r2 with
  | cons r3 r4=>cases r4;exact⟨_,_,rfl,r1,r3⟩
def AW (hc:X.calm=true):iF X (.builtin "max") (fun xs H Q=>∃i j,xs=[.int i,.int j]∧Q (.int (if j>i then j else i)) H):=by
 intro pins s σ H xs us Q I r h;obtain⟨i,j,rfl,q⟩:=h;obtain⟨u,w',rfl,⟨t,rfl⟩,⟨t',rfl⟩⟩:=vals2 r;refine max_two_ints (I.ok.hd hc) fun h' tk k=>⟨_,H,I.kept k,?_,q⟩;by_cases hj:j>i;rw[aw hj,aw hj];exact⟨_,rfl⟩;rw[ak hj,ak hj];exact⟨_,rfl⟩
def uI (hc:X.calm=true):iF X (.builtin "min") (fun xs H Q=>∃i j,xs=[.int i,.int j]∧Q (.int (if j<i then j else i)) H):=by
 intro pins s σ H xs us Q I r h;obtain⟨i,j,rfl,q⟩:=h;obtain⟨u,w',rfl,⟨t,rfl⟩,⟨t',rfl⟩⟩:=vals2 r;refine min_two_ints (I.ok.hd hc) fun h' tk k=>⟨_,H,I.kept k,?_,q⟩;by_cases hj:j<i;rw[aw hj,aw hj];exact⟨_,rfl⟩;rw[ak hj,ak hj];exact⟨_,rfl⟩
end
structure BQ (h:Heap)(x dx C:Addr)(mA:Str→Option Value):Prop where
 obj:h.get? x=some (instObj C dx)
 ns:h.Ns1 dx mA
 ne:dx≠x
def Jz {h:Heap}{dx:Addr}{mA:Str→Option Value}(n:h.Ns1 dx mA):∃od,h.get? dx=some od∧∀name,lookIn name od=some (mA name):=by
 obtain⟨o,es,ep,ho,hd,hk,_,hm⟩:=n;refine⟨o,ho,fun name=>?_⟩;have e:=hm name;unfold nsFind findBy at e;rw[←Array.find?_toList]at e;unfold lookIn;rw[hd];dsimp only;split;simp_all;rename_i q;rw[q]at e;have a:es.toList.any (·.refKey)=false:=by
  rw[List.any_eq_false];intro y hy;obtain⟨z,t,Gm⟩:=hk y (Array.mem_toList_iff.mp hy);simp[DictEntry.refKey,Gm]
 grind
def BQ.look {h:Heap}{x dx C:Addr}{mA:Str→Option Value}(I:BQ h x dx C mA):∃od,PySem.W.InstAt h x (instObj C dx) C (some od)∧∀name,lookIn name od=some (mA name):=
 let⟨od,ho,hl⟩:=Jz I.ns
 ⟨od,⟨I.obj,rfl,rfl,ho⟩,hl⟩
section
variable{prog:Program}{w:World}{A:Around}{E:Value→Shared→Prop}{s:Shared}{K:Frag}{x dx C f:Addr}{mA:Str→Option Value}{name:Str}{v:Value}
def get_map {expr:Bool}{Q:Value→Shared→Prop}(X:K.In s.heap)(I:BQ s.heap x dx C mA)(hg:plainGet K C name=true)(hh:hasDictIn K C=true)
  (ha:findIn K (.ref C) name=some none) (hv:mA name=some v) (U0:handedIn v=true) (h:Q v {s with toks:=s.toks+1}):
  wpAny (model prog w) A (getAttr (.ref x) name expr) Q E s:=by
 obtain⟨od,J,hl⟩:=I.look;exact PySem.W.get_value X J (PySem.W.plainGet_of hg).1 (PySem.W.findObj_own hh ha rfl (by rw[hl,hv])) U0 h
def Nn {ns:List Str}{Q:Unit→Shared→Prop}(X:K.In s.heap)(I:BQ s.heap x dx C mA)
  (hs:findIn K (.ref C) "__setattr__" =some (some (.builtin "object.__setattr__"))) (hp:plainOver K C=true) (ht:takerIn K C name=some none) (hh:hasDictIn K C=true)
  (hw:PySem.Within mA ns) (hsz:ns.length≤sizeLine)
  (h:∀h',BQ h' x dx C (fun y=>if y=name then some v else mA y)→Heap.SameBut dx s.heap h'→Q () {s with heap:=h',toks:=s.toks+2}):
  wpAny (model prog w) A (setAttr (.ref x) name v) Q E s:=by
 obtain⟨od,J,hl⟩:=I.look;refine PySem.W.set_plain X J hs (PySem.W.osa_open (s:={s with toks:=s.toks+1}) (r:=none) X J hp ht fun b=>?_);obtain⟨cd,hc,Yc⟩:=PySem.W.any_some hh;have hx:s.heap.get? x=some ⟨.ref C,some dx,.plain,#[]⟩:=I.obj;refine aq (aL (aq (aq (wpAny_loadPart hx (aq (Looks.here (s:={s with toks:=s.toks+1}) (PySem.W.looks_clsIn X hc) ?_))))));rw[Yc];refine aL (a:=some dx) (aq (aL (aq ?_)));refine wpAny_nsSet1 (s:={s with toks:=s.toks+1}) I.ns fun h' Xm R_=>?_;obtain⟨oD,esD,epD,hoD,hdD,hcD⟩:=Xm.count (PySem.Within.cons name v hw);refine aq (wpAny_lookBehind hoD (by rw[hdD];exact pastItsLine_dict (aG hcD (by rw[cH];(simp;omega)))) ?_);exact aL (h _ ⟨(R_.2 _ (aR I.ne)).trans I.obj,Xm,I.ne⟩ R_)
def KY {R:Result→Shared→Prop}{vs:List Value}{kw:List (Str×Value)}(X:K.In s.heap)(hm:makesIn K C=true)
  (hi:findIn K (.ref C) "__init__" =some (some (.ref f))) (hf:PySem.W.typeIn K (.ref f)=some (.type "function"))
  (h:codeAny (model prog w) (A.under (.builtin "type.__call__" ⟨.ref C::vs,kw⟩)) (.call (.ref f) ⟨.ref (s.heap.objs.size+1)::vs,kw⟩) (PySem.W.InitBack (s.heap.objs.size+1) R)
   {s with heap:=(s.heap.push emptyDict).push (instObj C s.heap.objs.size)}):
  codeAny (model prog w) A (.call (.ref C) ⟨vs,kw⟩) R s:=by
 obtain⟨hh,g,d,t,os⟩:=s;exact PySem.W.make_core (PySem.W.makes_of X hm) (PySem.W.looks_findIn X hi) (fun self=>PySem.W.bind_fn X self hf) (.inl rfl) h
end
noncomputable def dZ (f:Str)(v:V):List (Str×V)→List (Str×V)
 | []=>[(f,v)]
 | (g,x)::r=>if g=f then(g,v)::r else(g,x)::dZ f v r
theorem vf (f g:Str)(v:V):∀fs:List (Str×V),(dZ f v fs).lookup g=if g=f then some v else fs.lookup g
 | []=>by
  show List.lookup g [(f,v)]=_;grind
 | (k,x)::r=>by
  have ih:=vf f g v r;rw[show dZ f v ((k,x)::r)=(if k=f then(k,v)::r else(k,x)::dZ f v r)from rfl];grind
theorem um (f:Str)(v:V):∀fs:List (Str×V),f∈(dZ f v fs).map (·.1)∧∀g,g∈fs.map (·.1)→g∈(dZ f v fs).map (·.1)
 | []=>⟨by simp[dZ],fun g h=>by simp at h⟩
 | (k,x)::r=>by
  obtain⟨i1,i2⟩:=um f v r;rw[show dZ f v ((k,x)::r)=(if k=f then(k,v)::r else(k,x)::dZ f v r)from rfl];grind
theorem vg (f:Str)(v:V):∀fs:List (Str×V),(dZ f v fs).length≤fs.length+1
 | []=>by simp[dZ]
 | (k,x)::r=>by
  have ih:=vg f v r;rw[show dZ f v ((k,x)::r)=(if k=f then(k,v)::r else(k,x)::dZ f v r)from rfl];split<;>simp_all
def oz.some_of {v:V}{o:Option Value}(r:oz (some v) o):∃u,o=some u∧RelV v u:=by
 cases o with
 | none=>exact(show False from r).elim
 | some u=>exact⟨u,rfl,r⟩
def IG {v:V}{u:Value}(r:RelV v u):handedIn u=true:=by
 cases v with
 | gq=>cases(show u=Value.none from r);rfl
 | bl b=>cases(show u=Value.bool b from r);rfl
 | int i=>obtain⟨t,e⟩:=(show ∃t,u=Value.int i t from r);cases e;rfl
 | str x=>obtain⟨t,e⟩:=(show ∃t,u=Value.str x t from r);cases e;rfl
 | CQ b=>obtain⟨t,e⟩:=(show ∃t,u=Value.bytes b t from r);cases e;rfl
 | UK b=>obtain⟨t,e⟩:=(show ∃t,u=Value.float b t from r);cases e;rfl
 | ref a=>cases(show u=Value.ref a from r);rfl
 | ty n=>cases(show u=Value.type n from r);rfl
section
variable{P:Program}{w:World}{H H':Hp}{h h':Heap}{a C dx:Addr}{fs Pu:List (Str×V)}
def sP (b9:mn P w H h)(e:H a=some (.ins C dx fs)):∃mA,BQ h a dx C mA∧(∀f,oz (fs.lookup f) (mA f))∧PySem.Within mA (fs.map (·.1))∧fs.length≤1000∧H dx=some (.own a):=by
 obtain⟨d,z,ne,ob,mA,n,r,q⟩:=(show c8 P w H h a (.ins C dx fs)from b9 a _ e);exact⟨mA,⟨ob,n,ne⟩,r,q,z,d⟩
end
structure JO (K:Frag)(C:Addr):Prop where
 pg:plainGet K C Str.empty=true
 hd:hasDictIn K C=true
 po:plainOver K C=true
 sa:findIn K (.ref C) "__setattr__" =some (some (.builtin "object.__setattr__"))
theorem JO.get {K:Frag}{C:Addr}(c:JO K C)(f:Str):plainGet K C f=true:=c.pg
def fc (K:Frag)(C:Addr)(f:Str):Prop:=findIn K (.ref C) f=some none
def fc.T6 {K:Frag}{C:Addr}{f:Str}(n:fc K C f):takerIn K C f=some none:=by
 unfold takerIn;rw[show findIn K (.ref C) f=some none from n];rfl
section
variable{X:Cx}{pins:List (Addr×Obj)}{σ:St}{H:Hp}{s:Shared}{a C dx:Addr}{fs:List (Str×V)}{f:Str}{v:V}{A:Around}{E:Value→Shared→Prop}
def xZ {b:Bool}{Q:Value→Shared→Prop}(I:Inv X pins σ H s)(e:H a=some (.ins C dx fs))(c:JO X.K C)(n:fc X.K C f)(l:fs.lookup f=some v)
  (h:∀u s',Inv X pins σ H s'→RelV v u→Q u s'):wpAny (model X.prog X.w) A (getAttr (.ref a) f b) Q E s:=by
 obtain⟨mA,O,r,_,_,_⟩:=sP I.b9 e;obtain⟨u,hu,ru⟩:=oz.some_of (v:=v) (o:=mA f) (by rw[←l];exact r f);exact get_map I.CP O (c.get f) c.hd n hu (IG ru) (h u _ (I.tok _) ru)
def wX {y:V}{u:Value}{Q:Unit→Shared→Prop}(I:Inv X pins σ H s)(e:H a=some (.ins C dx fs))(c:JO X.K C)(n:fc X.K C f)(hl:fs.length<1000)(ry:RelV y u)
  (h:∀s',Inv X pins σ (upd H a (.ins C dx (dZ f y fs))) s'→Q () s'):wpAny (model X.prog X.w) A (setAttr (.ref a) f u) Q E s:=by
 obtain⟨mA,O,r,wi,_,ho⟩:=sP I.b9 e;have hz:(fs.map (·.1)).length≤sizeLine:=by rw[ay,Cf];lia
 refine Nn I.CP O c.sa c.po n.T6 c.hd wi hz fun h' O' sb=>h _ ?_;have hd:∃o,h'.get? dx=some o:=let⟨o,_,_,e',_⟩:=O'.ns;⟨o,e'⟩;refine I.write (x:=a) (e:=dx) (by rw[e];exact True.intro) (.inr ho) (fun b q hb z=>(sb.2 b hb).trans z) hd ?_;refine⟨by rw[ah O.ne];exact ho,?_,O.ne,O'.obj,_,O'.ns,fun g=>?_,fun g hg=>?_⟩;have:=vg f y fs;exact Nat.le_trans ‹_› ‹_›;grind[oz,vf];by_cases q:g=f;rw[q];exact(um f y fs).1;refine(um f y fs).2 g (wi g fun z=>hg ?_);simp_all
def Inv.made (I:Inv X pins σ H s):Inv X pins σ (upd (upd H s.heap.objs.size (.own (s.heap.objs.size+1))) (s.heap.objs.size+1) (.ins C s.heap.objs.size []))
  {s with heap:=(s.heap.push emptyDict).push (instObj C s.heap.objs.size)}:=by
 have e1:(s.heap.push emptyDict).get? s.heap.objs.size=some emptyDict:=bU s.heap rfl;have e2:((s.heap.push emptyDict).push (instObj C s.heap.objs.size)).get? (s.heap.objs.size+1)=some (instObj C s.heap.objs.size):=by
  have:=bU (s.heap.push emptyDict) (o:=instObj C s.heap.objs.size) rfl
  rwa [ff]at this
 have e3:(s.heap.push emptyDict).Ns s.heap.objs.size (fun _=>none):=⟨emptyDict,#[],_,e1,rfl,(fun e he=>absurd he (by simp)),fun _=>rfl⟩;have I1:=I.laid (a:=s.heap.objs.size) (o:= .own (s.heap.objs.size+1)) (h':=s.heap.push emptyDict) (t':=s.toks) (fun b u q=>bB _ q) (bo _) ⟨_,e1⟩;refine I1.laid (a:=s.heap.objs.size+1) (o:= .ins C s.heap.objs.size []) (t':=s.toks) (fun b u q=>bB _ q) (rh (ff _ _)) ?_;have ne:s.heap.objs.size≠s.heap.objs.size+1:=cC (Nat.lt_succ_self _);refine⟨by rw[ah ne,af],fJ _,ne,e2,fun _=>none,(Heap.Ns1.of_empty e3).at fun o q=>bB _ q,fun _=>True.intro,fun y hy=>absurd rfl hy⟩
def wC {prog:Program}{w:World}{env:Env}{e:Expr}{f:Str}{pos:Pos}{s:Shared}{Q:Value→Shared→Prop}(hb:attributeBase e f env (eval e env)=eval e env)
  (h:wpAny (model prog w) A (eval e env) (fun o s₁=>wpAny (model prog w) A (getAttr o f true) Q E s₁) E s):wpAny (model prog w) A (eval (.Attribute e f pos) env) Q E s:=
 Attribute_any_ h (by rw[arm_eval_Attribute,hb])
end
inductive iF_ (K:Frag)(f:Str)(Q:VK)(x:V)(H:Hp):Prop|mk a C dx fs v:x= .ref a→H a=some (.ins C dx fs)→JO K C→fc K C f→fs.lookup f=some v→Q v H→iF_ K f Q x H
def N5 (K:Frag)(ta:TE)(f:Str):TE:=fun σ H Q=>ta σ H (iF_ K f Q)
def VA (K:Frag)(ta tv:TE)(f:Str):TS:=fun D σ H=>tv σ H fun y H1=>ta σ H1 fun x H2=>∃a C dx fs,x= .ref a∧H2 a=some (.ins C dx fs)∧JO K C∧fc K C f∧fs.length<1000∧
 D.nx σ (upd H2 a (.ins C dx (dZ f y fs)))
def RO (X:Cx)(op:Operator)(rd:V→V→Hp→VK→Prop):Prop:=
 ∀(pins:List (Addr×Obj)) (s:Shared) (σ:St) (H:Hp) (x y:V) (u v:Value) (Q:VK),Inv X pins σ H s→RelV x u→RelV y v→rd x y H Q→wpAny (model X.prog X.w) X.A (inplaceOp op u v) (EP X pins σ Q) X.xe s
def OM (K:Frag)(ta tv:TE)(rd:V→V→Hp→VK→Prop)(f:Str):TS:=fun D σ H=>ta σ H fun x H1=>∃a C dx fs v,x= .ref a∧H1 a=some (.ins C dx fs)∧JO K C∧fc K C f∧fs.lookup f=some v∧
 tv σ H1 fun y H2=>rd v y H2 fun z H3=>∃R8 Pu,H3 a=some (.ins C R8 Pu)∧Pu.length<1000∧D.nx σ (upd H3 a (.ins C R8 (dZ f z Pu)))
section
variable{X:Cx}{o e value:Expr}{f:Str}{pos pos' tW:Pos}{ta tv:TE}
def az (he:PE X e ta)(hb:attributeBase e f X.env (eval e X.env)=eval e X.env):PE X (.Attribute e f pos) (N5 X.K ta f):=by
 intro pins s σ H Q I h;refine wC hb (cS (he pins s σ H _ I h) fun u s1 ⟨x,H1,I1,rx,a,C,dx,fs,v,ex,ea,c,n,l,q⟩=>?_);subst ex;obtain rfl:u=Value.ref a:=rx;exact xZ I1 ea c n l fun u' s2 I2 ru=>⟨v,H1,I2,ru,q⟩
def bO (ha:PE X o ta)(hv:PE X value tv)(hs:swapsWith value (some (.Attribute o f pos')) pos.line X.env=pure false):PS X (.Assign [.Attribute o f pos'] value pos) (VA X.K ta tv f):=by
 intro pins s σ H D I h;refine plainObj_wpAny_Assign_Attribute (cS (hv pins s σ H _ I h) fun u s1 ⟨y,H1,I1,ry,q⟩=>cS (ha pins s1 σ H1 _ I1 q) fun ov s2 ⟨x,H2,I2,rx,a,C,dx,fs,ex,ea,c,n,l,q2⟩=>?_) hs;subst ex;obtain rfl:ov=Value.ref a:=rx;exact wX I2 ea c n l ry fun s3 I3=>⟨σ,_,I3,q2⟩
def e_ {op:Operator}{rd:V→V→Hp→VK→Prop}(ha:PE X o ta)(hv:PE X value tv)(hop:RO X op rd):PS X (.AugAssign (.Attribute o f tW) op value pos) (OM X.K ta tv rd f):=by
 intro pins s σ H D I h;refine wpAny_AugAssign_AttributeAny (cS (ha pins s σ H _ I h) fun ov s1 ⟨x,H1,I1,rx,a,C,dx,fs,v,ex,ea,c,n,l,q⟩=>?_);subst ex;obtain rfl:ov=Value.ref a:=rx;refine xZ I1 ea c n l fun u s2 I2 ru=>cS (hv pins s2 σ H1 _ I2 q) fun w3 s3 ⟨y,H2,I3,ry,q3⟩=>cS (hop pins s3 σ H2 v y u w3 _ I3 ru ry q3) fun w4 s4 ⟨z,H3,I4,rz,R8,Pu,ea',l',q4⟩=>?_;exact wX I4 ea' c n l' rz fun s5 I5=>⟨σ,_,I5,q4⟩
def WM:V→V→Hp→VK→Prop:=fun x y H Q=>∃i j,x= .int i∧y= .int j∧Q (.int (i+j)) H
def W8:V→V→Hp→VK→Prop:=fun x y H Q=>∃i j,x= .int i∧y= .int j∧Q (.int (i-j)) H
def m8:RO X .Add WM:=by
 rintro pins s σ H x y u v Q I rx ry ⟨i,j,rfl,rfl,q⟩;obtain⟨t,rfl⟩:=(show ∃t,u=Value.int i t from rx);obtain⟨t',rfl⟩:=(show ∃t',v=Value.int j t' from ry);exact PyProof.Rows.iadd_int ⟨.int (i+j),H,I.tok _,⟨_,rfl⟩,q⟩
def MW:RO X .Sub W8:=by
 rintro pins s σ H x y u v Q I rx ry ⟨i,j,rfl,rfl,q⟩;obtain⟨t,rfl⟩:=(show ∃t,u=Value.int i t from rx);obtain⟨t',rfl⟩:=(show ∃t',v=Value.int j t' from ry);exact PyProof.Rows.isub_int ⟨.int (i-j),H,I.tok _,⟨_,rfl⟩,q⟩
end
structure fX (k:Nat)(A:Around):Prop where
 hd:A.handled=none
 dp:A.depth+3*k+5<recursionLimit
 un:A.units+16*k+200<cLine
def fX.mono {j k:Nat}{A:Around}(r:fX k A)(h:j≤k):fX j A:=⟨r.hd,by have:=r.dp;lia,by have:=r.un;lia⟩
def fX.deeper {k:Nat}{A:Around}(r:fX (k+1) A)(env:Env):fX k (A.deeper env):=
 ⟨r.hd,by have:=r.dp;show A.depth+1+3*k+5<_;lia,by have:=r.un;show A.units+3+16*k+200<_;lia⟩
def GH {A:Around}{C:Addr}{us:List Value}{kw:List (Str×Value)}:(A.under (.builtin "type.__call__" ⟨.ref C::us,kw⟩)).depth=A.depth+1:=by rfl
def G2 {A:Around}{C:Addr}{us:List Value}{kw:List (Str×Value)}:(A.under (.builtin "type.__call__" ⟨.ref C::us,kw⟩)).units=A.units+1:=by rfl
def fX.make {k:Nat}{A:Around}(r:fX (k+1) A)(C:Addr)(us:List Value)(kw:List (Str×Value)):fX k (A.under (.builtin "type.__call__" ⟨.ref C::us,kw⟩)):=
 ⟨r.hd,by have:=r.dp;rw[GH];(simp;lia),by have:=r.un;rw[G2];lia⟩
def fX.depth {k:Nat}{A:Around}(r:fX k A):A.depth<recursionLimit:=by have:=r.dp;lia
def fX.units {k:Nat}{A:Around}(r:fX k A):A.units+64<cLine:=by have:=r.un;lia
def rA:TA:=fun _ H Q=>Q [] H
def fG (ta:TE)(tr:TA):TA:=fun σ H Q=>ta σ H fun x H1=>tr σ H1 fun xs H2=>Q (x::xs) H2
section
variable{X:Cx}{e:Expr}{es:List Expr}{te:TE}{t:TA}{pos:Pos}
def ag:PA X [] rA:=fun _ _ _ _ H Q I h=>nO ⟨[],H,I,.nil,h⟩
def aa (ha:PE X e te)(hr:PA X es t)(hs:starEach (e::es) X.env=(false,eval e X.env)::starEach es X.env:=by rfl):PA X (e::es) (fG te t):=by
 intro pos pins s σ H Q I h;rw[hs];show wpAny _ _ (spliced ((false,eval e X.env)::backTo pos (starEach es X.env))) _ _ s;refine j6 (cS (ha pins s σ H _ I h) fun u s1 ⟨x,H1,I1,r1,q1⟩=>?_);exact cS (hr pos pins s1 σ H1 _ I1 q1) fun us s2 ⟨xs,H2,I2,r2,q2⟩=>⟨x::xs,H2,I2,.cons r1 r2,q2⟩
def Wz (t:TA):TE:=fun σ H Q=>t σ H fun xs H1=>xs.length≤sizeLine∧∀p,H1 p=none→Q (.ref p) (upd H1 p (.tup xs))
def Xf (t:TA):TE:=fun σ H Q=>t σ H fun xs H1=>xs.length≤sizeLine∧∀p,H1 p=none→Q (.ref p) (upd H1 p (.lst xs))
def jb {x1}(h:PA X es t):PE X (.Tuple es x1 pos) (Wz t):=by
 intro pins s σ H Q I hq;refine wpAny_Tuple_spliced (cS (h pos pins s σ H _ I hq) fun us s1 ⟨xs,H1,I1,r,z,q⟩=>⟨by rw[←r.length];exact z,?_⟩);have hf:H1 s1.heap.objs.size=none:=I1.b9.fresh (bo _);refine⟨.ref s1.heap.objs.size,upd H1 s1.heap.objs.size (.tup xs),I1.laid (t':=s1.toks) (fun b u e=>bB _ e) (bo _) ?_,rfl,q _ hf⟩;exact⟨z,us,r,⟨_,bU _ rfl,rfl,_,rfl⟩⟩
def a0 (h:PA X es t):PE X (.List es pos) (Xf t):=by
 intro pins s σ H Q I hq;refine wpAny_List_spliced (cS (h pos pins s σ H _ I hq) fun us s1 ⟨xs,H1,I1,r,z,q⟩=>⟨by rw[←r.length];exact z,?_⟩);have hf:H1 s1.heap.objs.size=none:=I1.b9.fresh (bo _);refine⟨.ref s1.heap.objs.size,upd H1 s1.heap.objs.size (.lst xs),I1.laid (t':=s1.toks) (fun b u e=>bB _ e) (bo _) ?_,rfl,q _ hf⟩;exact⟨z,us,0,r,bU _ rfl⟩
end
abbrev Sp:=List V→Hp→VK→XK→Prop
abbrev PJ:=List Env→Hp→Shared→XK→Value→Shared→Prop
structure Gi (P:Program)(w:World)(K:Frag)(mg:Str→Option Value)(base:Heap)(A:Around)(outer:List Env)(s:Shared)(H:Hp):Prop where
 frames:A.frames=some outer
 mod:Mod K mg base
 bs:∀b o,base.get? b=some o→s.heap.get? b=some o∧H b=none
 JK:base.objs.size≤s.heap.objs.size
 vQ:s.heap.FunFrames base outer
 PX:∀b∈MT outer,H b=none
 b9:mn P w H s.heap
 bare:AllBare s.gens
def CE (outer:List Env)(P:Program)(w:World)(H:Hp)(s:Shared)(Q:VK)(u:Value)(s':Shared):Prop:=
 ∃v H',s'.os=s.os∧AllBare s'.gens∧Un (MT outer) [] H H' s.heap s'.heap∧mn P w H' s'.heap∧RelV v u∧Q v H'
def CR (CX:PJ)(outer:List Env)(P:Program)(w:World)(H:Hp)(s:Shared)(Q:VK)(E:XK)(r:Result)(s':Shared):Prop:=
 match r with
 | .ok (.ret u)=>CE outer P w H s Q u s'
 | .ok _=>False
 | .error e=>CX outer H s E e s'
structure zi (P:Program)(w:World)(K:Frag)(mg:Str→Option Value)(base:Heap)(CX:PJ)(k:Nat)(f:Addr)(fd:FuncData)(ps:List Str)(sp:Sp):Prop where
 len:∀vs H Q E,sp vs H Q E→vs.length=ps.length
 run:∀(A:Around) (outer:List Env) (s:Shared) (H:Hp) (args:Args) (us:List Value) (vs:List V) (Q:VK) (E:XK),fX k A→Gi P w K mg base A outer s H→BindsTo s fd args (ps.zip us)→Vals vs us→sp vs H Q E→
  codeAny (model P w) A (.call (.ref f) args) (CR CX outer P w H s Q E) s
def Gi.make {P:Program}{w:World}{K:Frag}{mg:Str→Option Value}{base:Heap}{A:Around}{outer:List Env}{s:Shared}{H:Hp}(e:Gi P w K mg base A outer s H)(C:Addr)(us:List Value)(kw:List (Str×Value)):
  Gi P w K mg base (A.under (.builtin "type.__call__" ⟨.ref C::us,kw⟩)) outer s H:=⟨by first|exact e.frames|(simpa [Around.under,Code.envs,Code.isFrame,pushEnvs]using e.frames),e.mod,e.bs,e.JK,e.vQ,e.PX,e.b9,e.bare⟩
section
variable{X:Cx}{pins:List (Addr×Obj)}{σ:St}{H:Hp}{s s':Shared}
def Inv.Uz (I:Inv X pins σ H s):Gi X.prog X.w X.K X.mg X.base X.A X.stack s H:=
 ⟨I.ok.frames,I.ok.mod,I.bs,aG I.ok.JK I.sz,I.stack,I.Ip,I.b9,I.bare⟩
def Inv.after {Q:VK}{u:Value}(I:Inv X pins σ H s)(h:CE X.stack X.prog X.w H s Q u s'):EP X pins σ Q u s':=by
 obtain⟨v,H',os,bare,un,b9,r,q⟩:=h;obtain⟨hh,g,d,t,os'⟩:=s';obtain rfl:os'=s.os:=os;exact⟨v,H',I.call (h':=hh) (g':=g) (d':=d) (t':=t) (ch:=[]) un b9 bare (fun b z=>absurd z (by simp)),r,q⟩
end
def vC (sp:Sp)(DI:List V)(E:XK)(t:TA):TE:=fun σ H Q=>t σ H fun vs H1=>sp (vs++DI) H1 Q E
def Hm (C:Addr)(sp:Sp)(DI:List V)(E:XK)(t:TA):TE:=fun σ H Q=>t σ H fun vs H1=>∀x dx,H1 x=none→H1 dx=none→dx≠x→
 sp (.ref x::(vs++DI)) (upd (upd H1 dx (.own x)) x (.ins C dx [])) (fun v H2=>v= .gq∧Q (.ref x) H2) E
def Binds (K:Frag)(fd:FuncData)(ps:List Str)(ds:List Value):Prop:=
 ∀(s:Shared) (us:List Value),K.In s.heap→(us++ds).length=ps.length→BindsTo s fd ⟨us,[]⟩ (ps.zip (us++ds))
def Binds.all {K:Frag}{fd:FuncData}{ps:List Str}(h:∀us:List Value,us.length=ps.length→bindArgs fd ⟨us,[]⟩=pure (ps.zip us)):Binds K fd ps []:=fun s us _ hl=>by
 rw[mr]at hl ⊢;exact .of_eq (h us hl)
def Passes (CX:PJ)(X:Cx)(E:XK):Prop:=∀(pins:List (Addr×Obj)) (σ:St) (H:Hp) (s:Shared) (e:Value) (s':Shared),Inv X pins σ H s→CX X.stack H s E e s'→X.xe e s'
section
variable{X:Cx}{CX:PJ}{k:Nat}{f C:Addr}{fd:FuncData}{ps:List Str}{sp:Sp}{DI:List V}{ds:List Value}{E:XK}{x m:Str}{p pos apos:Pos}{e o:Expr}{es:List Expr}{ta:TE}{t:TA}
theorem Qy {pins:List (Addr×Obj)}{σ:St}{H:Hp}{s:Shared}{Q:VK}{us:List Value}{vs:List V}(F:zi X.prog X.w X.K X.mg X.base CX k f fd ps sp)(hr:fX k X.A)(hb:Binds X.K fd ps ds)(hd:Vals DI ds)(hx:Passes CX X E)
  (I:Inv X pins σ H s) (r:Vals vs us) (h:sp (vs++DI) H Q E):wpAny (model X.prog X.w) X.A (call (.ref f) us) (EP X pins σ Q) X.xe s:=by
 have r2:Vals (vs++DI) (us++ds):=r.append hd;have hl:(us++ds).length=ps.length:=by rw[←r2.length];exact F.len _ _ _ _ h
 refine wpAny_call (A8 (F.run X.A X.stack s H ⟨us,[]⟩ (us++ds) (vs++DI) Q E hr I.Uz (hb s us I.CP hl) r2 h) fun r s' hq=>?_);cases r with
 | error e=>exact hx pins σ H s e s' I hq
 | ok fl=>
  cases fl with
  | ret u=>exact I.after hq
  | next=>exact False.elim hq
  | brk=>exact False.elim hq
  | cont=>exact False.elim hq
def Oe (F:zi X.prog X.w X.K X.mg X.base CX k f fd ps sp)(hr:fX k X.A)(hg:Gl X x)(hm:X.mg x=some (.ref f))(hk:keepIn X.K (.ref f)=true)(hb:Binds X.K fd ps ds)(hd:Vals DI ds)(hx:Passes CX X E)
  (ha:PA X (e::es) t) (Gj:(x==("__debug__" :Str))=false:=by decide) (he:starEach (e::es) X.env=(false,eval e X.env)::starEach es X.env:=by rfl) (iE:(backTo pos (starEach es X.env)).any (·.1)=false:=by rfl):
  PE X (.Call (.Name x p) (e::es) [] pos) (vC sp DI E t):=by
 intro pins s σ H Q I h;refine qC (sJ I hg hm ?_ Gj);refine callWith_K (h₀:=X.base) I.ok.mod.UO hk (cS (ha pos pins s σ H _ I h) fun us s1 ⟨vs,H1,I1,r,q⟩=>⟨I1.CP,?_⟩) he iE;exact Qy F hr hb hd hx I1 r q
structure Mk (K:Frag)(C f:Addr):Prop where
 makes:makesIn K C=true
 init:findIn K (.ref C) "__init__" =some (some (.ref f))
 fn:isFn K (.ref f)=true
 kp:keepIn K (.ref C)=true
theorem Es {pins:List (Addr×Obj)}{σ:St}{H:Hp}{s:Shared}{Q:VK}{us:List Value}{vs:List V}(M:Mk X.K C f)(F:zi X.prog X.w X.K X.mg X.base CX k f fd ps sp)(hr:fX (k+1) X.A)(hb:Binds X.K fd ps ds)(hd:Vals DI ds)
  (hx:Passes CX X E) (I:Inv X pins σ H s) (r:Vals vs us)
  (h:∀x dx,H x=none→H dx=none→dx≠x→sp (.ref x::(vs++DI)) (upd (upd H dx (.own x)) x (.ins C dx [])) (fun v H2=>v= .gq∧Q (.ref x) H2) E):
  wpAny (model X.prog X.w) X.A (call (.ref C) us) (EP X pins σ Q) X.xe s:=by
 have hq:=h (s.heap.objs.size+1) s.heap.objs.size (I.b9.fresh (Nat.le_succ _)) (I.b9.fresh (bo _)) (cC (Nat.lt_succ_self _));have I2:=Inv.made (C:=C) I;have r2:Vals (V.ref (s.heap.objs.size+1)::(vs++DI)) (Value.ref (s.heap.objs.size+1)::(us++ds)):= .cons rfl (r.append hd);have hl:(Value.ref (s.heap.objs.size+1)::us++ds).length=ps.length:=by
  have e:=r2.length;rw[F.len _ _ _ _ hq]at e;exact e.symm
 refine wpAny_call (KY (f:=f) I.CP M.makes M.init (beq_iff_eq.mp M.fn) (A8 (F.run _ X.stack _ _ ⟨Value.ref (s.heap.objs.size+1)::us,[]⟩ (Value.ref (s.heap.objs.size+1)::(us++ds)) _ _ E (hr.make C us [])
  (I2.Uz.make C us []) (hb _ (Value.ref (s.heap.objs.size+1)::us) I2.CP hl) r2 hq) fun r s' Pj=>?_))
 cases r with
 | error e=>exact hx pins σ _ _ e s' I2 Pj
 | ok fl=>
  cases fl with
  | ret u=>
   obtain⟨v,H',I3,rv,ev,q3⟩:=I2.after Pj;subst ev;exact⟨rv,⟨V.ref (s.heap.objs.size+1),H',I3,rfl,q3⟩⟩
  | next=>exact False.elim Pj
  | brk=>exact False.elim Pj
  | cont=>exact False.elim Pj
def NK (M:Mk X.K C f)(F:zi X.prog X.w X.K X.mg X.base CX k f fd ps sp)(hr:fX (k+1) X.A)(hg:Gl X x)(hm:X.mg x=some (.ref C))(hb:Binds X.K fd ps ds)(hd:Vals DI ds)(hx:Passes CX X E)
  (ha:PA X (e::es) t) (Gj:(x==("__debug__" :Str))=false:=by decide) (he:starEach (e::es) X.env=(false,eval e X.env)::starEach es X.env:=by rfl) (iE:(backTo pos (starEach es X.env)).any (·.1)=false:=by rfl):
  PE X (.Call (.Name x p) (e::es) [] pos) (Hm C sp DI E t):=by
 intro pins s σ H Q I h;refine qC (sJ I hg hm ?_ Gj);refine callWith_K (h₀:=X.base) I.ok.mod.UO M.kp (cS (ha pos pins s σ H _ I h) fun us s1 ⟨vs,H1,I1,r,q⟩=>⟨I1.CP,?_⟩) he iE;exact Es M F hr hb hd hx I1 r q
def KJ (M:Mk X.K C f)(F:zi X.prog X.w X.K X.mg X.base CX k f fd ps sp)(hr:fX (k+1) X.A)(hg:Gl X x)(hm:X.mg x=some (.ref C))(hb:Binds X.K fd ps ds)(hd:Vals DI ds)(hx:Passes CX X E)
  (Gj:(x==("__debug__" :Str))=false:=by decide):PE X (.Call (.Name x p) [] [] pos) (Hm C sp DI E rA):=by
 intro pins s σ H Q I h;refine qC (sJ I hg hm ?_ Gj);exact PySem.W.callWith_K0 I.CP M.kp (Es (us:=[]) M F hr hb hd hx I .nil h)
end
structure aE (N P:List Str)(sc:Scope):Prop where
 kind:sc.kind= .function
 co:sc.isCoroutine=false
 gen:sc.isGenerator=false
 nd:N.Nodup
 pre:N.take P.length=P
 par:∀x∈P,sc.names.lookup x=some .local∨sc.names.lookup x=some .cell
 Q1:∀y∈sc.names,y.2≠ .free
def aE.go {N P:List Str}{sc:Scope}(a:sc.kind= .function:=by rfl)(b:sc.isCoroutine=false:=by rfl)(c:sc.isGenerator=false:=by rfl)(d:N.Nodup:=by decide +kernel)(e:N.take P.length=P:=by rfl)(f:∀x∈P,sc.names.lookup x=some .local∨sc.names.lookup x=some .cell:=by decide +kernel)(g:∀y∈sc.names,y.2≠ .free:=by decide +kernel):aE N P sc:=⟨a,b,c,d,e,f,g⟩
theorem zY {kindOf:Str→Option NameKind}{x:Str}:∀{binds:List (Str×Value)} {m:Str→Option Value},(∀v,(x,v)∉binds)→bindL kindOf binds m x=m x
 | [],_,_=>rfl
 | (n,v)::r,m,h=>by
  unfold bindL;rw[zY fun w hw=>h w (cP _ hw)];split;simp;grind;rfl
theorem Ab {kindOf:Str→Option NameKind}{x:Str}:∀{binds:List (Str×Value)} {m:Str→Option Value},(∀v,(x,v)∉binds)→bindC kindOf binds m x=m x
 | [],_,_=>rfl
 | (n,v)::r,m,h=>by
  unfold bindC;rw[Ab fun w hw=>h w (cP _ hw)];split;rfl;grind
theorem AI {kindOf:Str→Option NameKind}{x:Str}{v:Value}:∀{P:List Str} {vs:List Value} {i:Nat} {m:Str→Option Value},P.Nodup→P[i]? =some x→vs[i]? =some v→kindOf x=some .local→
  bindL kindOf (P.zip vs) m x=some v
 | [],_,_,_,_,h,_,_=>by simp at h
 | _::_,[],_,_,_,_,h,_=>by simp at h
 | p::P,w::vs,0,m,nd,h1,h2,hk=>by
  simp at h1 h2;subst h1;subst h2;show bindL kindOf ((p,w)::P.zip vs) m p=_;unfold bindL;rw[zY fun v hv=>(fO.mp nd).1 (Cv hv).1,aw hk];simp
 | p::P,w::vs,i+1,m,nd,h1,h2,hk=>by
  show bindL kindOf ((p,w)::P.zip vs) m x=_;unfold bindL;exact AI (i:=i) (fO.mp nd).2 (by simpa using h1) (by simpa using h2) hk
theorem AF {kindOf:Str→Option NameKind}{x:Str}{v:Value}:∀{P:List Str} {vs:List Value} {i:Nat} {m:Str→Option Value},P.Nodup→P[i]? =some x→vs[i]? =some v→kindOf x≠some .local→
  bindC kindOf (P.zip vs) m x=some v
 | [],_,_,_,_,h,_,_=>by simp at h
 | _::_,[],_,_,_,_,h,_=>by simp at h
 | p::P,w::vs,0,m,nd,h1,h2,hk=>by
  simp at h1 h2;subst h1;subst h2;show bindC kindOf ((p,w)::P.zip vs) m p=_;unfold bindC;rw[Ab fun v hv=>(fO.mp nd).1 (Cv hv).1,ak hk];simp
 | p::P,w::vs,i+1,m,nd,h1,h2,hk=>by
  show bindC kindOf ((p,w)::P.zip vs) m x=_;unfold bindC;exact AF (i:=i) (fO.mp nd).2 (by simpa using h1) (by simpa using h2) hk
def start (N:List Str)(vs:List V):St:=vs.map some++List.replicate (N.length-vs.length) none
noncomputable def Ca (CX:PJ)(P:Program)(w:World)(K:Frag)(mg:Str→Option Value)(base:Heap)(N:List Str)(qual:Str)(scope:Scope)(f:Addr)(cd:Value)(A:Around)(outer:List Env)(s:Shared)(H:Hp)(E:XK):Cx where
 prog:=P
 w:=w
 K:=K
 mg:=mg
 base:=base
 A:=A.deeper (envOfC qual scope s.heap.objs.size f cd)
 N:=N
 zX:=s
 Rg:=H
 env:=envOfC qual scope s.heap.objs.size f cd
 outer:=outer
 stack:=envOfC qual scope s.heap.objs.size f cd::outer
 ex:=[]
 calm:=true
 fn:=fun _=>true
 pn:=[]
 xe:=fun e s'=>wpAny (model P w) (A.deeper (envOfC qual scope s.heap.objs.size f cd)) (leaving (envOfC qual scope s.heap.objs.size f cd) e) (fun _ WK=>CX outer H s E e WK) (fun e' WK=>CX outer H s E e' WK) s'
def DG {sc:Scope}{n:Nat}{x:Str}(h:sc.names.lookup x=some .cell):∃c,(cellsFrom n sc.names []).lookup x=some c:=by
 have q:=PySem.W.cellsFrom_some sc.names n [] (.inl h);exact Option.isSome_iff_exists.mp q
def Jd {CX:PJ}{P:Program}{w:World}{K:Frag}{mg:Str→Option Value}{base:Heap}{N ps:List Str}{qual:Str}{scope:Scope}{f:Addr}{cd:Value}{A:Around}{outer:List Env}{s s1:Shared}{H:Hp}{E:XK}{us:List Value}{vs:List V}
  (S:aE N ps scope) (hd:A.handled=none) (e0:Gi P w K mg base A outer s H) (hl:vs.length=ps.length) (r:Vals vs us)
  (x:InCallC s s.heap.objs.size (bindL (envOfC qual scope s.heap.objs.size f cd).kindOf (ps.zip us) fun _=>none) (cellsFrom (s.heap.objs.size+1) scope.names []) (bindC (envOfC qual scope s.heap.objs.size f cd).kindOf (ps.zip us) fun _=>none) s1):
  Inv (Ca CX P w K mg base N qual scope f cd A outer s H E) [] (start N vs) H s1:=by
 have iE:ps.length≤N.length:=by have:=congrArg List.length S.pre;rw[lz]at this;lia
 obtain⟨h1,tk,rfl,hk⟩:=x.done;have RV:∀b:Addr,b∉(Ca CX P w K mg base N qual scope f cd A outer s H E).ex:=fun b z=>absurd (show b∈([]:List Addr)from z) (by simp);refine⟨⟨e0.mod,S.kind,rfl,rfl,bo _,fun y z c h1 h2=>?_,fun y hy=>?_,fun y c _ h=>?_,fun _=>hd,Around.frames_deeper e0.frames,.inr ⟨rfl,rfl⟩,fun b z=>absurd z (RV b),e0.bs,e0.JK,fun b _ _=>RV b,fun b z=>absurd z (RV b),e0.vQ,e0.PX⟩,
  rfl,e0.bare,Un.kept hk,⟨_,x.toInCall.ns,fun i y v h1 h2 h3=>?_⟩,fun y c h=>⟨_,x.cell y c h⟩,e0.b9.fresh (bo _),fun y c h=>?_,fun p hp=>absurd (show p∈([]:List (Addr×Obj))from hp) (by simp),e0.b9.kept hk,?_⟩
 exact name_of_addr x.apart (gc h1) (gc h2)
 ·have hy:scope.names.lookup y=some .cell∨scope.names.lookup y=some .free:=hy;rcases hy with hy|hy;exact DG hy;exact absurd rfl (S.Q1 _ (gc hy))
 exact jn (x.above y c (gc h))
 ·have hi:i<vs.length:=by
   unfold start at h2;clear iE;grind
  have ha:vs[i]? =some v:=by
   unfold start at h2;grind -order
  obtain⟨u,hu,rv⟩:=r.get ha;have hp:ps[i]? =some y:=by
   rw[←S.pre,List.getElem?_take_of_lt (by lia)];exact h1
  have YM:ps.Nodup:=by rw[←S.pre];exact S.nd.sublist (t_ _ _)
  refine⟨u,rv,?_⟩;rcases S.par y (dJ hp)with k|k;exact .inl ⟨k,AI YM hp hu k⟩;obtain⟨c,e⟩:=DG (n:=s.heap.objs.size+1) k;refine .inr ⟨.inl k,c,e,?_⟩;have q:=x.cell y c e;rw[AF YM hp hu (by show scope.names.lookup y≠_;rw[k];decide)]at q;exact q
 exact e0.b9.fresh (jn (x.above y c (gc h)));unfold start;show _=N.length;simp_all
theorem O8 {CX:PJ}{P:Program}{w:World}{K:Frag}{mg:Str→Option Value}{base:Heap}{k:Nat}{f:Addr}{name qual:Str}{params:Arguments}{body:List Stmt}{scope:Scope}{dV kV doc pm kU ct oc:Value}{an od:Option Addr}
  {J6:Array (Option Value)} {N ps:List Str} {sp:Sp} (lk:K.lookup f=some ⟨oc,od,.func (fnOf name qual params body scope dV kV doc pm an kU ct),J6⟩) (E':codeIn K kU qual=true) (S:aE N ps scope)
  (len:∀vs H Q E,sp vs H Q E→vs.length=ps.length)
  (sR:∀(A:Around) (outer:List Env) (s:Shared) (H:Hp) (vs:List V) (Q:VK) (E:XK),fX k (A.deeper (envOfC qual scope s.heap.objs.size f kU))→sp vs H Q E→
   ∃t,Fd (Ca CX P w K mg base N qual scope f kU A outer s H E) body t∧t {nx:=fun _ H'=>Q .gq H',rt:=Q} (start N vs) H):
  zi P w K mg base CX (k+1) f (fnOf name qual params body scope dV kV doc pm an kU ct) ps sp:=by
 refine⟨len,fun A outer s H args us vs Q E hr e0 hb r M7=>?_⟩;have hl:=len _ _ _ _ M7;have KX:K.In s.heap:=e0.mod.UO.keeps fun b o e=>(e0.bs b o e).1;have lim:s.heap.NoLimit:=e0.mod.nolimit.keeps fun b o e=>(e0.bs b o e).1;have hkind:∀y∈ps.zip us,scope.names.lookup y.1=some .local∨(scope.names.lookup y.1=some .cell∧((cellsFrom (s.heap.objs.size+1) scope.names []).lookup y.1).isSome=true):=fun⟨n,v⟩ hy=>by
  rcases S.par n (Cv hy).1 with q|q;exact .inl q;simp_all[PySem.W.cellsFrom_some]
 refine codeAny_call_function hr.depth (KX _ _ lk) rfl S.co S.gen rfl (PySem.W.codeRec_of KX E') (hb _ _ _ _ ?_);refine wpAny_newFunctionEnv_cells S.kind hkind fun env he s1 x=>?_;subst he;refine⟨lim.keeps x.toInCall.keep,codeAny_func ?_⟩;obtain⟨t,ht,hq⟩:=sR A outer s H vs Q E (hr.deeper _) M7;have I:Inv (Ca CX P w K mg base N qual scope f kU A outer s H E) [] (start N vs) H s1:=Jd S hr.hd e0 hl r x;refine gM (ht [] s1 (start N vs) H _ I hq) (fun fl s' hs=>?_) fun e s' hs=>hs;have fin:∀{σ':St} {H':Hp} {v:V} {u:Value},Inv (Ca CX P w K mg base N qual scope f kU A outer s H E) [] σ' H' s'→RelV v u→Q v H'→CE outer P w H s Q u s':=
  fun{σ' H' v u} J rv q=>⟨v,H',J.os,J.bare,J.base,J.b9,rv,q⟩
 cases fl with
 | ret u=>
  obtain⟨v,σ',H',J,rv,q⟩:=hs;exact fin J rv q
 | next=>
  obtain⟨σ',H',J,q⟩:=hs;exact fin (v:=V.gq) (u:=Value.none) J rfl q
 | brk=>
  obtain⟨_,_,_,q⟩:=hs;simp_all
 | cont=>
  obtain⟨_,_,_,q⟩:=hs;simp_all
section
variable{X:Cx}{x:Str}{p pos:Pos}{e:Expr}{es:List Expr}{t:TA}{id T:String}{r:List V→Hp→VK→Prop}
def Vd (r:List V→Hp→VK→Prop)(t:TA):TE:=fun σ H Q=>t σ H fun vs H1=>r vs H1 Q
def aW (hc:iF X (.builtin id) r)(hg:Gl X x)(hm:X.mg x=none)(hv:bootBuiltins x=some (.builtin id))(ha:PA X (e::es) t)(hn:x≠"__name__" :=by decide)(Gj:(x==("__debug__" :Str))=false:=by decide)
  (he:starEach (e::es) X.env=(false,eval e X.env)::starEach es X.env:=by rfl) (iE:(backTo pos (starEach es X.env)).any (·.1)=false:=by rfl):PE X (.Call (.Name x p) (e::es) [] pos) (Vd r t):=by
 intro pins s σ H Q I h;refine qC (lR I hg hm hv ?_ hn Gj);exact LH (cS (ha pos pins s σ H _ I h) fun us s1 ⟨vs,H1,I1,r1,q1⟩=>hc pins s1 σ H1 vs us Q I1 r1 q1) he iE
def IA (hc:iF X (.type T) r)(hg:Gl X x)(hm:X.mg x=none)(hv:bootBuiltins x=some (.type T))(ha:PA X (e::es) t)(hn:x≠"__name__" :=by decide)(Gj:(x==("__debug__" :Str))=false:=by decide)
  (he:starEach (e::es) X.env=(false,eval e X.env)::starEach es X.env:=by rfl) (iE:(backTo pos (starEach es X.env)).any (·.1)=false:=by rfl):PE X (.Call (.Name x p) (e::es) [] pos) (Vd r t):=by
 intro pins s σ H Q I h;refine qC (lR I hg hm hv ?_ hn Gj);exact xg (cS (ha pos pins s σ H _ I h) fun us s1 ⟨vs,H1,I1,r1,q1⟩=>hc pins s1 σ H1 vs us Q I1 r1 q1) he iE
end
end L2
namespace HT
open PySem PyProof.Rows
section
variable{prog:Program}{w:World}{A:Around}{E:Value→Shared→Prop}{s:Shared}
def HG (n d:Nat):Option Int→Nat
 | none=>d
 | some v=>if v<0 then(v+(n:Int)).toNat else min v.toNat n
def Lo (n d:Nat):HG n d none=d:=rfl
def Hy (n d k:Nat):HG n d (some (k:Int))=min k n:=by rfl
end
end HT
namespace L2
open PySem PySem.Spec PyProof.Rows
abbrev TO:=St→Hp→(Option Int→Hp→Prop)→Prop
def PO (X:Cx)(e:Option Expr)(t:TO):Prop:=
 ∀(pins:List (Addr×Obj)) (s:Shared) (σ:St) (H:Hp) (Q:Option Int→Hp→Prop),Inv X pins σ H s→t σ H Q→
  wpAny (model X.prog X.w) X.A (evalPart e X.env) (fun u s'=>∃o H',Inv X pins σ H' s'∧IsPart u o∧Q o H') X.xe s
def N1:TO:=fun _ H Q=>Q none H
def T4 (t:TE):TO:=fun σ H Q=>t σ H fun x H1=>∃i,x= .int i∧Q (some i) H1
section
variable{X:Cx}{e:Expr}{te:TE}{lo hi:Option Expr}{tl th:TO}{pos p2:Pos}
def rQ:PO X none N1:=by
 intro pins s σ H Q I h;rw[evalPart_none];exact aL ⟨none,H,I,.none,h⟩
def lL (h:PE X e te):PO X (some e) (T4 te):=by
 intro pins s σ H Q I hw;rw[evalPart_some];refine cS (h pins s σ H _ I hw) fun u s1 ⟨x,H1,I1,r1,q1⟩=>?_;obtain⟨i,rfl,q⟩:=q1;obtain⟨t,rfl⟩:=r1;exact⟨some i,H1,I1,.int i t,q⟩
def YL (X:Cx)(r:V→Option Int→Option Int→Hp→VK→Prop):Prop:=
 ∀(pins:List (Addr×Obj)) (s:Shared) (σ:St) (H:Hp) (x:V) (v vl vu:Value) (lo hi:Option Int) (sl:Addr) (Q:VK),Inv X pins σ H s→RelV x v→s.heap.IsSliceOf sl vl vu .none→IsPart vl lo→IsPart vu hi→r x lo hi H Q→
  ∃T id,typeLookup (.type T) "__getitem__" =pure (some (.builtin id))∧s.TypeIs v T∧wpAny (model X.prog X.w) X.A (getItem v (.ref sl)) (EP X pins σ Q) X.xe s
def YR (r:V→Option Int→Option Int→Hp→VK→Prop)(te:TE)(tl th:TO):TE:=fun σ H Q=>te σ H fun x H1=>tl σ H1 fun l H2=>th σ H2 fun u H3=>r x l u H3 Q
def ki {r:V→Option Int→Option Int→Hp→VK→Prop}(hr:YL X r)(he:PE X e te)(hl:PO X lo tl)(hu:PO X hi th):PE X (.Subscript e (.Slice lo hi none p2) pos) (YR r te tl th):=by
 intro pins s σ H Q I h;refine Subscript_ (cS (he pins s σ H _ I h) fun v s1 ⟨x,H1,I1,r1,q1⟩=>?_);refine wpAny_Slice (cS (hl pins s1 σ H1 _ I1 q1) fun vl s2 ⟨l,H2,I2,pl,q2⟩=>cS (hu pins s2 σ H2 _ I2 q2) fun vu s3 ⟨u,H3,I3,pu,q3⟩=>?_);rw[evalPart_none];refine aL ?_;have I4:Inv X pins σ H3 {s3 with heap:=s3.heap.push {cls:= .type "slice",data:= .fields #[vl,vu,.none]}}:=I3.kept (t':=s3.toks) fun b ob q=>bB _ q;obtain⟨T,id,hT,ht,hg⟩:=hr pins {s3 with heap:=s3.heap.push {cls:= .type "slice",data:= .fields #[vl,vu,.none]}} σ H3 x v vl vu l u s3.heap.objs.size Q I4 r1 (Heap.IsSliceOf.new ..) pl pu q3;show wpAny (model X.prog X.w) X.A (subscriptTail e (.Slice lo hi none p2) v (.ref s3.heap.objs.size)) (EP X pins σ Q) X.xe {s3 with heap:=s3.heap.push {cls:= .type "slice",data:= .fields #[vl,vu,.none]}};exact tail_any (ops:=[.ref s3.heap.objs.size,v]) ht hT hg (by with_unfolding_all rfl)
def ur (xs:List V)(lo hi:Option Int):List V:=(xs.drop (HT.HG xs.length 0 lo)).take (HT.HG xs.length xs.length hi-HT.HG xs.length 0 lo)
def Eh (xs:List V)(lo hi:Option Int):(ur xs lo hi).length≤xs.length:=by
 unfold ur;simp;lia
end
def O4 (n:Nat)(i:Int):Option Nat:=if 0≤i then(if i<n then some i.toNat else none)else if -(n:Int)≤i then some (i+n).toNat else none
def KD {α:Type}(xs:List α)(i:Int):Option α:=(O4 xs.length i).bind fun j=>xs[j]?
theorem HE {n:Nat}{i:Int}{j:Nat}(h:O4 n i=some j):seqIndex? i n=some j∧j<n∧ -(n:Int)≤i∧i<n:=by (constructor<;>grind[O4,seqIndex_of,seqIndex_neg])
def BJ {α:Type}{xs:List α}{i:Int}{v:α}(h:KD xs i=some v):∃j,seqIndex? i xs.length=some j∧xs[j]? =some v∧j<xs.length∧ -(xs.length:Int)≤i∧i<xs.length:=by grind[KD,O4,HE]
def aX {α:Type}{xs:List α}{j:Nat}{v:α}(h:xs[j]? =some v):KD xs (j:Int)=some v:=by (simp[O4,KD];(split<;>simp_all))
def N3 (b:Expr):Prop:=∀o i,subscripted b false o i=operate [o,i] (getItem o i)
def V3 (X:Cx)(r:R2):Prop:=
 ∀(value slice:Expr) (pins:List (Addr×Obj)) (s:Shared) (σ:St) (H:Hp) (x y:V) (v u:Value) (Q:VK),Inv X pins σ H s→RelV x v→RelV y u→r x y H Q→
  subscripted slice false v u=operate [v,u] (getItem v u)→wpAny (model X.prog X.w) X.A (subscriptTail value slice v u) (EP X pins σ Q) X.xe s
def Yx (X:Cx)(id:String)(r:V→List V→Hp→VK→Prop):Prop:=
 ∀(pins:List (Addr×Obj)) (s:Shared) (σ:St) (H:Hp) (x:V) (xs:List V) (v:Value) (us:List Value) (Q:VK),Inv X pins σ H s→RelV x v→Vals xs us→r x xs H Q→
  wpAny (model X.prog X.w) X.A (call (.builtin id) (v::us)) (EP X pins σ Q) X.xe s
section
variable{X:Cx}{a b:Expr}{ta tb:TE}{pos:Pos}
def bx {r:R2}(hr:V3 X r)(ha:PE X a ta)(hb:PE X b tb)(hs:N3 b:=by intro _ _;rfl):PE X (.Subscript a b pos) (ON r ta tb):=by
 intro pins s σ H Q I h;exact Subscript_ (Q6 ha hb I h fun v u s2 x y H2 I2 rx ry q=>hr a b pins s2 σ H2 x y v u Q I2 rx ry q (hs _ _))
inductive Wj (K:Frag)(x y:V)(H:Hp)(Q:VK):Prop|mk p xs i v:x= .ref p→y= .int i→bz K H p xs→KD xs i=some v→Q v H→Wj K x y H Q
def WZ (K:Frag):R2:=fun x y H Q=>∃p xs i v,x= .ref p∧y= .int i∧ju K H p xs∧KD xs i=some v∧Q v H
def aS:V3 X (Wj X.K):=by
 intro value slice pins s σ H x y v u Q I rx ry h hs;obtain⟨p,xs,i,z,rfl,rfl,hq,he,q⟩:=h;cases rx;obtain⟨t,rfl⟩:=ry;obtain⟨bp,r,pl,hz⟩:=I.list hq;obtain⟨j,h1,h2,h3,h4,h5⟩:=BJ he;obtain⟨w,ew,B2⟩:=r.get h2;have hl:=r.length;have hn:=t9;have fin:EP X pins σ Q w s:=⟨z,H,I,B2,q⟩;by_cases h0:0≤i
 ·have hj:i.toNat=j:=by
   rw[seqIndex_of h0 h5]at h1;simp_all
  exact item_listR pl.isList h0 (by lia) (by rw[hj];simpa using ew) fin hs
 ·have hj:(i+(bp.toArray.size:Int)).toNat=j:=by simp_all[seqIndex_neg]
  exact subscriptTail_builtinR (x:=w) pl.isList.typeIs GU.lookup
   (wpAny_getItem_list_neg (Q:=fun r s'=>r=w∧EP X pins σ Q r s') pl.isList (by lia) (by rw[cu]<;>omega) (by lia) (by rw[hj];simpa using ew) ⟨rfl,fin⟩) hs
def BN:V3 X (WZ X.K):=by
 intro value slice pins s σ H x y v u Q I rx ry h hs;obtain⟨p,xs,i,z,rfl,rfl,hq,he,q⟩:=h;cases rx;obtain⟨t,rfl⟩:=ry;obtain⟨bp,r,pl,hz⟩:=I.tuple hq;obtain⟨j,h1,h2,h3,h4,h5⟩:=BJ he;obtain⟨w,ew,B2⟩:=r.get h2;have hl:=r.length;have hn:=t9;have fin:EP X pins σ Q w s:=⟨z,H,I,B2,q⟩;exact subscriptTail_builtinR (x:=w) pl.typeIs slot_tuple_getitem.lookup
  (getItem_tuple (j:=j) (Q:=fun r s'=>r=w∧EP X pins σ Q r s') pl (by lia) (by lia) (by rw[cu,←hl];exact h1) (by simpa using ew) ⟨rfl,fin⟩) hs
def G5 (bp:List Value)(n j:Nat)(u:Value):Obj.mapSeq (·.setIfInBounds j u) {cls:= .type "list",data:= .seq bp.toArray n}={cls:= .type "list",data:= .seq (bp.set j u).toArray n}:=by
 simp[Obj.mapSeq]
def Inv.lst {pins:List (Addr×Obj)}{σ:St}{H:Hp}{s:Shared}{p:Addr}{xs:List V}(I:Inv X pins σ H s)(h:H p=some (.lst xs)):
  ∃(bp:List Value) (n:Nat),Vals xs bp∧s.heap.get? p=some {cls:= .type "list",data:= .seq bp.toArray n}∧xs.length≤sizeLine:=by
 obtain⟨z,bp,n,r,e⟩:=I.b9 p _ h;exact⟨bp,n,r,e,z⟩
def Inv.RD {pins:List (Addr×Obj)}{σ:St}{H:Hp}{s:Shared}{p:Addr}{xs ys:List V}{bp its':List Value}{n n':Nat}{f:Obj→Obj}(I:Inv X pins σ H s)(h:H p=some (.lst xs))
  (ho:s.heap.get? p=some {cls:= .type "list",data:= .seq bp.toArray n}) (hf:f {cls:= .type "list",data:= .seq bp.toArray n}={cls:= .type "list",data:= .seq its'.toArray n'}) (r:Vals ys its') (hz:ys.length≤sizeLine) (t:Nat):
  Inv X pins σ (upd H p (.lst ys)) {s with heap:=s.heap.update p f,toks:=t}:=by
 have e:(s.heap.update p f).get? p=some {cls:= .type "list",data:= .seq its'.toArray n'}:=by
  rw[ra f ho (by rw[hf]<;>rfl),hf]
 refine I.write (x:=p) (e:=p) (by rw[h];trivial) (.inl rfl) (fun b u hb q=>(uh _ _ (aR hb)).trans q) ⟨_,e⟩ ?_;exact⟨hz,its',n',r,e⟩
def SX:V→V→V→Hp→(Hp→Prop)→Prop:=fun o i v H Q=>∃p xs k j,o= .ref p∧i= .int k∧H p=some (.lst xs)∧O4 xs.length k=some j∧Q (upd H p (.lst (xs.set j v)))
def set_list:SD X SX:=by
 intro pins s σ H o i v ov iv u Q I ro ri rv h;obtain⟨p,xs,k,j,rfl,rfl,hp,hj,q⟩:=h;cases ro;obtain⟨t,rfl⟩:=ri;obtain⟨bp,n,r,ho,hz⟩:=I.lst hp;obtain⟨h1,h2,h3,h4⟩:=HE hj;have hl:=r.length;have hn:=t9;have I':Inv X pins σ (upd H p (.lst (xs.set j v))) {s with heap:=s.heap.update p (Obj.mapSeq (·.setIfInBounds j u))}:=
  I.RD hp ho (G5 bp n j u) (r.set rv j) (by rw[List.length_set];exact hz) s.toks
 by_cases h0:0≤k;grind[seqIndex_of,PySem.W.ki_setAt];clear h2;grind[seqIndex_neg,PySem.W.ki_setBack]
def Br (lo hi:Option Int)(n:Nat):(sliceBounds lo hi none n).1=((HT.HG n 0 lo:Nat):Int)∧(sliceBounds lo hi none n).2.1=((HT.HG n n hi:Nat):Int)∧(sliceBounds lo hi none n).2.2=1:=by
 refine⟨?_,?_,rfl⟩;cases lo;rfl;simp[sliceBounds,HT.HG];split<;>lia;cases hi;rfl;simp[sliceBounds,HT.HG];split<;>lia
def zG (bp:List Value)(lo hi:Option Int):slicePick bp.toArray lo hi none=((bp.drop (HT.HG bp.length 0 lo)).take (HT.HG bp.length bp.length hi-HT.HG bp.length 0 lo)).toArray:=by
 obtain⟨h1,h2,h3⟩:=Br lo hi bp.toArray.size;unfold slicePick;rw[h1,h2,h3];simp only[sliceRange_one,pick_run,cu]<;>rfl
def Vv (K:Frag):V→Option Int→Option Int→Hp→VK→Prop:=fun x lo hi H Q=>∃a xs,x= .ref a∧bz K H a xs∧∀p,H p=none→Q (.ref p) (upd H p (.lst (ur xs lo hi)))
def oQ:YL X (Vv X.K):=by
 intro pins s σ H x v vl vu lo hi sl Q I rx hs pl pu h;obtain⟨a,xs,rfl,hx,q⟩:=h;cases rx;obtain⟨bp,r,ht,hz⟩:=I.list hx;have hlen:=r.length;refine⟨"list",_,GU.lookup,ht.isList.typeIs,?_⟩;refine wpAny_getItem_list_slice ht.isList hs pl pu .none (by decide) ?_ (by rw[cu]<;>omega);rw[zG,←hlen];refine⟨.ref s.heap.objs.size,_,I.laid (t':=s.toks) (o:= .lst (ur xs lo hi)) (fun b ob q=>bB _ q) (bo _) ?_,rfl,q _ (I.b9.fresh (bo _))⟩;exact⟨aG (Eh xs lo hi) hz,_,0,(r.drop (HT.HG xs.length 0 lo)).take (HT.HG xs.length xs.length hi-HT.HG xs.length 0 lo),bU _ rfl⟩
def vx:V→Bool
 | .gq=>true
 | .bl _=>true
 | .int _=>true
 | .str _=>true
 | _=>false
def Nv:V→V→Bool
 | .gq,.gq=>true
 | .bl a,.bl b=>a==b
 | .bl a,.int b=>(if a then 1 else 0)==b
 | .int a,.bl b=>a==(if b then 1 else 0)
 | .int a,.int b=>a==b
 | .str a,.str b=>a==b
 | _,_=>false
def Qu {A:Around}{s:Shared}{y x:V}{u v:Value}(ry:RelV y u)(rx:RelV x v)(fy:vx y=true)(fx:vx x=true):SeqAt.EqAt A s u v (Nv y x):=by
 cases y with
 | gq=>
  cases ry;cases x with
  | gq=>cases rx;exact SeqAt.EqAt.same _
  | bl b=>cases rx;exact SeqAt.EqAt.none_bool b
  | int b=>obtain⟨t,rfl⟩:=rx;exact SeqAt.EqAt.none_int b t
  | str b=>obtain⟨t,rfl⟩:=rx;exact SeqAt.EqAt.none_str b t
  | _=>exact absurd (show false=true from fx) fg
 | bl a=>
  cases ry;cases x with
  | gq=>cases rx;exact SeqAt.EqAt.bool_none a
  | bl b=>cases rx;exact SeqAt.EqAt.bool_bool a b
  | int b=>obtain⟨t,rfl⟩:=rx;exact SeqAt.EqAt.bool_int a b t
  | str b=>obtain⟨t,rfl⟩:=rx;exact SeqAt.EqAt.bool_str a b t
  | _=>exact absurd (show false=true from fx) fg
 | int a=>
  obtain⟨t',rfl⟩:=ry;cases x with
  | gq=>cases rx;exact SeqAt.EqAt.int_none a t'
  | bl b=>cases rx;exact SeqAt.EqAt.int_bool a t' b
  | int b=>obtain⟨t,rfl⟩:=rx;exact SeqAt.EqAt.int_int a t' b t
  | str b=>obtain⟨t,rfl⟩:=rx;exact SeqAt.EqAt.int_str a t' b t
  | _=>exact absurd (show false=true from fx) fg
 | str a=>
  obtain⟨t',rfl⟩:=ry;cases x with
  | gq=>cases rx;exact SeqAt.EqAt.str_none a t'
  | bl b=>cases rx;exact SeqAt.EqAt.str_bool a t' b
  | int b=>obtain⟨t,rfl⟩:=rx;exact SeqAt.EqAt.str_int a t' b t
  | str b=>obtain⟨t,rfl⟩:=rx;exact SeqAt.EqAt.str_str a t' b t
  | _=>exact absurd (show false=true from fx) fg
 | _=>exact absurd (show false=true from fy) fg
def Ni (x:V)(u:Value):Bool:=match u with
 | .none=>Nv .gq x
 | .bool b=>Nv (.bl b) x
 | .int i _=>Nv (.int i) x
 | .str z _=>Nv (.str z) x
 | _=>false
def Le {x y:V}{u:Value}(r:RelV y u)(f:vx y=true):Ni x u=Nv y x:=by
 cases y with
 | gq=>cases r;rfl
 | bl b=>cases r;rfl
 | int i=>obtain⟨t,rfl⟩:=r;rfl
 | str z=>obtain⟨t,rfl⟩:=r;rfl
 | _=>exact absurd (show false=true from f) fg
theorem B4 {x:V}:∀{xs:List V} {us:List Value},Vals xs us→xs.all vx=true→us.any (Ni x)=xs.any fun y=>Nv y x
 | _,_,.nil,_=>rfl
 | y::xs,u::us,.cons r t,f=>by
  rw[AM,cy]at f;rw[tD,tD,Le r f.1,B4 t f.2]
theorem ye {A:Around}{s:Shared}{x:V}{v:Value}(rx:RelV x v)(fx:vx x=true):∀{xs:List V} {us:List Value},Vals xs us→xs.all vx=true→∀u∈us,SeqAt.EqAt A s u v (Ni x u)
 | _,_,.nil,_=>fun u hu=>by cases hu
 | y::xs,u::us,.cons r t,f=>fun u' hu=>by
  rw[AM,cy]at f;rcases bM.mp hu with rfl|hu;rw[Le r f.1];exact Qu r rx f.1 fx;exact ye rx fx t f.2 u' hu
def R0 (x:V)(xs:List V):Bool:=xs.any fun y=>Nv y x
def Xw (K:Frag)(neg:Bool):R2:=fun x y H Q=>∃p xs,y= .ref p∧(bz K H p xs∨ju K H p xs)∧vx x=true∧xs.all vx=true∧Q (.bl (if neg then !R0 x xs else R0 x xs)) H
def Jc:wt X (compareOp .In) (Xw X.K false):=by
 intro pins s σ H x y v u Q I rx ry h;obtain⟨p,xs,rfl,hq,fx,fs,q⟩:=h;cases ry;rcases hq with hq|hq
 ·obtain⟨bp,r,pl,hz⟩:=I.list hq;refine SeqAt.in_listAt (Ni x) pl.isList (fun w hw=>ye rx fx r fs w (by simpa using hw)) ⟨.bl _,H,I,rfl,?_⟩;rw[show bp.toArray.any (Ni x)=bp.any (Ni x) by grind,B4 r fs];exact q
 obtain⟨bp,r,pl,hz⟩:=I.tuple hq;refine SeqAt.in_tupleAt (Ni x) pl (fun w hw=>ye rx fx r fs w (by simpa using hw)) ⟨.bl _,H,I,rfl,?_⟩;rw[show bp.toArray.any (Ni x)=bp.any (Ni x) by grind,B4 r fs];exact q
def cJ:iF X (.builtin "len") (fun xs H Q=>∃p ys,xs=[.ref p]∧(bz X.K H p ys∨ju X.K H p ys)∧Q (.int ys.length) H):=by
 intro pins s σ H xs us Q I r h;obtain⟨p,ys,rfl,hq,q⟩:=h;obtain⟨u,rfl,rx⟩:=vals1 r;cases rx;have hn:=t9;rcases hq with hq|hq
 ·obtain⟨bp,r',pl,hz⟩:=I.list hq;have hlen:=r'.length;exact Calls.call_len_list pl.isList (by simp only[cu]<;>omega) ⟨.int ys.length,H,I.tok _,⟨s.toks+1,by rw[cu,hlen]⟩,q⟩
 obtain⟨bp,r',pl,hz⟩:=I.tuple hq;have hlen:=r'.length;exact len_tuple pl (by simp only[cu]<;>omega) ⟨.int ys.length,H,I.tok _,⟨s.toks+1,by rw[cu,hlen]⟩,q⟩
def WU (K:Frag)(T:String)(x:V)(H:Hp):Prop:=match x with
 | .str _=>T="str"
 | .int _=>T="int"
 | .ref p=>(T="list" ∧∃xs,bz K H p xs)∨(T="tuple" ∧∃o,K.lookup p=some o∧o.cls= .type "tuple" ∧o.dict=none)∨
   (T="dict" ∧((∃kvs,H p=some (.dK kvs))∨∃kvs,H p=some (.dT kvs)))∨(T="set" ∧∃S n,H p=some (.set S n))
 | _=>False
theorem L6 {pins:List (Addr×Obj)}{σ:St}{H:Hp}{s:Shared}{T:String}{x:V}{v:Value}(I:Inv X pins σ H s)(r:RelV x v)(ty:WU X.K T x H):
  s.TypeIs v T∧∀a,v= .ref a→∃ob,s.heap.get? a=some ob∧ob.dict=none:=by
 cases x with
 | str z=>
  obtain⟨t,rfl⟩:=r;cases(show T="str" from ty);exact⟨typeIs_str s z t,fun _ e=>nomatch e⟩
 | int i=>
  obtain⟨t,rfl⟩:=r;cases(show T="int" from ty);exact⟨typeIs_int s i t,fun _ e=>nomatch e⟩
 | ref p=>
  cases r;rcases ty with⟨rfl,xs,hq⟩|⟨rfl,o,hk,hc,hd⟩|⟨rfl,hk⟩|⟨rfl,S,n,hk⟩
  ·obtain⟨bp,_,pl,_⟩:=I.list hq;refine⟨pl.isList.typeIs,fun a e=>?_⟩;cases e;obtain⟨o,n,e,c,hd,_⟩:=pl;exact⟨o,e,hd⟩
  ·refine⟨⟨o,I.CP p o hk,hc⟩,fun a e=>?_⟩;cases e;exact⟨o,I.CP _ o hk,hd⟩
  ·have z:∃o,s.heap.get? p=some o∧o.ExactDict:=by
    rcases hk with⟨kvs,hk⟩|⟨kvs,hk⟩
    ·obtain⟨_,_,_,_,o,_,_,e,ex,_⟩:=I.b9 p _ hk;exact⟨o,e,ex⟩
    obtain⟨_,_,_,_,o,_,_,e,ex,_⟩:=I.b9 p _ hk;exact⟨o,e,ex⟩
   obtain⟨o,e,ex⟩:=z;refine⟨⟨o,e,ex.1⟩,fun a e2=>?_⟩;cases e2;exact⟨o,e,ex.2.1⟩
  ·obtain⟨o,_,_,_,e,ex,_⟩:=I.b9 p _ hk;refine⟨⟨o,e,ex.1⟩,fun a e2=>?_⟩;cases e2;exact⟨o,e,ex.2.1⟩
 | _=>exact False.elim ty
def V2 (K:Frag)(T:String)(r:V→List V→Hp→VK→Prop)(to:TE):TE:=fun σ H Q=>to σ H fun x H1=>WU K T x H1∧r x [] H1 Q
def YO (K:Frag)(T:String)(r:V→List V→Hp→VK→Prop)(to:TE)(t:TA):TE:=fun σ H Q=>to σ H fun x H1=>WU K T x H1∧t σ H1 fun xs H2=>r x xs H2 Q
variable{o e:Expr}{es:List Expr}{to:TE}{t:TA}{name:Str}{apos dX:Pos}{T id:String}{r:V→List V→Hp→VK→Prop}
def PV (pa:PlainAttrs T)(slot:Slot T name id)(Wa:typeOf (.builtin id)=pure (.type "method_descriptor"))(hm:Yx X id r)(ho:PE X o to)
  (mV:attributeBase o name X.env (eval o X.env)=eval o X.env:=by rfl) (oy:(apos.endLine==dX.line)=true:=by rfl):PE X (.Call (.Attribute o name apos) [] [] dX) (V2 X.K T r to):=by
 intro pins s σ H Q I h;refine wpAny_Call_method0_late mV oy (cS (ho pins s σ H _ I h) fun v s1 ⟨x,H1,I1,r1,ty,q1⟩=>?_);obtain⟨h1,h2⟩:=L6 I1 r1 ty;exact⟨T,id,pa,slot,Wa,h1,h2,yf rfl (xD (hm pins s1 σ H1 x [] v [] Q I1 r1 .nil q1))⟩
def yh (pa:PlainAttrs T)(slot:Slot T name id)(Wa:typeOf (.builtin id)=pure (.type "method_descriptor"))(hm:Yx X id r)(ho:PE X o to)(ha:PA X (e::es) t)
  (mV:attributeBase o name X.env (eval o X.env)=eval o X.env:=by rfl)
  (hfew:((backTo dX (starEach (e::es) X.env)).all (fun x=>!x.1)&&(backToKw dX (keywordEach [] X.env)).all (fun x=>x.1.isSome)
   &&decide ((e::es).length+([]:List Keyword).length+(if([]:List Keyword).isEmpty then 0 else 1)<30))=true:=by rfl)
  (oy:(apos.endLine==dX.line)=true:=by rfl) (hs:starEach (e::es) X.env=(false,eval e X.env)::starEach es X.env:=by rfl) (hplain:(backTo dX (starEach es X.env)).any (·.1)=false:=by rfl):
  PE X (.Call (.Attribute o name apos) (e::es) [] dX) (YO X.K T r to t):=by
 intro pins s σ H Q I h;refine wpAny_Call_method_late mV hfew oy rfl (cS (ho pins s σ H _ I h) fun v s1 ⟨x,H1,I1,r1,ty,q1⟩=>?_);obtain⟨h1,h2⟩:=L6 I1 r1 ty;refine⟨T,id,pa,slot,Wa,h1,h2,?_⟩;have hA:=ha dX pins s1 σ H1 _ I1 q1;rw[hs]at hA ⊢;refine yf (by show(false||(backTo dX (starEach es X.env)).any (·.1))=false;rw[hplain]<;>rfl) (Cz ?_);exact cS hA fun us s2 ⟨vs,H2,I2,r2,q2⟩=>hm pins s2 σ H2 x vs v us Q I2 r1 r2 q2
end
def U1 (X:Cx)(id:String)(r:V→List V→Hp→VK→Prop):Prop:=
 ∀(pins:List (Addr×Obj)) (s:Shared) (σ:St) (H:Hp) (x:V) (xs:List V) (v:Value) (us:List Value) (Q:VK),Inv X pins σ H s→RelV x v→Vals xs us→r x xs H Q→
  wpAny (model X.prog X.w) X.A (call (.builtin id) (v::us)) (EP X pins σ Q) X.xe s
theorem Vals.one:∀{x:V} {us:List Value},Vals [x] us→∃u,us=[u]∧RelV x u
 | _,_,.cons r .nil=>⟨_,rfl,r⟩
theorem Vals.zero:∀{us:List Value},Vals [] us→us=[]
 | _,.nil=>rfl
def Vals.dropLast {xs:List V}{us:List Value}(h:Vals xs us):Vals xs.dropLast us.dropLast:=by
 induction h with
 | nil=>exact .nil
 | cons r t ih=>
  cases t with
  | nil=>exact .nil
  | cons q t'=>exact .cons r ih
theorem Vals.rep {xs:List V}{us:List Value}(h:Vals xs us):∀k:Nat,Vals (List.replicate k xs).flatten (List.replicate k us).flatten
 | 0=> .nil
 | k+1=>by
  rw[GV,GV,Mz,Mz];exact Vals.append h (Vals.rep h k)
def P9 {α:Type}(l:List α):l.eraseIdx (l.length-1)=l.dropLast:=by simp
theorem foldl_rep (bp:List Value):∀(k:Nat) (acc:List Value),
  List.foldl (fun x1 x2=>x1++x2) acc.toArray (List.replicate k bp.toArray)=(acc++(List.replicate k bp).flatten).toArray
 | 0,acc=>by simp
 | k+1,acc=>by
  have e:acc.toArray++bp.toArray=(acc++bp).toArray:=by simp
  have e2:(acc++bp)++(List.replicate k bp).flatten=acc++(List.replicate (k+1) bp).flatten:=by grind
  rw[←e2,←foldl_rep bp k (acc++bp),←e,GV,gZ]
section
variable{X:Cx}{pins:List (Addr×Obj)}{σ:St}{H:Hp}{s:Shared}{l b:Addr}{xs ys zs:List V}
def Inv.Np {bp its':List Value}{n:Nat}{f:Array Value→Array Value}{t':Nat}(I:Inv X pins σ H s)(hH:H l=some (.lst xs))
  (e:s.heap.get? l=some {cls:= .type "list",data:= .seq bp.toArray n}) (hf:f bp.toArray=its'.toArray) (hv:Vals ys its') (hz:ys.length≤sizeLine):
  Inv X pins σ (upd H l (.lst ys)) {s with heap:=s.heap.update l (Obj.mapSeq f),toks:=t'}:=by
 have q:=IsL.update e f;rw[hf]at q;refine I.write (x:=l) (e:=l) (by rw[hH];exact trivial) (.inl rfl) (fun b' u hb hu=>(uh s.heap (Obj.mapSeq f) (aR hb)).trans hu) ⟨_,q⟩ ?_;exact⟨hz,its',_,hv,q⟩
def Inv.S4 {bp:List Value}{t':Nat}(I:Inv X pins σ H s)(hv:Vals ys bp)(hz:ys.length≤sizeLine):
  Inv X pins σ (upd H s.heap.objs.size (.lst ys)) {s with heap:=s.heap.push {cls:= .type "list",data:= .seq bp.toArray},toks:=t'}:=
 I.laid (fun _ _ q=>bB _ q) (bo _) ⟨hz,bp,0,hv,bU _ rfl⟩
def Inv.fresh (I:Inv X pins σ H s):H s.heap.objs.size=none:=I.b9.fresh (bo _)
def Inv.Et (I:Inv X pins σ H s)(hH:H l=some (.lst xs)):xs.length≤sizeLine∧∃(bp:List Value) (n:Nat),Vals xs bp∧xs.length=bp.length∧s.heap.get? l=some {cls:= .type "list",data:= .seq bp.toArray n}:=by
 obtain⟨z,bp,n,r,e⟩:=I.b9 l _ hH;exact⟨z,bp,n,r,r.length,e⟩
def y9 {n:Nat}(h:n≤sizeLine):Builtin.List.listTooLong n=false:=by
 unfold Builtin.List.listTooLong;simp_all
end
section
variable{X:Cx}
def Ov:V→List V→Hp→VK→Prop:=fun x vs H Q=>∃l xs y,x= .ref l∧vs=[y]∧H l=some (.lst xs)∧xs.length<sizeLine∧Q .gq (upd H l (.lst (xs++[y])))
def zS:U1 X "list.append" Ov:=by
 intro pins s σ H x vs v us Q I rx rv h;obtain⟨l,xs,y,rfl,rfl,hH,hz,q⟩:=h;cases rx;obtain⟨u,rfl,ru⟩:=rv.one;obtain⟨z,bp,n,r,hl,e⟩:=I.Et hH;refine uK F8 ⟨_,e,rfl⟩ F.entry_list_append (F.args_list_append_2 _ _) (PySem.list_append l bp.toArray n u (by rw[cu];lia)) ⟨e,?_⟩;refine⟨.gq,_,I.Np (its':=bp++[u]) hH e (by simp) (r.append (.cons ru .nil)) ?_,rfl,q⟩;simp;simpa
def Nq:V→List V→Hp→VK→Prop:=fun x vs H Q=>∃l b xs zs,x= .ref l∧vs=[.ref b]∧H l=some (.lst xs)∧H b=some (.lst zs)∧xs.length+zs.length≤sizeLine∧Q .gq (upd H l (.lst (xs++zs)))
def oC:U1 X "list.extend" Nq:=by
 intro pins s σ H x vs v us Q I rx rv h;obtain⟨l,b,xs,zs,rfl,rfl,hH,hB,hz,q⟩:=h;cases rx;obtain⟨u,rfl,ru⟩:=rv.one;cases ru;obtain⟨z,bp,n,r,hl,e⟩:=I.Et hH;obtain⟨z2,uN,n2,r2,Pb,e2⟩:=I.Et hB;have hsz:bp.toArray.size+uN.toArray.size≤sizeLine:=by rw[cu,cu];lia
 have EJ:¬(!bp.toArray.isEmpty&&Builtin.List.listTooLong (bp.toArray.size+uN.toArray.size))=true:=by simp_all[y9]
 refine uK q0 ⟨_,e,rfl⟩ F.entry_list_extend (F.args_list_extend_2 _ _)
  (AutoSeq1.list_extend_list_list_0 l bp.toArray n b uN.toArray n2 EJ (by rw[cu];lia) (by constructor<;>omega)) ⟨e,e2,?_⟩
 refine⟨.gq,_,I.Np (its':=bp++uN) hH e (by simp) (r.append r2) ?_,rfl,q⟩;simp_all
def Xo:V→List V→Hp→VK→Prop:=fun x vs H Q=>∃l xs y,x= .ref l∧vs=[]∧H l=some (.lst xs)∧xs[xs.length-1]? =some y∧Q y (upd H l (.lst xs.dropLast))
def Ra:U1 X "list.pop" Xo:=by
 intro pins s σ H x vs v us Q I rx rv h;obtain⟨l,xs,y,rfl,rfl,hH,hy,q⟩:=h;cases rx;have hus:=rv.zero;subst hus;obtain⟨z,bp,n,r,hl,e⟩:=I.Et hH;obtain⟨u,hu,ru⟩:=r.get hy;have hy':bp.toArray[bp.toArray.size-1]? =some u:=by simp_all
 refine uK F.slot_list_pop ⟨_,e,rfl⟩ F.entry_list_pop (F.args_list_pop_1 _) (MeetsSeq.list_pop_last l bp.toArray n u hy' (by rw[cu];lia)) ⟨e,?_⟩;refine⟨y,_,I.Np (its':=bp.dropLast) hH e ?_ r.dropLast ?_,ru,q⟩;simp;simp;lia
def Tx:R2:=fun x y H Q=>∃l b xs zs,x= .ref l∧y= .ref b∧H l=some (.lst xs)∧H b=some (.lst zs)∧xs.length+zs.length≤sizeLine∧∀p,H p=none→Q (.ref p) (upd H p (.lst (xs++zs)))
def og:wt X (binaryOp .Add) Tx:=by
 intro pins s σ H x y v u Q I rx ry h;obtain⟨l,b,xs,zs,rfl,rfl,hH,hB,hz,q⟩:=h;cases rx;cases ry;obtain⟨z,bp,n,r,hl,e⟩:=I.Et hH;obtain⟨z2,uN,n2,r2,Pb,e2⟩:=I.Et hB;refine PySem.P.add_list e e2 ?_ (by rw[cu,cu];lia);have ea:bp.toArray++uN.toArray=(bp++uN).toArray:=by simp
 rw[ea];exact⟨.ref _,_,I.S4 (t':=s.toks) (r.append r2) (by rw[dv];omega),rfl,q _ I.fresh⟩
def WV:R2:=fun x y H Q=>∃l k xs,x= .ref l∧y= .int k∧H l=some (.lst xs)∧ -(2^63)≤k∧k<2^63∧xs.length*k.toNat≤sizeLine∧
 ∀p,H p=none→Q (.ref p) (upd H p (.lst (List.replicate k.toNat xs).flatten))
def len_rep {α:Type}(xs:List α)(k:Nat):(List.replicate k xs).flatten.length=k*xs.length:=by simp
def RS:wt X (binaryOp .Mult) WV:=by
 intro pins s σ H x y v u Q I rx ry h;obtain⟨l,k,xs,rfl,rfl,hH,h1,h2,hz,q⟩:=h;cases rx;obtain⟨t,rfl⟩:=ry;obtain⟨z,bp,n,r,hl,e⟩:=I.Et hH;have hlen:bp.toArray.size*k.toNat≤sizeLine:=by rw[cu,←hl];exact hz
 have hcap:¬bp.toArray.size*k.toNat>(2^63-1)/8:=by grind[sizeLine]
 have Qt:¬(!Builtin.List.listFitsIndex k)=true:=by
  rw[fitsIndex_both h1 h2];decide
 have EJ:¬Builtin.List.listTooLong (bp.toArray.size*k.toNat)=true:=by
  rw[y9 hlen];simp
 have EC:List.foldl (fun x1 x2=>x1++x2) #[] (List.replicate (if bp.toArray.isEmpty=true then 0 else k.toNat) bp.toArray)=(List.replicate k.toNat bp).flatten.toArray:=by
  have f0:∀m:Nat,List.foldl (fun x1 x2=>x1++x2) #[] (List.replicate m bp.toArray)=(List.replicate m bp).flatten.toArray:=fun m=>by
   have:=foldl_rep bp m [];trivial
  rw[f0];cases bp with
  | nil=>simp
  | cons a r'=>rw[ak (by simp)]
 refine wpAny_binaryOp_repeat_ref (T:="list") (U:="int") (by decide) ⟨_,e,rfl⟩ (fun s'=>typeIs_int s' k t) noFill_list_mul F.fills_int_mul F.slot_int_rmul repeat_list F.slot_int_index.lookup
  (uK F.slot_int_rmul (typeIs_int s k t) F.entry_int_rmul (F.args_int_rmul_2 _ _) (int___rmul___int_list k t l bp.toArray n)
   ⟨e,rfl,⟨_,e,rfl⟩,uK F.slot_list_mul ⟨_,e,rfl⟩ F.entry_list_mul (F.args_list_mul_2 _ _) (AutoListH.list___mul___list_int_3 l bp.toArray n k t Qt hcap EJ) ⟨e,?_⟩⟩)
 rw[EC];exact⟨.ref _,_,I.S4 (t':=s.toks) (r.rep k.toNat) (by rw[len_rep,Nat.mul_comm];exact hz),rfl,q _ I.fresh⟩
end
theorem Vals.ints:∀{ns:List Int} {us:List Value},Vals (ns.map V.int) us→IntsAre us ns
 | [],us,h=>by
  rw[om]at h;cases h;exact IntsAre.nil
 | n::ns,us,h=>by
  rw[bF]at h;cases h with
  | cons r t=>
   obtain⟨k,rfl⟩:=r;exact IntsAre.cons n k (Vals.ints t)
theorem sT:∀{us:List Value} {ns:List Int},IntsAre us ns→Vals (ns.map V.int) us
 | _,_,.nil=>by rw[om];exact Paired.nil
 | _,_,.cons n t h=>by rw[bF];exact Paired.cons (show RelV (V.int n) (Value.int n t)from⟨t,rfl⟩) (sT h)
theorem Vals.Wh:∀{bs:List Bool} {us:List Value},Vals (bs.map V.bl) us→us=bs.map Value.bool
 | [],us,h=>by
  rw[om]at h;cases h;rfl
 | b::bs,us,h=>by
  rw[bF]at h;cases h with
  | cons r t=>
   cases r;rw[Vals.Wh t,bF]
def Vals.Lb {a:Addr}{us:List Value}(r:Vals [V.ref a] us):us=[Value.ref a]:=by
 cases r with
 | cons r t=>
  cases t;cases r;rfl
section
variable{prog:Program}{w:World}{A:Around}{E:Value→Shared→Prop}{s:Shared}{l:Addr}{bp:List Value}{ns:List Int}{Q:Value→Shared→Prop}
def NP (hh:A.handled=none)(hl:s.heap.IsList l bp.toArray)(hi:IntsAre bp ns)
  (h:∀h' tk t',(∀b o,s.heap.get? b=some o→h'.get? b=some o)→Q (.int ns.sum t') {s with heap:=h',toks:=tk}):wpAny (model prog w) A (call (.builtin "sum") [.ref l]) Q E s:=by
 obtain⟨xs,e⟩:=hi.allInts.items;have hn:numsOf (intItems xs).toList=ns:=by rw[←e];exact hi.numsOf
 rw[nums_intItems]at hn;rw[e]at hl;refine PySem.sum_intListG hh hl fun h' tk t' hk=>?_;have:=h h' tk t' hk;rw[preSum_eq,List.take_of_length_le (by simp),hn];exact this
def Oj (hh:A.handled=none)(hl:s.heap.IsList l bp.toArray)(hi:IntsAre bp ns)(eP:0<ns.length)
  (h:∀h' tk M t',(∀b o,s.heap.get? b=some o→h'.get? b=some o)→M∈ns→(∀a,a∈ns→a≤M)→Q (.int M t') {s with heap:=h',toks:=tk}):wpAny (model prog w) A (call (.builtin "max") [.ref l]) Q E s:=by
 obtain⟨xs,e⟩:=hi.allInts.items;have hn:numsOf (intItems xs).toList=ns:=by rw[←e];exact hi.numsOf
 rw[nums_intItems]at hn;subst hn;rw[e]at hl;have hsz:0<xs.size:=by simpa using eP
 refine PySem.max_intList hh hl hsz fun v h' tk hv hk=>?_;obtain⟨t,rfl⟩:=intItems_at hv;obtain⟨h1,h2⟩:=argBest_gt (numAt xs) (xs.size-1);refine h h' tk _ t hk ?_ fun a ha=>?_;grind[numAt_eq];obtain⟨j,hj,rfl⟩:=mem_getD ha;rw[ay,FL]at hj;rw[←numAt_eq];exact h2 j (by lia)
def NM (hh:A.handled=none)(hl:s.heap.IsList l bp.toArray)(hi:IntsAre bp ns)(eP:0<ns.length)
  (h:∀h' tk M t',(∀b o,s.heap.get? b=some o→h'.get? b=some o)→M∈ns→(∀a,a∈ns→M≤a)→Q (.int M t') {s with heap:=h',toks:=tk}):wpAny (model prog w) A (call (.builtin "min") [.ref l]) Q E s:=by
 obtain⟨xs,e⟩:=hi.allInts.items;have hn:numsOf (intItems xs).toList=ns:=by rw[←e];exact hi.numsOf
 rw[nums_intItems]at hn;subst hn;rw[e]at hl;have hsz:0<xs.size:=by simpa using eP
 refine PySem.min_intList hh hl hsz fun v h' tk hv hk=>?_;obtain⟨t,rfl⟩:=intItems_at hv;obtain⟨h1,h2⟩:=argBest_lt (numAt xs) (xs.size-1);refine h h' tk _ t hk ?_ fun a ha=>?_;grind[numAt_eq];obtain⟨j,hj,rfl⟩:=mem_getD ha;rw[ay,FL]at hj;rw[←numAt_eq];exact h2 j (by lia)
end
section
variable{X:Cx}
def Wi (K:Frag):List V→Hp→VK→Prop:=fun vs H Q=>∃(a:Addr) (ns:List Int),vs=[V.ref a]∧bz K H a (ns.map V.int)∧Q (.int ns.sum) H
def VD (K:Frag):List V→Hp→VK→Prop:=fun vs H Q=>∃(a:Addr) (ns:List Int),vs=[V.ref a]∧bz K H a (ns.map V.int)∧0<ns.length∧∀m,m∈ns→(∀y,y∈ns→y≤m)→Q (.int m) H
def VU (K:Frag):List V→Hp→VK→Prop:=fun vs H Q=>∃(a:Addr) (ns:List Int),vs=[V.ref a]∧bz K H a (ns.map V.int)∧0<ns.length∧∀m,m∈ns→(∀y,y∈ns→m≤y)→Q (.int m) H
def uV (hc:X.calm=true):iF X (.builtin "sum") (Wi X.K):=by
 intro pins s σ H vs us Q I r h;obtain⟨a,ns,rfl,hs,q⟩:=h;obtain⟨bp,rv,hl,_⟩:=I.list hs;rw[Vals.Lb r];exact NP (I.ok.hd hc) hl.isList rv.ints fun h' tk t' hk=>⟨.int _,H,I.kept hk,⟨_,rfl⟩,q⟩
def Rb (hc:X.calm=true):iF X (.builtin "max") (VD X.K):=by
 intro pins s σ H vs us Q I r h;obtain⟨a,ns,rfl,hs,eP,q⟩:=h;obtain⟨bp,rv,hl,_⟩:=I.list hs;rw[Vals.Lb r];exact Oj (I.ok.hd hc) hl.isList rv.ints eP fun h' tk m t' hk h1 h2=>⟨.int _,H,I.kept hk,⟨_,rfl⟩,q m h1 h2⟩
def PY (hc:X.calm=true):iF X (.builtin "min") (VU X.K):=by
 intro pins s σ H vs us Q I r h;obtain⟨a,ns,rfl,hs,eP,q⟩:=h;obtain⟨bp,rv,hl,_⟩:=I.list hs;rw[Vals.Lb r];exact NM (I.ok.hd hc) hl.isList rv.ints eP fun h' tk m t' hk h1 h2=>⟨.int _,H,I.kept hk,⟨_,rfl⟩,q m h1 h2⟩
end
def EB {prog:Program}{w:World}{A:Around}{E:Value→Shared→Prop}{s:Shared}{l:Addr}{items:Array Value}{Q:Value→Shared→Prop}(hl:s.heap.IsList l items)
  (h:∀s₂:Shared,s₂={s with heap:=s.heap.push {cls:= .type "list_iterator",data:= .fields #[.ref l,.int 0 0]}}→
   (s₂.heap.IsListIter s.heap.objs.size l 0∧s₂.heap.IsList l items)→l≠s.heap.objs.size→Q (.ref s.heap.objs.size) s₂):wpAny (model prog w) A (pyIter (.ref l)) Q E s:=by
 have lu:l<s.heap.objs.size:=by obtain⟨_,e,_⟩:=hl;exact bb e
 exact F9 hl (h _ rfl ⟨⟨_,bU _ rfl,rfl,rfl⟩,hl.push _⟩ (cC lu))
def vA {prog:Program}{w:World}{A:Around}{bs:List Bool}{bp:List Value}(e:bp=bs.map Value.bool):
  TruthOf prog w A (fun i v=>bp.toArray[i]? =some v) (fun i=>bs.getD i false):=fun i v s Q E hv hq=>by
 have U0:bp[i]? =some v:=by simpa using hv
 rw[e,cO]at U0;obtain⟨b,hb,rfl⟩:=Option.map_eq_some_iff.mp U0;have hg:bs.getD i false=b:=by rw[MG,hb]<;>rfl
 have Pj:Q (bs.getD i false) s:=hq;rw[hg]at Pj;exact j8 Pj
theorem any_range:∀bs:List Bool,(List.range bs.length).any (fun i=>bs.getD i false)=bs.any id
 | []=>rfl
 | b::bs=>by
  rw[cH,List.range_succ_eq_map,tD,List.any_map,tD,←any_range bs]
  all_goals rfl
theorem all_range:∀bs:List Bool,(List.range bs.length).all (fun i=>bs.getD i false)=bs.all id
 | []=>rfl
 | b::bs=>by
  rw[cH,List.range_succ_eq_map,AM,Ih,AM,←all_range bs]
  all_goals rfl
section
variable{X:Cx}
def WG (K:Frag):List V→Hp→VK→Prop:=fun vs H Q=>∃(a:Addr) (bs:List Bool),vs=[V.ref a]∧bz K H a (bs.map V.bl)∧Q (.bl (bs.any id)) H
def VI (K:Frag):List V→Hp→VK→Prop:=fun vs H Q=>∃(a:Addr) (bs:List Bool),vs=[V.ref a]∧bz K H a (bs.map V.bl)∧Q (.bl (bs.all id)) H
def FA (hc:X.calm=true):iF X (.builtin "any") (WG X.K):=by
 intro pins s σ H vs us Q I r h;obtain⟨a,bs,rfl,hs,q⟩:=h;obtain⟨bp,rv,hl,_⟩:=I.list hs;rw[Vals.Lb r];have hb:=rv.Wh;refine call_any_walk (EB hl.isList fun s₂ e2 st eP=>?_);subst e2;refine⟨_,_,_,_,_,_,_,rfl,Walks.list (A:=X.A.in1) (I.ok.hd hc) _ a eP bp.toArray,st,vA hb,fun h' tk hk=>?_⟩;refine⟨.bl _,H,I.kept fun b o eo=>hk b o (fun dB=>?_) (bB _ eo),?_,q⟩
 ·rcases bM.mp dB with e1|dB
  ·exact absurd (e1▸bb eo) (gu _)
  cases dB
 show Value.bool _=Value.bool _;rw[←any_range,hb,cu,ay]
def BD (hc:X.calm=true):iF X (.builtin "all") (VI X.K):=by
 intro pins s σ H vs us Q I r h;obtain⟨a,bs,rfl,hs,q⟩:=h;obtain⟨bp,rv,hl,_⟩:=I.list hs;rw[Vals.Lb r];have hb:=rv.Wh;refine call_all_walk (EB hl.isList fun s₂ e2 st eP=>?_);subst e2;refine⟨_,_,_,_,_,_,_,rfl,Walks.list (A:=X.A.in1) (I.ok.hd hc) _ a eP bp.toArray,st,vA hb,fun h' tk hk=>?_⟩;refine⟨.bl _,H,I.kept fun b o eo=>hk b o (fun dB=>?_) (bB _ eo),?_,q⟩
 ·rcases bM.mp dB with e1|dB
  ·exact absurd (e1▸bb eo) (gu _)
  cases dB
 show Value.bool _=Value.bool _;rw[←all_range,hb,cu,ay]
end
abbrev Mm (h:Heap)(c:Addr)(v:Option Value):Prop:=h.IsCell c v
noncomputable def Wx (scope sc:Scope):Scope:=
 {scope with names:=scope.names.map fun(n,k)=>if(k== .free&&sc.kind== .function&&sc.names.lookup n==some .cell)then(n,.cell)else(n,k)}
noncomputable def ck (cells:List (Str×Addr)):List (Str×NameKind)→List (Str×Addr)→List (Str×Addr)
 | [],acc=>acc
 | (n,k)::r,acc=>if k== .free then ck cells r ((n,(cells.lookup n).getD 0)::acc)else ck cells r acc
theorem sW (env:Env)(f:Str×NameKind→List (Str×Addr)→Sem (ForInStep (List (Str×Addr))))
  (hf:∀n k c,f (n,k) c=if k== .free then(do let a ←cellOf env n;pure (.yield ((n,a)::c)))else pure (.yield c)):
  ∀(names:List (Str×NameKind)) (acc:List (Str×Addr)),(∀y∈names,y.2= .free→∃c,env.cells.lookup y.1=some c)→forIn names acc f=pure (ck env.cells names acc)
 | [],acc,_=>by rw[Ii];rfl
 | (n,k)::r,acc,h=>by
  rw[Mh,hf];have ih:=fun acc=>sW env f hf r acc fun y hy=>h y (cP _ hy);unfold ck;by_cases hk:(k==NameKind.free)=true;grind[mem_cons_self,cellOf];simp_all
def w_ {scope:Scope}{env:Env}(h:∀y∈scope.names,y.2= .free→∃c,env.cells.lookup y.1=some c):closureFor scope env=pure (ck env.cells scope.names []):=by
 simp only[closureFor];rw[sW env _ (fun n k c=>rfl) scope.names [] h];rfl
theorem mem_lookup {α:Type}:∀{l:List (Str×α)} {n:Str} {c:α},(n,c)∈l→∃c',l.lookup n=some c'
 | (k,v)::r,n,c,h=>by
  rw[rj];cases hb:n==k with
  | true=>exact⟨_,rfl⟩
  | false=>
   rcases bM.mp h with e|h;simp_all;exact mem_lookup h
theorem jS {cells:List (Str×Addr)}:∀{names:List (Str×NameKind)} {acc:List (Str×Addr)} {n:Str} {c:Addr},(n,c)∈ck cells names acc→(n,c)∈acc∨((n,.free)∈names∧c=(cells.lookup n).getD 0)
 | [],_,_,_,h=> .inl h
 | (m,k)::r,acc,n,c,h=>by
  unfold ck at h;split at h
  ·rename_i hk;have hk:k= .free:=by simpa using hk
   rcases jS h with h|⟨h1,h2⟩;subst_vars;grind;simp_all
  rcases jS h with h|⟨h1,h2⟩;exact .inl h;simp_all
theorem mH {cells:List (Str×Addr)}:∀{names:List (Str×NameKind)} {acc:List (Str×Addr)} {p:Str×Addr},p∈acc→p∈ck cells names acc
 | [],_,_,h=>h
 | (m,k)::r,acc,p,h=>by
  unfold ck;split;exact mH (cP _ h);exact mH h
theorem oa {cells:List (Str×Addr)}:∀{names:List (Str×NameKind)} {acc:List (Str×Addr)} {n:Str},(n,.free)∈names→(n,(cells.lookup n).getD 0)∈ck cells names acc
 | (m,k)::r,acc,n,h=>by
  unfold ck;rcases bM.mp h with e|h;simp_all[mH];split;exact oa h;exact oa h
theorem kF:∀{names:List (Str×NameKind)} {h:Heap} {acc:List (Str×Addr)} {x:Str} {c:Addr},(x,c)∈cellsFrom h.objs.size names acc→
  (x,c)∈acc∨((x,.cell)∈names∧h.objs.size≤c∧Mm (pushCells h names) c none)
 | [],_,_,_,_,h=> .inl h
 | (n,k)::r,h,acc,x,c,hm=>by
  unfold cellsFrom at hm;unfold pushCells;split at hm
  ·rename_i hk;rw[aw hk];have hk:k= .cell:=by simpa using hk
   rw[←ff h {cls:= .type "cell",data:= .cell none}]at hm;rcases kF hm with hm|⟨h1,h2,h3⟩
   ·rcases bM.mp hm with e|hm
    ·cases e;exact .inr ⟨hk▸cQ,bo _,_,F7 r _ _ _ (bU _ rfl),rfl⟩
    exact .inl hm
   rw[ff]at h2;simp_all;grind -order
  rename_i hk;rw[ak hk];rcases kF hm with hm|⟨h1,h2,h3⟩;exact .inl hm;simp_all
theorem oX:∀{names:List (Str×NameKind)} {n:Nat} {acc:List (Str×Addr)} {p:Str×Addr},p∈acc→p∈cellsFrom n names acc
 | [],_,_,_,h=>h
 | (m,k)::r,n,acc,p,h=>by
  unfold cellsFrom;split;exact oX (cP _ h);exact oX h
theorem uG:∀{names:List (Str×NameKind)} {n:Nat} {acc:List (Str×Addr)} {x:Str},(x,.cell)∈names→∃c,(x,c)∈cellsFrom n names acc
 | (m,k)::r,n,acc,x,h=>by
  unfold cellsFrom;rcases bM.mp h with e|h;simp_all;grind[oX];split;exact uG h;exact uG h
theorem uA:∀{names:List (Str×NameKind)} {h:Heap} {acc:List (Str×Addr)} {x y:Str} {c:Addr},(∀p∈acc,p.2<h.objs.size)→(∀x y c,(x,c)∈acc→(y,c)∈acc→x=y)→
  (x,c)∈cellsFrom h.objs.size names acc→(y,c)∈cellsFrom h.objs.size names acc→x=y
 | [],_,_,_,_,_,_,hi,h1,h2=>hi _ _ _ h1 h2
 | (n,k)::r,h,acc,x,y,c,hl,hi,h1,h2=>by
  unfold cellsFrom at h1 h2;split at h1
  ·rename_i hk;rw[aw hk]at h2;rw[←ff h {cls:= .type "cell",data:= .cell none}]at h1 h2;refine uA (h:=h.push _) (fun p hp=>?_) (fun x y c a b=>?_) h1 h2
   ·rw[ff];grind
   grind
  rename_i hk;rw[ak hk]at h2;exact uA hl hi h1 h2
def E_ {M:Model}{A:Around}{E:Value→Shared→Prop}{s:Shared}{scope:Scope}{globals:Addr}{closure:List (Str×Addr)}{qual:Str}{func:Option Addr}{code:Value}{around:Env}{builtins:Addr}{Q:Env→Shared→Prop}
  (h:Q (newEnv scope s.heap.objs.size globals (cellsFrom (s.heap.objs.size+1) scope.names closure) qual func code (some around) builtins)
   {s with heap:=pushCells (s.heap.push {cls:= .type "dict",data:= .dict #[]}) scope.names}):
  wpAny M A (newFunctionEnv scope globals closure [] qual func code (some around) builtins) Q E s:=by
 simp only[newFunctionEnv,isSome_some,qF];refine aq (wpAny_alloc ?_);refine aq (wpAny_layCells _ (fun n k c=>rfl) scope.names closure _ _ ?_);rw[show({s with heap:=s.heap.push {cls:= .type "dict",data:= .dict #[]}}:Shared).heap.objs.size=s.heap.objs.size+1 from ff ..];rw[Ii];exact aq (aL (aL h))
theorem mG {sc:Scope}:∀{names:List (Str×NameKind)} {x:Str} {k:NameKind},
  (names.map fun(n,k)=>if(k==NameKind.free&&sc.kind== .function&&sc.names.lookup n==some .cell)then(n,NameKind.cell)else(n,k)).lookup x=some k→
  ∃k',names.lookup x=some k'∧(k=k'∨(k'= .free∧k= .cell))
 | [],_,_,h=>by simp at h
 | (n,k₀)::r,x,k,h=>by
  have ih:=@mG sc r x k;grind
structure DC (N:List Str)(sc scope:Scope)(own:List (Str×Nat)):Prop where
 kind:scope.kind= .function
 uniq:∀y∈scope.names,scope.names.lookup y.1=some y.2
 ix:∀p∈own,N[p.2]? =some p.1
 free:∀y∈scope.names,y.2= .free→sc.names.lookup y.1=some .cell∨sc.names.lookup y.1=some .free
 own:∀y∈scope.names,y.2= .local∨y.2= .cell→y.1∈own.map (·.1)∨y.1∉N
def wipe (σ:St):List Nat→St
 | []=>σ
 | v::vs=>(wipe σ vs).set v none
theorem n_ (σ:St):∀vs:List Nat,(wipe σ vs).length=σ.length
 | []=>rfl
 | v::vs=>by unfold wipe;rw[List.length_set,n_ σ vs]
theorem t5 {σ:St}{i:Nat}{x:V}:∀{vs:List Nat},(wipe σ vs)[i]? =some (some x)→σ[i]? =some (some x)∧i∉vs
 | [],h=>⟨h,by simp⟩
 | v::vs,h=>by
  unfold wipe at h;by_cases hi:v=i;exfalso;grind -order;rw[Gz hi]at h;obtain⟨h1,h2⟩:=t5 h;grind
abbrev Cx.A_ (X:Cx)(s:Shared)(H:Hp)(scope:Scope)(gW:Env)(fp:List Addr):Cx:={X with zX:=s,Rg:=H,env:=gW,outer:=X.stack,ex:=fp,fn:=fun x=>scope.names.lookup x==some .cell,pn:=[],xe:=fun _ _=>False}
section
variable{X:Cx}{pins:List (Addr×Obj)}{σ:St}{H:Hp}{s:Shared}
def Eb {scope:Scope}{own:List (Str×Nat)}{fp:List Addr}(I:Inv X pins σ H s)(ok:DC X.N X.env.scope scope own)(hN:X.N.Nodup)(U6:∀b∈fp,vT X pins H b∧b<s.heap.objs.size):
  Inv (X.A_ s H scope (compEnvC scope (cellsFrom (s.heap.objs.size+1) scope.names (ck X.env.cells scope.names [])) s.heap.objs.size X.env) fp) [] (wipe σ (own.map (·.2))) H {s with heap:=pushCells (s.heap.push {cls:= .type "dict",data:= .dict #[]}) scope.names}:=by
 have AH:∀y∈scope.names,y.2= .free→∃c,X.env.cells.lookup y.1=some c:=fun y hy e=>by
  rcases ok.free y hy e with k|k;exact I.ok.has _ (.inl k);exact I.ok.has _ (.inr k)
 generalize El:compEnvC scope (cellsFrom (s.heap.objs.size+1) scope.names (ck X.env.cells scope.names [])) s.heap.objs.size X.env=gW;have kp:∀b o,s.heap.get? b=some o→(pushCells (s.heap.push {cls:= .type "dict",data:= .dict #[]}) scope.names).get? b=some o:=fun b o e=>F7 _ _ _ _ (bB _ e);have hL:gW.locals=s.heap.objs.size:=by rw[←El];rfl
 have EW:gW.cells=cellsFrom (s.heap.objs.size+1) scope.names (ck X.env.cells scope.names []):=by rw[←El];rfl
 have Wk:gW.scope=Wx scope X.env.scope:=by rw[←El];rfl
 rw[←ff s.heap {cls:= .type "dict",data:= .dict #[]}]at EW;have cm:∀{y c},(y,c)∈ck X.env.cells scope.names []→X.env.cells.lookup y=some c∧c<s.heap.objs.size:=fun{y c} hm=>by
  rcases jS hm with hm|⟨h1,rfl⟩;cases hm;obtain⟨c,hc⟩:=AH _ h1 rfl;rw[hc];obtain⟨w,z⟩:=I.cell _ _ hc;exact⟨rfl,z.lt⟩
 have mem:∀{y c},gW.cells.lookup y=some c→(X.env.cells.lookup y=some c∧c<s.heap.objs.size)∨(s.heap.objs.size+1≤c∧Mm (pushCells (s.heap.push {cls:= .type "dict",data:= .dict #[]}) scope.names) c none):=fun{y c} e=>by
  rw[EW]at e;rcases kF (gc e)with hm|⟨_,h2,h3⟩;constructor<;>grind;simp_all
 have look:∀{y},scope.names.lookup y=some .free→∃c,gW.cells.lookup y=some c∧X.env.cells.lookup y=some c:=fun{y} hl=>by
  have hy:(y,NameKind.free)∈scope.names:=gc hl;obtain⟨c',e'⟩:=mem_lookup (oX (names:=scope.names) (n:=(s.heap.push {cls:= .type "dict",data:= .dict #[]}).objs.size) (oa (cells:=X.env.cells) (acc:=[]) hy));rw[←EW]at e';refine⟨c',e',?_⟩;rw[EW]at e';rcases kF (gc e')with hm|⟨h1,_,_⟩;exact(cm hm).1;have:=ok.uniq _ h1;simp_all
 have okB:(X.A_ s H scope gW fp).Ok:=by
  refine⟨I.ok.mod,by show gW.scope.kind=_;rw[Wk];exact ok.kind,by show gW.globals=_;rw[←El];exact I.ok.glob,by show gW.builtins=_;rw[←El];exact I.ok.blt,by show s.heap.objs.size≤gW.locals;rw[hL];exact bo _,
   fun y z c e1 e2=>?_,fun y hy=>?_,fun y c z e=>?_,I.ok.hd,I.ok.frames,.inl rfl,fun b hb=>⟨?_,fun y c e z=>?_⟩,I.bs,aG I.ok.JK I.sz,fun b o e hb=>?_,fun b hb z=>?_,I.stack,I.Ip⟩
  ·have e1:gW.cells.lookup y=some c:=e1;have e2:gW.cells.lookup z=some c:=e2;rw[EW]at e1 e2;refine uA (fun p hp=>?_) (fun y z c a b=>I.ok.inj y z c (cm a).1 (cm b).1) (gc e1) (gc e2);rw[ff];grind
  ·show ∃c,gW.cells.lookup y=some c;have key:∀k,gW.kindOf y=some k→(k= .cell∨k= .free)→∃c,gW.cells.lookup y=some c:=fun k hk JB=>by
    unfold Env.kindOf at hk;rw[Wk]at hk;obtain⟨k',e,r⟩:=mG hk;have:k'= .cell∨k'= .free:=by lia
    rcases this with rfl|rfl
    ·obtain⟨c,hm⟩:=uG (n:=(s.heap.push {cls:= .type "dict",data:= .dict #[]}).objs.size) (acc:=ck X.env.cells scope.names []) (gc e);obtain⟨c',e'⟩:=mem_lookup hm;grind
    (clear hk;grind)
   grind
  ·have z:(scope.names.lookup y==some NameKind.cell)=true:=z;have z:scope.names.lookup y=some .cell:=by simpa using z
   have e:gW.cells.lookup y=some c:=e;rw[EW]at e;rcases kF (gc e)with hm|⟨_,h2,_⟩
   ·rcases jS hm with hm|⟨h1,_⟩
    ·cases hm
    have q:=ok.uniq _ h1;simp_all
   rw[ff]at h2;simp only;lia
  (simp;grind)
  ·have e:gW.cells.lookup y=some c:=e;rcases mem e with⟨h1,_⟩|⟨h1,_⟩;exact(U6 b hb).1.2.2.2.2.1 y c h1 z;grind
  ·rcases(U6 b hb).1.2.2.2.1 with z|z
   ·exact I.ok.Mc b o e z
   exact absurd (fH (bb e) (aG I.ok.JK z)) (gu _)
  rcases bM.mp (I.FH b z)with z|z;exact(U6 b hb).1.2.1 z;exact(U6 b hb).1.2.2.1 z
 refine⟨okB,rfl,I.bare,Un.kept kp,⟨fun _=>none,?_,fun i y av e1 e2 e3=>?_⟩,fun y c e=>?_,?_,fun y c e=>?_,fun p hp=>?_,I.b9.kept kp,by rw[n_];exact I.len⟩;grind[Heap.Ns.keeps,Heap.Ns.new,pushCells_keeps]
 ·obtain⟨e2,eP⟩:=t5 e2;have M0:scope.names.lookup y=some .free∧(gW.kindOf y=some .cell∨gW.kindOf y=some .free):=by
   have key:∀k,gW.scope.names.lookup y=some k→k= .local∨k= .cell∨k= .free→scope.names.lookup y=some .free∧(gW.kindOf y=some .cell∨gW.kindOf y=some .free):=fun k hk JB=>by
    have YB:=hk;rw[Wk]at hk;obtain⟨k',e,r⟩:=mG hk;have no:¬(k'= .local∨k'= .cell):=fun hh=>by
     rcases ok.own _ (gc e) hh with e'|e'
     ·obtain⟨p,hp,hpy⟩:=aZ.mp e';have e3:=ok.ix p hp;have:p.1=y:=hpy;rw[this]at e3;exact eP (aZ.mpr ⟨p,hp,xf hN e3 e1⟩)
     (clear e hk;(clear YB;grind -order))
    rcases r with rfl|⟨rfl,rfl⟩
    ·rcases JB with rfl|rfl|rfl
     ·trivial
     trivial;exact⟨e,.inr YB⟩
    exact⟨e,.inl YB⟩
   have e3:Sa gW.scope y:=e3;rcases e3 with e3|e3|e3;simp_all;simp_all;simp_all
  obtain⟨m,hn,hl⟩:=I.loc;have NZ:Sa X.env.scope y:=(ok.free _ (gc M0.1) rfl).elim (fun k=> .inr (.inl k)) (fun k=> .inr (.inr k));obtain⟨w,r,q⟩:=hl i y av e1 e2 NZ;refine⟨w,r,.inr ⟨M0.2,?_⟩⟩;obtain⟨c,h1,h2⟩:=look M0.1;rcases q with⟨k,_⟩|⟨_,c',e',z⟩
  ·have k:X.env.scope.names.lookup y=some .local:=k;rcases ok.free _ (gc M0.1) rfl with k'|k'<;>rw[show X.env.scope.names.lookup y=_ from k']at k<;>cases k
  rw[h2]at e';cases e';exact⟨c,h1,z.keeps kp⟩
 ·have e:gW.cells.lookup y=some c:=e;rcases mem e with⟨h1,_⟩|⟨_,z⟩
  ·obtain⟨w,z⟩:=I.cell y c h1;exact⟨w,z.keeps kp⟩
  exact⟨_,z⟩
 ·show H gW.locals=none;rw[hL];exact I.b9.fresh (bo _)
 ·have e:gW.cells.lookup y=some c:=e;rcases mem e with⟨h1,_⟩|⟨h1,_⟩;exact I.km y c h1;exact I.b9.fresh (Nat.le_of_succ_le h1)
 simp_all
def RB {E:Value→Shared→Prop}{D:Addr}{xs:List V}{y:V}{v:Value}{Q:Value→Shared→Prop}(I:Inv X pins σ H s)(hD:H D=some (.lst xs))(hz:xs.length<sizeLine)(r:RelV y v)
  (h:∀s',Inv X pins σ (upd H D (.lst (xs++[y]))) s'→Q .none s'):wpAny (model X.prog X.w) X.A (call (.builtin "list.append") [.ref D,v]) Q E s:=by
 obtain⟨Sz,bp,n,ri,e⟩:=I.b9 D _ hD;have hl:=ri.length;refine append_at (hsz:=by rw[cu];lia) e fun h' sb IJ=>?_;refine h {s with heap:=h'} (I.write (t':=s.toks) (by rw[hD];trivial) (.inl rfl) (fun b u hb q=>(sb.2 b hb).trans q) ⟨_,IJ⟩ ⟨by rw[dv];exact hz,bp++[v],n+1,ri.append (.cons r .nil),?_⟩);rw[IJ];simp
def Uy (X:Cx)(ifs:List Expr)(t:TT):Prop:=
 ∀(pins:List (Addr×Obj)) (s:Shared) (σ:St) (H:Hp) (Q:Bool→Hp→Prop),Inv X pins σ H s→t σ H Q→
  wpAny (model X.prog X.w) X.A (forIn ifs true fun c r=>if r=true then do let ok ←isTrue c X.env (eval c X.env);pure (ForInStep.yield ok)else pure (ForInStep.yield r)) (TP X pins σ Q) X.xe s
def Ut:TT:=fun _ H Q=>Q true H
def cB:Uy X [] Ut:=fun _ _ _ H _ I h=>wpAny_tests_nil ⟨H,I,h⟩
def fC {c:Expr}{t:TT}(h:PT X c t):Uy X [c] t:=fun pins s σ H Q I hw=>wpAny_tests_one (h pins s σ H Q I hw)
end
def JL {α:Type}{t:Sem α}{Q Q':α→Shared→Prop}{M:Model}{A:Around}{E:Value→Shared→Prop}{s:Shared}(h:wpAny M A t Q (fun _ _=>False) s)(hQ:∀a s,Q a s→Q' a s):wpAny M A t Q' E s:=gM h hQ fun _ _ z=>False.elim z
theorem BR {prog:Program}{w:World}{A:Around}{R:Result→Shared→Prop}{s:Shared}{elt target iter:Expr}{ifs:List Expr}{scope:Scope}{pos:Pos}{it acc:Value}{env:Env}(I:Nat→Shared→Prop)
  (turn:∀n s,I n s→wpAny (model prog w) A (pyNext it) (fun r s₁=>match r with
   | none=>R (.ok .next) s₁
   | some v=>wpAny (model prog w) A (letOwnedTupleGo target it v) (fun _ X4=>wpAny (model prog w) A (assign target env v) (fun _ s₂=>
     wpAny (model prog w) A (forIn ifs true fun c r=>if r=true then do let ok ←isTrue c env (eval c env);pure (ForInStep.yield ok)else pure (ForInStep.yield r)) (fun ok s₃=>
      if ok=true then wpAny (model prog w) A (eval elt env) (fun x s₄=>
       wpAny (model prog w) A (call (.builtin "list.append") [acc,x]) (fun _ s₅=>∃m,m<n∧I m s₅) (notedBy (model prog w) A env fun e s'=>R (.error e) s') s₄) (notedBy (model prog w) A env fun e s'=>R (.error e) s') s₃
      else ∃m,m<n∧I m s₃) (notedBy (model prog w) A env fun e s'=>R (.error e) s') s₂) (notedBy (model prog w) A env fun e s'=>R (.error e) s') X4) (notedBy (model prog w) A env fun e s'=>R (.error e) s') s₁) (notedBy (model prog w) A env fun e s'=>R (.error e) s') s)
  (n:Nat) (h:I n s):
  codeAny (model prog w) A (.compLoop (.ListComp elt [⟨target,iter,ifs,0⟩] scope pos) 0 it acc env) R s:=by
 refine codeAny_loop rfl I (fun n s hI=>?_) n h;show wpAny _ A ((compTurn (.ListComp elt [⟨target,iter,ifs,0⟩] scope pos) 0 it acc env).onRaise (fun x=>do noteFrame x env;theTreesLotGoes x)) _ _ s;refine wpAny_noted ?_;rw[compTurn_list];refine aq (BV (aq (gM (turn n s hI) (fun r s₁ h₁=>?_) fun _ _ h'=>h')));cases r with
 | none=>exact aL h₁
 | some v=>
  refine aq (gM h₁ (fun _ X4 h₁'=>?_) fun _ _ h'=>h');refine aq (gM h₁' (fun _ s₂ h₂=>aq (gM h₂ (fun ok s₃ h₃=>?_) fun _ _ h'=>h')) fun _ _ h'=>h');cases ok with
  | false=>exact aL ⟨rfl,h₃⟩
  | true=>
   exact aq (aq (gM h₃ (fun x s₄ h₄=>aq (gM h₄ (fun _ s₅ h₅=>aL (aL ⟨rfl,h₅⟩)) fun _ _ h'=>h')) fun _ _ h'=>h'))
section
variable{X:Cx}
def Pz (wi:TI)(g:TG)(tt:TT)(te:TE)(vs:List Nat):TE:=fun σ H Q=>wi σ H fun J H1=>∀D,H1 D=none→∃W:Nat→Nat→Hp→Prop,(∃m,W 0 m (upd H1 D (.lst [])))∧∀i m H,W i m H→
 (J.stop i H∧Q (.ref D) H)∨(J.go i H∧∃Nx:Hp→Prop,(∀H',Nx H'→∃m',m'<m∧W (i+1) m' H')∧∀x H',J.M_ i H x H'→g x (wipe σ vs) H' fun σ2 H2=>wipe σ2 vs=wipe σ vs∧tt σ2 H2 fun b H3=>
  if b=true then te σ2 H3 fun y H4=>∃acc,H4 D=some (.lst acc)∧acc.length<sizeLine∧Nx (upd H4 D (.lst (acc++[y])))else Nx H3)
def Im {pins:List (Addr×Obj)}{s:Shared}{σ:St}{H:Hp}{Q:VK}{elt tg iter:Expr}{ifs:List Expr}{scope:Scope}{own:List (Str×Nat)}{pos pos':Pos}{wi:TI}{g:TG}{tt:TT}{te:TE}{use:Option (Value→Sem Unit)}{Qf:Value→Shared→Prop}
  (hc:X.calm=true) (hN:X.N.Nodup) (I:Inv X pins σ H s) (hi:PI X tg iter wi) (ok:DC X.N X.env.scope scope own)
  (hg:∀(s:Shared) (H:Hp) (C:Addr) (cl:List (Str×Addr)) (fp:List Addr),PG (X.A_ s H scope (compEnvC scope cl C X.env) fp) tg g) (ht:∀(s:Shared) (H:Hp) (C:Addr) (cl:List (Str×Addr)) (fp:List Addr),Uy (X.A_ s H scope (compEnvC scope cl C X.env) fp) ifs tt)
  (he:∀(s:Shared) (H:Hp) (C:Addr) (cl:List (Str×Addr)) (fp:List Addr),PE (X.A_ s H scope (compEnvC scope cl C X.env) fp) elt te) (hs:∀x,foldedSetIterable iter X.env x=pure x)
  (h:Pz wi g tt te (own.map (·.2)) σ H Q)
  (hRR:∀D C s' m H',Inv X pins σ H' s'→Q (.ref D) H'→s'.heap.Ns C m→vT X pins H' C→compPost (model X.prog X.w) X.A X.xe use Qf (.ref D) C (.ok .next) s'):
  wpAny (model X.prog X.w) X.A (comprehension (.ListComp elt [⟨tg,iter,ifs,0⟩] scope pos) scope X.env pos' (newList []) false (eval iter X.env) use) Qf X.xe s:=by
 have AH:∀y∈scope.names,y.2= .free→∃c,X.env.cells.lookup y.1=some c:=fun y hy e=>by
  rcases ok.free y hy e with k|k;exact I.ok.has _ (.inl k);exact I.ok.has _ (.inr k)
 refine wpAny_comprehension_free (use:=use) rfl hs (w_ AH) ok.kind (fun y hy e=>by rw[ok.uniq y hy,e])
  (cS (hi pins s σ H _ I h) fun xv s1 hx=>cS hx fun Vz s2 h2=>?_)
 obtain⟨it,fp,tn,J,H2,e,I2,T,Fc,f2,q⟩:=h2;subst e;refine tX (E_ ?_) (by show 0≤sizeLine;decide);generalize hD:s2.heap.objs.size=D;have Uw:H2 D=none:=I2.b9.fresh (rh hD);obtain⟨W,⟨m0,w0⟩,turn⟩:=q D Uw;generalize OW:({s2 with heap:=s2.heap.push {cls:= .type "list",data:= .seq ([]:List Value).toArray}}:Shared)=s3;have I3:Inv X pins σ (upd H2 D (.lst [])) s3:=by
  rw[←OW];refine I2.laid (t':=s2.toks) (fun b o e=>bB _ e) (rh hD) ⟨fJ _,[],0,.nil,?_⟩;rw[←hD];exact bU _ rfl
 have h3:s3.heap=s2.heap.push {cls:= .type "list",data:= .seq ([]:List Value).toArray}:=by rw[←OW]
 have sz:∀b∈fp,b<s2.heap.objs.size:=fun b hb=>by
  obtain⟨o,e,_⟩:=T.obj _ _ Fc b hb;exact bb e
 have f3:∀b∈fp,vT X pins (upd H2 D (.lst [])) b∧b<s3.heap.objs.size:=fun b hb=>by
  have lu:=sz b hb;refine⟨⟨?_,(f2 b hb).2⟩,by rw[h3,ff];exact yN lu⟩;rw[ah (by rw[←hD];exact cC lu)];exact(f2 b hb).1
 have Vb:tn 0 s3.heap:=T.keep _ _ _ Fc fun b _ o e=>by rw[h3];exact bB _ e
 have I4:=Eb I3 ok hN f3;have pg:=hg s3 (upd H2 D (.lst [])) s3.heap.objs.size (cellsFrom (s3.heap.objs.size+1) scope.names (ck X.env.cells scope.names [])) fp;have pt:=ht s3 (upd H2 D (.lst [])) s3.heap.objs.size (cellsFrom (s3.heap.objs.size+1) scope.names (ck X.env.cells scope.names [])) fp;have pe:=he s3 (upd H2 D (.lst [])) s3.heap.objs.size (cellsFrom (s3.heap.objs.size+1) scope.names (ck X.env.cells scope.names [])) fp;show codeAny _ _ (.compStart (.ListComp elt [⟨tg,iter,ifs,0⟩] scope pos) 0 (.ref it) (.ref D) (compEnvC scope (cellsFrom (s3.heap.objs.size+1) scope.names (ck X.env.cells scope.names [])) s3.heap.objs.size X.env)) (compPost (model X.prog X.w) X.A X.xe use Qf (.ref D) s3.heap.objs.size) {s3 with heap:=pushCells (s3.heap.push {cls:= .type "dict",data:= .dict #[]}) scope.names};have Ye:∀b∈fp,(upd H2 D (.lst [])) b=none:=fun b hb=>(f3 b hb).1.1;generalize hce:compEnvC scope (cellsFrom (s3.heap.objs.size+1) scope.names (ck X.env.cells scope.names [])) s3.heap.objs.size X.env=ce at I4 pg pt pe ⊢;have cL:ce.locals=s3.heap.objs.size:=by subst hce;rfl
 generalize hH3:upd H2 D (.lst [])=H3 at I3 I4 pg pt pe w0 Ye f3;generalize hs4:({s3 with heap:=pushCells (s3.heap.push {cls:= .type "dict",data:= .dict #[]}) scope.names}:Shared)=s4 at I4 ⊢;have Yu:tn 0 s4.heap:=T.keep _ _ _ Vb fun b _ o e=>by rw[←hs4];exact F7 _ _ _ _ (bB _ e)
 have Ft:∀{σ':St} {H':Hp} {s':Shared},Inv (X.A_ s3 H3 scope ce fp) [] σ' H' s'→(∀b∈fp,H' b=none)→∀b∈fp,vT (X.A_ s3 H3 scope ce fp) [] H' b:=fun{σ' H' s'} I' hn b hb=>
  ⟨hn b hb,(I'.ok.Sf b hb).1,I'.ok.LC b hb,.inl hb,fun x c e=>(I'.ok.Sf b hb).2 x c e,fun p hp=>absurd (show p∈([]:List (Addr×Obj))++[]from hp) (by simp)⟩
 have loop:codeAny (model X.prog X.w) X.A (.compLoop (.ListComp elt [⟨tg,iter,ifs,0⟩] scope pos) 0 (.ref it) (.ref D) ce) (compPost (model X.prog X.w) X.A X.xe use Qf (.ref D) s3.heap.objs.size) s4:=by
  refine BR (fun n s'=>∃i H',Inv (X.A_ s3 H3 scope ce fp) [] (wipe σ (own.map (·.2))) H' s'∧tn i s'.heap∧(∀b∈fp,H' b=none)∧W i n H') ?_ m0 ⟨0,H3,I4,Yu,Ye,w0⟩;rintro n s5 ⟨i,H5,I5,Sb,n5,w5⟩;rcases turn i n H5 w5 with⟨stop,qq⟩|⟨go,Nx,hNx,step⟩
  ·have td:=T.done (X.A_ s3 H3 scope ce fp) rfl rfl rfl hc i [] s5 _ H5 (fun _ _=>False) I5 (Ft I5 n5) Sb stop;refine JL td fun r s6 ⟨hr,I6⟩=>?_;subst hr;have I7:Inv X pins σ H5 s6:=I3.S7 (ch:=fp) I6.os I6.base I6.b9 I6.bare fun b hb=>⟨(f3 b hb).1.2.2.2.1,(f3 b hb).1.2.1,(f3 b hb).1.2.2.2.2.1,(f3 b hb).1.2.2.2.2.2⟩;have nC:H5 s3.heap.objs.size=none:=by
    have z:H5 ce.locals=none:=I6.free;grind
   obtain⟨m,hn,_⟩:=I6.loc;have hn:s6.heap.Ns ce.locals m:=hn;rw[cL]at hn;exact hRR D s3.heap.objs.size s6 m H5 I7 qq hn (I3.Nf (bo _) nC)
  have ti:=T.item (X.A_ s3 H3 scope ce fp) rfl rfl rfl hc i [] s5 _ H5 (fun _ _=>False) I5 (Ft I5 n5) Sb go;refine JL ti fun r s6 ⟨u,hr,h6⟩=>?_;subst hr;refine JL h6 fun _ s7 ⟨x,H7,I7,r7,y7,WS,n7⟩=>?_;have I7':=I7.pinned (Ft I7 n7) (T.obj _ _ WS);refine JL (pg _ s7 _ H7 x u _ I7' r7 (step x H7 y7)) fun _ s8 ⟨σ8,H8,I8,Yw,q8⟩=>?_;refine JL (pt _ s8 σ8 H8 _ I8 q8) fun b s9 ⟨H9,I9,q9⟩=>?_;have fin:∀{s':Shared} {H':Hp},Inv (X.A_ s3 H3 scope ce fp) ([]++xp fp s7.heap) σ8 H' s'→Nx H'→∃m,m<n∧∃i H',Inv (X.A_ s3 H3 scope ce fp) [] (wipe σ (own.map (·.2))) H' s'∧tn i s'.heap∧(∀b∈fp,H' b=none)∧W i m H':=fun{s' H'} I' nx=>by
   obtain⟨m',hm,w'⟩:=hNx H' nx;have pin':∀b∈fp,∀o,s7.heap.get? b=some o→s'.heap.get? b=some o∧H' b=none:=fun b hb o e=>
    let z:=I'.pin (b,o) (lJ _ (lJ _ (qJ hb e)))
    ⟨z.1,z.2.1⟩
   have hl:(wipe σ (own.map (·.2))).length=σ8.length:=by rw[←Yw,n_]
   refine⟨m',hm,i+1,H',(I'.sO (pins:=[])).weak hl (fun j v e=>?_),T.keep _ _ _ WS fun b hb o e=>(pin' b hb o e).1,fun b hb=>?_,w'⟩
   ·rw[←Yw]at e;exact(t5 e).1
   obtain⟨o,e,_⟩:=T.obj _ _ WS b hb;grind
  cases b with
  | false=>exact fin I9 q9
  | true=>
   simp only[qF]at q9 ⊢;refine JL (pe _ s9 σ8 H9 _ I9 q9) fun z s10 ⟨yv,H10,I10,r10,acc,hD10,hz10,nx⟩=>?_;exact RB (X:=X.A_ s3 H3 scope ce fp) I10 hD10 hz10 r10 fun s11 I11=>fin I11 nx
 exact codeAny_compStart_list loop (T.self X.A 0 _ _ _ Yu loop)
def d7 {elt tg iter:Expr}{ifs:List Expr}{scope:Scope}{own:List (Str×Nat)}{pos:Pos}{wi:TI}{g:TG}{tt:TT}{te:TE}(hc:X.calm=true)(hN:X.N.Nodup)(hi:PI X tg iter wi)(ok:DC X.N X.env.scope scope own)
  (hg:∀(s:Shared) (H:Hp) (C:Addr) (cl:List (Str×Addr)) (fp:List Addr),PG (X.A_ s H scope (compEnvC scope cl C X.env) fp) tg g) (ht:∀(s:Shared) (H:Hp) (C:Addr) (cl:List (Str×Addr)) (fp:List Addr),Uy (X.A_ s H scope (compEnvC scope cl C X.env) fp) ifs tt)
  (he:∀(s:Shared) (H:Hp) (C:Addr) (cl:List (Str×Addr)) (fp:List Addr),PE (X.A_ s H scope (compEnvC scope cl C X.env) fp) elt te) (hs:∀x,foldedSetIterable iter X.env x=pure x:=by intro _;rfl):
  PE X (.ListComp elt [⟨tg,iter,ifs,0⟩] scope pos) (Pz wi g tt te (own.map (·.2))):=by
 intro pins s σ H Q I h;rw[eval_ListComp];refine Im hc hN I hi ok hg ht he hs h fun D C s' m H' I' q hn f=>⟨m,hn,fun O0 sb=>?_⟩;obtain⟨f0,f1,f2,f3,f4,f5⟩:=f;exact⟨.ref D,H',I'.turned (t':=s'.toks) (fun b o hb e=>(sb.2 b hb).trans e) f0 f1 f3 f4 f5,rfl,q⟩
def fm {i:Nat}{y:Str}{py:Pos}{elt tg iter:Expr}{ifs:List Expr}{scope:Scope}{own:List (Str×Nat)}{pos SS:Pos}{wi:TI}{g:TG}{tt:TT}{te:TE}(hc:X.calm=true)(hN:X.N.Nodup)(hy:X.N[i]? =some y)(Yb:X.env.scope.names.lookup y=some .local)
  (hsw:swapsWith (.ListComp elt [⟨tg,iter,ifs,0⟩] scope pos) (some (.Name y py)) SS.line X.env=pure true) (hi:PI X tg iter wi) (ok:DC X.N X.env.scope scope own)
  (hg:∀(s:Shared) (H:Hp) (C:Addr) (cl:List (Str×Addr)) (fp:List Addr),PG (X.A_ s H scope (compEnvC scope cl C X.env) fp) tg g) (ht:∀(s:Shared) (H:Hp) (C:Addr) (cl:List (Str×Addr)) (fp:List Addr),Uy (X.A_ s H scope (compEnvC scope cl C X.env) fp) ifs tt)
  (he:∀(s:Shared) (H:Hp) (C:Addr) (cl:List (Str×Addr)) (fp:List Addr),PE (X.A_ s H scope (compEnvC scope cl C X.env) fp) elt te) (hs:∀x,foldedSetIterable iter X.env x=pure x:=by intro _;rfl):
  PS X (.Assign [.Name y py] (.ListComp elt [⟨tg,iter,ifs,0⟩] scope pos) SS) (Nj (Pz wi g tt te (own.map (·.2))) (pB i)):=by
 intro pins s σ H D I h;rw[exec_Assign_Name_used _ _ _ _ hsw];refine aq (BV (aq ?_));show wpAny _ X.A (do let _ ←comprehension (.ListComp elt [⟨tg,iter,ifs,0⟩] scope pos) scope X.env (firstIterPos [⟨tg,iter,ifs,0⟩] pos) (newList []) false (eval iter X.env) (some (assign (.Name y py) X.env))) _ _ s;have h:Pz wi g tt te (own.map (·.2)) σ H (fun x H1=>pB i x σ H1 D.nx):=h;refine aq (cS (Im (Qf:=fun _ s'=>SP X pins D .next s') hc hN I hi ok hg ht he hs h fun L C s' m H' I' q hn f=>?_) fun _ s' hq=>aL (aL hq));show wpAny _ _ (assign (.Name y py) X.env (.ref L)) _ _ _;refine wpAny_assign_Name (Aj (v:=V.ref L) I' hN hy (.inl Yb) rfl (fun s2 I2 ⟨a,sb,ha⟩=>?_) (.inr Yb));obtain⟨f0,f1,f2,f3,f4,f5⟩:=f;have haC:C≠a:=by grind -order
 refine⟨m,hn.sameBut sb haC,fun h3 sb3=>?_⟩;exact⟨_,H',I2.turned (t':=s2.toks) (fun b o hb e=>(sb3.2 b hb).trans e) f0 f1 f3 f4 f5,q⟩
def gE {elt:Expr}{gs:List Comprehension}{scope:Scope}{pos py:Pos}{y:Str}{l:Nat}{env:Env}(hk:env.scope.kind= .function)(hy:env.scope.names.lookup y=some .local)(hl:(py.line==pos.line)=true)
  (ha:(scope.names.any fun(n,k)=>n==y&&(k== .local||k== .cell))=false):swapsWith (.ListComp elt gs scope pos) (some (.Name y py)) l env=pure true:=by
 have ky:env.kindOf y=some .local:=hy;have hb:env.blockKind= .function:=by unfold Env.blockKind;rw[hk];rfl
 unfold swapsWith;simp only[hb,ky,ha,show(py.line==(Expr.ListComp elt gs scope pos).pos.line)=true from hl];rfl
end
noncomputable def ef (N:List Str)(sc scope:Scope)(own:List (Str×Nat)):Bool:=
 (match scope.kind with | .function=>true|_=>false)&&(scope.names.all fun y=>decide (scope.names.lookup y.1=some y.2))&&(own.all fun p=>decide (N[p.2]? =some p.1))&&
  (scope.names.all fun y=>match y.2 with
   | .free=>(match sc.names.lookup y.1 with|some .cell=>true|some .free=>true|_=>false)
   | .local=>decide (y.1∈own.map (·.1))||decide (y.1∉N)
   | .cell=>decide (y.1∈own.map (·.1))||decide (y.1∉N)
   | _=>true)
def ba {N:List Str}{sc scope:Scope}{own:List (Str×Nat)}(h:ef N sc scope own=true):DC N sc scope own:=by
 unfold ef at h;simp only[cy,dr,iw]at h;obtain⟨⟨⟨h1,h2⟩,h3⟩,h4⟩:=h;refine⟨?_,h2,h3,fun y hy e=>?_,fun y hy e=>?_⟩;lia;grind;grind
section
variable{κ:Type}[DecidableEq κ]
def fS (kvs:List (κ×V))(k:κ):Option V:=(kvs.find? fun kv=>decide (kv.1=k)).map (·.2)
def putK (kvs:List (κ×V))(k:κ)(v:V):List (κ×V):=
 if(kvs.any fun kv=>decide (kv.1=k))=true then kvs.map (fun kv=>if kv.1=k then(kv.1,v)else kv)else kvs++[(k,v)]
def vG (kvs:List (κ×V))(k:κ):List (κ×V):=kvs.filter fun kv=>decide (kv.1≠k)
def i6 {p:κ×V}{r:List (κ×V)}{k:κ}(e:p.1=k):fS (p::r) k=some p.2:=by simp[fS,uZ,e]
def ji {p:κ×V}{r:List (κ×V)}{k:κ}(e:¬p.1=k):fS (p::r) k=fS r k:=by simp[fS,uZ,e]
theorem kg (k:κ):∀kvs:List (κ×V),(kvs.any fun kv=>decide (kv.1=k))=(fS kvs k).isSome
 | []=>rfl
 | p::r=>by
  rw[tD];by_cases e:p.1=k;simp_all[i6];rw[ji e,qu e,Bool.false_or];exact kg k r
def mL (kvs:List (κ×V))(k:κ)(v:V):(putK kvs k v).length≤kvs.length+1:=by
 unfold putK;split<;>simp_all
def oz.i4 {o:Option V}{u:Option Value}(r:oz o u):o.isSome=u.isSome:=by
 cases o with
 | none=>cases u with
  | none=>rfl
  | some _=>exact(show False from r).elim
 | some _=>cases u with
  | none=>exact(show False from r).elim
  | some _=>rfl
def oz.getD {o:Option V}{u:Option Value}{d:V}{d':Value}(r:oz o u)(rd:RelV d d'):RelV (o.getD d) (u.getD d'):=by
 cases o with
 | none=>cases u with
  | none=>exact rd
  | some _=>exact(show False from r).elim
 | some _=>cases u with
  | none=>exact(show False from r).elim
  | some _=>exact r
def KV.val {kvs:List (κ×V)}{vs:List (κ×Value)}(r:KV kvs vs)(k:κ):oz (fS kvs k) (valueAt vs k):=by
 unfold KV at r
 induction r with
 | nil=>exact True.intro
 | @cons p q ps qs h t ih=>
  obtain⟨h1,h2⟩:=h;by_cases e:p.1=k
  ·have e':q.1=k:=h1.symm.trans e;have b:valueAt (q::qs) k=some q.2:=by simp[valueAt,uZ,e']
   rw[i6 e,b];exact h2
  simp_all[valueAt,ji]
theorem KV.any {kvs:List (κ×V)}{vs:List (κ×Value)}(r:KV kvs vs)(k:κ):(kvs.any fun kv=>decide (kv.1=k))=vs.any fun kv=>decide (kv.1=k):=by
 unfold KV at r
 induction r with
 | nil=>rfl
 | cons h t ih=>rw[tD,tD,ih,h.1]
theorem KV.P2 {kvs:List (κ×V)}{vs:List (κ×Value)}(r:KV kvs vs)(k:κ){y:V}{u:Value}(ry:RelV y u):
  KV (kvs.map fun kv=>if kv.1=k then(kv.1,y)else kv) (vs.map fun kv=>if kv.1=k then(kv.1,u)else kv):=by
 unfold KV at r ⊢
 induction r with
 | nil=>exact .nil
 | @cons p q ps qs h t ih=>
  rw[bF,bF];refine .cons ?_ ih;split<;>simp_all
def KV.put {kvs:List (κ×V)}{vs:List (κ×Value)}(r:KV kvs vs)(k:κ){y:V}{u:Value}(ry:RelV y u):KV (putK kvs k y) (stored vs k u):=by
 unfold putK stored;rw[r.any k];by_cases e:(vs.any fun kv=>decide (kv.1=k))=true;rw[aw e,aw e];exact r.P2 k ry;rw[ak e,ak e];exact Paired.snoc r ⟨rfl,ry⟩
def KV.drop {kvs:List (κ×V)}{vs:List (κ×Value)}(r:KV kvs vs)(k:κ):KV (vG kvs k) (without vs k):=by
 unfold KV at r ⊢;unfold vG without
 induction r with
 | nil=>exact .nil
 | @cons p q ps qs h t ih=>
  obtain⟨h1,h2⟩:=h;rw[jP,jP];by_cases e:p.1=k;simp_all;have e':¬q.1=k:=fun z=>e (h1.trans z);have a:decide (p.1≠k)=true:=by simp[e]
  have b:decide (q.1≠k)=true:=by simp[e']
  rw[aw a,aw b];exact .cons ⟨h1,h2⟩ ih
def KV.length {kvs:List (κ×V)}{vs:List (κ×Value)}(r:KV kvs vs):kvs.length=vs.length:=bZ r
def DX (kvs:List (κ×V))(k:κ):(vG kvs k).length≤kvs.length:=fN _ _
end
def l_ {P:Program}{w:World}{k:Key}{u:Value}(r:RelV (kV k) u):(bw P w).is k u=true:=by
 cases k with
 | inl i=>obtain⟨t,e⟩:=(show ∃t,u=Value.int i t from r);subst e;exact Em P w i t
 | inr x=>obtain⟨t,e⟩:=(show ∃t,u=Value.str x t from r);subst e;exact mT P w x t
theorem Ag {P:Program}{w:World}:∀{ks:List Key} {us:List Value},Vals (ks.map kV) us→ItemsAre (bw P w) ks us
 | [],_,r=>by rw[om]at r;cases r;exact .nil
 | k::ks,_,r=>by
  rw[bF]at r;cases r with
  | cons h t=>exact .cons (l_ h) (Ag t)
abbrev KT (H:Hp):List (List Key×V)→List (List Key×Addr×Value)→Prop:=Paired fun p q=>p.1=q.1∧H q.2.1=some (.tup (p.1.map kV))∧RelV p.2 q.2.2
def KT.val {H:Hp}{kvs:List (List Key×V)}{xs:List (List Key×Addr×Value)}(r:KT H kvs xs)(k:List Key):oz (fS kvs k) ((atKey xs k).map (·.2)):=by
 induction r with
 | nil=>exact True.intro
 | @cons p q ps qs h t ih=>
  obtain⟨h1,_,h2⟩:=h;by_cases e:p.1=k
  ·have e':q.1=k:=h1.symm.trans e;have b:atKey (q::qs) k=some q.2:=by simp[atKey,uZ,e']
   rw[i6 e,b];exact h2
  simp_all[atKey,ji]
theorem KT.P2 {H:Hp}{kvs:List (List Key×V)}{xs:List (List Key×Addr×Value)}(r:KT H kvs xs)(k:List Key){y:V}{u:Value}(ry:RelV y u):
  KT H (kvs.map fun kv=>if kv.1=k then(kv.1,y)else kv) (xs.map (putAt k u)):=by
 induction r with
 | nil=>exact .nil
 | @cons p q ps qs h t ih=>
  rw[bF,bF];refine .cons ?_ ih;obtain⟨h1,h2,h3⟩:=h;unfold putAt;split<;>simp_all
def KT.put {H:Hp}{kvs:List (List Key×V)}{xs:List (List Key×Addr×Value)}(r:KT H kvs xs)(k:List Key){b:Addr}{y:V}{u:Value}(hb:H b=some (.tup (k.map kV)))(ry:RelV y u):
  KT H (putK kvs k y) (storedH xs k b u):=by
 have e:(kvs.any fun kv=>decide (kv.1=k))=(atKey xs k).isSome:=by
  rw[kg,(r.val k).i4,Ge]
 unfold putK storedH;rw[e];by_cases q:(atKey xs k).isSome=true;rw[aw q,aw q];exact r.P2 k ry;simp_all[Paired.snoc]
theorem KT.keeps {H H':Hp}{kvs:List (List Key×V)}{xs:List (List Key×Addr×Value)}(r:KT H kvs xs)(ht:∀b ys,H b=some (.tup ys)→H' b=some (.tup ys)):KT H' kvs xs:=
 Paired.tY r fun _ _ z=>⟨z.1,ht _ _ z.2.1,z.2.2⟩
section
variable{P:Program}{w:World}{H:Hp}{h:Heap}{a:Addr}
def Pp {u:HO}(ok:mn P w H h)(e:Rd H a u):c8 P w H h a u:=e.ok ok
def vn {kvs:List (Key×V)}(ok:mn P w H h)(e:Rd H a (.dK kvs)):kvs.length≤sizeLine∧(a==sysModules)=false∧∃vs,KV kvs vs∧h.DictOf (bw P w) a vs:=
 show c8 P w H h a (.dK kvs)from Pp ok e
def EE {kvs:List (Key×V)}(ok:mn P w H h)(e:H a=some (.dK kvs)):kvs.length≤sizeLine∧(a==sysModules)=false∧∃vs,KV kvs vs∧h.DictOf (bw P w) a vs:=vn ok (.inl e)
def uq {ks:List Key}(ok:mn P w H h)(e:H a=some (.tup (ks.map kV))):(tupleKind (bw P w)).is h ks a:=by
 obtain⟨_,bp,r,o,h1,h2,n,h3⟩:=(show c8 P w H h a (.tup (ks.map kV))from ok a _ e);exact⟨o,bp.toArray,n,h1,h2,h3,by simpa using Ag r⟩
def wU {kvs:List (List Key×V)}(ok:mn P w H h)(e:Rd H a (.dT kvs)):kvs.length≤sizeLine∧(a==sysModules)=false∧
  ∃xs,KT H kvs xs∧h.DictOfH (tupleKind (bw P w)) a xs:=by
 obtain⟨z,y,xs,r,o,es,ep,h1,h2,h3,h4,h5⟩:=(show c8 P w H h a (.dT kvs)from Pp ok e);refine⟨z,y,xs,r,o,es,ep,h1,h2,h3,h4,fun x hx=>?_,h5⟩;have all:∀{l:List (List Key×V)} {m:List (List Key×Addr×Value)},KT H l m→∀x∈m,(tupleKind (bw P w)).is h x.1 x.2.1:=by
  intro l m q
  induction q with
  | nil=>intro x hx;exact nomatch hx
  | @cons p q ps qs hq t ih=>
   intro x hx;rcases bM.mp hx with e|hx
   ·subst e;exact uq ok (by rw[←hq.1];exact hq.2.1)
   exact ih x hx
 exact all r x hx
def TH {kvs:List (List Key×V)}(ok:mn P w H h)(e:H a=some (.dT kvs)):kvs.length≤sizeLine∧(a==sysModules)=false∧
  ∃xs,KT H kvs xs∧h.DictOfH (tupleKind (bw P w)) a xs:=wU ok (.inl e)
end
def iM (H:Hp)(a:Addr)(y:V)(r:Option V):Prop:=
 (∃kvs k,Rd H a (.dK kvs)∧y=kV k∧r=fS kvs k)∨∃kvs k b,Rd H a (.dT kvs)∧y= .ref b∧H b=some (.tup (k.map kV))∧r=fS kvs k
def tp (H:Hp)(a:Addr)(y v:V)(H':Hp):Prop:=
 (∃kvs k,H a=some (.dK kvs)∧y=kV k∧kvs.length<sizeLine∧H'=upd H a (.dK (putK kvs k v)))∨
 ∃kvs k b,H a=some (.dT kvs)∧y= .ref b∧H b=some (.tup (k.map kV))∧kvs.length<sizeLine∧H'=upd H a (.dT (putK kvs k v))
def iM.k {H:Hp}{a:Addr}{kvs:List (Key×V)}{k:Key}(e:H a=some (.dK kvs)):iM H a (kV k) (fS kvs k):= .inl ⟨kvs,k,.inl e,rfl,rfl⟩
def tp.k {H:Hp}{a:Addr}{kvs:List (Key×V)}{k:Key}{v:V}(e:H a=some (.dK kvs))(hl:kvs.length<sizeLine):tp H a (kV k) v (upd H a (.dK (putK kvs k v))):= .inl ⟨kvs,k,e,rfl,hl,rfl⟩
section
variable{X:Cx}{pins:List (Addr×Obj)}{σ:St}{H:Hp}{s:Shared}{a:Addr}{y v:V}{u r:Value}{o:Option V}{A:Around}{E:Value→Shared→Prop}
def Inv.big (I:Inv X pins σ H s):sysModules<s.heap.objs.size:=by
 have h:mainGlobals<s.heap.objs.size:=(I.mod.glob.keeps I.bk).lt;exact Nat.lt_trans (by decide) h
def JD {Q:Value→Shared→Prop}(hu:A.units+1<cLine)(I:Inv X pins σ H s)(g:iM H a y (some v))(ry:RelV y u)(h:∀w' s',Inv X pins σ H s'→RelV v w'→Q w' s'):
  wpAny (model X.prog X.w) A (getItem (.ref a) u) Q E s:=by
 rcases g with⟨kvs,k,e,ey,l⟩|⟨kvs,k,b,e,ey,eb,l⟩
 ·subst ey;obtain⟨z,hd,vs,rel,dd⟩:=vn I.b9 e;obtain⟨w',hw,B2⟩:=oz.some_of (v:=v) (o:=valueAt vs k) (by rw[l];exact rel.val k);exact Fy (l_ ry) dd.mapOf hw (h w' _ (I.tok _) B2)
 subst ey;cases(show u=Value.ref b from ry);obtain⟨z,hd,xs,rel,dd⟩:=wU I.b9 e;obtain⟨w',hw,B2⟩:=oz.some_of (v:=v) (o:=(atKey xs k).map (·.2)) (by rw[l];exact rel.val k);obtain⟨p,hp,Fo⟩:=Option.map_eq_some_iff.mp hw;refine wpAny_getItem_heap (xU hu) (uq I.b9 eb) dd hp ?_;rw[Fo];exact h w' _ (I.tok _) B2
def Vy {Q:Value→Shared→Prop}(hu:A.units+1<cLine)(I:Inv X pins σ H s)(g:iM H a y o)(ry:RelV y u)(h:∀s',Inv X pins σ H s'→Q (.bool o.isSome) s'):
  wpAny (model X.prog X.w) A (compareOp .In u (.ref a)) Q E s:=by
 rcases g with⟨kvs,k,e,ey,l⟩|⟨kvs,k,b,e,ey,eb,l⟩
 ·subst ey;obtain⟨z,hd,vs,rel,dd⟩:=vn I.b9 e;refine wpAny_in_of (l_ ry) hd dd.mapOf ?_;rw[←(rel.val k).i4,←l];exact h _ (I.tok _)
 subst ey;cases(show u=Value.ref b from ry);obtain⟨z,hd,xs,rel,dd⟩:=wU I.b9 e;refine wpAny_in_heap (xU hu) (uq I.b9 eb) hd dd ?_;have q:=(rel.val k).i4;rw[Ge]at q;rw[←q,←l];exact h _ (I.tok _)
def NR {Q:Value→Shared→Prop}(hu:A.units+1<cLine)(I:Inv X pins σ H s)(g:iM H a y o)(ry:RelV y u)(h:∀s',Inv X pins σ H s'→Q (.bool (!o.isSome)) s'):
  wpAny (model X.prog X.w) A (compareOp .NotIn u (.ref a)) Q E s:=by
 rcases g with⟨kvs,k,e,ey,l⟩|⟨kvs,k,b,e,ey,eb,l⟩
 ·subst ey;obtain⟨z,hd,vs,rel,dd⟩:=vn I.b9 e;refine wpAny_notIn_of (l_ ry) hd dd.mapOf ?_;rw[←(rel.val k).i4,←l];exact h _ (I.tok _)
 subst ey;cases(show u=Value.ref b from ry);obtain⟨z,hd,xs,rel,dd⟩:=wU I.b9 e;refine wpAny_notIn_heap (xU hu) (uq I.b9 eb) hd dd ?_;have q:=(rel.val k).i4;rw[Ge]at q;rw[←q,←l];exact h _ (I.tok _)
def oH {h':Heap}{t':Nat}{ob:HO}(I:Inv X pins σ H s)(mu:NY (H a))(hs:Heap.SameBut a s.heap h')(he:∃q,h'.get? a=some q)(new:c8 X.prog X.w (upd H a ob) h' a ob):
  Inv X pins σ (upd H a ob) {s with heap:=h',toks:=t'}:=
 I.write (x:=a) (e:=a) mu (.inl rfl) (fun b q hb z=>(hs.2 b hb).trans z) he new
def xB {P:Program}{w:World}{H':Hp}{h':Heap}{kvs:List (Key×V)}{vs:List (Key×Value)}(z:kvs.length≤sizeLine)(hd:(a==sysModules)=false)(rel:KV kvs vs)(dd:h'.DictOf (bw P w) a vs):
  c8 P w H' h' a (.dK kvs):=⟨z,hd,vs,rel,dd⟩
def JC {H':Hp}{Q:Unit→Shared→Prop}(hu:A.units+1<cLine)(I:Inv X pins σ H s)(g:tp H a y v H')(ry:RelV y u)(rv:RelV v r)(h:∀s',Inv X pins σ H' s'→Q () s'):
  wpAny (model X.prog X.w) A (setItem (.ref a) u r) Q E s:=by
 rcases g with⟨kvs,k,e,ey,l,eH⟩|⟨kvs,k,b,e,ey,eb,l,eH⟩
 ·subst ey eH;obtain⟨z,hd,vs,rel,dd⟩:=EE I.b9 e;have hz:vs.length≤sizeLine:=by rw[←rel.length];exact z
  have hl:(putK kvs k v).length≤sizeLine:=by have:=mL kvs k v;exact Nat.le_trans ‹_› ‹_›
  refine wpAny_setItem_pairs (hsz:=hz) (l_ ry) dd fun h' Fb hs=>h _ ?_;have he:∃q,h'.get? a=some q:=let⟨q,_,_,hq,_⟩:=Fb;⟨q,hq⟩;exact oH I (by rw[e];exact True.intro) hs he (xB hl hd (rel.put k rv) Fb)
 subst ey eH;cases(show u=Value.ref b from ry);obtain⟨z,hd,xs,rel,dd⟩:=TH I.b9 e;have hz:xs.length≤sizeLine:=by rw[←bZ rel];exact z
 have hl:(putK kvs k v).length≤sizeLine:=by have:=mL kvs k v;exact Nat.le_trans ‹_› ‹_›
 refine wpAny_setItem_heap (hsz:=hz) (xU hu) (uq I.b9 eb) dd fun h' Fb hs=>h _ ?_;obtain⟨q,es,ep,hq,h2,h3,h4,_,h5⟩:=Fb;refine oH I (by rw[e];exact True.intro) hs ⟨q,hq⟩ ⟨hl,hd,_,(rel.put k eb rv).keeps fun c ys ec=>?_,q,es,ep,hq,h2,h3,h4,h5⟩;rw[ah (Ss ec e (fun z=>nomatch z))];exact ec
end
section
variable{X:Cx}{pins:List (Addr×Obj)}{σ:St}{H:Hp}{s:Shared}{a:Addr}{kvs:List (Key×V)}{k:Key}{u:Value}{A:Around}{E:Value→Shared→Prop}
def R5 {Q:Unit→Shared→Prop}(I:Inv X pins σ H s)(e:H a=some (.dK kvs))(ry:RelV (kV k) u)(l:(fS kvs k).isSome=true)(h:∀s',Inv X pins σ (upd H a (.dK (vG kvs k))) s'→Q () s'):
  wpAny (model X.prog X.w) A (delItem (.ref a) u) Q E s:=by
 obtain⟨z,hd,vs,rel,dd⟩:=EE I.b9 e;refine wpAny_delItem_slot dd.typeIs (by decide) PySem.F.slot_dict_delitem
  (xw PySem.F.slot_dict_delitem dd.typeIs PySem.F.entry_dict_delitem (PySem.F.args_dict_delitem_2 _ _) (meets_dict_delitem_pairs (bw X.prog X.w) a (l_ ry)) ⟨vs,dd,by rw[←rel.length];exact z,by rw[←(rel.val k).i4];exact l,fun h' Fb hs=>h _ ?_⟩)
 have he:∃q,h'.get? a=some q:=let⟨q,_,_,hq,_⟩:=Fb;⟨q,hq⟩;exact oH I (by rw[e];exact True.intro) hs he (xB (aG (DX kvs k) z) hd (rel.drop k) Fb)
def T3 {v:V}{more:List Value}{Q:Value→Shared→Prop}(I:Inv X pins σ H s)(e:H a=some (.dK kvs))(ry:RelV (kV k) u)(l:fS kvs k=some v)(hm:more=[]∨∃x,more=[x])
  (h:∀w' s',Inv X pins σ (upd H a (.dK (vG kvs k))) s'→RelV v w'→Q w' s'):wpAny (model X.prog X.w) A (call (.builtin "dict.pop") (.ref a::u::more)) Q E s:=by
 obtain⟨z,hd,vs,rel,dd⟩:=EE I.b9 e;obtain⟨w',hw,B2⟩:=oz.some_of (v:=v) (o:=valueAt vs k) (by rw[←l];exact rel.val k);have hp:(keyPart u).isSome=true:=by
  cases k with
  | inl i=>obtain⟨t,q⟩:=(show ∃t,u=Value.int i t from ry);subst q;rfl
  | inr x=>obtain⟨t,q⟩:=(show ∃t,u=Value.str x t from ry);subst q;rfl
 have ha:argsOk "dict.pop" ⟨.ref a::u::more,[]⟩:=by
  rcases hm with q|⟨x,q⟩;subst q;exact PySem.F.args_dict_pop_2 _ _;subst q;exact PySem.F.args_dict_pop_3 _ _ _
 refine xw PySem.F.slot_dict_pop dd.typeIs PySem.F.entry_dict_pop ha (meets_dict_pop_there (bw X.prog X.w) a (l_ ry) more hm hp)
  ⟨vs,w',dd,by rw[←rel.length];exact z,hw,fun h' Fb hs=>h w' _ ?_ B2⟩
 have he:∃q,h'.get? a=some q:=let⟨q,_,_,hq,_⟩:=Fb;⟨q,hq⟩;exact oH I (by rw[e];exact True.intro) hs he (xB (aG (DX kvs k) z) hd (rel.drop k) Fb)
def S8 {Q:Value→Shared→Prop}(I:Inv X pins σ H s)(e:Rd H a (.dK kvs))(h:∀t s',Inv X pins σ H s'→Q (.int kvs.length t) s'):wpAny (model X.prog X.w) A (call (.builtin "len") [.ref a]) Q E s:=by
 obtain⟨z,hd,vs,rel,dd⟩:=vn I.b9 e;refine call_len_dict hd dd (by rw[←rel.length];rw[Cf]at z;lia) ?_;rw[←rel.length];exact h _ _ (I.tok _)
end
def Rr (i:Expr):Prop:=∀ov iv,subscripted i false ov iv=operate [ov,iv] (getItem ov iv)
def Bz {prog:Program}{w:World}{A:Around}{E:Value→Shared→Prop}{s:Shared}{env:Env}{value slice:Expr}{pos:Pos}{T id:String}{Q:Value→Shared→Prop}
  (hl:typeLookup (.type T) "__getitem__" =pure (some (.builtin id))) (hs:Rr slice)
  (h:wpAny (model prog w) A (eval value env) (fun o s₁=>wpAny (model prog w) A (eval slice env) (fun i s₂=>s₂.TypeIs o T∧wpAny (model prog w) A (getItem o i) Q E s₂) E s₁) E s):
  wpAny (model prog w) A (eval (.Subscript value slice pos) env) Q E s:=by
 refine Subscript_ (gM h (fun o s₁ h₁=>gM h₁ (fun i s₂ h₂=>?_) fun _ _ x=>x) fun _ _ x=>x);obtain⟨hT,h₂⟩:=h₂;unfold subscriptTail;refine aq ?_;rw[getitemInPython_of_ne hT.not_modules];refine aq (wpAny_specialOf hT hl ?_);have fin:wpAny (model prog w) A (subscripted slice false o i) (fun r s₃=>wpAny (model prog w) A (letTemporaryGo value o r >>=fun _=>pure r) Q E s₃) E s₂:=by
  rw[hs o i];exact wpAny_operating (gM h₂ (fun r s₃ h₃=>aq (wpAny_letTemporaryGo (aL h₃))) fun _ _ x=>x)
 first
  | exact aL (aq fin)
  | exact aq (aL (aq fin))
  | exact aq fin
def DO {X:Cx}{pins:List (Addr×Obj)}{σ:St}{H:Hp}{s:Shared}{a:Addr}{y:V}{o:Option V}(I:Inv X pins σ H s)(g:iM H a y o):s.TypeIs (.ref a) "dict" :=by
 rcases g with⟨kvs,k,e,_,_⟩|⟨kvs,k,b,e,_,_,_⟩
 ·obtain⟨_,_,vs,_,dd⟩:=vn I.b9 e;exact dd.typeIs
 obtain⟨_,_,xs,_,dd⟩:=wU I.b9 e;exact dd.typeIs
inductive iG_ (Q:VK)(x y:V)(H:Hp):Prop|mk a v:x= .ref a→iM H a y (some v)→Q v H→iG_ Q x y H
def TL (td ty:TE):TE:=fun σ H Q=>td σ H fun x H1=>ty σ H1 (iG_ Q x)
inductive iI_ (Q:Bool→Hp→Prop)(y x:V)(H:Hp):Prop|mk a o:x= .ref a→iM H a y o→Q o.isSome H→iI_ Q y x H
def VN (ty td:TE):TE:=fun σ H Q=>ty σ H fun y H1=>td σ H1 (iI_ (fun b=>Q (.bl b)) y)
def Oy (ty td:TE):TE:=fun σ H Q=>ty σ H fun y H1=>td σ H1 (iI_ (fun b=>Q (.bl (!b))) y)
def Ph (td ty tv:TE):TS:=fun D σ H=>tv σ H fun v H1=>td σ H1 fun x H2=>ty σ H2 fun y H3=>∃a H4,x= .ref a∧tp H3 a y v H4∧D.nx σ H4
section
variable{X:Cx}{o i e value:Expr}{pos pos' tW:Pos}{td ty tv:TE}
def bD (hu:X.A.units+1<cLine)(ho:PE X o td)(hi:PE X i ty)(hs:Rr i:=by intro _ _;rfl):PE X (.Subscript o i pos) (TL td ty):=by
 intro pins s σ H Q I h;refine Bz GC.lookup hs (cS (ho pins s σ H _ I h) fun u s1 ⟨x,H1,I1,rx,q1⟩=>cS (hi pins s1 σ H1 _ I1 q1) fun iv s2 ⟨y,H2,I2,ry,a,v,ex,g,q2⟩=>?_);subst ex;obtain rfl:u=Value.ref a:=rx;exact⟨DO I2 g,JD hu I2 g ry fun w' s3 I3 B2=>⟨v,H2,I3,B2,q2⟩⟩
def nq (hu:X.A.units+1<cLine)(hi:PE X i ty)(ho:PE X o td):PC X .In i o (VN ty td):=by
 intro pins s σ H Q I h;refine cS (hi pins s σ H _ I h) fun iv s1 ⟨y,H1,I1,ry,q1⟩=>cS (ho pins s1 σ H1 _ I1 q1) fun u s2 ⟨x,H2,I2,rx,a,ov,ex,g,q2⟩=>?_;subst ex;obtain rfl:u=Value.ref a:=rx;exact Vy hu I2 g ry fun s3 I3=>⟨.bl ov.isSome,H2,I3,rfl,q2⟩
def cj (hu:X.A.units+1<cLine)(hi:PE X i ty)(ho:PE X o td):PC X .NotIn i o (Oy ty td):=by
 intro pins s σ H Q I h;refine cS (hi pins s σ H _ I h) fun iv s1 ⟨y,H1,I1,ry,q1⟩=>cS (ho pins s1 σ H1 _ I1 q1) fun u s2 ⟨x,H2,I2,rx,a,ov,ex,g,q2⟩=>?_;subst ex;obtain rfl:u=Value.ref a:=rx;exact NR hu I2 g ry fun s3 I3=>⟨.bl (!ov.isSome),H2,I3,rfl,q2⟩
def ib (hu:X.A.units+1<cLine)(ho:PE X o td)(hi:PE X i ty)(hv:PE X value tv)(hs:swapsWith value (some (.Subscript o i pos')) pos.line X.env=pure false):
  PS X (.Assign [.Subscript o i pos'] value pos) (Ph td ty tv):=by
 intro pins s σ H D I h;refine wpAny_Assign_Subscript (cS (hv pins s σ H _ I h) fun r s1 ⟨v,H1,I1,rv,q1⟩=>cS (ho pins s1 σ H1 _ I1 q1) fun u s2 ⟨x,H2,I2,rx,q2⟩=>cS (hi pins s2 σ H2 _ I2 q2) fun iv s3 ⟨y,H3,I3,ry,a,H4,ex,g,q3⟩=>?_) hs;subst ex;obtain rfl:u=Value.ref a:=rx;exact JC hu I3 g ry rv fun s4 I4=>⟨σ,H4,I4,q3⟩
end
def Ey {P:Program}{w:World}{H:Hp}(h:Heap)(hb:sysModules<h.objs.size):c8 P w H (h.push {cls:= .type "dict",data:= .dict #[]}) h.objs.size (.dK []):=
 ⟨fJ _,beq_eq_false_iff_ne.mpr (aR (cC hb)),[],.nil,Heap.DictOf.new h⟩
def PR:TE:=fun _ H Q=>∀p,H p=none→Q (.ref p) (upd H p (.dK []))
section
variable{X:Cx}{pos:Pos}
def gN:PE X (.Dict [] [] pos) PR:=fun pins s σ H Q I h=>
 wpAny_Dict_empty ⟨.ref s.heap.objs.size,_,I.laid (a:=s.heap.objs.size) (o:= .dK []) (t':=s.toks) (fun _ _ q=>bB _ q) (bo _) (Ey s.heap I.big),rfl,h _ (I.b9.fresh (bo _))⟩
end
def FV:List (TE×TE)→St→Hp→(List (V×V)→Hp→Prop)→Prop
 | [],_,H,Q=>Q [] H
 | (tk,tv)::r,σ,H,Q=>tk σ H fun x H1=>tv σ H1 fun y H2=>FV r σ H2 fun ps H3=>Q ((x,y)::ps) H3
abbrev VV:List (V×V)→List (Value×Value)→Prop:=Paired fun p q=>RelV p.1 q.1∧RelV p.2 q.2
def UL (X:Cx)(pos:Pos)(keys:List (Option Expr))(values:List Expr)(NO:List (TE×TE)):Prop:=
 ∀(pins:List (Addr×Obj)) (s:Shared) (σ:St) (H:Hp) (Q:List (V×V)→Hp→Prop),Inv X pins σ H s→FV NO σ H Q→
  wpAny (model X.prog X.w) X.A (evalPairs (pairTrees keys values X.env pos)) (fun vs s'=>∃ps H',Inv X pins σ H' s'∧VV ps vs∧Q ps H') X.xe s
def wH {X:Cx}{pos:Pos}:UL X pos [] [] []:=fun pins s σ H Q I h=>pairTrees_nil_walk ⟨[],H,I,.nil,h⟩
def rL {X:Cx}{pos:Pos}{k v:Expr}{ks:List (Option Expr)}{vs:List Expr}{tk tv:TE}{NO:List (TE×TE)}(hk:PE X k tk)(hv:PE X v tv)(hr:UL X pos ks vs NO):
  UL X pos (some k::ks) (v::vs) ((tk,tv)::NO):=fun pins s σ H Q I h=>
 pairTrees_cons_walk (cS (hk pins s σ H _ I h) fun u s1 ⟨x,H1,I1,rx,q1⟩=>cS (hv pins s1 σ H1 _ I1 q1) fun w2 s2 ⟨y,H2,I2,ry,q2⟩=>
  cS (hr pins s2 σ H2 _ I2 q2) fun ws s3 ⟨ps,H3,I3,rel,q3⟩=>⟨(x,y)::ps,H3,I3,.cons ⟨rx,ry⟩ rel,q3⟩)
def ux (kvs more:List (Key×V)):List (Key×V):=more.foldl (fun acc kv=>putK acc kv.1 kv.2) kvs
def KV.merge:∀{more:List (Key×V)} {rs:List (Key×Value)} {kvs:List (Key×V)} {vs:List (Key×Value)},KV more rs→KV kvs vs→KV (ux kvs more) (merged vs rs):=by
 intro more rs kvs vs r;unfold KV at r
 induction r generalizing kvs vs with
 | nil=>intro q;exact q
 | @cons p q ps qs h t ih=>
  intro r0;have e:KV (putK kvs p.1 p.2) (stored vs q.1 q.2):=by
   have:=r0.put p.1 h.2;simp_all
  exact ih e
theorem pG:∀(more kvs:List (Key×V)),(ux kvs more).length≤kvs.length+more.length
 | [],kvs=>by show kvs.length≤kvs.length+0;exact Nat.le_refl _
 | p::r,kvs=>by
  have h1:=pG r (putK kvs p.1 p.2);have h2:=mL kvs p.1 p.2;show(ux (putK kvs p.1 p.2) r).length≤_;simp;lia
theorem xu {P:Program}{w:World}:∀{kvs:List (Key×V)} {ws:List (Value×Value)},VV (kvs.map fun kv=>(kV kv.1,kv.2)) ws→∃rs,Carries (bw P w) ws rs∧KV kvs rs
 | [],_,r=>by rw[om]at r;cases r;exact⟨[],True.intro,.nil⟩
 | p::kvs,_,r=>by
  rw[bF]at r;cases r with
  | @cons a b as bs h t=>
   obtain⟨rs,c,q⟩:=xu (P:=P) (w:=w) t;obtain⟨b1,b2⟩:=b;exact⟨(p.1,b2)::rs,⟨l_ h.1,rfl,c⟩,.cons ⟨rfl,h.2⟩ q⟩
def Uh (NO:List (TE×TE)):TE:=fun σ H Q=>∀p,H p=none→FV NO σ (upd H p (.dK [])) fun ps H2=>H2 p=some (.dK [])∧∃kvs:List (Key×V),ps=kvs.map (fun kv=>(kV kv.1,kv.2))∧kvs.length≤15∧Q (.ref p) (upd H2 p (.dK (ux [] kvs)))
def wy {X:Cx}{pos:Pos}{keys:List (Option Expr)}{values:List Expr}{NO:List (TE×TE)}(h:UL X pos keys values NO)(lI:keys.all (·.isSome)=true)(hl:keys.length=values.length)(h0:keys≠[])
  (h15:keys.length≤15):PE X (.Dict keys values pos) (Uh NO):=by
 intro pins s σ H Q I q;have hn:=I.b9.fresh (bo s.heap.objs.size);have I1:=I.laid (a:=s.heap.objs.size) (o:= .dK []) (h':=s.heap.push {cls:= .type "dict",data:= .dict #[]}) (t':=s.toks) (fun _ _ q=>bB _ q) (bo _) (Ey s.heap I.big);refine wpAny_Dict_walk (knd:=bw X.prog X.w) lI hl h0 h15 (cS (h pins _ σ _ _ I1 (q _ hn)) fun ws s2 ⟨ps,H2,I2,rel,e,kvs,ep,lk,q2⟩=>?_);subst ep;obtain⟨rs,c,rk⟩:=xu (P:=X.prog) (w:=X.w) rel;obtain⟨z,hd,vs0,r0,dd⟩:=EE I2.b9 e;cases r0;refine⟨rs,c,dd,fun h' Fb hs=>⟨.ref s.heap.objs.size,_,?_,rfl,q2⟩⟩;have hz:(ux [] kvs).length≤sizeLine:=by (simp[pG,sizeLine_eq];grind[pG,sizeLine_eq])
 have he:∃q,h'.get? s.heap.objs.size=some q:=let⟨q,_,_,hq,_⟩:=Fb;⟨q,hq⟩;exact oH I2 (by rw[e];exact True.intro) hs he (xB hz hd (rk.merge .nil) Fb)
structure M1 (X:Cx)(o:Expr)(m:Str)(apos:Pos)(e:Expr)(dX:Pos):Prop where
 base:attributeBase o m X.env (eval o X.env)=eval o X.env
 UJ:((backTo dX (starEach [e] X.env)).all (fun x=>!x.1)&&(backToKw dX (keywordEach [] X.env)).all (fun x=>x.1.isSome)
  &&decide (([e]:List Expr).length+([]:List Keyword).length+(if([]:List Keyword).isEmpty then 0 else 1)<30))=true
 line:(apos.endLine==dX.line)=true
 trees:backTo dX (starEach [e] X.env)=[(false,eval e X.env)]
structure M2 (X:Cx)(o:Expr)(m:Str)(apos:Pos)(e f:Expr)(dX:Pos):Prop where
 base:attributeBase o m X.env (eval o X.env)=eval o X.env
 UJ:((backTo dX (starEach [e,f] X.env)).all (fun x=>!x.1)&&(backToKw dX (keywordEach [] X.env)).all (fun x=>x.1.isSome)
  &&decide (([e,f]:List Expr).length+([]:List Keyword).length+(if([]:List Keyword).isEmpty then 0 else 1)<30))=true
 line:(apos.endLine==dX.line)=true
 trees:backTo dX (starEach [e,f] X.env)=[(false,eval e X.env),(false,eval f X.env)]
def R7 (H:Hp)(a:Addr):Prop:=(∃kvs,Rd H a (.dK kvs))∨∃kvs,Rd H a (.dT kvs)
def GD {X:Cx}{pins:List (Addr×Obj)}{σ:St}{H:Hp}{s:Shared}{a:Addr}(I:Inv X pins σ H s)(d:R7 H a):
  s.TypeIs (.ref a) "dict" ∧(∀b,Value.ref a= .ref b→∃ob,s.heap.get? b=some ob∧ob.dict=none)∧(a==sysModules)=false:=by
 rcases d with⟨kvs,e⟩|⟨kvs,e⟩
 ·obtain⟨_,hd,vs,_,dd⟩:=vn I.b9 e;refine⟨dd.typeIs,fun b q=>?_,hd⟩;cases q;obtain⟨ob,_,_,h1,h2,_⟩:=dd;exact⟨ob,h1,h2.2.1⟩
 obtain⟨_,hd,xs,_,dd⟩:=wU I.b9 e;refine⟨dd.typeIs,fun b q=>?_,hd⟩;cases q;obtain⟨ob,_,_,h1,h2,_⟩:=dd;exact⟨ob,h1,h2.2.1⟩
section
variable{X:Cx}{pins:List (Addr×Obj)}{σ:St}{H:Hp}{s:Shared}{a:Addr}{y d:V}{u r:Value}{o:Option V}{A:Around}{E:Value→Shared→Prop}
def QH {Q:Value→Shared→Prop}(hu:A.units+1<cLine)(I:Inv X pins σ H s)(g:iM H a y o)(ry:RelV y u)(rd:RelV d r)(h:∀w' s',Inv X pins σ H s'→RelV (o.getD d) w'→Q w' s'):
  wpAny (model X.prog X.w) A (call (.builtin "dict.get") [.ref a,u,r]) Q E s:=by
 rcases g with⟨kvs,k,e,ey,l⟩|⟨kvs,k,b,e,ey,eb,l⟩
 ·subst ey;obtain⟨z,hd,vs,rel,dd⟩:=vn I.b9 e;refine xw G' dd.typeIs PySem.F.entry_dict_get (PySem.F.args_dict_get_3 _ _ _) (meets_dict_get_default (bw X.prog X.w) a (l_ ry) hd r) ⟨_,dd.mapOf,h _ _ (I.tok _) ?_⟩;rw[l];exact(rel.val k).getD rd
 subst ey;cases(show u=Value.ref b from ry);obtain⟨z,hd,xs,rel,dd⟩:=wU I.b9 e;refine xw G' dd.typeIs PySem.F.entry_dict_get (PySem.F.args_dict_get_3 _ _ _) (meetsH_dict_get_default (tupleKind (bw X.prog X.w)) a b hd r) ⟨xU hu,k,xs,uq I.b9 eb,dd,h _ _ (I.tok _) ?_⟩;rw[l];exact(rel.val k).getD rd
end
def RR (td ty tx:TE):TE:=fun σ H Q=>td σ H fun x H1=>∃a,x= .ref a∧R7 H1 a∧ty σ H1 fun y H2=>tx σ H2 fun z H3=>∃o,iM H3 a y o∧Q (o.getD z) H3
def Qe (td ty:TE):TE:=fun σ H Q=>td σ H fun x H1=>∃a,x= .ref a∧R7 H1 a∧ty σ H1 fun y H2=>∃kvs k v,H2 a=some (.dK kvs)∧y=kV k∧fS kvs k=some v∧Q v (upd H2 a (.dK (vG kvs k)))
section
variable{X:Cx}{o e f:Expr}{apos dX:Pos}{td ty tx:TE}
def wO (hu:X.A.units+1<cLine)(ho:PE X o td)(he:PE X e ty)(hf:PE X f tx)(m:M2 X o "get" apos e f dX):PE X (.Call (.Attribute o "get" apos) [e,f] [] dX) (RR td ty tx):=by
 intro pins s σ H Q I h;refine qy m.base m.UJ m.line qD G' PySem.F.type_dict_get (cS (ho pins s σ H _ I h) fun u s1 ⟨x,H1,I1,rx,a,ex,d,q1⟩=>?_);subst ex;obtain rfl:u=Value.ref a:=rx;obtain⟨t1,t2,_⟩:=GD I1 d;refine⟨t1,t2,?_⟩;rw[m.trees];refine yf rfl (Cz (j6 (cS (he pins s1 σ H1 _ I1 q1) fun iv s2 ⟨y,H2,I2,ry,q2⟩=>
  j6 (cS (hf pins s2 σ H2 _ I2 q2) fun fv s3 ⟨z,H3,I3,rz,ov,g,q3⟩=>nO ?_))))
 exact QH hu I3 g ry rz fun w' s4 I4 B2=>⟨_,H3,I4,B2,q3⟩
def yx (ho:PE X o td)(he:PE X e ty)(m:M1 X o "pop" apos e dX):PE X (.Call (.Attribute o "pop" apos) [e] [] dX) (Qe td ty):=by
 intro pins s σ H Q I h;refine qy m.base m.UJ m.line qD PySem.F.slot_dict_pop PySem.F.type_dict_pop (cS (ho pins s σ H _ I h) fun u s1 ⟨x,H1,I1,rx,a,ex,d,q1⟩=>?_);subst ex;obtain rfl:u=Value.ref a:=rx;obtain⟨t1,t2,_⟩:=GD I1 d;refine⟨t1,t2,?_⟩;rw[m.trees];refine yf rfl (Cz (j6 (cS (he pins s1 σ H1 _ I1 q1) fun iv s2 ⟨y,H2,I2,ry,kvs,k,v,ea,ey,l,q2⟩=>nO ?_)));subst ey;exact T3 I2 ea ry l (.inl rfl) fun w' s3 I3 B2=>⟨v,_,I3,B2,q2⟩
end
section
variable{X:Cx}
theorem Ik:∀{ps:List Addr} {us:List Value},Vals (ps.map V.ref) us→us=ps.map Value.ref
 | [],us,r=>by
  rw[om]at r;cases r;rfl
 | p::ps,us,r=>by
  rw[bF]at r;cases r with
  | cons h t=>
   cases h;rw[bF,←Ik t]
end
section
variable{X:Cx}{pins:List (Addr×Obj)}{σ:St}{H:Hp}{s:Shared}{h':Heap}
def Inv.Nz {t':Nat}{ch:List Addr}(I:Inv X pins σ H s)(k:∀b o,b∉ch→s.heap.get? b=some o→h'.get? b=some o)(hf:∀b∈ch,vT X pins H b):Inv X pins σ H {s with heap:=h',toks:=t'}:=by
 have Yz:∀b u,H b=some u→b∉ch:=fun b u e z=>by
  have q:=(hf b z).1;simp_all
 refine I.step (g':=s.gens) (d':=s.drawn) (ch:=ch) (fun b hb=>⟨(hf b hb).2.2.2.1,(hf b hb).2.1,(hf b hb).2.2.2.2.1,(hf b hb).2.2.2.2.2⟩) (fun b o _ _ hc e _=>k b o hc e) (fun b o _ _ hc e _=>⟨o.slots,k b o hc e⟩)
  (fun _ _ _ _ n=>n) (fun b o hc e=>⟨o,k b o hc e⟩) (fun _ _ e=>e) (fun _ _ _ e=>e) (fun b ps e=>⟨#[],by rw[e];rfl⟩) (fun m hm=>?_) (fun b u e=>?_) I.bare
 ·obtain⟨o,es,ep,ho,r⟩:=hm;exact⟨o,es,ep,k _ o (fun z=>(hf _ z).2.1 rfl) ho,r⟩
 refine(I.b9 b u e).aF (fun c v hc q=>k c v ?_ q) (fun _ q=>q) fun _ _ q=>q;grind
def Inv.AN {t':Nat}{ch:List Addr}{T:Addr}{ob:HO}(I:Inv X pins σ H s)(k:∀b o,b∉ch→s.heap.get? b=some o→h'.get? b=some o)(hf:∀b∈ch,vT X pins H b)(hT:s.heap.objs.size≤T)
  (new:c8 X.prog X.w (upd H T ob) h' T ob):Inv X pins σ (upd H T ob) {s with heap:=h',toks:=t'}:=by
 have hn:H T=none:=I.b9.fresh hT;have Yz:∀b u,H b=some u→b∉ch:=fun b u e z=>by
  have q:=(hf b z).1;grind
 refine I.step (g':=s.gens) (d':=s.drawn) (ch:=ch) (fun b hb=>⟨(hf b hb).2.2.2.1,(hf b hb).2.1,(hf b hb).2.2.2.2.1,(hf b hb).2.2.2.2.2⟩) (fun b o _ _ hc e _=>k b o hc e) (fun b o _ _ hc e _=>⟨o.slots,k b o hc e⟩)
  (fun b o _ e n=>?_) (fun b o hc e=>⟨o,k b o hc e⟩) (fun b xs e=>?_) (fun b o u e=>?_) (fun b ps e=>⟨#[],?_⟩) (fun m hm=>?_) (fun b u e=>?_) I.bare
 rw[ah (cC (fH (bb e) hT))];exact n;grind[ah];grind[ah];grind[ah]
 ·obtain⟨o,es,ep,ho,r⟩:=hm;exact⟨o,es,ep,k _ o (fun z=>(hf _ z).2.1 rfl) ho,r⟩
 by_cases hb:b=T;simp_all[af];rw[ah hb]at e;refine(I.b9 b u e).aF (fun c v hc q=>k c v ?_ q) (fun c q=>by rw[ah (aP q hn)];exact q) fun c xs q=>by rw[ah (aP q hn)];exact q
 grind
def Inv.lock {d:Addr}{u:HO}(I:Inv X pins σ H s)(h:H d=some u)(mu:NY (some u)):∃od,Inv X pins σ (upd H d (.eS od u)) s:=by
 have x:=I.b9 d u h;have ex:∃od,s.heap.get? d=some od:=by
  cases u with
  | lst xs=>obtain⟨_,_,_,_,e⟩:=x;exact⟨_,e⟩
  | dK kvs=>obtain⟨_,_,_,_,o,_,_,e,_⟩:=x;exact⟨o,e⟩
  | dT kvs=>obtain⟨_,_,_,_,o,_,_,e,_⟩:=x;exact⟨o,e⟩
  | set S n=>obtain⟨o,_,_,_,e,_⟩:=x;exact⟨o,e⟩
  | ins C dx fs=>obtain⟨_,_,_,e,_⟩:=x;exact⟨_,e⟩
  | ext φ=>obtain⟨_,⟨_,e⟩,_⟩:=x;exact⟨_,e⟩
  | _=>exact False.elim mu
 obtain⟨od,e⟩:=ex;have new:c8 X.prog X.w (upd H d (.eS od u)) s.heap d (.eS od u):=by
  refine⟨e,x.aF (fun b v _ q=>q) (fun b q=>?_) fun b xs q=>?_⟩;rw[ah (fun z=>by rw[z,h]at q;cases q;exact mu)];exact q;rw[ah (fun z=>by rw[z,h]at q;cases q;exact mu)];exact q
 exact⟨od,I.write (x:=d) (e:=d) (t':=s.toks) (h':=s.heap) (by rw[h];exact mu) (.inl rfl) (fun b v _ q=>q) ⟨od,e⟩ new⟩
def Inv.DK {d:Addr}{u:HO}(I:Inv X pins σ H s)(h:H d=some u)(mu:NY (some u)):∀o' u',X.Rg d≠some (.eS o' u'):=fun o' u' e=>by
 have q:=I.base.yF d o' u' e;rw[h]at q;cases q;exact mu
def Inv.unlock {d:Addr}{od:Obj}{u:HO}(I:Inv X pins σ H s)(h:H d=some (.eS od u))(hn:∀o' u',X.Rg d≠some (.eS o' u')):Inv X pins σ (upd H d u) s:=by
 have RY:∀b o,H b=some o→(∀o' u',o≠ .eS o' u')→b≠d:=fun b o e eP z=>by grind
 have neN:∀b,H b=none→b≠d:=fun b e z=>by rw[z,h]at e;cases e
 refine⟨I.ok,I.os,I.bare,⟨I.base.keep,I.base.slot,fun b o e n hx=>?_,I.base.there,fun b xs e=>?_,fun b o x e=>?_,fun b ps e=>?_⟩,I.loc,I.cell,?_,fun x c e=>?_,fun p hp=>?_,fun b o e=>?_,I.len⟩;rw[ah (neN b (I.base.free b o e n hx))];exact I.base.free b o e n hx
 ·have q:=I.base.zb b xs e;rw[ah (RY b _ q (fun _ _ z=>nomatch z))];exact q
 ·have q:=I.base.yF b o x e;rw[ah (fun z=>by rw[z]at e;exact hn _ _ e)];exact q
 ·obtain⟨m,q⟩:=I.base.zt b ps e;exact⟨m,by rw[ah (RY b _ q (fun _ _ z=>nomatch z))];exact q⟩
 rw[ah (neN _ I.free)];exact I.free;rw[ah (neN c (I.km x c e))];exact I.km x c e
 ·obtain⟨e,n,r⟩:=I.pin p hp;exact⟨e,by rw[ah (neN _ n)];exact n,r⟩
 by_cases hb:b=d
 ·rw[hb,af]at e;cases e;rw[hb];obtain⟨_,x⟩:=I.b9 d _ h;exact x.aF (fun c v _ q=>q) (fun c q=>by rw[ah (RY c _ q (fun _ _ z=>nomatch z))];exact q) fun c xs q=>by rw[ah (RY c _ q (fun _ _ z=>nomatch z))];exact q
 rw[ah hb]at e;exact(I.b9 b o e).aF (fun c v _ q=>q) (fun c q=>by rw[ah (RY c _ q (fun _ _ z=>nomatch z))];exact q) fun c xs q=>by rw[ah (RY c _ q (fun _ _ z=>nomatch z))];exact q
end
def Kw (t:TS):TS:=fun D σ H=>∃d u,H d=some u∧NY (some u)∧∀od,t ⟨fun σ' H'=>H' d=some (.eS od u)∧D.nx σ' (upd H' d u),fun v H'=>H' d=some (.eS od u)∧D.rt v (upd H' d u),fun σ' H'=>H' d=some (.eS od u)∧D.bk σ' (upd H' d u),fun σ' H'=>H' d=some (.eS od u)∧D.ct σ' (upd H' d u)⟩ σ (upd H d (.eS od u))
def nM (t:TE):TE:=fun σ H Q=>∃d u,H d=some u∧NY (some u)∧∀od,t σ (upd H d (.eS od u)) fun v H'=>H' d=some (.eS od u)∧Q v (upd H' d u)
section
variable{X:Cx}
def iJ {st:Stmt}{t:TS}(h:PS X st t):PS X st (Kw t):=by
 intro pins s σ H D I hw;obtain⟨d,u,hd,mu,hw⟩:=hw;obtain⟨od,I1⟩:=I.lock hd mu;refine cS (h pins s σ _ _ I1 (hw od)) fun f s1 q=>?_;cases f with
 | next=>obtain⟨σ',H',I2,e,q⟩:=q;exact⟨σ',_,I2.unlock e (I.DK hd mu),q⟩
 | brk=>obtain⟨σ',H',I2,e,q⟩:=q;exact⟨σ',_,I2.unlock e (I.DK hd mu),q⟩
 | cont=>obtain⟨σ',H',I2,e,q⟩:=q;exact⟨σ',_,I2.unlock e (I.DK hd mu),q⟩
 | ret v=>obtain⟨x,σ',H',I2,r,e,q⟩:=q;exact⟨x,σ',_,I2.unlock e (I.DK hd mu),r,q⟩
def sf {e:Expr}{t:TE}(h:PE X e t):PE X e (nM t):=by
 intro pins s σ H Q I hw;obtain⟨d,u,hd,mu,hw⟩:=hw;obtain⟨od,I1⟩:=I.lock hd mu;refine cS (h pins s σ _ _ I1 (hw od)) fun v s1 ⟨x,H1,I2,r,e2,q⟩=>?_;exact⟨x,_,I2.unlock e2 (I.DK hd mu),r,q⟩
def Bb {tg:Expr}{pins:List (Addr×Obj)}{σ:St}{H:Hp}{s:Shared}{R:It→Hp→Prop}{J:It}{tn:Nat→Heap→Prop}{tk:Nat}(I:Inv X pins σ H s)(o:Obj)
  (T:Turn X.prog X.w X.K tg J [s.heap.objs.size] s.heap.objs.size tn) (st:tn 0 (s.heap.push o)) (q:R J H):UY X pins σ tg R (.ref s.heap.objs.size) {s with heap:=s.heap.push o,toks:=tk}:=by
 refine⟨s.heap.objs.size,[s.heap.objs.size],tn,J,H,rfl,I.kept fun b ob e=>bB _ e,T,st,fun b hb=>?_,q⟩;have e:b=s.heap.objs.size:=by simpa using hb
 subst e;exact I.Nf (bo _) (I.b9.fresh (bo _))
end
section
variable{prog:Program}{w:World}{A:Around}{E:Value→Shared→Prop}{s:Shared}
def AU {d:Addr}{o:Obj}{es:Array DictEntry}{ep:Nat}{Q:Value→Shared→Prop}(hd:(d==sysModules)=false)(ho:s.heap.get? d=some o)(hc:o.ExactDict)(TY:o.data= .dict es ep)
  (hQ:Q (.ref s.heap.objs.size) {s with heap:=s.heap.push {cls:= .type "dict_keyiterator",data:= .fields #[.ref d,.int 0 0,.int es.size 0,.int ep 0]}}):
  wpAny (model prog w) A (pyIter (.ref d)) Q E s:=by
 have hT:s.TypeIs (.ref d) "dict" :=⟨o,ho,hc.1⟩;refine wpAny_pyIter_slot hT F.slot_dict_iter (lX F.slot_dict_iter hT F.entry_dict_iter ?_ (F.args_dict_iter_1 _));unfold Builtin.«dict.__iter__»;refine aq ?_;unfold Builtin.Dict.dictSlotNone;refine aq (wpAny_notOrdered_dict hT ?_);show wpAny _ _ (pure (Value.ref d)) _ _ s;refine aL ?_;show wpAny _ _ (Builtin.Dict.showsAll d >>=_) _ _ s;unfold Builtin.Dict.showsAll;rw[ak (by rw[hd];exact fg)];refine aq (aL ?_);refine aq (Fg ho TY ?_);refine aq (wpAny_dictEpoch ho TY ?_);refine aq (tX (aL ⟨_,rfl,"dict_keyiterator",_,⟨_,bU _ rfl,rfl⟩,uH.lookup,?_⟩));simpa [rawInt]using hQ
def zA {it d:Addr}{i n ep:Nat}{od:Obj}{es:Array DictEntry}{en:DictEntry}{Q:Option Value→Shared→Prop}(hit:s.heap.IsKeyIter it d i n ep)(Dj:s.heap.get? d=some od)(Us:od.data= .dict es ep)
  (hsz:es.size=n) (hx:es[i]? =some en) (hQ:∀h',h'.IsKeyIter it d (i+1) n ep→Heap.SameBut it s.heap h'→Q (some en.key) {s with heap:=h'}):wpAny (model prog w) A (pyNext (.ref it)) Q E s:=by
 obtain⟨o,ho,hc,hd⟩:=id hit;unfold pyNext;refine aq (Bn (xq (name:=Str.ofString "__next__") hit.typeIs uH
  (lX uH hit.typeIs F.entry_dict_keyiterator_next ?_ (Mi _))))
 refine aq (aL ?_);refine aq ?_;refine aq ?_
 first|refine aq (BL hit.typeIs (aL ?_))|refine aq (wpAny_typeNameOf_keyiter hit.typeIs (aL ?_))
 refine aq (wpAny_fieldsOf ho hd ?_);have PU:Builtin.Dict_items.ownsTuple "dict_keyiterator" =false:=by decide
 rw[PU,ak fg];show wpAny _ _ (if(Value.ref d==Value.none)=true then _ else _) _ _ s;rw[ak (show ¬((Value.ref d==Value.none)=true)from fg)];refine aq (aL ?_);refine aq (Fg Dj Us ?_);rw[ak (by rw[hsz];simp)];refine aq (aL ?_);refine aq (wpAny_dictEpoch Dj Us ?_);rw[ak (by simp)];refine aL ?_;obtain⟨hlt',Sq⟩:=Array.getElem?_eq_some_iff.mp hx;have e:(if(i:Int)<0 then none else es[(i:Int).toNat]?)=some es[i]:=by rw[ak (by lia)];exact Array.getElem?_eq_getElem hlt'
 dsimp only;rw[e];refine aq ?_
 first|refine aq (BL hit.typeIs (aL ?_))|refine aq (wpAny_typeNameOf_keyiter hit.typeIs (aL ?_))
 refine aq (wpAny_isOneOf_keyiter hit.typeIs ?_);show wpAny _ _ (setField (.ref it) 1 (rawInt ((i:Int)+1)) >>=_) _ _ s;refine aq (Bm ho hd (by simp) ?_);have Sm:(s.heap.update it (Obj.mapFields (·.setIfInBounds 1 (rawInt ((i:Int)+1))))).IsKeyIter it d (i+1) n ep:=
  ⟨_,ra _ ho (Obj.isFreed_of_fields (B' hd _)),(Obj.cls_mapFields ..).trans hc,by rw[B' hd];rfl⟩
 refine aq (qT ?_);refine aq (wpAny_isOneOf_keyiter (s:={s with heap:=s.heap.update it (Obj.mapFields (·.setIfInBounds 1 (rawInt ((i:Int)+1))))}) Sm.typeIs ?_);show wpAny _ _ (pure es[i].key) _ _ _;rw[Sq];exact aL (aL ⟨_,rfl,aL (hQ _ Sm (BI ..))⟩)
def r9 {it d:Addr}{i n ep:Nat}{od:Obj}{es:Array DictEntry}{Q:Option Value→Shared→Prop}(hh:A.handled=none)(hit:s.heap.IsKeyIter it d i n ep)(Dj:s.heap.get? d=some od)(Us:od.data= .dict es ep)
  (hsz:es.size=n) (QJ:n≤i) (hQ:∀h',Heap.ExtBut it s.heap h'→Q none {s with heap:=h'}):wpAny (model prog w) A (pyNext (.ref it)) Q E s:=by
 obtain⟨o,ho,hc,hd⟩:=id hit;unfold pyNext;refine aq (Bn (xq (name:=Str.ofString "__next__") hit.typeIs uH
  (lX uH hit.typeIs F.entry_dict_keyiterator_next ?_ (Mi _))))
 refine aq (aL ?_);refine aq ?_;refine aq ?_
 first|refine aq (BL hit.typeIs (aL ?_))|refine aq (wpAny_typeNameOf_keyiter hit.typeIs (aL ?_))
 refine aq (wpAny_fieldsOf ho hd ?_);have PU:Builtin.Dict_items.ownsTuple "dict_keyiterator" =false:=by decide
 rw[PU,ak fg];show wpAny _ _ (if(Value.ref d==Value.none)=true then _ else _) _ _ s;rw[ak (show ¬((Value.ref d==Value.none)=true)from fg)];refine aq (aL ?_);refine aq (Fg Dj Us ?_);rw[ak (by rw[hsz];simp)];refine aq (aL ?_);refine aq (wpAny_dictEpoch Dj Us ?_);rw[ak (by simp)];refine aL ?_;have hge':es.size≤i:=by rw[hsz];exact QJ
 have e:(if(i:Int)<0 then none else es[(i:Int).toNat]?)=none:=by rw[ak (by omega)];exact Array.getElem?_eq_none hge'
 dsimp only;rw[e];refine aq ?_
 first|refine aq (BL hit.typeIs (aL ?_))|refine aq (wpAny_typeNameOf_keyiter hit.typeIs (aL ?_))
 show wpAny _ _ (setField (.ref it) 0 .none >>=_) _ _ s;refine aq (Bm ho hd (by simp) ?_);show wpAny _ _ (newExc (.type "StopIteration") [] >>=_) _ _ _;refine aq ?_;simp only[newExc,newTuple];refine aq (tX ?_ (by size_fits));refine aq (m:=firstArgMember _ _) (wpAny_of_eq (a:=Value.none) (by first|rfl|(simp only[firstArgMember];rfl)) ?_);refine tX ?_ (by size_fits);simp only[raiseNew];refine aq (wpAny_handled ?_);rw[show A.in1.handled=none from hh];refine aq (aL (wpAny_throw ?_));refine aq (GA (T:="StopIteration") (b:=true) ⟨_,bU _ rfl,rfl⟩ isSubtype_stop ?_);exact aL (hQ _ (((BI ..).extBut.push _).push _))
end
def FD {κ:Type}{kvs:List (κ×V)}{vs:List (κ×Value)}(h:KV kvs vs):∀{i:Nat} {k:κ} {v:V},kvs[i]? =some (k,v)→∃u,vs[i]? =some (k,u)∧RelV v u:=by
 unfold KV at h
 induction h with
 | nil=>intro i k v e;simp at e
 | @cons a b l₁ l₂ r t ih=>grind -order
def cT {α β:Type}{G:α→β→Prop}{l₁:List α}{l₂:List β}(h:Paired G l₁ l₂):∀{i:Nat} {a:α},l₁[i]? =some a→∃b,l₂[i]? =some b∧G a b:=by
 induction h with
 | nil=>intro i a e;simp at e
 | @cons a b l₁ l₂ r t ih=>grind -order
def y6 {k:Key}{u:Value}(h:qi k u=true):RelV (kV k) u:=by
 rcases cX h with⟨i,t,rfl,rfl⟩|⟨x,t,rfl,rfl⟩;exact⟨t,rfl⟩;exact⟨t,rfl⟩
section
variable{X:Cx}{pins:List (Addr×Obj)}{σ:St}{H:Hp}{s:Shared}{d:Addr}{o:Obj}
def Inv.Bf {kvs:List (Key×V)}(I:Inv X pins σ H s)(h:H d=some (.eS o (.dK kvs))):
  (d==sysModules)=false∧s.heap.get? d=some o∧o.ExactDict∧∃(es:Array DictEntry) (ep:Nat) (vs:List (Key×Value)),o.data= .dict es ep∧es.size=kvs.length∧KV kvs vs∧s.heap.DictAt (bw X.prog X.w) d vs ep:=by
 obtain⟨hd,z,hs,vs,kv,o',es,ep,ho,hx,o_,r⟩:=I.b9 d _ h;rw[hd]at ho;cases ho;refine⟨hs,hd,hx,es,ep,vs,o_,?_,kv,o,es,hd,hx,o_,r⟩;have l1:=r.2.1.length;have l2:kvs.length=vs.length:=bZ kv;rw[FL]at l1;lia
def Inv.QI {kvs:List (List Key×V)}(I:Inv X pins σ H s)(h:H d=some (.eS o (.dT kvs))):
  (d==sysModules)=false∧s.heap.get? d=some o∧o.ExactDict∧∃(es:Array DictEntry) (ep:Nat),o.data= .dict es ep∧es.size=kvs.length∧
   ∀(i:Nat) (k:List Key) (v:V),kvs[i]? =some (k,v)→∃(en:DictEntry) (q:Addr),es[i]? =some en∧en.key= .ref q∧H q=some (.tup (k.map kV)):=by
 obtain⟨hd,z,hs,xs,pr,o',es,ep,ho,hx,o_,he,_⟩:=I.b9 d _ h;rw[hd]at ho;cases ho;refine⟨hs,hd,hx,es,ep,o_,?_,fun i k v e=>?_⟩
 ·have l1:es.size=xs.length:=size_of_entries he;have l2:kvs.length=xs.length:=bZ pr;lia
 obtain⟨b,hb,e1,e2,_⟩:=cT pr e;have q:=entry_at he i;rw[hb]at q;exact⟨_,b.2.1,q,rfl,e2⟩
end
def XN (d:Addr)(o:Obj)(kvs:List (Key×V)):It:=
 ⟨fun i H=>H d=some (.eS o (.dK kvs))∧i<kvs.length,fun i H x H'=>H'=H∧∃k v,kvs[i]? =some (k,v)∧x=kV k,fun i H=>H d=some (.eS o (.dK kvs))∧kvs.length≤i⟩
def T7 (d:Addr)(o:Obj)(kvs:List (List Key×V)):It:=
 ⟨fun i H=>H d=some (.eS o (.dT kvs))∧i<kvs.length,fun i H x H'=>H'=H∧∃(k:List Key) (v:V) (q:Addr),kvs[i]? =some (k,v)∧x= .ref q∧H q=some (.tup (k.map kV)),fun i H=>H d=some (.eS o (.dT kvs))∧kvs.length≤i⟩
def Yo (d:Addr)(o:Obj)(kvs:List (Key×V)):It:=
 ⟨fun i H=>H d=some (.eS o (.dK kvs))∧i<kvs.length,fun i H x H'=>H'=H∧∃k,kvs[i]? =some (k,x),fun i H=>H d=some (.eS o (.dK kvs))∧kvs.length≤i⟩
def Yn (d:Addr)(o:Obj)(kvs:List (Key×V)):It:=
 ⟨fun i H=>H d=some (.eS o (.dK kvs))∧i<kvs.length,fun i H x H'=>∃T k v,kvs[i]? =some (k,v)∧x= .ref T∧H T=none∧H'=upd H T (.tup [kV k,v]),fun i H=>H d=some (.eS o (.dK kvs))∧kvs.length≤i⟩
def jL {o:Obj}{es Hs:Array DictEntry}{ep Iu:Nat}(h:o.data= .dict es ep)(h':o.data= .dict Hs Iu):Hs=es∧Iu=ep:=by simp_all
section
variable{P:Program}{w:World}{K:Frag}{tg:Expr}{d:Addr}{o:Obj}{es:Array DictEntry}{ep:Nat}
def IP {kvs:List (Key×V)}(it:Addr)(Dj:o.data= .dict es ep):Turn P w K tg (XN d o kvs) [it] it (fun i h=>h.IsKeyIter it d i kvs.length ep)where
 mem:=by simp
 obj:=fun i h st b hb=>by
  have e:b=it:=by simpa using hb
  subst e;obtain⟨oi,e,c,dd⟩:=st;simp_all
 keep:=fun i h h' st k=>st.at fun oi e=>k it (by simp) oi e
 item:=by
  intro X hP hw hK hc i pins s σ H E I hf st hg;subst hP hw hK;obtain⟨hd,hi⟩:=hg;obtain⟨f0,f1,f2,f3,f4,f5⟩:=hf it (by simp);obtain⟨hs,Fe,hx,Hs,Iu,vs,o_,hsz,kv,hm⟩:=I.Bf hd;obtain⟨rfl,rfl⟩:=jL Dj o_;obtain⟨⟨k,v⟩,yo⟩:∃p,kvs[i]? =some p:=⟨kvs[i],vc hi⟩;obtain⟨u,hu,ru⟩:=FD kv yo;have hl:kvs.length=vs.length:=bZ kv;rw[hl]at st;refine wpAny_pyNext_dict_item st hm hu fun key h' Gm IZ sb=>?_;have I1:Inv X pins σ H {s with heap:=h'}:=I.turned (t':=s.toks) (fun b ob hb e=>(sb.2 b hb).trans e) f0 f1 f3 f4 f5;obtain⟨oi,e,c,dd⟩:=id IZ;refine⟨key,rfl,HK (s:={s with heap:=h'}) e c dd (by decide) ⟨kV k,H,I1,y6 (show qi k key=true from Gm),⟨rfl,k,v,yo,rfl⟩,?_,fun b hb=>(hf b hb).1⟩⟩;simp_all
 done:=by
  intro X hP hw hK hc i pins s σ H E I hf st hg;subst hP hw hK;obtain⟨hd,hi⟩:=hg;obtain⟨f0,f1,f2,f3,f4,f5⟩:=hf it (by simp);obtain⟨hs,Fe,hx,Hs,Iu,vs,o_,hsz,kv,hm⟩:=I.Bf hd;obtain⟨rfl,rfl⟩:=jL Dj o_;exact r9 (I.ok.hd hc) st Fe o_ hsz hi fun h' eb=>⟨rfl,I.turned (t':=s.toks) (fun b ob hb e=>eb b ob hb e) f0 f1 f3 f4 f5⟩
 self:=fun A i s Q E st h=>wpAny_pyIter_keyiter st h
def G8 {kvs:List (List Key×V)}(it:Addr)(Dj:o.data= .dict es ep):Turn P w K tg (T7 d o kvs) [it] it (fun i h=>h.IsKeyIter it d i kvs.length ep)where
 mem:=by simp
 obj:=fun i h st b hb=>by
  have e:b=it:=by simpa using hb
  subst e;obtain⟨oi,e,c,dd⟩:=st;simp_all
 keep:=fun i h h' st k=>st.at fun oi e=>k it (by simp) oi e
 item:=by
  intro X hP hw hK hc i pins s σ H E I hf st hg;subst hP hw hK;obtain⟨hd,hi⟩:=hg;obtain⟨f0,f1,f2,f3,f4,f5⟩:=hf it (by simp);obtain⟨hs,Fe,hx,Hs,Iu,o_,hsz,ent⟩:=I.QI hd;obtain⟨rfl,rfl⟩:=jL Dj o_;obtain⟨⟨k,v⟩,yo⟩:∃p,kvs[i]? =some p:=⟨kvs[i],vc hi⟩;obtain⟨en,q,Sq,Gm,hq⟩:=ent i k v yo;refine zA st Fe o_ hsz Sq fun h' IZ sb=>?_;have I1:Inv X pins σ H {s with heap:=h'}:=I.turned (t':=s.toks) (fun b ob hb e=>(sb.2 b hb).trans e) f0 f1 f3 f4 f5;obtain⟨oi,e,c,dd⟩:=id IZ;exact⟨en.key,rfl,HK (s:={s with heap:=h'}) e c dd (by decide) ⟨.ref q,H,I1,Gm,⟨rfl,k,v,q,yo,rfl,hq⟩,IZ,fun b hb=>(hf b hb).1⟩⟩
 done:=by
  intro X hP hw hK hc i pins s σ H E I hf st hg;subst hP hw hK;obtain⟨hd,hi⟩:=hg;obtain⟨f0,f1,f2,f3,f4,f5⟩:=hf it (by simp);obtain⟨hs,Fe,hx,Hs,Iu,o_,hsz,ent⟩:=I.QI hd;obtain⟨rfl,rfl⟩:=jL Dj o_;exact r9 (I.ok.hd hc) st Fe o_ hsz hi fun h' eb=>⟨rfl,I.turned (t':=s.toks) (fun b ob hb e=>eb b ob hb e) f0 f1 f3 f4 f5⟩
 self:=fun A i s Q E st h=>by
  refine wpAny_pyIter_slot st.typeIs F.slot_dict_keyiterator_iter (lX F.slot_dict_keyiterator_iter st.typeIs F.entry_dict_keyiterator_iter ?_ (F.args_dict_keyiterator_iter_1 _));show wpAny _ _ (ret (.ref it)) _ _ s;exact aL ⟨_,rfl,"dict_keyiterator",_,st.typeIs,uH.lookup,h⟩
def Jb {kvs:List (Key×V)}(it:Addr)(Dj:o.data= .dict es ep):Turn P w K tg (Yo d o kvs) [it] it (fun i h=>h.IsValIter it d i kvs.length ep)where
 mem:=by simp
 obj:=fun i h st b hb=>by
  have e:b=it:=by simpa using hb
  subst e;obtain⟨oi,e,c,dd⟩:=st;simp_all
 keep:=fun i h h' st k=>st.at fun oi e=>k it (by simp) oi e
 item:=by
  intro X hP hw hK hc i pins s σ H E I hf st hg;subst hP hw hK;obtain⟨hd,hi⟩:=hg;obtain⟨f0,f1,f2,f3,f4,f5⟩:=hf it (by simp);obtain⟨hs,Fe,hx,Hs,Iu,vs,o_,hsz,kv,hm⟩:=I.Bf hd;obtain⟨rfl,rfl⟩:=jL Dj o_;obtain⟨⟨k,v⟩,yo⟩:∃p,kvs[i]? =some p:=⟨kvs[i],vc hi⟩;obtain⟨u,hu,ru⟩:=FD kv yo;have hl:kvs.length=vs.length:=bZ kv;rw[hl]at st;refine wpAny_pyNext_values_item st hm hu fun h' IZ sb=>?_;have I1:Inv X pins σ H {s with heap:=h'}:=I.turned (t':=s.toks) (fun b ob hb e=>(sb.2 b hb).trans e) f0 f1 f3 f4 f5;obtain⟨oi,e,c,dd⟩:=id IZ;refine⟨u,rfl,HK (s:={s with heap:=h'}) e c dd (by decide) ⟨v,H,I1,ru,⟨rfl,k,yo⟩,?_,fun b hb=>(hf b hb).1⟩⟩;simp_all
 done:=by
  intro X hP hw hK hc i pins s σ H E I hf st hg;subst hP hw hK;obtain⟨hd,hi⟩:=hg;obtain⟨f0,f1,f2,f3,f4,f5⟩:=hf it (by simp);obtain⟨hs,Fe,hx,Hs,Iu,vs,o_,hsz,kv,hm⟩:=I.Bf hd;obtain⟨rfl,rfl⟩:=jL Dj o_;have hl:kvs.length=vs.length:=bZ kv;rw[hl]at st;exact wpAny_pyNext_values_end (I.ok.hd hc) st hm (HA (by lia)) fun h' eb=>⟨rfl,I.turned (t':=s.toks) (fun b ob hb e=>eb b ob hb e) f0 f1 f3 f4 f5⟩
 self:=fun A i s Q E st h=>wpAny_pyIter_valiter st h
def GY {kvs:List (Key×V)}{elts:List Expr}{kk:Nat}{tW:Pos}(it:Addr)(Dj:o.data= .dict es ep):
  Turn P w K (.Tuple elts kk tW) (Yn d o kvs) [it] it (fun i h=>∃ok ov,IsItemIter h it d i kvs.length ep ok ov)where
 mem:=by simp
 obj:=fun i h st b hb=>by grind
 keep:=fun i h h' st k=>let⟨ok,ov,e⟩:=st;⟨ok,ov,k it (by simp) _ e⟩
 item:=by
  intro X hP hw hK hc i pins s σ H E I hf st hg;subst hP hw hK;obtain⟨hd,hi⟩:=hg;obtain⟨hs,Fe,hx,Hs,Iu,vs,o_,hsz,kv,hm⟩:=I.Bf hd;obtain⟨rfl,rfl⟩:=jL Dj o_;obtain⟨⟨k,v⟩,yo⟩:∃p,kvs[i]? =some p:=⟨kvs[i],vc hi⟩;obtain⟨u,hu,ru⟩:=FD kv yo;have hl:kvs.length=vs.length:=bZ kv;obtain⟨ok,ov,he⟩:=st;rw[hl]at he;have lu:it<s.heap.objs.size:=bb he;refine wpAny_pyNext_items_item he hm hu fun key h' Gm ho hT hz hk=>?_;refine⟨_,rfl,wpAny_letOwnedTupleGo_items (s:={s with heap:=h'}) ho fun O0 he' sb=>?_⟩;have hT2:O0.get? s.heap.objs.size=some {cls:= .type "tuple",data:= .seq #[key,u]}:=(sb.2 _ (uC lu)).trans hT;have new:c8 X.prog X.w (upd H s.heap.objs.size (.tup [kV k,v])) O0 s.heap.objs.size (.tup [kV k,v]):=
   ⟨by show 2≤sizeLine;decide,[key,u],.cons (y6 (show qi k key=true from Gm)) (.cons ru .nil),⟨_,hT2,rfl,_,rfl⟩⟩
  have I1:Inv X pins σ (upd H s.heap.objs.size (.tup [kV k,v])) {s with heap:=O0}:=
   I.AN (t':=s.toks) (ch:=[it]) (fun b ob hb e=>(sb.2 b (by simpa using hb)).trans (hk b ob (by simpa using hb) e)) hf (bo _) new
  refine⟨.ref s.heap.objs.size,_,I1,rfl,⟨_,k,v,yo,rfl,I.b9.fresh (bo _),rfl⟩,⟨key,u,?_⟩,fun b hb=>?_⟩;simp_all<;>omega;have e:b=it:=by simpa using hb
  rw[e,ah (cC lu)];exact(hf it (by simp)).1
 done:=by
  intro X hP hw hK hc i pins s σ H E I hf st hg;subst hP hw hK;obtain⟨hd,hi⟩:=hg;obtain⟨f0,f1,f2,f3,f4,f5⟩:=hf it (by simp);obtain⟨hs,Fe,hx,Hs,Iu,vs,o_,hsz,kv,hm⟩:=I.Bf hd;obtain⟨rfl,rfl⟩:=jL Dj o_;have hl:kvs.length=vs.length:=bZ kv;obtain⟨ok,ov,he⟩:=st;rw[hl]at he;exact wpAny_pyNext_items_end (I.ok.hd hc) he hm (HA (by lia)) fun h' eb=>⟨rfl,I.turned (t':=s.toks) (fun b ob hb e=>eb b ob hb e) f0 f1 f3 f4 f5⟩
 self:=fun A i s Q E st h=>let⟨_,_,e⟩:=st;PySem.W.kcp_self e h
end
def Pf (td:TE):TI:=fun σ H R=>td σ H fun x H1=>∃d o,x= .ref d∧((∃kvs,H1 d=some (.eS o (.dK kvs))∧R (XN d o kvs) H1)∨∃kvs,H1 d=some (.eS o (.dT kvs))∧R (T7 d o kvs) H1)
def L4 (td:TE):TI:=fun σ H R=>td σ H fun x H1=>∃d o kvs,x= .ref d∧H1 d=some (.eS o (.dK kvs))∧R (Yo d o kvs) H1
def KZ (td:TE):TI:=fun σ H R=>td σ H fun x H1=>∃d o kvs,x= .ref d∧H1 d=some (.eS o (.dK kvs))∧R (Yn d o kvs) H1
section
variable{X:Cx}{tg e:Expr}{td:TE}{apos dX:Pos}
def OA (he:PE X e td):PI X tg e (Pf td):=by
 intro pins s σ H R I h;refine cS (he pins s σ H _ I h) fun u s1 ⟨x,H1,I1,rx,d,o,ex,q⟩=>?_;subst ex;obtain rfl:u=Value.ref d:=rx;rcases q with⟨kvs,hd,q⟩|⟨kvs,hd,q⟩
 ·obtain⟨hs,Fe,hx,es,ep,vs,o_,hsz,kv,hm⟩:=I1.Bf hd;refine AU hs Fe hx o_ (Bb (tk:=s1.toks) I1 _ (IP _ o_) ⟨_,bU _ rfl,rfl,?_⟩ q);rw[hsz]<;>rfl
 obtain⟨hs,Fe,hx,es,ep,o_,hsz,ent⟩:=I1.QI hd;refine AU hs Fe hx o_ (Bb (tk:=s1.toks) I1 _ (G8 _ o_) ⟨_,bU _ rfl,rfl,?_⟩ q);rw[hsz]<;>rfl
def fb (he:PE X e td)(mV:attributeBase e "values" X.env (eval e X.env)=eval e X.env:=by rfl)(oy:(apos.endLine==dX.line)=true:=by rfl):PI X tg (.Call (.Attribute e "values" apos) [] [] dX) (L4 td):=by
 intro pins s σ H R I h;refine qy (T:="dict") (id:="dict.values") mV rfl oy qD CH F.type_dict_values (cS (he pins s σ H _ I h) fun u s1 ⟨x,H1,I1,rx,d,o,kvs,ex,hd,q⟩=>?_);subst ex;obtain rfl:u=Value.ref d:=rx;obtain⟨hs,Fe,hx,es,ep,vs,o_,hsz,kv,hm⟩:=I1.Bf hd;have hl:kvs.length=vs.length:=bZ kv;refine⟨hm.dictOf.typeIs,hm.dictOf.mapOf.noDict,?_⟩;have I2:Inv X pins σ H1 {s1 with heap:=s1.heap.push {cls:= .type "dict_values",data:= .fields #[.ref d]}}:=I1.kept (t':=s1.toks) fun b ob q=>bB _ q;have fin:wpAny (model X.prog X.w) X.A (pyIter (.ref s1.heap.objs.size)) (UY X pins σ tg R) X.xe {s1 with heap:=s1.heap.push {cls:= .type "dict_values",data:= .fields #[.ref d]}}:=by
  refine wpAny_pyIter_values (d:=d) (knd:=bw X.prog X.w) ⟨_,bU _ rfl,rfl,rfl⟩ (hm.push _) (Bb (tk:=s1.toks) I2 _ (Jb _ o_) ⟨_,bU _ rfl,rfl,?_⟩ q);rw[hl]<;>rfl
 show wpAny _ _ (callWith dX (.builtin "dict.values") [.ref d] [] []) _ X.xe s1;exact CG CH F.entry_dict_values rfl (xD ⟨rfl,hm.dictOf.typeIs,F.args_dict_values_1 _,_,meets_dict_values (bw X.prog X.w) d hs,⟨vs,hm.dictOf⟩,fin⟩)
def yX {elts:List Expr}{kk:Nat}{tW:Pos}(he:PE X e td)(mV:attributeBase e "items" X.env (eval e X.env)=eval e X.env:=by rfl)(oy:(apos.endLine==dX.line)=true:=by rfl):
  PI X (.Tuple elts kk tW) (.Call (.Attribute e "items" apos) [] [] dX) (KZ td):=by
 intro pins s σ H R I h;refine qy (T:="dict") (id:="dict.items") mV rfl oy qD CD F.type_dict_items (cS (he pins s σ H _ I h) fun u s1 ⟨x,H1,I1,rx,d,o,kvs,ex,hd,q⟩=>?_);subst ex;obtain rfl:u=Value.ref d:=rx;obtain⟨hs,Fe,hx,es,ep,vs,o_,hsz,kv,hm⟩:=I1.Bf hd;have hl:kvs.length=vs.length:=bZ kv;refine⟨hm.dictOf.typeIs,hm.dictOf.mapOf.noDict,?_⟩;have I2:Inv X pins σ H1 {s1 with heap:=s1.heap.push {cls:= .type "dict_items",data:= .fields #[.ref d]}}:=I1.kept (t':=s1.toks) fun b ob q=>bB _ q;have fin:wpAny (model X.prog X.w) X.A (pyIter (.ref s1.heap.objs.size)) (UY X pins σ (.Tuple elts kk tW) R) X.xe {s1 with heap:=s1.heap.push {cls:= .type "dict_items",data:= .fields #[.ref d]}}:=by
  refine wpAny_pyIter_items (d:=d) (knd:=bw X.prog X.w) ⟨_,bU _ rfl,rfl,rfl⟩ (hm.push _) (Bb (tk:=s1.toks) I2 _ (GY _ o_) ⟨.none,.none,?_⟩ q);rw[hl];exact bU _ rfl
 show wpAny _ _ (callWith dX (.builtin "dict.items") [.ref d] [] []) _ X.xe s1;exact CG CD F.entry_dict_items rfl (xD ⟨rfl,hm.dictOf.typeIs,F.args_dict_items_1 _,_,meets_dict_items (bw X.prog X.w) d hs,⟨vs,hm.dictOf⟩,fin⟩)
end
def Ac:bootBuiltins "zip" =some (.type "zip"):=by decide +kernel
def inClass (s:Stmt)(j:Nat):Stmt:=match s with
 | .ClassDef _ _ _ body _ _ _ _ _ _ _=>body.getD j (.Pass ⟨0,0,0,0⟩)
 | _=> .Pass ⟨0,0,0,0⟩
def f6 (s:Stmt):Arguments:=match s with
 | .FunctionDef _ a _ _ _ _ _ _ _ _=>a
 | _=>{posonlyargs:=[],args:=[],vararg:=none,kwonlyargs:=[],kw_defaults:=[],kwarg:=none,defaults:=[]}
def dP (s:Stmt):List Stmt:=match s with
 | .FunctionDef _ _ b _ _ _ _ _ _ _=>b
 | _=>[]
def aj (s:Stmt):Scope:=match s with
 | .FunctionDef _ _ _ _ _ _ sc _ _ _=>sc
 | _=>{kind:= .function,names:=[],isGenerator:=false,isCoroutine:=false}
abbrev M8:PJ:=fun _ _ _ _ _ _=>False
abbrev E0:XK:=fun _ _ _=>False
def My {X:Cx}:Passes M8 X E0:=fun _ _ _ _ _ _ _ h=>h.elim
structure Pk (K:Frag)(x qual:Str)(st:Stmt)(f:Addr)(fd:FuncData):Prop where
 ex:∃(oc:Value) (od:Option Addr) (kV doc pm:Value) (an:Option Addr) (kU ct:Value) (J6:Array (Option Value)),
  fd=fnOf x qual (f6 st) (dP st) (aj st) .none kV doc pm an kU ct∧K.lookup f=some ⟨oc,od,.func fd,J6⟩∧codeIn K kU qual=true
 kp:keepIn K (.ref f)=true
section
variable{P:Program}{w:World}{K:Frag}{mg:Str→Option Value}{base:Heap}
def Pk.ok {x qual:Str}{st:Stmt}{f:Addr}{fd:FuncData}{N ps:List Str}{k:Nat}{sp:Sp}(F:Pk K x qual st f fd)(S:aE N ps (aj st))(len:∀vs H Q E,sp vs H Q E→vs.length=ps.length)
  (sR:∀(kU:Value) (A:Around) (outer:List Env) (s:Shared) (H:Hp) (vs:List V) (Q:VK) (E:XK),fX k (A.deeper (envOfC qual (aj st) s.heap.objs.size f kU))→sp vs H Q E→
   ∃t,Fd (Ca M8 P w K mg base N qual (aj st) f kU A outer s H E).PH (dP st) t∧t {nx:=fun _ H'=>Q .gq H',rt:=Q} (start N vs) H):zi P w K mg base M8 (k+1) f fd ps sp:=by
 obtain⟨oc,od,kV,doc,pm,an,kU,ct,J6,rfl,lk,E'⟩:=F.ex;refine O8 lk E' S len fun A outer s H vs Q E hr M7=>?_;obtain⟨t,h,q⟩:=sR kU A outer s H vs Q E hr M7;exact⟨t,h.PH,q⟩
def Pk.binds {x qual:Str}{st:Stmt}{f:Addr}{fd:FuncData}{ps:List Str}(F:Pk K x qual st f fd)
  (h:∀(kV doc pm:Value) (an:Option Addr) (kU ct:Value) (us:List Value),us.length=ps.length→bindArgs (fnOf x qual (f6 st) (dP st) (aj st) .none kV doc pm an kU ct) ⟨us,[]⟩=pure (ps.zip us)):Binds K fd ps []:=by
 obtain⟨oc,od,kV,doc,pm,an,kU,ct,J6,rfl,lk,E'⟩:=F.ex;exact .all (h kV doc pm an kU ct)
def MA {x qual:Str}{st:Stmt}{f:Addr}{oc:Value}{od an:Option Addr}{J6:Array (Option Value)}{kV doc pm kU ct:Value}(l:K.lookup f=some ⟨oc,od,.func (fnOf x qual (f6 st) (dP st) (aj st) .none kV doc pm an kU ct),J6⟩)
  (c:codeIn K kU qual=true) (k:keepIn K (.ref f)=true):Pk K x qual st f (fnOf x qual (f6 st) (dP st) (aj st) .none kV doc pm an kU ct):=⟨⟨oc,od,kV,doc,pm,an,kU,ct,J6,rfl,l,c⟩,k⟩
end
def bt {A:Around}{k:Nat}(hr:fX k A):A.units+1<cLine:=fe (Nat.add_le_add_left (by decide:1≤64) _) hr.units
def Jk {n:Nat}(h:n≤1000):n<sizeLine:=fe h (by decide)
section
variable{X:Cx}
def pv (i:Nat){x:Str}{pos:Pos}(hN:X.N[i]? =some x:=by rfl)(hv:Sa X.env.scope x:=by first|exact Or.inl rfl|exact Or.inr (Or.inl rfl)|exact Or.inr (Or.inr rfl))(hd:(x==("__debug__" :Str))=false:=by decide)
  (E':(x==("__classdict__" :Str))=false:=by decide):PE X (.Name x pos) (iD i):=Qx hN hv hd E'
def t8:iF X (.builtin "len") (fun xs H Q=>∃a kvs,xs=[V.ref a]∧H a=some (.dK kvs)∧Q (.int kvs.length) H):=by
 intro pins s σ H xs us Q I r h;obtain⟨a,kvs,rfl,ha,q⟩:=h;obtain⟨u,rfl,ru⟩:=vals1 r;cases ru;exact S8 I (.inl ha) fun t s' I'=>⟨.int kvs.length,H,I',⟨t,rfl⟩,q⟩
end
def dk {A B:Prop}(h:B):if false=true then A else B:=by trivial
def cZ {A B:Prop}(h:A):if true=true then A else B:=by trivial
def b0 {c A B:Prop}[Decidable c](h1:c→A)(h2:¬c→B):if c then A else B:=by simp_all
def qW (H H':Hp):Prop:=∀b o,H b=some o→H' b=some o
def qW.seq {K:Frag}{H H':Hp}{a:Addr}{xs:List V}(e:qW H H')(h:bz K H a xs):bz K H' a xs:=by
 rcases h with(h|⟨o,h⟩)|h;exact .inl (.inl (e _ _ h));exact .inl (.inr ⟨o,e _ _ h⟩);exact .inr h
def XY {α:Type}{l:List α}(hN:l.Nodup){i j:Nat}{x:α}(a:l[i]? =some x)(b:l[j]? =some x):i=j:=by grind[List.getElem_inj]
section
variable{X:Cx}{a b:Expr}{rest:List Expr}{ta tb:TE}{pos:Pos}
def Rh (ta tb:TE):TE:=fun σ H Q=>ta σ H fun x H1=>∃i,x= .int i∧if i=0 then tb σ H1 Q else Q (.int i) H1
def FU (ha:PE X a ta)(hb:PE X (.BoolOp .Or (b::rest) pos) tb):PE X (.BoolOp .Or (a::b::rest) pos) (Rh ta tb):=by
 intro pins s σ H Q I h;refine BoolOp_or (cS (ha pins s σ H _ I h) fun v s1 ⟨x,H1,I1,r1,q1⟩=>?_);obtain⟨i,rfl,q1⟩:=q1;obtain⟨t,rfl⟩:=r1;refine PySem.P.truthy_int ?_;by_cases hi:i=0
 ·rw[aw hi]at q1;have e:(i != 0)=false:=by simp[hi]
  rw[e];exact hb pins s1 σ H1 Q I1 q1
 rw[ak hi]at q1;have e:(i != 0)=true:=by simp[hi]
 rw[e];exact⟨.int i,H1,I1,⟨t,rfl⟩,q1⟩
end
structure mq (mg:Str→Option Value)(x:Str)(v:V):Prop where
 ex:∃u,mg x=some u∧RelV v u
def aK {X:Cx}{x:Str}{v:V}{pos:Pos}(c:mq X.mg x v)(hg:Gl X x)(hd:(x==("__debug__" :Str))=false:=by decide):PE X (.Name x pos) (tC v):=by
 obtain⟨u,hm,r⟩:=c.ex;exact Ou hg hm r hd
structure Callee (P:Program)(w:World)(K:Frag)(mg:Str→Option Value)(base:Heap)(k:Nat)(x:Str)(ps:List Str)(sp:Sp):Prop where
 ex:∃(f:Addr) (fd:FuncData),mg x=some (.ref f)∧keepIn K (.ref f)=true∧Binds K fd ps []∧zi P w K mg base M8 k f fd ps sp
section
variable{X:Cx}{x:Str}{ps:List Str}{sp:Sp}{j k:Nat}{e:Expr}{es:List Expr}{t:TA}{p pos:Pos}
def aI (C:Callee X.prog X.w X.K X.mg X.base j x ps sp)(hr:fX k X.A)(ha:PA X (e::es) t)(hg:Gl X x:=by rfl)(S_:j≤k:=by decide)(Gj:(x==("__debug__" :Str))=false:=by decide)
  (he:starEach (e::es) X.env=(false,eval e X.env)::starEach es X.env:=by rfl) (iE:(backTo pos (starEach es X.env)).any (·.1)=false:=by rfl):PE X (.Call (.Name x p) (e::es) [] pos) (vC sp [] E0 t):=by
 obtain⟨f,fd,hm,hk,hb,F⟩:=C.ex;exact Oe F (hr.mono S_) hg hm hk hb .nil My ha Gj he iE
end
structure Def (K:Frag)(mg:Str→Option Value)(x:Str)(st:Stmt):Prop where
 ex:∃(f:Addr) (fd:FuncData),mg x=some (.ref f)∧Pk K x x st f fd
def w2z(p:let u:=pb b u;pb a u D σ H):=p
def w3z(p:let u:=pb c u;let u:=pb b u;pb a u D σ H):=p
def w4z(p:let u:=pb d u;let u:=pb c u;let u:=pb b u;pb a u D σ H):=p
def w5z(p:let u:=pb e u;let u:=pb d u;let u:=pb c u;let u:=pb b u;pb a u D σ H):=p
def w6z(p:let u:=pb f u;let u:=pb e u;let u:=pb d u;let u:=pb c u;let u:=pb b u;pb a u D σ H):=p
def w7z(p:let u:=pb g u;let u:=pb f u;let u:=pb e u;let u:=pb d u;let u:=pb c u;let u:=pb b u;pb a u D σ H):=p
def w8z(p:let u:=pb h u;let u:=pb g u;let u:=pb f u;let u:=pb e u;let u:=pb d u;let u:=pb c u;let u:=pb b u;pb a u D σ H):=p
def w10z(p:let u:=pb j u;let u:=pb i u;let u:=pb h u;let u:=pb g u;let u:=pb f u;let u:=pb e u;let u:=pb d u;let u:=pb c u;let u:=pb b u;pb a u D σ H):=p
def w13z(p:let u:=pb m u;let u:=pb l u;let u:=pb k u;let u:=pb j u;let u:=pb i u;let u:=pb h u;let u:=pb g u;let u:=pb f u;let u:=pb e u;let u:=pb d u;let u:=pb c u;let u:=pb b u;pb a u D σ H):=p
def w16z(p:let u:=pb q u;let u:=pb o u;let u:=pb n u;let u:=pb m u;let u:=pb l u;let u:=pb k u;let u:=pb j u;let u:=pb i u;let u:=pb h u;let u:=pb g u;let u:=pb f u;let u:=pb e u;let u:=pb d u;let u:=pb c u;let u:=pb b u;pb a u D σ H):=p
theorem vC_ {n:Nat}{p:List Value→Prop}(h:∀a l,l.length=n→p (a::l)):∀us,us.length=n+1→p us
 | a::l,e=>h a l (Nat.succ.inj e)
theorem vN_ {p:List Value→Prop}(h:p []):∀us,us.length=0→p us
 | [],_=>h
def Def.callee {P:Program}{w:World}{K:Frag}{mg:Str→Option Value}{base:Heap}{x:Str}{st:Stmt}{N ps:List Str}{k:Nat}{sp:Sp}(F:Def K mg x st)(S:aE N ps (aj st))
  (sR:∀(f:Addr) (kU:Value) (A:Around) (outer:List Env) (s:Shared) (H:Hp) (vs:List V) (Q:VK) (E:XK),fX k (A.deeper (envOfC x (aj st) s.heap.objs.size f kU))→sp vs H Q E→
   ∃t,Fd (Ca M8 P w K mg base N x (aj st) f kU A outer s H E).PH (dP st) t∧t {nx:=fun _ H'=>Q .gq H',rt:=Q} (start N vs) H) (len:∀vs H Q E,sp vs H Q E→vs.length=ps.length:=by intro _ _ _ _ h;cases h;subst_vars;rfl)(kM:∀(kV doc pm:Value) (an:Option Addr) (kU ct:Value) (us:List Value),us.length=ps.length→bindArgs (fnOf x x (f6 st) (dP st) (aj st) .none kV doc pm an kU ct) ⟨us,[]⟩=pure (ps.zip us):=by intro _ _ _ _ _ _;repeat first|exact vN_ rfl|refine vC_ fun _=>?_):Callee P w K mg base (k+1) x ps sp:=by
 obtain⟨f,fd,hm,hF⟩:=F.ex;exact⟨f,fd,hm,hF.kp,hF.binds kM,hF.ok S len fun kU A outer s H vs Q E hr h=>sR f kU A outer s H vs Q E hr h⟩
structure vm (P:Program)(w:World)(K:Frag)(mg:Str→Option Value)(base:Heap)(k:Nat)(x:Str)(C:Addr)(ps:List Str)(sp:Sp):Prop where
 ex:∃(f:Addr) (fd:FuncData),mg x=some (.ref C)∧Mk K C f∧Binds K fd ps []∧zi P w K mg base M8 k f fd ps sp
section
variable{X:Cx}{x:Str}{C:Addr}{ps:List Str}{sp:Sp}{j k:Nat}{e:Expr}{es:List Expr}{t:TA}{p pos:Pos}
def zj (Kl:vm X.prog X.w X.K X.mg X.base j x C ps sp)(hr:fX k X.A)(hg:Gl X x)(ha:PA X (e::es) t)(S_:j+1≤k:=by decide)(Gj:(x==("__debug__" :Str))=false:=by decide)
  (he:starEach (e::es) X.env=(false,eval e X.env)::starEach es X.env:=by rfl) (iE:(backTo pos (starEach es X.env)).any (·.1)=false:=by rfl):PE X (.Call (.Name x p) (e::es) [] pos) (Hm C sp [] E0 t):=by
 obtain⟨f,fd,hm,M,hb,F⟩:=Kl.ex;exact NK M F (hr.mono S_) hg hm hb .nil My ha Gj he iE
def Iy (Kl:vm X.prog X.w X.K X.mg X.base j x C ps sp)(hr:fX k X.A)(hg:Gl X x)(S_:j+1≤k:=by decide)(Gj:(x==("__debug__" :Str))=false:=by decide):PE X (.Call (.Name x p) [] [] pos) (Hm C sp [] E0 rA):=by
 obtain⟨f,fd,hm,M,hb,F⟩:=Kl.ex;exact KJ M F (hr.mono S_) hg hm hb .nil My Gj
end
def NI (l:Addr)(items:Array Value)(n:Nat)(b:Addr)(xm:Array Value)(hz:items.size+xm.size≤sizeLine):
  Meets (Builtin.«list.extend» ⟨[.ref l,.ref b],[]⟩) (fun _ R s=>s.heap.get? l=some {cls:= .type "list",data:= .seq items n}∧IsTup s.heap b xm∧
   R (.ok (.ret Value.none)) {s with heap:=s.heap.update l (Obj.mapSeq fun x=>x++xm),toks:=s.toks}):=
 .of_wp fun prog w A R s h=>by
  obtain⟨hl,⟨o,ho,hc,m,hd⟩,h⟩:=h;show wpAny _ _ (Builtin.List.listExtendWith (.ref l) (.ref b) .none) _ _ s;unfold Builtin.List.listExtendWith;refine aq (wpAny_typeOf ⟨o,ho,hc⟩ ?_);have h1:(Builtin.List.listSameRef (.ref l) (.ref b)||Value.type "tuple" ==Value.type "list" ||Value.type "tuple" ==Value.type "tuple")=true:=by simp
  simp only[h1,qF];refine aq ?_;unfold Builtin.List.listItems;refine aq (lB ho hd (aL ?_));refine aq ?_;refine aq (lB hl rfl (aL ?_));have EJ:(!items.isEmpty&&Builtin.List.listTooLong (items.size+xm.size))=false:=by
   rw[y9 hz,Bool.and_false]
  simp only[EJ,E5,jW];show wpAny _ _ (updateSeq l (·++xm) >>=fun _=>ret .none) _ _ s;refine aq (yZ hl rfl ?_ (by lia) (by rw[Array.size_append];(constructor<;>omega)));exact aL ⟨_,rfl,h⟩
def L5 (K:Frag):V→List V→Hp→VK→Prop:=fun x vs H Q=>∃l b xs zs,x= .ref l∧vs=[.ref b]∧H l=some (.lst xs)∧ju K H b zs∧xs.length+zs.length≤sizeLine∧Q .gq (upd H l (.lst (xs++zs)))
def FN {X:Cx}:U1 X "list.extend" (L5 X.K):=by
 intro pins s σ H x vs v us Q I rx rv h;obtain⟨l,b,xs,zs,rfl,rfl,hH,hB,hz,q⟩:=h;cases rx;obtain⟨u,rfl,ru⟩:=rv.one;cases ru;obtain⟨z,bp,n,r,hl,e⟩:=I.Et hH;obtain⟨uN,r2,p2,_⟩:=I.tuple hB;have Pb:=r2.length;refine uK q0 ⟨_,e,rfl⟩ F.entry_list_extend (F.args_list_extend_2 _ _) (NI l bp.toArray n b uN.toArray (by rw[cu,cu];lia)) ⟨e,p2,?_⟩;refine⟨.gq,_,I.Np (its':=bp++uN) hH e (by simp) (r.append r2) ?_,rfl,q⟩;simp_all
def c8.there {P:Program}{w:World}{H:Hp}{h:Heap}{a:Addr}{o:HO}(x:c8 P w H h a o):∃ob,h.get? a=some ob:=by
 cases o with
 | lst xs=>obtain⟨_,_,_,_,e⟩:=x;exact⟨_,e⟩
 | tup xs=>obtain⟨_,_,_,ob,e,_⟩:=x;exact⟨_,e⟩
 | dK kvs=>obtain⟨_,_,_,_,o,_,_,e,_⟩:=x;exact⟨_,e⟩
 | dT kvs=>obtain⟨_,_,_,_,o,_,_,e,_⟩:=x;exact⟨_,e⟩
 | set S n=>obtain⟨o,_,_,_,e,_⟩:=x;exact⟨_,e⟩
 | ins C dx fs=>obtain⟨_,_,_,e,_⟩:=x;exact⟨_,e⟩
 | own y=>exact x
 | xd fs=>obtain⟨_,⟨_,_,_,e,_⟩,_⟩:=x;exact⟨_,e⟩
 | QE lo hi=>obtain⟨_,_,_,e⟩:=x;exact⟨_,e⟩
 | eS ob u=>obtain⟨e,_⟩:=x;exact⟨_,e⟩
 | lQ ps=>exact⟨_,x⟩
 | met f y=>exact⟨_,x⟩
 | ext φ=>obtain⟨_,e,_⟩:=x;exact e
def mn.gone {P:Program}{w:World}{H:Hp}{h:Heap}(x:mn P w H h){a:Addr}(e:h.get? a=none):H a=none:=by
 cases q:H a with
 | none=>rfl
 | some u=>
  obtain⟨ob,z⟩:=(x a u q).there;simp_all
section
variable{X:Cx}{pins:List (Addr×Obj)}{σ:St}{H H':Hp}{s:Shared}{h':Heap}{m:Str→Option Value}
def tN (I:Inv X pins σ H s)(F:Fr X.base X.env.locals h' m)(N:News X.base X.env.locals h' (eK X.base s.heap X.env.locals)):∀b o,b≠X.env.locals→s.heap.get? b=some o→h'.get? b=some o:=fun b o hb e=>by
 cases q:X.base.get? b with
 | some u=>
  have:=I.bk b u q;rw[e]at this;cases this;exact F.keep b _ q
 | none=>exact(N (b,o) (u0 hb q e)).1
def LK (hm:s.heap.Ns X.env.locals m)(F:Fr X.base X.env.locals h' m):∀m',s.heap.Ns X.env.locals m'→h'.Ns X.env.locals m':=fun m' q=>by
 have e:m'=m:=q.eq_nsMap.trans hm.eq_nsMap.symm;rw[e];exact F.ns
def AE (hm:s.heap.Ns X.env.locals m)(F:Fr X.base X.env.locals h' m)(k:∀b o,b≠X.env.locals→s.heap.get? b=some o→h'.get? b=some o):∀b o,s.heap.get? b=some o→∃o',h'.get? b=some o':=fun b o e=>by
 by_cases hb:b=X.env.locals
 ·obtain⟨o',_,_,q,_⟩:=F.ns;simp_all
 simp_all
def D0 (I:Inv X pins σ H s)(k:∀b o,b≠X.env.locals→s.heap.get? b=some o→h'.get? b=some o){b:Addr}{u:HO}(e:H b=some u)(ho:∀c,H c=some (.own b)→H' c=some (.own b))(ht:∀c xs,H c=some (.tup xs)→H' c=some (.tup xs)):
  c8 X.prog X.w H' h' b u:=by
 refine(I.b9 b u e).aF (fun c v hc q=>k c v ?_ q) ho ht;rintro rfl;rcases hc with z|z;rw[←z,I.free]at e;cases e;rw[I.free]at z;cases z
def Inv.ledger {t':Nat}(I:Inv X pins σ H s)(hm:s.heap.Ns X.env.locals m)(F:Fr X.base X.env.locals h' m)(N:News X.base X.env.locals h' (eK X.base s.heap X.env.locals)):Inv X pins σ H {s with heap:=h',toks:=t'}:=by
 have k:=tN I F N;refine I.step (g':=s.gens) (d':=s.drawn) (ch:=[]) (fun _ z=>nomatch z) (fun b o hb _ _ e _=>k b o hb e) (fun b o hb _ _ e _=>⟨o.slots,k b o hb e⟩) (fun _ _ _ _ n=>n) (fun b o _ e=>AE hm F k b o e)
  (fun _ _ e=>e) (fun _ _ _ e=>e) (fun b ps e=>⟨#[],by rw[e];rfl⟩) (LK hm F) (fun b u e=>D0 I k e (fun _ q=>q) fun _ _ q=>q) I.bare
def Inv.Ak {t':Nat}{D:Addr}{o:HO}(I:Inv X pins σ H s)(hm:s.heap.Ns X.env.locals m)(F:Fr X.base X.env.locals h' m)(N:News X.base X.env.locals h' (eK X.base s.heap X.env.locals))(hD:s.heap.get? D=none)
  (new:c8 X.prog X.w (upd H D o) h' D o):Inv X pins σ (upd H D o) {s with heap:=h',toks:=t'}:=by
 have k:=tN I F N;have hn:H D=none:=I.b9.gone hD;refine I.step (g':=s.gens) (d':=s.drawn) (ch:=[]) (fun _ z=>nomatch z) (fun b o hb _ _ e _=>k b o hb e) (fun b o hb _ _ e _=>⟨o.slots,k b o hb e⟩) (fun b ob _ e n=>?_) (fun b o _ e=>AE hm F k b o e)
  (fun b xs e=>?_) (fun b ob u e=>?_) (fun b ps e=>⟨#[],?_⟩) (LK hm F) (fun b u e=>?_) I.bare
 rw[ah fun z=>by rw[z,hD]at e;cases e];exact n;rw[ah (aP e hn)];exact e;rw[ah (aP e hn)];exact e;rw[ah (aP e hn),e];rfl;by_cases hb:b=D
 ·subst hb;rw[af]at e;cases e;exact new
 rw[ah hb]at e;exact D0 I k e (fun c q=>by rw[ah (aP q hn)];exact q) fun c xs q=>by rw[ah (aP q hn)];exact q
def IB {D:Addr}{od:Obj}(N:News X.base X.env.locals h' ((D,od)::eK X.base s.heap X.env.locals))(lu:∀q∈eK X.base s.heap X.env.locals,q.1<D):s.heap.get? D=none:=by
 obtain⟨_,n1,n2⟩:=N _ cQ;cases e:s.heap.get? D with
 | none=>rfl
 | some o=>exact absurd (lu _ (u0 n1 n2 e)) (gu _)
def DE {D:Addr}{od:Obj}(N:News X.base X.env.locals h' ((D,od)::eK X.base s.heap X.env.locals)):News X.base X.env.locals h' (eK X.base s.heap X.env.locals):=fun p hp=>N p (cP _ hp)
end
structure E9 (K:Frag)(mg:Str→Option Value):Prop where
 ex:∃bm ob,mg "__builtins__" =some (.ref bm)∧bm≠builtinsNs∧K.lookup bm=some ob∧ob.cls= .type "module" ∧ob.dict=some builtinsNs∧ob.data= .plain
def fA (H:Hp)(P:Addr)(pos:Pos)(qual:Str):Prop:=
 H P=some (.lQ #[])∨∃c',H P=some (.lQ #[rawInt pos.line,rawInt pos.col,.ref c'])∧H c'=some (.ext fun h=>h.CodeRec (.ref c') qual)
def qf (P:Addr)(H H':Hp):Prop:=∀b o,H b=some o→b≠P→H' b=some o
theorem qf.refl {P:Addr}{H:Hp}:qf P H H:=fun _ _ e _=>e
def fA.same {H H':Hp}{P:Addr}{pos:Pos}{qual:Str}(h:fA H P pos qual)(k:qW H H'):fA H' P pos qual:=by
 rcases h with h|⟨c',h1,h2⟩;exact .inl (k _ _ h);exact .inr ⟨c',k _ _ h1,k _ _ h2⟩
def fA.but {H H':Hp}{P P':Addr}{pos:Pos}{qual:Str}(h:fA H P' pos qual)(k:qf P H H')(eP:P'≠P)(hP:∃ps,H P=some (.lQ ps)):fA H' P' pos qual:=by
 rcases h with h|⟨c',h1,h2⟩;exact .inl (k _ _ h eP);refine .inr ⟨c',k _ _ h1 eP,k _ _ h2 fun z=>?_⟩;lia
def Plain:HO→Prop
 | .lst _=>True
 | .dK _=>True
 | .ins _ _ _=>True
 | .eS _ _=>True
 | _=>False
def fA.upd {H:Hp}{P b:Addr}{o o':HO}{pos:Pos}{qual:Str}(h:fA H P pos qual)(hb:H b=some o)(hp:Plain o):fA (upd H b o') P pos qual:=by
 have n1:∀ps,H P=some (.lQ ps)→P≠b:=fun ps e z=>by rw[z,hb]at e;cases e;exact hp
 rcases h with h|⟨c',h1,h2⟩;exact .inl (by rw[ah (n1 _ h)];exact h);refine .inr ⟨c',by rw[ah (n1 _ h1)];exact h1,?_⟩;rw[ah fun z=>by rw[z,hb]at h2;cases h2;exact hp];exact h2
def fA.ex {H:Hp}{P:Addr}{pos:Pos}{qual:Str}(h:fA H P pos qual):∃ps,H P=some (.lQ ps):=by
 rcases h with h|⟨c',h1,h2⟩;exact⟨_,h⟩;exact⟨_,h1⟩
section
variable{X:Cx}{pins:List (Addr×Obj)}{σ:St}{H:Hp}{s:Shared}{c P:Addr}{params:Arguments}{body:Expr}{scope:Scope}{fY:Pos}{vZ:List (Str×Addr)}{Q:Value→Shared→Prop}
def E1 (I:Inv X pins σ H s)(pj:X.env.code= .ref c)(hd:codeHdIn X.K c P=true)(B:E9 X.K X.mg)(tab:fA H P fY (X.env.qual++"<lambda>"))(EW:closureFor scope X.env=pure vZ)(Mo:defaultsOf params X.env=([],[]))
  (h:∀f c' Dl pm H2 s2,Inv X pins σ H2 s2→qf P H H2→fA H2 P fY (X.env.qual++"<lambda>")→s2.heap.get? f=some (kla_obj "<lambda>" (X.env.qual++"<lambda>") params body scope vZ pm c' Dl)→
   s2.heap.CodeRec (.ref c') (X.env.qual++"<lambda>")→H2 f=none→H f=none→Q (.ref f) s2):wpAny (model X.prog X.w) X.A (eval (.Lambda params body scope fY) X.env) Q X.xe s:=by
 refine PySem.W.kla_eval Mo ?_;have ND:s.heap.Ns mainGlobals X.mg:=I.mod.glob.keeps I.bk;have hC:PySem.W.CodeHd s.heap c P:=codeHd_of_K I.CP hd;have TR:∀ps,H P=some (.lQ ps)→s.heap.get? P=some (tabObj ps):=fun ps e=>I.b9 P _ e;obtain⟨bm,ob,b1,b2,b3,b4,b5,b6⟩:=B.ex;have Tt:=I.CP _ _ b3;have hgP:∀ps,H P=some (.lQ ps)→mainGlobals≠P:=fun ps e q=>by
  obtain⟨o,es,ep,e1,e2,_⟩:=ND;grind
 have XF:∀ps,H P=some (.lQ ps)→s.heap.BuiltinsAt X.mg P:=fun ps e=>by
  refine⟨bm,ob,b1,b2,fun q=>?_,fun q=>?_,Tt,b4,b5,b6⟩
  ·obtain⟨o,es,ep,e1,e2,_⟩:=ND;simp_all
  grind
 rcases tab with e|⟨c',e,ec⟩
 ·refine PySem.W.kla_makeFunction (ps:=#[]) EW I.ok.glob ND pj hC (TR _ e) trivial rfl (hgP _ e) (XF _ e) fun c' Dl h' tk hx QJ lu BH htb=>?_;have Xu:H c'=none:=I.b9.fresh QJ;have hcP:c'≠P:=fun q=>by rw[q,e]at Xu;cases Xu
  have M0:H h'.objs.size=none:=I.b9.fresh (aG QJ (jn lu));have hcf:c'≠h'.objs.size:=cC lu;have hPf:P≠h'.objs.size:=fun q=>by rw[q,M0]at e;cases e
  have kx:∀b o,b≠P→s.heap.get? b=some o→(h'.push (kla_obj "<lambda>" (X.env.qual++"<lambda>") params body scope vZ ((X.mg "__name__").getD .none) c' Dl)).get? b=some o:=fun b o hb q=>bB _ (hx b o hb q);have XQ:upd (upd H P (.lQ #[rawInt fY.line,rawInt fY.col,.ref c'])) c' (.ext fun h=>h.CodeRec (.ref c') (X.env.qual++"<lambda>")) c'=some (.ext fun h=>h.CodeRec (.ref c') (X.env.qual++"<lambda>")):=af;have Yk:upd (upd H P (.lQ #[rawInt fY.line,rawInt fY.col,.ref c'])) c' (.ext fun h=>h.CodeRec (.ref c') (X.env.qual++"<lambda>")) P=some (.lQ #[rawInt fY.line,rawInt fY.col,.ref c']):=by rw[ah hcP.symm,af]
  have Ys:∀b,b≠P→b≠c'→upd (upd H P (.lQ #[rawInt fY.line,rawInt fY.col,.ref c'])) c' (.ext fun h=>h.CodeRec (.ref c') (X.env.qual++"<lambda>")) b=H b:=fun b h1 h2=>by rw[ah h2,ah h1]
  have VO:∀b u,H b=some u→b≠P→upd (upd H P (.lQ #[rawInt fY.line,rawInt fY.col,.ref c'])) c' (.ext fun h=>h.CodeRec (.ref c') (X.env.qual++"<lambda>")) b=some u:=fun b u q hb=>by grind
  have I2:Inv X pins σ (upd (upd H P (.lQ #[rawInt fY.line,rawInt fY.col,.ref c'])) c' (.ext fun h=>h.CodeRec (.ref c') (X.env.qual++"<lambda>")))
    {s with heap:=h'.push (kla_obj "<lambda>" (X.env.qual++"<lambda>") params body scope vZ ((X.mg "__name__").getD .none) c' Dl),toks:=tk}:=by
   have nP:∀b,H b=none→b≠P:=fun b n q=>by rw[q,e]at n;cases n
   refine I.step (g':=s.gens) (d':=s.drawn) (ch:=[]) (fun _ z=>nomatch z) (fun b o _ _ _ q n=>kx b o (nP b n) q) (fun b o _ _ _ q n=>⟨o.slots,kx b o (nP b n) q⟩) (fun b o _ q n=>?_) (fun b o _ q=>?_) (fun b xs q=>?_) (fun b o u q=>?_) (fun b ps q=>?_) (fun m hm=>?_) (fun b u q=>?_) I.bare;rw[Ys b (nP b n) (fun z=>by rw[z]at q;exact absurd (bb q) (Nat.not_lt.mpr QJ))];exact n;clear b3 TR;grind[Heap.get?_push_of_some];grind;grind
   ·by_cases hb:b=P
    ·simp_all
    simp_all
   ·obtain⟨o,es,ep,q,r⟩:=hm;exact⟨o,es,ep,kx _ o (nP _ I.free) q,r⟩
   by_cases hb:b=c'
   ·subst hb;rw[XQ]at q;cases q;refine⟨BH.push _,?_,fun h1 h2 p k=>?_⟩
    ·obtain⟨c2,o,vs,t,e1,e2,_⟩:=BH;cases e1;exact⟨o,bB _ e2⟩
    obtain⟨c2,o,vs,t,e1,e2,e3⟩:=p;cases e1;exact⟨_,o,vs,t,rfl,k o e2,e3⟩
   by_cases hp:b=P
   ·subst hp;rw[Yk]at q;cases q;exact bB _ htb
   rw[Ys b hp hb]at q;refine(I.b9 b u q).aF (fun d v hd2 z=>kx d v ?_ z) (fun d z=>VO d _ z ?_) fun d xs z=>VO d _ z ?_;lia;lia;lia
  refine h _ c' Dl _ _ _ I2 (fun b o q n=>VO b o q n) (.inr ⟨c',Yk,XQ⟩) (bU _ rfl) (BH.push _) ?_ M0;grind
 have BH:s.heap.CodeRec (.ref c') (X.env.qual++"<lambda>"):=(I.b9 c' _ ec).1;refine PySem.W.kla_makeFunctionHit (ps:=#[rawInt fY.line,rawInt fY.col,.ref c']) (cv:= .ref c') EW I.ok.glob ND pj hC (TR _ e) trivial ?_ (XF _ e) fun Dl h' tk hk hsz=>?_
 ·show codeAmong fY [.int fY.line 0,.int fY.col 0,.ref c']=some (.ref c');unfold codeAmong;simp
 have M0:H h'.objs.size=none:=I.b9.fresh hsz;refine h _ c' Dl _ H _ (I.kept (t':=tk) fun b o q=>bB _ (hk b o q)) qf.refl (.inr ⟨c',e,ec⟩) (bU _ rfl) ((BH.keeps hk).push _) M0 M0
end
section
variable{prog:Program}{w:World}{A:Around}{E:Value→Shared→Prop}{s:Shared}{f c':Addr}{name qual x:Str}{params:Arguments}{body:Expr}{scope:Scope}{vZ:List (Str×Addr)}{pm Dl v:Value}{Q:Value→Shared→Prop}
def EK (hroom:A.depth<recursionLimit)(lim:s.heap.NoLimit)(hf:s.heap.get? f=some (kla_obj name qual params body scope vZ pm c' Dl))(E':s.heap.CodeRec (.ref c') qual)
  (kM:bindArgs (kla_fn name qual params body scope vZ pm (.ref c') Dl) ⟨[v],[]⟩=pure [(x,v)]) (Jw:scope.names.lookup x=some .local) (RU:scope.isCoroutine=false) (K7:scope.isGenerator=false) (hk:scope.kind= .function)
  (qk:∀y∈scope.names,y.2≠ .cell)
  (h:∀h1,h1.Ns s.heap.objs.size (fun y=>[(x,v)].lookup y)→(∀b o,s.heap.get? b=some o→h1.get? b=some o)→
   wpAny (model prog w) (A.deeper (envX qual scope s.heap.objs.size f (.ref c') vZ)) (eval body (envX qual scope s.heap.objs.size f (.ref c') vZ)) Q (fun _ _=>False) {s with heap:=h1,toks:=s.toks+1}):
  wpAny (model prog w) A (call (.ref f) [v]) Q E s:=by
 refine wpAny_call ?_;refine PySem.W.kla_callFunE hroom hf rfl RU K7 rfl E' ?_;rw[kM];refine aL (wpAny_newFunctionEnv qk (fun y hy=>?_) (fun h₁ Ap UT=>⟨lim.fresh _ UT,?_⟩) hk);simp_all;show codeAny _ _ (.expr body (envX qual scope s.heap.objs.size f (.ref c') vZ)) _ _;have hk₁:∀b o,s.heap.get? b=some o→h₁.get? b=some o:=fun b o e=>UT.extBut b o (cC (bb e)) (bB _ e);exact PySem.W.kla_codeExpr (gM (h h₁ Ap hk₁) (fun v s' hl=>hl) fun _ _ y=>y.elim)
end
def BQ.keep {h h':Heap}{x dx C:Addr}{mA:Str→Option Value}(o:BQ h x dx C mA)(k:∀b ob,h.get? b=some ob→h'.get? b=some ob):BQ h' x dx C mA:=by
 obtain⟨ob,⟨od,es,ep,e,r⟩,ne⟩:=o;exact⟨k _ _ ob,⟨od,es,ep,k _ _ e,r⟩,ne⟩
def yI (ks:List Int)(rs Dh:List Addr):Prop:=
 ∃ps:List (Int×Addr),ps.Perm (ks.zip rs)∧Dh=ps.map Prod.snd∧ps.Pairwise (fun p q=>p.1≤q.1)∧∀c,ps.filter (fun p=>p.1==c)=(ks.zip rs).filter fun p=>p.1==c
structure RF (K:Frag)(H:Hp)(a:Addr)(f:Str)(k:Int):Prop where
 ex:∃C dx fs,H a=some (.ins C dx fs)∧JO K C∧fc K C f∧fs.lookup f=some (.int k)
def Rc (K:Frag)(P:Addr)(fY:Pos)(qual f:Str)(te:TE):TE:=fun σ H Q=>te σ H fun v H1=>∃(a:Addr) (rs:List Addr) (ks:List Int),v= .ref a∧bz K H1 a (rs.map V.ref)∧ks.length=rs.length∧
 (∀(i:Nat) (r:Addr) (k:Int),rs[i]? =some r→ks[i]? =some k→RF K H1 r f k)∧fA H1 P fY qual∧
 ∀(D:Addr) (Dh:List Addr) (H2:Hp),yI ks rs Dh→qf P H1 H2→fA H2 P fY qual→H2 D=none→Q (.ref D) (upd H2 D (.lst (Dh.map V.ref)))
theorem oO:∀rs:List Addr,Vals (rs.map V.ref) (rs.map Value.ref)
 | []=> .nil
 | r::rs=> .cons rfl (oO rs)
def JE:∀{rs:List Addr} {us:List Value},Vals (rs.map V.ref) us→us=rs.map Value.ref:=Ik
def Ks {b:Bool}{kz:List Int}{rs:List Addr}{out:List Value}(h:KskOutSt b kz (rs.map Value.ref) out)(hb:b=false)(hl:kz.length=rs.length):∃Dh,out=Dh.map Value.ref∧yI kz rs Dh:=by
 subst hb;obtain⟨ps,h1,h2,h3,h4⟩:=h;have hz:kz.zip (rs.map Value.ref)=(kz.zip rs).map fun p=>(p.1,Value.ref p.2):=by
  rw[List.zip_map_right];rfl
 have g:∀p∈ps,∃a,p.2=Value.ref a:=fun p hp=>by (simp_all;grind)
 let un:Int×Value→Int×Addr:=fun p=>(p.1,match p.2 with | .ref a=>a|_=>0)
 have hun:∀p∈ps,(fun q:Int×Addr=>(q.1,Value.ref q.2)) (un p)=p:=fun p hp=>by grind
 have NS:(ps.map un).map (fun q:Int×Addr=>(q.1,Value.ref q.2))=ps:=by
  rw[aV]
  conv=>rhs;rw[←jm ps]
  exact cE hun
 have hun2:∀l:List (Int×Addr),(l.map fun q:Int×Addr=>(q.1,Value.ref q.2)).map un=l:=fun l=>by
  rw[aV]
  conv=>rhs;rw[←jm l]
  rfl
 refine⟨(ps.map un).map Prod.snd,?_,ps.map un,?_,rfl,?_,fun c=>?_⟩;simp_all;grind;grind;have:=congrArg (List.map un) (h4 c);rw[hz,vp,hun2]at this;rw[vp];exact this
section
variable{X:Cx}{e:Expr}{te:TE}{c P:Addr}{params:Arguments}{scope:Scope}{x fld:Str}{p pos RK fY p1 p2:Pos}
def wQ {k:Nat}(hr:fX k X.A)(zV:X.calm=true)(hm:X.mg "sorted" =none)(pj:X.env.code= .ref c)(hd:codeHdIn X.K c P=true)(B:E9 X.K X.mg)(he:PE X e te)
  (hg:Gl X "sorted" :=by rfl) (EW:closureFor scope X.env=pure []:=by rfl) (Mo:defaultsOf params X.env=([],[]):=by rfl)
  (pX:backTo pos (starEach [e] X.env)=[(false,eval e X.env)]:=by rfl)
  (kM:∀(qual:Str) (pm cd Dl v:Value),bindArgs (kla_fn "<lambda>" qual params (.Attribute (.Name x p1) fld p2) scope [] pm cd Dl) ⟨[v],[]⟩=pure [(x,v)]:=by intro _ _ _ _ _;rfl)
  (Jw:scope.names.lookup x=some .local:=by rfl) (RU:scope.isCoroutine=false:=by rfl) (K7:scope.isGenerator=false:=by rfl) (hk:scope.kind= .function:=by rfl) (qk:∀y∈scope.names,y.2≠ .cell:=by decide)
  (WJ:(x==("__debug__" :Str))=false:=by decide):
  PE X (.Call (.Name "sorted" p) [e] [⟨some "key",.Lambda params (.Attribute (.Name x p1) fld p2) scope fY,RK⟩] pos) (Rc X.K P fY (X.env.qual++"<lambda>") fld te):=by
 intro pins s σ H Q I h;refine qC (lR I hg hm nV ?_);refine callWith_kw ?_ (by rw[pX];rfl) (by rw[pX];rfl) rfl rfl;rw[pX];refine j6 (cS (he pins s σ H _ I h) fun u s1 ⟨v,H1,I1,r1,q1⟩=>nO ?_);obtain⟨a,rs,ks,rfl,hs,hl,hf,tab,q⟩:=q1;cases r1;refine wpAny_evalAll_cons (aq (E1 I1 pj hd B tab EW Mo fun f c' Dl pm H2 s2 I2 sm PQ Xs BH V9 Wq=>aq (BV (aL (wpAny_evalAll_nil ?_)))));show wpAny (model X.prog X.w) X.A (call (.builtin "sorted") [.ref a] [(Str.ofString "key",.ref f)]) _ _ s2;obtain⟨Vk,hps0⟩:=tab.ex;have nP:∀b o,H1 b=some o→(∀ps,o≠ .lQ ps)→b≠P:=fun b o e n z=>by grind
 have R_:bz X.K H2 a (rs.map V.ref):=by
  rcases hs with(z|⟨o,z⟩)|z;exact .inl (.inl (sm _ _ z (nP _ _ z fun _ y=>by cases y)));exact .inl (.inr ⟨o,sm _ _ z (nP _ _ z fun _ y=>by cases y)⟩);exact .inr z
 obtain⟨bp,rv,Pb,hz⟩:=I2.list R_;have ei:=JE rv;subst ei;obtain⟨m,Ap,_⟩:=id I2.loc;have F:Fr X.base X.env.locals s2.heap m:=⟨Ap,I2.bk,aG I2.ok.JK I2.ok.above⟩;have hlen:ks.length=(rs.map Value.ref).length:=by rw[ay];exact hl
 have Sz:(rs.map Value.ref).length≤sizeLine:=by rw[ay]at hz ⊢;exact hz
 refine ksk_sortedSt (b:=false) (f:= .ref f) (kz:=ks) (news:=eK X.base s2.heap X.env.locals) F xF Pb.isList hlen Sz (ksk_s1 _ _) (fun z=>ksk_l1 _ _) (fun z=>ksk_t1 f z) (fun i v k hv VR h0 tk own F0 N0=>?_) fun D h' tk out ep F' N' lu ko=>?_
 ·
  obtain⟨r,VX,hr2⟩:∃r,rs[i]? =some r∧v=Value.ref r:=by (clear VR hlen hz nP Jw;grind -order)
  subst hr2;obtain⟨C,dx,fs,g1,g2,g3,g4⟩:=(hf i r k VX VR).ex;have Wn:H2 r=some (.ins C dx fs):=sm _ _ g1 (nP _ _ g1 fun _ y=>by cases y);have TZ:News X.base X.env.locals h0 (eK X.base s2.heap X.env.locals):=fun p hp=>N0 p (h_ _ hp);have k0:=tN I2 F0 TZ;have I0:Inv X pins σ H2 {s2 with heap:=h0,toks:=tk}:=I2.ledger Ap F0 TZ;obtain⟨mA,O,ro,_,_,_⟩:=sP I0.b9 Wn;obtain⟨uv,hu,ru⟩:∃uv,mA fld=some uv∧RelV (.int k) uv:=by
   have:=ro fld;rw[g4]at this;cases e:mA fld with
   | none=>rw[e]at this;exact this.elim
   | some uv=>rw[e]at this;exact⟨uv,rfl,this⟩
  obtain⟨tu,rfl⟩:=ru;have Vs:f≠X.env.locals:=fun z=>by
   obtain⟨o,es,ep,e1,e2,_⟩:=Ap;lia
  have Km:h0.CodeRec (.ref c') (X.env.qual++"<lambda>"):=by
   obtain⟨c2,o,vs,t,e1,e2,e3,e4⟩:=BH;refine⟨c2,o,vs,t,e1,k0 c2 o (fun z=>?_) e2,e3,e4⟩;obtain⟨o2,es,ep,y1,y2,_⟩:=Ap;lia
  refine EK (s:={s2 with heap:=h0,toks:=tk}) (x:=x) (by have:=hr.dp;show X.A.depth<_;lia) I0.nolimit (k0 f _ Vs Xs) Km (kM _ _ _ _ _) Jw RU K7 hk qk fun h1 TK Na=>?_;refine wC rfl ?_;refine uJ (Ce hk Jw TK (show [(x,Value.ref r)].lookup x=some (Value.ref r) by simp) ?_) WJ;refine get_map (I0.CP.keeps Na) (O.keep Na) (g2.get fld) g2.hd g3 hu (by rfl) ?_;refine⟨h1,_,tu,rfl,rfl,⟨F0.ns.keeps Na,fun b o e=>Na _ _ (F0.keep b o e),F0.above⟩,fun p hp=>⟨Na _ _ (N0 p hp).1,(N0 p hp).2⟩⟩
 obtain⟨Dh,eo,Rp⟩:=Ks ko rfl hl;have hD:=IB N' lu;have Uw:H2 D=none:=I2.b9.gone hD;have xx:(Dh.map V.ref).length≤sizeLine:=by
  obtain⟨ps,h1,h2,_⟩:=Rp;rw[ay,h2,ay,h1.length_eq,CN,hl,CC];lia
 refine⟨.ref D,upd H2 D (.lst (Dh.map V.ref)),I2.Ak Ap F' (DE N') hD ⟨xx,out.toList,ep,?_,?_⟩,rfl,q D Dh H2 Rp sm PQ Uw⟩
 ·rw[eo];exact oO Dh
 have:=(N' _ cQ).1;omega
end
structure JA (K:Frag)(mg:Str→Option Value)(x:Str)(st:Stmt)(P:Addr):Prop where
 ex:∃(f:Addr) (oc:Value) (od:Option Addr) (kV doc pm:Value) (an:Option Addr) (c:Addr) (ct:Value) (J6:Array (Option Value)),mg x=some (.ref f)∧
  K.lookup f=some ⟨oc,od,.func (fnOf x x (f6 st) (dP st) (aj st) .none kV doc pm an (.ref c) ct),J6⟩∧codeIn K (.ref c) x=true∧keepIn K (.ref f)=true∧codeHdIn K c P=true
def JA.callee {P:Program}{w:World}{K:Frag}{mg:Str→Option Value}{base:Heap}{x:Str}{st:Stmt}{N ps:List Str}{k:Nat}{sp:Sp}{Pt:Addr}(F:JA K mg x st Pt)(S:aE N ps (aj st))
  (sR:∀(f c:Addr) (A:Around) (outer:List Env) (s:Shared) (H:Hp) (vs:List V) (Q:VK) (E:XK),codeHdIn K c Pt=true→fX k (A.deeper (envOfC x (aj st) s.heap.objs.size f (.ref c)))→sp vs H Q E→
   ∃t,Fd (Ca M8 P w K mg base N x (aj st) f (.ref c) A outer s H E).PH (dP st) t∧t {nx:=fun _ H'=>Q .gq H',rt:=Q} (start N vs) H) (len:∀vs H Q E,sp vs H Q E→vs.length=ps.length:=by intro _ _ _ _ h;cases h;subst_vars;rfl)(kM:∀(kV doc pm:Value) (an:Option Addr) (kU ct:Value) (us:List Value),us.length=ps.length→bindArgs (fnOf x x (f6 st) (dP st) (aj st) .none kV doc pm an kU ct) ⟨us,[]⟩=pure (ps.zip us):=by intro _ _ _ _ _ _;repeat first|exact vN_ rfl|refine vC_ fun _=>?_):Callee P w K mg base (k+1) x ps sp:=by
 obtain⟨f,oc,od,kV,doc,pm,an,c,ct,J6,hm,lk,E',X_,wF⟩:=F.ex;have hF:Pk K x x st f (fnOf x x (f6 st) (dP st) (aj st) .none kV doc pm an (.ref c) ct):=⟨⟨oc,od,kV,doc,pm,an,.ref c,ct,J6,rfl,lk,E'⟩,X_⟩;refine⟨f,_,hm,X_,hF.binds kM,?_⟩;refine O8 lk E' S len fun A outer s H vs Q E hr M7=>?_;obtain⟨t,h,q⟩:=sR f c A outer s H vs Q E wF hr M7;exact⟨t,h.PH,q⟩
noncomputable abbrev iV (n:Nat):V:= .int (n:Int)
def bg (p:Nat×Nat):Key×V:=(Sum.inl (p.1:Int),iV p.2)
def lay (H:Hp)(news:List (Addr×HO)):Hp:=fun b=>match news.lookup b with
 | some o=>some o
 | none=>H b
theorem sj {H:Hp}{news:List (Addr×HO)}{b:Addr}{o:HO}(h:news.lookup b=some o):lay H news b=some o:=by unfold lay;rw[h]
def oR {H:Hp}{news:List (Addr×HO)}{b:Addr}(h:news.lookup b=none):lay H news b=H b:=by unfold lay;rw[h]
theorem lookup_mem {α β:Type}[BEq α][LawfulBEq α]:∀{l:List (α×β)} {a:α} {b:β},l.lookup a=some b→(a,b)∈l
 | [],a,b,h=>by simp at h
 | (x,y)::l,a,b,h=>by
  by_cases e:a=x;simp_all;rw[rj,show(a==x)=false by simpa using e]at h;exact cP _ (lookup_mem h)
section
variable{X:Cx}{pins:List (Addr×Obj)}{σ:St}{H:Hp}{s:Shared}{h':Heap}
theorem Inv.HJ {t':Nat}{news:List (Addr×HO)}(I:Inv X pins σ H s)(k:∀b u,s.heap.get? b=some u→h'.get? b=some u)(hp:∀b o,news.lookup b=some o→s.heap.get? b=none)
  (new:∀b o,news.lookup b=some o→c8 X.prog X.w (lay H news) h' b o):Inv X pins σ (lay H news) {s with heap:=h',toks:=t'}:=by
 have hn:∀b o,news.lookup b=some o→H b=none:=fun b o e=>I.b9.gone (hp b o e);have old:∀b u,H b=some u→lay H news b=some u:=fun b u e=>by
  cases q:news.lookup b with
  | none=>rw[oR q];exact e
  | some o=>rw[hn b o q]at e;cases e
 refine I.step (g':=s.gens) (d':=s.drawn) (ch:=[]) (fun _ z=>nomatch z) (fun b o _ _ _ e _=>k b o e) (fun b o _ _ _ e _=>⟨o.slots,k b o e⟩) (fun b o _ e n=>?_) (fun b o _ e=>⟨o,k b o e⟩)
  (fun b xs e=>old b _ e) (fun b o u e=>old b _ e) (fun b ps e=>⟨#[],by rw[old b _ e];rfl⟩) (fun m hm=>hm.keeps k) (fun b u e=>?_) I.bare
 ·cases q:news.lookup b with
  | none=>rw[oR q];exact n
  | some o'=>rw[hp b o' q]at e;cases e
 cases q:news.lookup b with
 | none=>
  rw[oR q]at e;exact(I.b9 b u e).aF (fun c v _ z=>k c v z) (fun c z=>old c _ z) fun c xs z=>old c _ z
 | some o=>
  rw[sj q]at e;simp_all
end
def Ba (l:List (Nat×Nat)):Prop:=l.Pairwise fun p q=>p.1<q.1∨(p.1=q.1∧p.2≤q.2)
def W7 {a b c d:Nat}(h:lexLt itemOrd [Sum.inl (c:Int),Sum.inl (d:Int)] [Sum.inl (a:Int),Sum.inl (b:Int)]=false):a<c∨(a=c∧b≤d):=by
 rw[lex_cons,lex_cons]at h;simp only[Bool.or_eq_false_iff,Bool.and_eq_false_iff,Bool.not_eq_false']at h;obtain⟨h1,h2⟩:=h;have h1:decide ((c:Int)<(a:Int))=false:=h1;rw[decide_eq_false_iff_not]at h1;rcases h2 with h2|⟨h2,_⟩;simp_all;constructor<;>grind;have h2:decide ((d:Int)<(b:Int))=false:=h2;simp_all;lia
def Mj {h:Heap}{as:List Addr}{ct:Addr→Nat×Nat}(Vn:∀a∈as,PyProof.Rows.G.tupKeyC h (fun _=>false) (.ref a)=some [Sum.inl ((ct a).1:Int),Sum.inl ((ct a).2:Int)]){arr:Array Keyed}(hp:arr.Perm (pairsOf (as.map Value.ref)))
  (hs:SortedToK (PyProof.Rows.G.tupKindC h fun _=>false) arr (pairsOf (as.map Value.ref)).size):∃ts:List Addr,(arr.map (·.2)).toList=ts.map Value.ref∧ts.Perm as∧Ba (ts.map ct):=by
 have hl:arr.toList.Perm ((as.map Value.ref).zip (as.map Value.ref)):=by simp_all[Array.perm_iff_toList_perm,pairsOf_toList]
 have hz:∀l:List Value,l.zip l=l.map fun v=>(v,v):=by
  intro l
  induction l with
  | nil=>rfl
  | cons v l ih=>rw[List.zip_cons_cons,ih];rfl
 rw[hz,aV]at hl
 let un:Keyed→Addr:=fun p=>match p.2 with | .ref a=>a|_=>0
 have g:∀p∈arr.toList,∃a∈as,p=(Value.ref a,Value.ref a):=fun p hp=>by grind
 refine⟨arr.toList.map un,?_,?_,?_⟩;simp_all;grind[Array.toList_map,List.map_congr_left]
 ·have:=hl.map un;rw[aV]at this;refine this.trans (Iw ?_)
  conv=>rhs;rw[←jm as]
  rfl
 unfold Ba;rw[aV,hY,Mv];intro i j hi hj hij;have hsz:arr.toList.length=(pairsOf (as.map Value.ref)).size:=by
  rw[pairsOf_size,hl.length_eq,ay,ay]
 have hk:=hs i j (jn hij) (by rw[←hsz];exact hj);have key:∀(n:Nat) (hn:n<arr.toList.length),KK (PyProof.Rows.G.tupKindC h fun _=>false) arr n=[Sum.inl (((ct∘un) arr.toList[n]).1:Int),Sum.inl (((ct∘un) arr.toList[n]).2:Int)]:=fun n hn=>by
  unfold KK;have e1:arr[n]? =some arr.toList[n]:=by rw[←Array.getElem?_toList];exact vc hn
  rw[e1];obtain⟨a,ha,e⟩:=g _ (fL hn);simp_all;trivial
 rw[key i hi,key j hj]at hk;exact W7 hk
theorem kN {α β:Type}{G:α→β→Prop}:∀{l:List α} {m:List β},l.length=m.length→(∀(i:Nat) (a:α) (b:β),l[i]? =some a→m[i]? =some b→G a b)→Paired G l m
 | [],[],_,_=> .nil
 | [],_::_,h,_=>by simp at h
 | _::_,[],h,_=>by simp at h
 | a::l,b::m,h,g=> .cons (g 0 a b rfl rfl) (kN (by simpa using h) fun i x y hx hy=>g (i+1) x y (by simpa using hx) (by simpa using hy))
def iH (T:String)(v d:Addr):HO:= .ext fun h=>∃o,h.get? v=some o∧o.cls= .type T∧o.data= .fields #[.ref d]
def HR {P:Program}{w:World}{H:Hp}{h:Heap}{T:String}{v d:Addr}(e:h.get? v=some {cls:= .type T,data:= .fields #[.ref d]}):c8 P w H h v (iH T v d):=
 ⟨⟨_,e,rfl,rfl⟩,⟨_,e⟩,fun h1 h2 ⟨o,p,q⟩ k=>⟨o,k o p,q⟩⟩
def Pq (T:String)(td:TE):TE:=fun σ H Q=>td σ H fun x H1=>∃d kvs,x= .ref d∧H1 d=some (.dK kvs)∧∀v,H1 v=none→Q (.ref v) (upd H1 v (iH T v d))
section
variable{X:Cx}{e:Expr}{td:TE}{apos dX:Pos}
def zg (he:PE X e td)(mV:attributeBase e "items" X.env (eval e X.env)=eval e X.env:=by rfl)(oy:(apos.endLine==dX.line)=true:=by rfl):PE X (.Call (.Attribute e "items" apos) [] [] dX) (Pq "dict_items" td):=by
 intro pins s σ H Q I h;refine qy (T:="dict") (id:="dict.items") mV rfl oy qD CD F.type_dict_items (cS (he pins s σ H _ I h) fun u s1 ⟨x,H1,I1,rx,d,kvs,ex,hd,q⟩=>?_);subst ex;obtain rfl:u=Value.ref d:=rx;obtain⟨hz,hs,vs,rel,dd⟩:=I1.b9 d _ hd;refine⟨dd.typeIs,dd.mapOf.noDict,?_⟩;have fin:EP X pins σ Q (.ref s1.heap.objs.size) {s1 with heap:=s1.heap.push {cls:= .type "dict_items",data:= .fields #[.ref d]}}:=
  ⟨.ref s1.heap.objs.size,_,I1.laid (t':=s1.toks) (fun b ob q=>bB _ q) (bo _) (HR (bU _ rfl)),rfl,q _ I1.fresh⟩
 show wpAny _ _ (callWith dX (.builtin "dict.items") [.ref d] [] []) _ X.xe s1;exact CG CD F.entry_dict_items rfl (xD ⟨rfl,dd.typeIs,F.args_dict_items_1 _,_,meets_dict_items (bw X.prog X.w) d hs,⟨vs,dd⟩,fin⟩)
def i3 (he:PE X e td)(mV:attributeBase e "values" X.env (eval e X.env)=eval e X.env:=by rfl)(oy:(apos.endLine==dX.line)=true:=by rfl):PE X (.Call (.Attribute e "values" apos) [] [] dX) (Pq "dict_values" td):=by
 intro pins s σ H Q I h;refine qy (T:="dict") (id:="dict.values") mV rfl oy qD CH F.type_dict_values (cS (he pins s σ H _ I h) fun u s1 ⟨x,H1,I1,rx,d,kvs,ex,hd,q⟩=>?_);subst ex;obtain rfl:u=Value.ref d:=rx;obtain⟨hz,hs,vs,rel,dd⟩:=I1.b9 d _ hd;refine⟨dd.typeIs,dd.mapOf.noDict,?_⟩;have fin:EP X pins σ Q (.ref s1.heap.objs.size) {s1 with heap:=s1.heap.push {cls:= .type "dict_values",data:= .fields #[.ref d]}}:=
  ⟨.ref s1.heap.objs.size,_,I1.laid (t':=s1.toks) (fun b ob q=>bB _ q) (bo _) (HR (bU _ rfl)),rfl,q _ I1.fresh⟩
 show wpAny _ _ (callWith dX (.builtin "dict.values") [.ref d] [] []) _ X.xe s1;exact CG CH F.entry_dict_values rfl (xD ⟨rfl,dd.typeIs,F.args_dict_values_1 _,_,meets_dict_values (bw X.prog X.w) d hs,⟨vs,dd⟩,fin⟩)
end
theorem sZ:∀{kvs:List (Nat×Nat)} {vs:List (Key×Value)},KV (kvs.map bg) vs→∃ts:List Nat,vs=(kvs.zip ts).map (fun q=>((Sum.inl (q.1.1:Int):Key),Value.int q.1.2 q.2))∧ts.length=kvs.length
 | [],_,r=>by
  rw[om]at r;cases r;simp
 | p::kvs,_,r=>by
  rw[bF]at r;cases r with
  | cons h t=>
   rename_i b l;obtain⟨ts,e,hl⟩:=sZ t;obtain⟨h1,t1,h2⟩:=h;refine⟨t1::ts,?_,by rw[cH,cH,hl]⟩;rw[List.zip_cons_cons,bF,←e]
   congr 1
   obtain⟨b1,b2⟩:=b;simp only at h1 h2;subst h1 h2;rfl
def oU {P:Program}{w:World}{h:Heap}{d:Addr}{vs:List (Key×Value)}(x:h.DictOf (bw P w) d vs):∃ep,h.DictAt (bw P w) d vs ep:=by
 obtain⟨o,es,ep,r⟩:=x;exact⟨ep,o,es,r⟩
section
variable{X:Cx}
def tw (hc:X.calm=true):iF X (.builtin "sum") (fun xs H Q=>∃(v d:Addr) (kvs:List (Nat×Nat)),xs=[.ref v]∧H v=some (iH "dict_values" v d)∧H d=some (.dK (kvs.map bg))∧Q (.int ((kvs.map fun p=>(p.2:Int)).sum)) H):=by
 intro pins s σ H xs us Q I r h;obtain⟨v,d,kvs,rfl,hv,hd,q⟩:=h;obtain⟨u,rfl,ru⟩:=vals1 r;cases ru;obtain⟨hz,hs,vs,rel,dd⟩:=I.b9 d _ hd;obtain⟨ep,da⟩:=oU dd;obtain⟨⟨ov,o1,o2,o3⟩,_⟩:=I.b9 v _ hv;obtain⟨ts,UQ,oZ⟩:=sZ rel;obtain⟨m,Ap,_⟩:=id I.loc;have F:Fr X.base X.env.locals s.heap m:=⟨Ap,I.bk,aG I.ok.JK I.ok.above⟩;refine PySem.W.kdu_sum (kdl_values (r:=v) (d:=d) (knd:=bw X.prog X.w) (kvs:=vs) (ep:=ep)) (I.ok.hd hc) F (xF) ⟨⟨ov,o1,o2,o3⟩,da⟩ (fun i=>(((kvs[i]?).map fun p=>(p.2:Int)).getD 0)) (fun i u hu=>?_) fun h' tk t' F' N'=>?_;clear hz;grind -order;have hl:vs.length=kvs.length:=by rw[UQ,ay,CN,oZ,CC]
 have hsum:∀l:List (Nat×Nat),preSum (fun i=>(((l[i]?).map fun p=>(p.2:Int)).getD 0)) l.length=(l.map fun p=>(p.2:Int)).sum:=by
  intro l
  induction l with
  | nil=>rfl
  | cons p l ih=>simp_all[PySem.W.kdu_shift]
 refine⟨.int _,H,I.ledger Ap F' N',⟨t',rfl⟩,?_⟩;simp_all
theorem uR {ks:List Nat}{f:Nat→V}{vs:List (Key×Value)}{acc:Array Value}(rel:KV (ks.map fun(k:Nat)=>((Sum.inl (k:Int):Key),f k)) vs)
  (hi:ItemsOf (fun i v=>∃k x,vs[i]? =some (k,x)∧(bw X.prog X.w).is k v=true) acc vs.length) (hl:ks.length=vs.length):Vals (ks.map iV) acc.toList:=by
 have hsz:acc.toList.length=ks.length:=by rw[FL,hi.1,hl]
 refine kN (by rw[ay,hsz]) fun i a b ha hb=>?_;rw[cO]at ha;cases z:ks[i]? with
 | none=>rw[z]at ha;cases ha
 | some k=>
  rw[z]at ha;have ha:iV k=a:=cV ha;obtain⟨k2,x,e1,e2⟩:=hi.2 i b (by rw[←Array.getElem?_toList];exact hb);have:=cT rel (i:=i) (a:=((Sum.inl (k:Int):Key),f k)) (by rw[cO,z];rfl);obtain⟨q2,hq,h1,h2⟩:=this;rw[hq]at e1;cases e1;have h1:(Sum.inl (k:Int):Key)=k2:=h1;subst h1;rw[←ha];exact y6 (k:=Sum.inl (k:Int)) e2
def La (hc:X.calm=true):iF X (.type "list") (fun xs H Q=>∃(d:Addr) (ks:List Nat) (f:Nat→V),xs=[.ref d]∧H d=some (.dK (ks.map fun(k:Nat)=>((Sum.inl (k:Int):Key),f k)))∧∀l,H l=none→Q (.ref l) (upd H l (.lst (ks.map iV)))):=by
 intro pins s σ H xs us Q I r h;obtain⟨d,ks,f,rfl,hd,q⟩:=h;obtain⟨u,rfl,ru⟩:=vals1 r;cases ru;obtain⟨hz,hs,vs,rel,dd⟩:=I.b9 d _ hd;obtain⟨ep,da⟩:=oU dd;have hl:ks.length=vs.length:=by have:=bZ rel;rw[ay]at this;exact this
 rw[ay]at hz;refine PySem.W.kdl_call (F3 (knd:=bw X.prog X.w) (kvs:=vs) (ep:=ep) hs) (I.ok.hd hc) da (by rw[←hl];exact hz) fun h' tk acc c hk ho hi=>?_;refine⟨.ref s.heap.objs.size,upd H s.heap.objs.size (.lst (ks.map iV)),I.laid (t':=tk) hk (bo _) ⟨by rw[ay];exact hz,acc.toList,c,?_,by rw[ho,Hh]⟩,rfl,q _ I.fresh⟩;exact uR rel hi hl
def Rx:List V→Hp→VK→Prop:=fun xs H Q=>∃(v d:Addr) (kvs:List (Nat×Nat)),xs=[.ref v]∧H v=some (iH "dict_items" v d)∧H d=some (.dK (kvs.map bg))∧
 ∀(H2:Hp) (D:Addr) (ts:List Addr) (qA:List (Nat×Nat)),qW H H2→H D=none→qA.Perm kvs→Ba qA→H2 D=some (.lst (ts.map V.ref))→Paired (fun t (p:Nat×Nat)=>H2 t=some (.tup [iV p.1,iV p.2])) ts qA→Q (.ref D) H2
theorem jo {f:Addr→HO}:∀{l:List Addr} {a:Addr},a∈l→(l.map fun b=>(b,f b)).lookup a=some (f a)
 | [],a,h=>by simp at h
 | b::l,a,h=>by
  rw[bF,rj];by_cases e:a=b;subst e;simp;rw[show(a==b)=false by simpa using e];exact jo ((bM.mp h).resolve_left e)
def zc (hc:X.calm=true):iF X (.builtin "sorted") Rx:=by
 intro pins s σ H xs us Q I r h;obtain⟨v,d,kvs,rfl,hv,hd,q⟩:=h;obtain⟨u,rfl,ru⟩:=vals1 r;cases ru;obtain⟨hz,hs,vs,rel,dd⟩:=I.b9 d _ hd;obtain⟨ep,da⟩:=oU dd;obtain⟨⟨ov,o1,o2,o3⟩,_⟩:=I.b9 v _ hv;obtain⟨ts,UQ,oZ⟩:=sZ rel;have hl:vs.length=kvs.length:=by rw[UQ,ay,CN,oZ,CC]
 rw[ay]at hz;refine Calls.call_function_entry kind_sorted plain_sorted entry_sorted (args_sorted1 _) ?_;unfold Builtin.«sorted»;refine aq (m:=checkCount "sorted" 1 1 _) (aL ?_);refine aq (PySem.W.kdx_collect (A:=X.A.in1) (knd:=bw X.prog X.w) (kvs:=vs) (ep:=ep) (I.ok.hd hc) ⟨ov,o1,o2,o3⟩ da (by rw[hl];exact hz) fun h' tk as hk Gk hG=>?_);refine aq (wpAny_newList ?_ (by rw[ay,Gk,hl];exact hz));have tup:∀(j:Nat) (a:Addr),as[j]? =some a→∃p,kvs[j]? =some p∧∃t1 t2,h'.get? a=some {cls:= .type "tuple",data:= .seq #[Value.int p.1 t1,Value.int p.2 t2]}:=fun j a ha=>by
  obtain⟨key,k,x,e1,e2,e3⟩:=hG.pairs j a ha;rw[UQ,cO]at e1;cases z:(kvs.zip ts)[j]? with
  | none=>rw[z]at e1;cases e1
  | some y=>
   rw[z]at e1;have e1:((Sum.inl (y.1.1:Int):Key),Value.int y.1.2 y.2)=(k,x):=cV e1;obtain⟨f1,f2⟩:=Prod.mk.inj e1;have hzz:=Fj.mp z;rw[←f1]at e2;have e2:qi (Sum.inl (y.1.1:Int)) key=true:=e2;obtain⟨i,t,g1,g2⟩|⟨x',t,g1,g2⟩:=cX e2;clear e1;grind;cases g1
 have mx:as.Nodup:=hG.rise.imp fun h=>cC h
 let ct:Addr→Nat×Nat:=fun a=>(kvs[as.idxOf a]?).getD (0,0)
 have hct0:∀(j:Nat) (a:Addr) (p:Nat×Nat),as[j]? =some a→kvs[j]? =some p→ct a=p:=fun j a p ha hp=>by (clear tup;(clear UQ;(simp_all;grind -order)))
 have Qc:∀a∈as,∃t1 t2,h'.get? a=some {cls:= .type "tuple",data:= .seq #[Value.int (ct a).1 t1,Value.int (ct a).2 t2]}:=fun a ha=>by grind -order
 have kB:∀b o,h'.get? b=some o→(h'.push {cls:= .type "list",data:= .seq (as.map Value.ref).toArray}).get? b=some o:=fun b o e=>bB _ e;have RG:(h'.push {cls:= .type "list",data:= .seq (as.map Value.ref).toArray}).get? h'.objs.size=some (seqObj "list" (as.map Value.ref).toArray 0):=bU _ rfl;have key:∀a∈as,PyProof.Rows.G.tupKeyC (h'.push {cls:= .type "list",data:= .seq (as.map Value.ref).toArray}) (fun _=>false) (.ref a)=some [Sum.inl ((ct a).1:Int),Sum.inl ((ct a).2:Int)]:=fun a ha=>by
  obtain⟨t1,t2,e⟩:=Qc a ha;unfold PyProof.Rows.G.tupKeyC PyProof.Rows.G.isTupObj tupKey;simp only[kB a _ e];rfl
 have zb:∀l:List Addr,(∀a∈l,a∈as)→∃fs,TupsOf (h'.push {cls:= .type "list",data:= .seq (as.map Value.ref).toArray}) (fun _=>false) (l.map Value.ref) fs:=by
  intro l
  induction l with
  | nil=>intro _;exact⟨[],.nil⟩
  | cons a l ih=>
   intro KR;obtain⟨fs,V_⟩:=ih fun b hb=>KR b (cP _ hb);obtain⟨t1,t2,e⟩:=Qc a (KR a cQ);exact⟨_::fs,.cons ⟨a,_,_,_,rfl,kB a _ e,rfl,rfl,rfl,fun _=>⟨_,_,rfl⟩,fun z=>by cases z⟩ V_⟩
 obtain⟨fs,V_⟩:=zb as fun _ h=>h;refine aq (qT (lX slot_list_sort (self:= .ref h'.objs.size) ⟨_,RG,rfl⟩ entry_list_sort ?_ (args_list_sort _)));refine PyProof.Rows.G.list_sort_tups (shape:=fun _=>false) RG V_ (fun y hy=>?_) (by rw[ay,Gk,hl];exact hz) fun IZ p1 p2 _=>⟨_,rfl,?_⟩;clear zb;grind;refine aL ⟨_,rfl,?_⟩;obtain⟨PM,eo,z_,zU⟩:=Mj key p1 p2;obtain⟨P5,Xt⟩:=sortedHeap_at (h:=h'.push {cls:= .type "list",data:= .seq (as.map Value.ref).toArray}) (a:=h'.objs.size) (vs:=as.map Value.ref) (out:=(arrOf IZ).map (·.2)) RG;have keep:∀b o,h'.get? b=some o→(sortedHeap (h'.push {cls:= .type "list",data:= .seq (as.map Value.ref).toArray}) h'.objs.size (as.map Value.ref) ((arrOf IZ).map (·.2))).get? b=some o:=fun b o e=>by
  have hb:b<h'.objs.size:=bb e;rw[sortedHeap_old (cC hb) (by rw[ff];exact yN hb)];exact kB b o e
 have As:∀a∈as,s.heap.get? a=none:=fun a ha=>w9 (jn (hG.above a ha));have hBgone:s.heap.get? h'.objs.size=none:=by
  cases z:s.heap.get? h'.objs.size with
  | none=>rfl
  | some o=>exact absurd (bb (hk _ _ z)) (gu _)
 have hBas:h'.objs.size∉as:=fun z=>by grind
 let news:List (Addr×HO):=(h'.objs.size,HO.lst (PM.map V.ref))::as.map fun a=>(a,HO.tup [iV (ct a).1,iV (ct a).2])
 have nB:news.lookup h'.objs.size=some (HO.lst (PM.map V.ref)):=by grind
 have nT:∀a∈as,news.lookup a=some (HO.tup [iV (ct a).1,iV (ct a).2]):=fun a ha=>by
  have eP:a≠h'.objs.size:=fun z=>hBas (z▸ha);show List.lookup a ((_,_)::_)=_;rw[rj,show(a==h'.objs.size)=false by simpa using eP];exact jo (f:=fun a=>HO.tup [iV (ct a).1,iV (ct a).2]) ha
 have nI:∀b o,news.lookup b=some o→(b=h'.objs.size∧o=HO.lst (PM.map V.ref))∨(b∈as∧o=HO.tup [iV (ct b).1,iV (ct b).2]):=fun b o e=>by
  rcases bM.mp (lookup_mem e)with z|z;constructor<;>grind;grind
 have hlen:PM.length≤sizeLine:=by rw[z_.length_eq,Gk,hl];exact hz
 have hD:H h'.objs.size=none:=I.b9.gone hBgone;have old:qW H (lay H news):=fun b u e=>by
  rw[oR];exact e;cases z:news.lookup b with
  | none=>rfl
  | some o=>
   rcases nI b o z with⟨z1,_⟩|⟨z1,_⟩;lia;rw[I.b9.gone (As b z1)]at e;cases e
 refine⟨.ref h'.objs.size,lay H news,I.HJ (t':=_) (news:=news) (fun b u e=>keep b u (hk b u e)) (fun b o e=>?_) (fun b o e=>?_),rfl,q _ h'.objs.size PM (PM.map ct) old hD ?_ zU (sj nB) ?_⟩;grind
 ·rcases nI b o e with⟨z,z2⟩|⟨z,z2⟩
  ·subst z z2;refine⟨by rw[ay];exact hlen,((arrOf IZ).map (·.2)).toList,P5,?_,?_⟩;rw[eo];exact oO PM;omega
  subst z2;obtain⟨t1,t2,e2⟩:=Qc b z;exact⟨by show 2≤sizeLine;decide,[Value.int (ct b).1 t1,Value.int (ct b).2 t2],.cons ⟨t1,rfl⟩ (.cons ⟨t2,rfl⟩ .nil),_,keep b _ e2,rfl,_,rfl⟩
 ·
  have h1:(PM.map ct).Perm (as.map ct):=z_.map ct;refine h1.trans (Iw ?_);refine List.ext_getElem? fun i=>?_;rw[cO];cases z:as[i]? with
  | none=>grind
  | some a=>grind
 grind[kN,sj]
end
section
variable{X:Cx}
def Inv.QM {pins:List (Addr×Obj)}{σ:St}{H:Hp}{s:Shared}{h':Heap}{t':Nat}{a:Addr}{o:HO}(I:Inv X pins σ H s)(k:∀b u,s.heap.get? b=some u→h'.get? b=some u)(hp:s.heap.get? a=none)
  (new:c8 X.prog X.w (upd H a o) h' a o):Inv X pins σ (upd H a o) {s with heap:=h',toks:=t'}:=by
 have e:lay H [(a,o)]=upd H a o:=by
  funext b;unfold lay upd;clear hp;split<;>grind
 have:=I.HJ (t':=t') (news:=[(a,o)]) k (fun b ob q=>?_) (fun b ob q=>?_);simp_all;grind;clear hp;grind
theorem Ly {kvs:List (Nat×Nat)}{vs:List (Key×Value)}(rel:KV (kvs.map bg) vs){i:Nat}{k:Key}{u:Value}(e:vs[i]? =some (k,u)):∃p t,kvs[i]? =some p∧u=Value.int p.2 t∧k=Sum.inl (p.1:Int):=by grind -order[sZ]
def Of (hc:X.calm=true):iF X (.builtin "max") (fun xs H Q=>∃(v d:Addr) (kvs:List (Nat×Nat)),xs=[.ref v]∧H v=some (iH "dict_values" v d)∧H d=some (.dK (kvs.map bg))∧kvs≠[]∧
  ∀m:Nat,(∃p∈kvs,p.2=m)→(∀p∈kvs,p.2≤m)→Q (iV m) H):=by
 intro pins s σ H xs us Q I r h;obtain⟨v,d,kvs,rfl,hv,hd,eP,q⟩:=h;obtain⟨u,rfl,ru⟩:=vals1 r;cases ru;obtain⟨hz,hs,vs,rel,dd⟩:=I.b9 d _ hd;obtain⟨ep,da⟩:=oU dd;obtain⟨⟨ov,o1,o2,o3⟩,_⟩:=I.b9 v _ hv;have hl:vs.length=kvs.length:=by have:=bZ rel;rw[ay]at this;exact this.symm
 have N4:0<kvs.length:=List.length_pos_iff.mpr eP;refine call_max_walkS ?_;obtain⟨oI,St,hit,W,st⟩:=(kdl_values (r:=v) (d:=d) (knd:=bw X.prog X.w) (kvs:=vs) (ep:=ep)).iter X.A.in1 s (I.ok.hd hc) ⟨⟨ov,o1,o2,o3⟩,da⟩;have UM:d<s.heap.objs.size:=da.lt_size;refine hit _ _ ⟨s.heap.objs.size,_,_,_,vs.length,_,_,_,rfl,W.toS,st,fun b hb=>?_,by rw[hl];exact N4,CmpOf.ints_gt (fun i=>(((kvs[i]?).map fun p=>(p.2:Int)).getD 0)) (fun i u hu=>?_),fun u s' hP hm=>?_⟩;simp_all;lia;grind -order[Ly];have hk:∀b o,s.heap.get? b=some o→s'.heap.get? b=some o:=fun b o e=>
  hm.heap b o (fun hI=>absurd (bb e) (by rw[BG.mp hI];exact gu _)) (bB _ e)
 obtain⟨k,e⟩:=hP;obtain⟨p,t,h1,h2,_⟩:=Ly rel e;obtain⟨g1,g2⟩:=argBest_gt (fun i=>(((kvs[i]?).map fun p=>(p.2:Int)).getD 0)) (vs.length-1);rw[Moved.eq_with hm];refine⟨.int (p.2:Int),H,I.kept (t':=s'.toks) hk,⟨t,h2⟩,q p.2 ⟨p,dJ h1,rfl⟩ fun y hy=>?_⟩;obtain⟨j,hj⟩:=List.mem_iff_getElem?.mp hy;grind
def y8 (hc:X.calm=true):iF X (.builtin "sorted") (fun xs H Q=>∃(d:Addr) (ks:List Nat) (f:Nat→V),xs=[.ref d]∧H d=some (.dK (ks.map fun(k:Nat)=>((Sum.inl (k:Int):Key),f k)))∧
  ∀(ks':List Nat) (p:Addr),ks'.Perm ks→ks'.Pairwise (·≤·)→H p=none→Q (.ref p) (upd H p (.lst (ks'.map iV)))):=by
 intro pins s σ H xs us Q I r h;obtain⟨d,ks,f,rfl,hd,q⟩:=h;obtain⟨u,rfl,ru⟩:=vals1 r;cases ru;obtain⟨hz,hs,vs,rel,dd⟩:=I.b9 d _ hd;obtain⟨ep,da⟩:=oU dd;have hl:ks.length=vs.length:=by have:=bZ rel;rw[ay]at this;exact this
 rw[ay]at hz;refine Calls.call_function_entry kind_sorted plain_sorted entry_sorted (args_sorted1 _) ?_;unfold Builtin.«sorted»;refine aq (m:=checkCount "sorted" 1 1 _) (aL ?_);refine aq (kdu_collect (A:=X.A.in1) (F3 (knd:=bw X.prog X.w) (kvs:=vs) (ep:=ep) hs) (I.ok.hd hc) da (by rw[←hl];exact hz) fun h' tk acc hk hi=>?_);have hv:Vals ((ks.map fun(k:Nat)=>(k:Int)).map V.int) acc.toList:=by
  rw[aV];exact uR rel hi hl
 have Gk:acc.toList.length=ks.length:=by rw[FL,hi.1,hl]
 refine aq (wpAny_newList ?_ (by rw[Gk];exact hz));have RG:(h'.push {cls:= .type "list",data:= .seq acc.toList.toArray}).get? h'.objs.size=some (seqObj "list" acc.toList.toArray 0):=bU _ rfl;refine aq (qT (lX slot_list_sort (self:= .ref h'.objs.size) ⟨_,RG,rfl⟩ entry_list_sort ?_ (args_list_sort _)));refine list_sort_treeAny RG hv.ints (by rw[Gk];exact hz) fun out Bj h1 h2 h3=>⟨_,rfl,aL ⟨_,rfl,?_⟩⟩;obtain⟨P5,Xt⟩:=sortedHeap_at (h:=h'.push {cls:= .type "list",data:= .seq acc.toList.toArray}) (a:=h'.objs.size) (vs:=acc.toList) (out:=out) RG;have keep:∀b o,s.heap.get? b=some o→(sortedHeap (h'.push {cls:= .type "list",data:= .seq acc.toList.toArray}) h'.objs.size acc.toList out).get? b=some o:=fun b o e=>by
  have hb:b<h'.objs.size:=bb (hk b o e);rw[sortedHeap_old (cC hb) (by rw[ff];exact yN hb)];exact bB _ (hk b o e)
 have As:s.heap.get? h'.objs.size=none:=by
  cases z:s.heap.get? h'.objs.size with
  | none=>rfl
  | some o=>exact absurd (bb (hk _ _ z)) (gu _)
 have Ap:∀n∈Bj,((n.toNat:Nat):Int)=n:=fun n hn=>by grind
 have e1:(Bj.map Int.toNat).map iV=Bj.map V.int:=by simp_all
 have QU:H h'.objs.size=none:=I.b9.gone As;have hlen:((Bj.map Int.toNat).map iV).length≤sizeLine:=by rw[ay,ay,h2.length_eq,ay];exact hz
 have EC:c8 X.prog X.w (upd H h'.objs.size (.lst ((Bj.map Int.toNat).map iV))) (sortedHeap (h'.push {cls:= .type "list",data:= .seq acc.toList.toArray}) h'.objs.size acc.toList out) h'.objs.size (.lst ((Bj.map Int.toNat).map iV)):=
  ⟨hlen,out.toList,P5,by rw[e1];exact sT h1,by rw[Xt,Hh]⟩
 refine⟨.ref h'.objs.size,upd H h'.objs.size (.lst ((Bj.map Int.toNat).map iV)),I.QM (t':=tk) keep As EC,rfl,q _ _ ?_ ?_ QU⟩
 ·have:=h2.map Int.toNat;rw[aV]at this;refine this.trans (Iw ?_)
  conv=>rhs;rw[←jm ks]
  rfl
 grind
end
noncomputable def bj {α:Type}:List α→List α
 | []=>[]
 | [x]=>[x]
 | x::_::r=>x::bj r
theorem fE {α:Type}:∀l:List α,(bj l).length=(l.length+1)/2
 | []=>by simp[bj]
 | [x]=>by simp[bj]
 | x::y::r=>by
  show(bj r).length+1=(r.length+2+1)/2;rw[fE r];lia
theorem uo {α:Type}:∀(l:List α) (i:Nat),(bj l)[i]? =l[2*i]?
 | [],i=>by rfl
 | [x],0=>rfl
 | [x],i+1=>by rfl
 | x::y::r,0=>rfl
 | x::y::r,i+1=>by
  show(bj r)[i]? =(x::y::r)[2*i+2]?;rw[uo r i];rfl
def Ga {xs:List V}{us:List Value}(r:Vals xs us):Vals (bj xs) (bj us):=by
 refine kN ?_ fun i a b ha hb=>?_;rw[fE,fE,r.length];rw[uo]at ha hb;obtain⟨u,h1,h2⟩:=r.get ha;simp_all
def KC (bp:List Value)(k:Nat):(slicePick bp.toArray (some (k:Int)) none (some 2)).toList=bj (bp.drop k):=by
 have hb:sliceBounds (some (k:Int)) none (some 2) bp.toArray.size=(((min k bp.length:Nat):Int),((bp.length:Nat):Int),2):=by
  unfold sliceBounds;simp;split<;>omega
 unfold slicePick;rw[hb];simp only;unfold sliceRange;simp only[show(2:Int)>0 by decide,qF];have hc:(if((min k bp.length:Nat):Int)<((bp.length:Nat):Int)then(((bp.length:Nat):Int)-((min k bp.length:Nat):Int)+2-1)/2 else 0).toNat=(bp.length-k+1)/2:=by (clear hb;lia)
 rw[hc];refine List.ext_getElem? fun i=>?_;rw[uo,List.getElem?_drop];have lI:∀(n:Nat),n≤(bp.length-k+1)/2→(((List.range n).map fun(j:Nat)=>(((min k bp.length:Nat):Int)+2*(j:Int)).toNat).filterMap (bp.toArray[·]?))=(List.range n).map fun j=>(bp[k+2*j]?).getD .none:=by
  intro n
  induction n with
  | zero=>intro _;rfl
  | succ n ih=>
   intro hn;rw[List.range_succ,gS,List.filterMap_append,ih (by exact Nat.le_of_lt ‹_›),gS]
   congr 1
   have e:(((min k bp.length:Nat):Int)+2*(n:Int)).toNat=k+2*n:=by (clear hc;lia)
   have lu:k+2*n<bp.length:=by (clear hc hb;lia)
   simp_all
 show((((List.range _).map _).filterMap _).toArray.toList)[i]? =_;rw[List.toList_toArray,lI _ (bo _),cO];by_cases h:i<(bp.length-k+1)/2
 ·rw[List.getElem?_range h];have lu:k+2*i<bp.length:=by (clear hc;omega)
  simp_all
 rw[HA (by simpa using Nat.le_of_not_lt h),HA (by clear hc;lia)];rfl
def VP (K:Frag)(k:Nat)(te:TE):TE:=fun σ H Q=>te σ H fun x H1=>∃a xs,x= .ref a∧bz K H1 a xs∧∀p,H1 p=none→Q (.ref p) (upd H1 p (.lst (bj (xs.drop k))))
section
variable{X:Cx}{e:Expr}{te:TE}{pos p2 q1 q2:Pos}{j1 j2:Nat}{i:Int}
def oN (k:Nat)(hi:i=(k:Int))(he:PE X e te):PE X (.Subscript e (.Slice (some (.Constant (.int i) j1 q1)) none (some (.Constant (.int 2) j2 q2)) p2) pos) (VP X.K k te):=by
 intro pins s σ H Q I h;refine Subscript_ (cS (he pins s σ H _ I h) fun v s1 ⟨x,H1,I1,r1,q1⟩=>?_);obtain⟨a,xs,rfl,hx,q⟩:=q1;cases r1;refine wpAny_Slice ?_;rw[evalPart_some,evalPart_none,evalPart_some];refine G0 (aL (G0 ?_));have I4:=(I1.tok (s1.toks+1)).tok (s1.toks+1+1);have I5:Inv X pins σ H1 {s1 with heap:=s1.heap.push {cls:= .type "slice",data:= .fields #[.int i s1.toks,.none,.int 2 (s1.toks+1)]},toks:=s1.toks+1+1}:=I4.kept (t':=s1.toks+1+1) fun b ob q=>bB _ q;obtain⟨bp,r,ht,hz⟩:=I5.list hx;have hlen:=r.length;have hg:wpAny (model X.prog X.w) X.A (getItem (.ref a) (.ref s1.heap.objs.size)) (EP X pins σ Q) X.xe {s1 with heap:=s1.heap.push {cls:= .type "slice",data:= .fields #[.int i s1.toks,.none,.int 2 (s1.toks+1)]},toks:=s1.toks+1+1}:=by
  refine wpAny_getItem_list_slice ht.isList (Heap.IsSliceOf.new ..) (.int i _) .none (.int 2 _) (by decide) ?_ (by rw[cu]<;>omega);subst hi;have e2:slicePick bp.toArray (some (k:Int)) none (some 2)=(bj (bp.drop k)).toArray:=by rw[←KC,Hh]
  rw[e2];refine⟨.ref _,_,I5.laid (t':=s1.toks+1+1) (o:= .lst (bj (xs.drop k))) (fun b ob q=>bB _ q) (bo _) ?_,rfl,q _ (I5.b9.fresh (bo _))⟩;refine⟨?_,_,0,Ga (r.drop k),bU _ rfl⟩;rw[fE,Gq];lia
 show wpAny (model X.prog X.w) X.A (subscriptTail e (.Slice (some (.Constant (.int i) j1 q1)) none (some (.Constant (.int 2) j2 q2)) p2) (.ref a) (.ref s1.heap.objs.size)) (EP X pins σ Q) X.xe _;exact tail_any (ops:=[.ref a,.ref s1.heap.objs.size]) ht.isList.typeIs GU.lookup hg (by with_unfolding_all rfl)
end
section
variable{X:Cx}{e:Expr}{ta:TE}{f:Str}{pos:Pos}
def bA (K:Frag)(he:PE X e ta)(hb:attributeBase e f X.env (eval e X.env)=eval e X.env)(hK:X.K=K:=by rfl):PE X (.Attribute e f pos) (N5 K ta f):=by
 subst hK;exact az he hb
def ke (K:Frag)(ha:PE X e ta)(he:∀whole,isTrue e X.env whole=(do let v ←whole;standAt e.pos;holding [v] (truthy v)))(hK:X.K=K:=by rfl):
  PT X e (fun σ H Q=>ta σ H fun x H'=>∃k,GO K x H' k∧Q k H'):=by
 subst hK;exact bV ha he
def gB {es:List Expr}{k:Nat}{t:PD}(K:Frag)(n:Nat)(hc:X.calm=true)(h:Ud X es t)(hK:X.K=K:=by rfl)
  (hn:(assignEach es X.env).length=n:=by rfl) (pX:(assignEach es X.env).findIdx? (·.1)=none:=by rfl):PG X (.Tuple es k pos) (PZ K n t):=by
 subst hK;exact gT hc h hn pX
def RN (K:Frag)(hK:X.K=K:=by rfl):wt X (compareOp .In) (Xw K false):=by subst hK;exact Jc
end
section
variable{X:Cx}
def W9 (K:Frag):V→V→Hp→VK→Prop:=fun x y H Q=>∃p xs i v,x= .ref p∧y= .int i∧0≤i∧bz K H p xs∧KD xs i=some v∧Q v H
def MN:TF X (W9 X.K):=by
 intro pins s σ H x y v u Q I rx ry h;obtain⟨p,xs,i,z,rfl,rfl,h0,hq,he,q⟩:=h;cases rx;obtain⟨t,rfl⟩:=ry;obtain⟨bp,r,pl,hz⟩:=I.list hq;obtain⟨j,h1,h2,h3,h4,h5⟩:=BJ he;obtain⟨w,ew,B2⟩:=r.get h2;have hl:=r.length;have hn:=t9;have hj:i.toNat=j:=by
  rw[seqIndex_of h0 h5]at h1;exact cV h1
 exact wpAny_getItem_list (Q:=EP X pins σ Q) pl.isList h0 (by lia) (by rw[hj];simpa using ew) ⟨z,H,I,B2,q⟩
end
end L2
namespace Lw
open PySem PySem.Spec PyProof.Rows L2
def top (i:Nat):Stmt:=PySem.Challenge.pw_lotstore_s01_answers.main.body.getD i (.Pass ⟨0,0,0,0⟩)
abbrev gP:Stmt:=top 10
abbrev gI:Stmt:=top 11
abbrev kY:Stmt:=top 12
abbrev mi:Stmt:=top 13
abbrev uf:Stmt:=top 14
abbrev l6:Stmt:=top 37
abbrev qp:Stmt:=top 38
abbrev vJ:Stmt:=top 39
abbrev dh:Stmt:=top 40
abbrev lV:Stmt:=top 41
abbrev s_row:Stmt:=top 43
abbrev tM:Stmt:=top 44
abbrev ub:Stmt:=top 45
abbrev Ax:Stmt:=top 47
abbrev nR:Stmt:=top 48
abbrev j':Stmt:=top 49
abbrev iW:Stmt:=top 50
abbrev MR:Stmt:=top 51
abbrev u_:Stmt:=top 52
abbrev vI:Stmt:=top 53
abbrev va:Stmt:=top 57
abbrev oj:Stmt:=top 58
abbrev rR:Stmt:=top 59
abbrev fF:Stmt:=top 60
abbrev tJ:Stmt:=top 61
abbrev lN:Stmt:=top 62
abbrev sq:Stmt:=top 63
abbrev oK:Stmt:=top 68
abbrev jR:Stmt:=top 69
abbrev m7:Stmt:=top 70
abbrev jN:Stmt:=top 71
abbrev AL:Stmt:=top 72
abbrev tf:Stmt:=top 73
abbrev Hd:Stmt:=top 74
abbrev wL:Stmt:=top 75
abbrev tj:Stmt:=top 76
abbrev En:Stmt:=top 77
abbrev ic:Stmt:=top 78
abbrev yy:Stmt:=top 80
abbrev xa:Stmt:=top 81
abbrev ij:Stmt:=top 82
abbrev mJ:Stmt:=top 83
abbrev jJ:Stmt:=top 86
abbrev gh:Stmt:=top 87
abbrev oq:Stmt:=top 88
abbrev qx:Stmt:=top 89
abbrev uM:Stmt:=top 90
abbrev mF:Stmt:=top 91
abbrev iu:Stmt:=top 92
abbrev Ij:Stmt:=top 93
abbrev zT:Stmt:=top 94
abbrev Kz:Stmt:=top 95
abbrev AX:Stmt:=top 96
abbrev rS:Stmt:=top 97
abbrev vt:Stmt:=top 99
abbrev vi:Stmt:=top 100
abbrev lK:Stmt:=top 101
abbrev nW:Stmt:=top 102
abbrev rJ:Stmt:=top 109
abbrev dQ:Stmt:=top 110
abbrev gj:Stmt:=top 111
abbrev Kb:Stmt:=top 112
abbrev EL:Stmt:=top 113
abbrev pZ:Stmt:=top 114
abbrev pL:Stmt:=top 115
abbrev AK:Stmt:=top 116
abbrev nH:Stmt:=inClass (top 1) 0
abbrev ng:Stmt:=inClass (top 2) 0
abbrev y_:Stmt:=inClass (top 3) 0
abbrev nu:Stmt:=inClass (top 4) 0
abbrev r8:Stmt:=inClass (top 5) 0
def jr:aE ["articles","number","reached","other","part","count"] ["articles","number"] (aj gP):= .go
def my:aE ["number","parts","measures","depth","part","count","size","need","plain","each"] ["number","parts","measures"] (aj gI):= .go
def jQ:aE ["articles","number","parts","measures","other","article","changed","its_parts"] ["articles","number","parts"] (aj kY):= .go
def kO:aE ["measure"] ["measure"] (aj mi):= .go
def xh:aE ["article","amount","need","plain"] ["article","amount"] (aj uf):= .go
def kZ:aE ["store","number"] ["store","number"] (aj l6):= .go
def nL:aE ["store","number","least"] ["store","number","least"] (aj qp):= .go
def tG:aE ["store","number","least","refusal","article"] ["store","number","least"] (aj vJ):= .go
def jM:aE ["store","number","parts","named","part","count","each","lot","above"] ["store","number","parts"] (aj dh):= .go
def p9:aE ["store","number","parts","refusal","measures","measure","changed","each","article"] ["store","number","parts"] (aj lV):= .go
def Kh:aE ["members","told","member"] ["members"] (aj s_row):= .go
def pY:aE ["numbers"] ["numbers"] (aj tM):= .go
def x6:aE ["shares","lot","count"] ["shares"] (aj ub):= .go
def yW:aE ["lot","day"] ["lot","day"] (aj Ax):= .go
def rW:aE ["store","article","good","lot"] ["store","article"] (aj nR):= .go
def mS:aE ["store","plain","lot"] ["store","plain"] (aj j'):= .go
def pQ:aE ["store","need","beyond","plain","count","missing"] ["store","need"] (aj iW):= .go
def HI:aE ["store","need","picked","plain","wanted","missing","lot","count"] ["store","need"] (aj MR):= .go
def rD:aE ["counts","session","count"] ["counts","session","count"] (aj u_):= .go
def su:aE ["store","lot","dropped","number","count","session"] ["store","lot"] (aj vI):= .go
def rT:aE ["store","number","amount"] ["store","number","amount"] (aj va):= .go
def rM:aE ["store","number","need_of_one","plain","count"] ["store","number"] (aj oj):= .go
def ql:aE ["store","number","amount"] ["store","number","amount"] (aj rR):= .go
def pJ:aE ["store","number","refusal","lots","lot","free","held","used"] ["store","number"] (aj fF):= .go
def qa:aE ["store","number","article"] ["store","number"] (aj tJ):= .go
def u4:aE ["store","plain","number"] ["store"] (aj lN):= .go
def pR:aE ["store","number","wanted","refusal","supplied","spoiled","lot","days","given"] ["store","number","wanted"] (aj sq):= .go
def zh:aE ["store","day","dropped","lot","each","session","count"] ["store","day"] (aj oK):= .go
def qX:aE ["lot","article","last_day"] ["lot","article","last_day"] (aj jR):= .go
def l8:aE ["store","number","amount"] ["store","number","amount"] (aj m7):= .go
def jg:aE ["store","number","article","amount","last_day","refusal"] ["store","number","article","amount","last_day"] (aj jN):= .go
def ze:aE ["store","number","article","amount","last_day","refusal","lot"] ["store","number","article","amount","last_day"] (aj AL):= .go
def pM:aE ["store","lot","count","reason"] ["store","lot","count","reason"] (aj tf):= .go
def Dp:aE ["store","number","count","reason","lot"] ["store","number","count","reason"] (aj Hd):= .go
def E2:aE ["store","reason","spoiled","lot","swept","count"] ["store","reason"] (aj wL):= .go
def pW:aE ["store","number","present","lot","held","grown","shrunk"] ["store","number","present"] (aj tj):= .go
def Ar:aE ["store","number","lot","used","dropped"] ["store","number"] (aj En):= .go
def sE:aE ["store","article","first","last","refusal","its_lots","lot","called"] ["store","article","first","last"] (aj ic):= .go
def u7:aE ["store","number","lot","told"] ["store","number"] (aj yy):= .go
def vb:aE ["store","number"] ["store","number"] (aj xa):= .go
def rK:aE ["store","days","on_shelf","lot","soon","by_last_day"] ["store","days"] (aj ij):= .go
def wa:aE ["store"] ["store"] (aj mJ):= .go
def qB:aE ["store","number"] ["store","number"] (aj jJ):= .go
def fT:aE ["store","number","refusal"] ["store","number"] (aj gh):= .go
def vX:aE ["store","article","amount"] ["store","article","amount"] (aj oq):= .go
def vB:aE ["store","number","lot"] ["store","number"] (aj qx):= .go
def yS:aE ["store","number","lot"] ["store","number"] (aj uM):= .go
def mf:aE ["store","number"] ["store","number"] (aj mF):= .go
def kh:aE ["store","number","refusal","session","lot","count"] ["store","number"] (aj iu):= .go
def CZ:aE ["store","number","article","amount","refusal","picked","lot","count"] ["store","number","article","amount"] (aj Ij):= .go
def x_:aE ["store","number","article","amount","refusal","picked","lot","count"] ["store","number","article","amount"] (aj zT):= .go
def Hk:aE ["store","number","refusal","taken","lot","count"] ["store","number"] (aj Kz):= .go
def xt:aE ["store","number","refusal","released","lot","count","session"] ["store","number"] (aj AX):= .go
def pw:aE ["store","number","lot_number","count","refusal","lot","left"] ["store","number","lot_number","count"] (aj rS):= .go
def rq:aE ["store","number"] ["store","number"] (aj vt):= .go
def tK:aE ["store","number","session","marks"] ["store","number"] (aj vi):= .go
def pS:aE ["store","number","reached","waiting","looked_at","session","lot","count","fresh","other"] ["store","number"] (aj lK):= .go
def mh:aE ["store","number"] ["store","number"] (aj nW):= .go
def qc:aE ["number","meaning","bounds"] ["number","meaning"] (aj rJ):= .go
def il:aE ["numbers","parts","counts","part","count"] ["numbers"] (aj dQ):= .go
def fQ:aE ["call","meanings","number","meaning"] ["call"] (aj gj):= .go
def NX:aE ["store","place","given"] ["store","place","given"] (aj Kb):= .go
def AB:aE ["store","place","given"] ["store","place","given"] (aj EL):= .go
def nj:aE ["store","call"] ["store","call"] (aj pZ):= .go
def ou:aE ["calls","start","place","length"] ["calls","start"] (aj pL):= .go
def yd:aE ["calls","store","answered","start","length","answer"] ["calls"] (aj AK):= .go
def vP:aE ["self","depth","size","need"] ["self","depth","size","need"] (aj nH):= .go
def l7:aE ["self","number","least"] ["self","number","least"] (aj ng):= .go
def vD:aE ["self","number","article","last_day","first_day"] ["self","number","article","last_day","first_day"] (aj y_):= .go
def vS:aE ["self"] ["self"] (aj nu):= .go
def qh:aE ["self"] ["self"] (aj r8):= .go
def jh:Pos:=⟨48,38,48,79⟩
def i':Str:=("with_kits_above" :Str)++".<locals>." ++"<lambda>"
def sS:Pos:=⟨155,28,155,52⟩
def sx:Str:=("good_lots" :Str)++".<locals>." ++"<lambda>"
def tI:Pos:=⟨331,35,331,59⟩
def rN:Str:=("tell_soon" :Str)++".<locals>." ++"<lambda>"
structure cw where
 dO:Addr
 Article:Addr
 Lot:Addr
 f7:Addr
 pH:Addr
 cq:Addr
 eJ:Addr
 eG:Addr
structure iS (C:cw)(H:Hp):Prop where
 cf:fA H C.cq jh i'
 d9:fA H C.eJ sS sx
 d8:fA H C.eG tI rN
 br:C.cq≠C.eJ
 bq:C.cq≠C.eG
 bP:C.eJ≠C.eG
def iS.same {C:cw}{H H':Hp}(t:iS C H)(k:qW H H'):iS C H':=⟨t.cf.same k,t.d9.same k,t.d8.same k,t.br,t.bq,t.bP⟩
def iS.upd {C:cw}{H:Hp}{b:Addr}{o o':HO}(t:iS C H)(hb:H b=some o)(hp:Plain o):iS C (upd H b o'):=⟨t.cf.upd hb hp,t.d9.upd hb hp,t.d8.upd hb hp,t.br,t.bq,t.bP⟩
def iS.qH {C:cw}{H H':Hp}(t:iS C H)(k:qf C.cq H H')(h:fA H' C.cq jh i'):iS C H':=⟨h,t.d9.but k t.br.symm t.cf.ex,t.d8.but k t.bq.symm t.cf.ex,t.br,t.bq,t.bP⟩
def iS.Bc {C:cw}{H H':Hp}(t:iS C H)(k:qf C.eJ H H')(h:fA H' C.eJ sS sx):iS C H':=⟨t.cf.but k t.br t.d9.ex,h,t.d8.but k t.bP.symm t.d9.ex,t.br,t.bq,t.bP⟩
def iS.CK {C:cw}{H H':Hp}(t:iS C H)(k:qf C.eG H H')(h:fA H' C.eG tI rN):iS C H':=⟨t.cf.but k t.bq t.d8.ex,t.d9.but k t.bP t.d8.ex,h,t.br,t.bq,t.bP⟩
structure ia (K:Frag)(mg:Str→Option Value)(x qual:Str)(C:Addr)(st:Stmt)(fields:List Str):Prop where
 mg:mg x=some (.ref C)
 cl:JO K C
 no:∀f∈fields,fc K C f
 YQ:∃f fd,Mk K C f∧Pk K "__init__" qual st f fd
def ia.na {K:Frag}{mg:Str→Option Value}{x qual:Str}{C:Addr}{st:Stmt}{fields:List Str}{f:Str}(c:ia K mg x qual C st fields)(h:f∈fields:=by decide):fc K C f:=c.no f h
structure Txt (K:Frag)(mg:Str→Option Value)(A:cw):Prop where
 tS:JA K mg "with_kits_above" gP A.cq
 yC:Def K mg "measure_with" gI
 uB:Def K mg "measures_after" kY
 wm:Def K mg "within_limits" mi
 IK:Def K mg "need_of" uf
 wo:Def K mg "plain_refusal" l6
 zQ:Def K mg "add_article" qp
 DP:Def K mg "set_least" vJ
 uT:Def K mg "recipe_refusal" dh
 BM:Def K mg "set_recipe" lV
 SI:Def K mg "row" s_row
 A5:Def K mg "number_row" tM
 JP:Def K mg "lot_row" ub
 JW:Def K mg "is_good" Ax
 DV:JA K mg "good_lots" nR A.eJ
 zx:Def K mg "count_there" j'
 Bg:Def K mg "missing_of" iW
 P_:Def K mg "pick" MR
 Dm:Def K mg "add_count" u_
 DQ:Def K mg "drop_held" vI
 ER:Def K mg "tell_need" va
 CY:Def K mg "tell_able" oj
 BW:Def K mg "tell_short" rR
 Co:Def K mg "tell_shelf" fF
 B1:Def K mg "tell_parts" tJ
 FY:Def K mg "tell_low" lN
 CL:Def K mg "tell_lasts" sq
 IY:Def K mg "set_day" oK
 sC:Def K mg "telling_refusal" jR
 wV:Def K mg "room_refusal" m7
 sQ:Def K mg "receive_refusal" jN
 Jr:Def K mg "receive" AL
 Be:Def K mg "throw_away" tf
 Oz:Def K mg "throw" Hd
 OC:Def K mg "sweep" wL
 B9:Def K mg "take_stock" tj
 K3:Def K mg "recall" En
 Ep:Def K mg "recall_of" ic
 F2:Def K mg "tell_lot" yy
 Gf:Def K mg "tell_who" xa
 Dn:JA K mg "tell_soon" ij A.eG
 yb:Def K mg "tell_reasons" mJ
 rp:Def K mg "session_refusal" jJ
 kC:Def K mg "whole_session_refusal" gh
 yG:Def K mg "need_refusal" oq
 FX:Def K mg "held_for" qx
 J1:Def K mg "used_by" uM
 xV:Def K mg "open_session" mF
 wk:Def K mg "close_session" iu
 OS:Def K mg "issue" Ij
 Je:Def K mg "reserve" zT
 Q_:Def K mg "take" Kz
 JX:Def K mg "release" AX
 Bi:Def K mg "bring_back" rS
 Er:Def K mg "tell_uses" vt
 EG:Def K mg "tell_held" vi
 B_:Def K mg "cluster_of" lK
 yM:Def K mg "tell_cluster" nW
 BU:Def K mg "is_granted" rJ
 pf:Def K mg "are_parts_granted" dQ
 kX:Def K mg "are_arguments_granted" gj
 QK:Def K mg "look" Kb
 Lg:Def K mg "change" EL
 zy:Def K mg "answer_call" pZ
 zr:Def K mg "call_length" pL
 IQ:Def K mg "answers" AK
 blt:E9 K mg
 bN:ia K mg "Measure" "Measure.__init__" A.dO nH ["depth","size","need"]
 bI:ia K mg "Article" "Article.__init__" A.Article ng ["least","parts","measure"]
 a_:ia K mg "Lot" "Lot.__init__" A.Lot y_ ["number","article","last_day","first_day","received","gained","free","held","used","thrown","lost","called_back"]
 b7:ia K mg "Session" "Session.__init__" A.f7 nu ["closed","broken"]
 cn:ia K mg "Store" "Store.__init__" A.pH r8 ["day","articles","lots","sessions","thrown_for"]
 uW:mq mg "GREATEST_DEPTH" (.int 8)
 wd:mq mg "GREATEST_SIZE" (.int 256)
 wg:mq mg "GREATEST_NEED" (.int 1000000)
 yu:mq mg "BAD_ARGUMENT" (.int (-1))
 G7:mq mg "PAST_DAY" (.int (-2))
 ml:mq mg "KNOWN_ALREADY" (.int (-3))
 d_:mq mg "NO_ARTICLE" (.int (-4))
 ku:mq mg "NO_LOT" (.int (-5))
 iN:mq mg "NO_SESSION" (.int (-6))
 MJ:mq mg "CLOSED" (.int (-7))
 yw:mq mg "FULL" (.int (-8))
 sG:mq mg "WRONG_KIND" (.int (-9))
 Ql:mq mg "RING" (.int (-10))
 ES:mq mg "TOO_GREAT" (.int (-11))
 uU:mq mg "TOLD_OTHERWISE" (.int (-12))
 pU:mq mg "CALLED_BACK" (.int (-13))
 v_:mq mg "PAST_LAST_DAY" (.int (-14))
 rY:mq mg "NOT_ENOUGH" (.int (-15))
 KA:mq mg "BROKEN" (.int (-16))
 mw:mq mg "NOT_THAT_MANY" (.int (-17))
 tL:mq mg "STILL_HELD" (.int (-18))
 B8:mq mg "NOT_A_CALL" (.int (-100))
 bH:mq mg "GRANTED" (.int 0)
 vY:mq mg "MOST_ARTICLES" (.int 64)
 DA:mq mg "MOST_ABLE" (.int 1000000)
 uY:mq mg "MOST_DAYS" (.int 3650)
 EA:mq mg "MOST_LOTS" (.int 256)
 wb:mq mg "MOST_RECEIVED" (.int 1000000000)
 zD:mq mg "MOST_GAINED" (.int 1000000000000000)
 vN:mq mg "MOST_SESSIONS" (.int 128)
 xC:mq mg "RECIPE" (.int 3)
 vF:mq mg "RECALL_OF" (.int 16)
 ph:mq mg "MOST_PART_NUMBERS" (.int 32)
 Hl:mg "all" =none
 Mq:mg "any" =none
 i_:mg "len" =none
 Ko:mg "list" =none
 HW:mg "max" =none
 Iv:mg "min" =none
 UB:mg "set" =none
 gQ:mg "sorted" =none
 mC:mg "sum" =none
 O3:mg "zip" =none
end Lw
namespace L2
open PySem PySem.Spec PyProof.Rows
theorem qW.new {H:Hp}{p:Addr}{o:HO}(h:H p=none):qW H (upd H p o):=fun b ob e=>by
 rw[ah (aP e h)];exact e
end L2
namespace Lw
open PySem PySem.Spec PyProof.Rows L2
open Vbdlal (Lot Ses Article Bag)
open Vm
inductive Tag where
 | st|ad|ld|sd|th
 | art (n:Nat)|part (n:Nat)|dw (n:Nat)|need (n:Nat)
 | lot (n:Nat)|held (n:Nat)|used (n:Nat)
 | ses (n:Nat)
 deriving DecidableEq
abbrev bE:=Vbdlal.St
structure dW where
 d:Nat
 s:Nat
 c:Nat→Nat
def bC (A:List Article)(a:Nat):dW:=⟨dep A a,CB A a,cnt A a⟩
def Ci (A:Tag→Addr)(day:Nat):List (Str×V):=[("day",iV day),("articles",.ref (A .ad)),("lots",.ref (A .ld)),("sessions",.ref (A .sd)),("thrown_for",.ref (A .th))]
def jA (A:Tag→Addr)(x:Article):List (Str×V):=[("least",iV x.least),("parts",.ref (A (.part x.id))),("measure",.ref (A (.dw x.id)))]
def P7 (d s:Nat)(nd:Addr):List (Str×V):=[("depth",iV d),("size",iV s),("need",.ref nd)]
def bQ (A:Tag→Addr)(l:Lot):List (Str×V):=[("number",iV l.id),("article",iV l.article),("last_day",iV l.expiry),("first_day",iV l.day),("received",iV l.received),("gained",iV l.gained),
 ("free",iV l.free),("held",.ref (A (.held l.id))),("used",.ref (A (.used l.id))),("thrown",iV l.thrown),("lost",iV l.lost),("called_back",.bl l.called)]
def uP (x:Ses):List (Str×V):=[("closed",.bl x.closed),("broken",.bl x.broken)]
def wD (H:Hp)(p:Addr)(ps:List (Nat×Nat)):Prop:=∃as:List Addr,H p=some (.lst (as.map V.ref))∧Paired (fun a (q:Nat×Nat)=>H a=some (.tup [iV q.1,iV q.2])) as ps
def fz:Option Obj→HO→HO
 | none,o=>o
 | some od,o=> .eS od o
def yr (z:Option Obj)(H:Hp)(p:Addr)(b:Bag):Prop:=∃kvs:List (Nat×Nat),kvs.Perm b∧H p=some (fz z (.dK (kvs.map bg)))
def gO (z:Option Obj)(H:Hp)(p:Addr)(c:Nat→Nat):Prop:=∃kvs:List (Nat×Nat),(keys kvs).Nodup∧(∀k,cK kvs k=if c k=0 then none else some (c k))∧H p=some (fz z (.dK (kvs.map bg)))
def bT (s:bE):Tag→Prop
 | .art n | .part n | .dw n | .need n=>∃x∈s.articles,x.id=n
 | .lot n | .held n | .used n=>∃l∈s.lots,l.id=n
 | .ses n=>∃x∈s.sessions,x.id=n
 | _=>True
def At (C:cw)(A:Tag→Addr)(Z:Tag→Option Obj)(H:Hp)(s:bE)(M:Nat→dW):Tag→Prop
 | .st=>∃dx,H (A .st)=some (.ins C.pH dx (Ci A s.today))
 | .ad=>∃ord:List Nat,ord.Perm (s.articles.map (·.id))∧H (A .ad)=some (fz (Z .ad) (.dK (ord.map fun(a:Nat)=>(Sum.inl (a:Int),V.ref (A (.art a))))))
 | .ld=>H (A .ld)=some (fz (Z .ld) (.dK (s.lots.map fun l=>(Sum.inl (l.id:Int),V.ref (A (.lot l.id))))))
 | .sd=>∃ord:List Nat,ord.Perm (s.sessions.map (·.id))∧H (A .sd)=some (fz (Z .sd) (.dK (ord.map fun(a:Nat)=>(Sum.inl (a:Int),V.ref (A (.ses a))))))
 | .th=>H (A .th)=some (.lst ((0::s.reasons).map iV))
 | .art n=>∀x∈s.articles,x.id=n→∃dx,H (A (.art n))=some (.ins C.Article dx (jA A x))
 | .part n=>∀x∈s.articles,x.id=n→wD H (A (.part n)) x.parts
 | .dw n=>∃dx,H (A (.dw n))=some (.ins C.dO dx (P7 (M n).d (M n).s (A (.need n))))
 | .need n=>gO (Z (.need n)) H (A (.need n)) (M n).c
 | .lot n=>∀l∈s.lots,l.id=n→∃dx,H (A (.lot n))=some (.ins C.Lot dx (bQ A l))
 | .held n=>∀l∈s.lots,l.id=n→yr (Z (.held n)) H (A (.held n)) l.held
 | .used n=>∀l∈s.lots,l.id=n→yr (Z (.used n)) H (A (.used n)) l.uses
 | .ses n=>∀x∈s.sessions,x.id=n→∃dx,H (A (.ses n))=some (.ins C.f7 dx (uP x))
structure World (C:cw)(A:Tag→Addr)(Z:Tag→Option Obj)(H:Hp)(s:bE)(M:Nat→dW):Prop where
 inj:∀t t',bT s t→bT s t'→A t=A t'→t=t'
 at_:∀t,bT s t→At C A Z H s M t
 tabs:iS C H
section
variable{C:cw}{A:Tag→Addr}{H H':Hp}{s:bE}{M:Nat→dW}{Z:Tag→Option Obj}
def ym {α β:Type}{F G:α→β→Prop}{l:List α}{m:List β}(h:Paired F l m)(f:∀a b,F a b→G a b):Paired G l m:=Paired.tY h f
def wD.aF {p:Addr}{ps:List (Nat×Nat)}(h:wD H p ps)(k:∀o,H p=some o→H' p=some o)(tu:∀b xs,H b=some (.tup xs)→H' b=some (.tup xs)):wD H' p ps:=by
 obtain⟨as,h1,h2⟩:=h;exact⟨as,k _ h1,ym h2 fun a q e=>tu _ _ e⟩
def yr.aF {z:Option Obj}{p:Addr}{b:Bag}(h:yr z H p b)(k:∀o,H p=some o→H' p=some o):yr z H' p b:=by
 obtain⟨kvs,h1,h2⟩:=h;exact⟨kvs,h1,k _ h2⟩
def gO.aF {z:Option Obj}{p:Addr}{c:Nat→Nat}(h:gO z H p c)(k:∀o,H p=some o→H' p=some o):gO z H' p c:=by
 obtain⟨kvs,h1,h2,h3⟩:=h;exact⟨kvs,h1,h2,k _ h3⟩
def kK (z:Option Obj){kvs:List (Key×V)}:Plain (fz z (.dK kvs)):=by cases z<;>exact trivial
def At.aF {t:Tag}(h:At C A Z H s M t)(k:∀o,H (A t)=some o→H' (A t)=some o)(tu:∀b xs,H b=some (.tup xs)→H' b=some (.tup xs)):At C A Z H' s M t:=by
 cases t with
 | st=>obtain⟨dx,e⟩:=h;exact⟨dx,k _ e⟩
 | ad=>obtain⟨ord,p,e⟩:=h;exact⟨ord,p,k _ e⟩
 | ld=>exact k _ h
 | sd=>obtain⟨ord,p,e⟩:=h;exact⟨ord,p,k _ e⟩
 | th=>exact k _ h
 | art n=>exact fun x hx e=>let⟨dx,q⟩:=h x hx e;⟨dx,k _ q⟩
 | part n=>exact fun x hx e=>(h x hx e).aF k tu
 | dw n=>obtain⟨dx,e⟩:=h;exact⟨dx,k _ e⟩
 | need n=>exact gO.aF h k
 | lot n=>exact fun x hx e=>let⟨dx,q⟩:=h x hx e;⟨dx,k _ q⟩
 | held n=>exact fun x hx e=>(h x hx e).aF k
 | used n=>exact fun x hx e=>(h x hx e).aF k
 | ses n=>exact fun x hx e=>let⟨dx,q⟩:=h x hx e;⟨dx,k _ q⟩
def At.some {t:Tag}(hl:bT s t)(h:At C A Z H s M t):∃o,H (A t)=some o∧Plain o:=by
 cases t with
 | st=>obtain⟨dx,e⟩:=h;exact⟨_,e,trivial⟩
 | ad=>obtain⟨ord,p,e⟩:=h;exact⟨_,e,kK _⟩
 | ld=>exact⟨_,h,kK _⟩
 | sd=>obtain⟨ord,p,e⟩:=h;exact⟨_,e,kK _⟩
 | th=>exact⟨_,h,trivial⟩
 | art n=>obtain⟨x,hx,e⟩:=hl;obtain⟨dx,q⟩:=h x hx e;exact⟨_,q,trivial⟩
 | part n=>obtain⟨x,hx,e⟩:=hl;obtain⟨as,q,_⟩:=h x hx e;exact⟨_,q,trivial⟩
 | dw n=>obtain⟨dx,e⟩:=h;exact⟨_,e,trivial⟩
 | need n=>obtain⟨kvs,_,_,e⟩:=h;exact⟨_,e,kK _⟩
 | lot n=>obtain⟨x,hx,e⟩:=hl;obtain⟨dx,q⟩:=h x hx e;exact⟨_,q,trivial⟩
 | held n=>obtain⟨x,hx,e⟩:=hl;obtain⟨as,_,q⟩:=h x hx e;exact⟨_,q,kK _⟩
 | used n=>obtain⟨x,hx,e⟩:=hl;obtain⟨as,_,q⟩:=h x hx e;exact⟨_,q,kK _⟩
 | ses n=>obtain⟨x,hx,e⟩:=hl;obtain⟨dx,q⟩:=h x hx e;exact⟨_,q,trivial⟩
def NT:HO→Prop
 | .lQ _=>False
 | _=>True
structure ao (C:cw)(H H':Hp):Prop where
 at_:∀b o,H b=some o→NT o→H' b=some o
 tb:∀b ps,H b=some (.lQ ps)→∃Su,H' b=some (.lQ Su)
 tabs:iS C H→iS C H'
theorem ao.refl:ao C H H:=⟨fun _ _ e _=>e,fun _ ps e=>⟨ps,e⟩,id⟩
def ao.trans {H1 H2:Hp}(a:ao C H H1)(b:ao C H1 H2):ao C H H2:=
 ⟨fun c o e n=>b.at_ c o (a.at_ c o e n) n,fun c ps e=>let⟨_,e1⟩:=a.tb c ps e;b.tb c _ e1,fun t=>b.tabs (a.tabs t)⟩
def ao.same (k:qW H H'):ao C H H':=⟨fun b o e _=>k b o e,fun b ps e=>⟨ps,k b _ e⟩,fun t=>t.same k⟩
theorem ao.new {p:Addr}{o:HO}(h:H p=none):ao C H (upd H p o):= .same (qW.new h)
def ao.obj (k:ao C H H'){b:Addr}{o:HO}(e:H b=some o):∃o',H' b=some o':=by
 by_cases n:NT o;exact⟨o,k.at_ b o e n⟩;cases o<;>first|exact absurd trivial n|exact let⟨_,e1⟩:=k.tb b _ e;⟨_,e1⟩
def ao.back (k:ao C H H'){b:Addr}(e:H' b=none):H b=none:=by
 cases q:H b with
 | none=>rfl
 | some o=>obtain⟨o',z⟩:=k.obj q;rw[e]at z;cases z
def Dv {o:HO}(h:Plain o):NT o:=by cases o<;>first|exact trivial|exact h
def World.aF (W:World C A Z H s M)(k:ao C H H'):World C A Z H' s M:=by
 refine⟨W.inj,fun t ht=>(W.at_ t ht).aF (fun o e=>k.at_ _ _ e ?_) fun b xs e=>k.at_ b _ e trivial,k.tabs W.tabs⟩;obtain⟨o',e',p⟩:=(W.at_ t ht).some ht;rw[e]at e';cases e';exact Dv p
def cR (A:Tag→Addr)(s:bE)(b:Addr):Prop:=∃t,bT s t∧b=A t
def World.write (W:World C A Z H s M){t₀:Tag}(h0:bT s t₀){o:HO}{s':bE}{M':Nat→dW}{Z':Tag→Option Obj}(HN:∀t,bT s' t→bT s t)(hoth:∀t,t≠t₀→bT s' t→At C A Z H s M t→At C A Z' H s' M' t)
  (EC:At C A Z' (upd H (A t₀) o) s' M' t₀):World C A Z' (upd H (A t₀) o) s' M':=by
 obtain⟨ot,e0,pt⟩:=(W.at_ t₀ h0).some h0;have nt:∀xs,ot≠ .tup xs:=fun xs z=>by rw[z]at pt;exact pt
 refine⟨fun t t' h h'=>W.inj t t' (HN t h) (HN t' h'),fun t ht=>?_,W.tabs.upd e0 pt⟩;by_cases e:t=t₀;simp_all;refine(hoth t e ht (W.at_ t (HN t ht))).aF (fun o' q=>?_) fun b xs q=>?_;rw[ah fun z=>e (W.inj t t₀ (HN t ht) h0 z)];exact q;grind[ah]
def To:Tag→Prop
 | .held _ | .part _ | .dw _ | .need _=>False
 | _=>True
structure Moved (C:cw)(A:Tag→Addr)(s:bE)(H:Hp)(A':Tag→Addr)(s':bE)(H':Hp):Prop where
 keep:∀b o,H b=some o→NT o→¬cR A s b→H' b=some o
 tb:∀b ps,H b=some (.lQ ps)→∃Su,H' b=some (.lQ Su)
 own:∀t,bT s' t→cR A s (A' t)∨H (A' t)=none
 fix:∀t,bT s t→To t→A' t=A t∧bT s' t
def Moved.aF (k:ao C H H'):Moved C A s H A s H':=⟨fun b o e n _=>k.at_ b o e n,k.tb,fun t ht=> .inl ⟨t,ht,rfl⟩,fun _ h _=>⟨rfl,h⟩⟩
def Moved.trans {A1 A2:Tag→Addr}{s1 s2:bE}{H1 H2:Hp}(a:Moved C A s H A1 s1 H1)(b:Moved C A1 s1 H1 A2 s2 H2):Moved C A s H A2 s2 H2:=by
 have no:∀b o,H b=some o→¬cR A s b→¬cR A1 s1 b:=fun b o e h ⟨t,ht,z⟩=>by
  rcases a.own t ht with y|y;simp_all;simp_all
 refine⟨fun c o e n h=>b.keep c o (a.keep c o e n h) n (no c o e h),fun c ps e=>let⟨_,e1⟩:=a.tb c ps e;b.tb c _ e1,fun t ht=>?_,fun t ht hf=>?_⟩
 ·rcases b.own t ht with⟨t1,h1,z⟩|y
  ·rw[z];exact a.own t1 h1
  by_cases ow:cR A s (A2 t);exact .inl ow;refine .inr ?_;cases q:H (A2 t)with
  | none=>rfl
  | some o=>
   by_cases n:NT o;rw[a.keep _ _ q n ow]at y;cases y;cases o<;>first|exact absurd trivial n|(obtain⟨_,e1⟩:=a.tb _ _ q;rw[e1]at y;cases y)
 obtain⟨e1,l1⟩:=a.fix t ht hf;obtain⟨e2,l2⟩:=b.fix t l1 hf;simp_all
def Moved.write {t₀:Tag}(h0:bT s t₀){o:HO}{s':bE}(hl:∀t,bT s' t↔bT s t){ot:HO}(e0:H (A t₀)=some ot)(n0:NT ot):Moved C A s H A s' (upd H (A t₀) o):=by
 refine⟨fun b ob e _ hb=>?_,fun b ps e=>⟨ps,?_⟩,fun t ht=> .inl ⟨t,(hl t).mp ht,rfl⟩,fun t ht _=>⟨rfl,(hl t).mpr ht⟩⟩;rw[ah fun z=>hb ⟨t₀,h0,z⟩];exact e;rw[ah fun z=>by rw[z,e0]at e;cases e;exact n0];exact e
def Moved.bR {A':Tag→Addr}{s':bE}(k:Moved C A s H A' s' H'){b:Addr}{o:HO}(e:H b=some o)(n:NT o)(h:¬cR A s b):H' b=some o∧¬cR A' s' b:=
 ⟨k.keep b o e n h,fun⟨t,ht,z⟩=>by
  rcases k.own t ht with y|y;grind
  ·rw[←z,e]at y;cases y⟩
def World.bR (W:World C A Z H s M){b:Addr}(e:H b=none):¬cR A s b:=fun⟨t,ht,z⟩=>by
 obtain⟨o,q,_⟩:=(W.at_ t ht).some ht;simp_all
def World.fh (W:World C A Z H s M){b:Addr}{o:HO}(e:H b=some o)(n:¬Plain o):¬cR A s b:=fun⟨t,ht,z⟩=>by
 obtain⟨o',q,p⟩:=(W.at_ t ht).some ht;simp_all
end
def A6 {a b:Nat}:(Sum.inl (a:Int):Key)=Sum.inl (b:Int)↔a=b:=⟨fun e=>by have:=Sum.inl.inj e;lia,fun e=>by rw[e]⟩
theorem fk (f:Nat→V)(n:Nat):∀l:List Nat,fS (l.map fun(a:Nat)=>((Sum.inl (a:Int):Key),f a)) (Sum.inl (n:Int))=if n∈l then some (f n)else none
 | []=>rfl
 | a::l=>by
  rw[bF];by_cases e:a=n;simp_all[i6];rw[ji (p:=((Sum.inl (a:Int):Key),f a)) fun z=>e (A6.mp z),fk f n l];grind
theorem k8 (f:Lot→V)(n:Nat):∀l:List Lot,fS (l.map fun x=>((Sum.inl (x.id:Int):Key),f x)) (Sum.inl (n:Int))=(l.find? fun x=>x.id==n).map f
 | []=>rfl
 | a::l=>by
  rw[bF,uZ];by_cases e:a.id=n;simp_all[i6];rw[ji (p:=((Sum.inl (a.id:Int):Key),f a)) fun z=>e (A6.mp z),k8 f n l];split<;>simp_all
theorem gy (k:Nat):∀l:List (Nat×Nat),fS (l.map bg) (Sum.inl (k:Int))=(cK l k).map iV
 | []=>rfl
 | p::l=>by
  rw[bF,dg];by_cases e:p.1=k;simp_all[i6,bg];rw[ji (p:=bg p) fun z=>e (A6.mp z),gy k l,ak e]
theorem xo (l:List (Nat×Nat))(k v:Nat):putK (l.map bg) (Sum.inl (k:Int)) (iV v)=(dput l k v).map bg:=by
 unfold putK dput;rw[kg,gy,Q0];cases e:cK l k with
 | none=>simp[bg]
 | some x=>(simp_all;(simp only[List.map_congr_left,bg];grind[List.map_congr_left,bg]))
def uj (l:List (Nat×Nat))(k:Nat):vG (l.map bg) (Sum.inl (k:Int))=(jO l k).map bg:=by (simp only[vG,jO,List.filter_congr,bg];grind[vG,jO,List.filter_congr,bg])
section
variable{C:cw}{A:Tag→Addr}{H H':Hp}{s:bE}{M:Nat→dW}{Z:Tag→Option Obj}
def Kt {z:Option Obj}{a:Addr}{o:HO}(e:H a=some (fz z o)):Rd H a o:=by
 cases z with
 | none=>exact .inl e
 | some od=>exact .inr ⟨od,e⟩
def rZ {z:Option Obj}{a:Addr}{kvs:List (Key×V)}{k:Key}(e:H a=some (fz z (.dK kvs))):iM H a (kV k) (fS kvs k):= .inl ⟨kvs,k,Kt e,rfl,rfl⟩
def World.fM (W:World C A Z H s M)(n:Nat):iM H (A .ad) (iV n) (if(∃x∈s.articles,x.id=n)then some (.ref (A (.art n)))else none):=by
 obtain⟨ord,hp,e⟩:=W.at_ .ad trivial;have:=rZ (k:=Sum.inl (n:Int)) e;rw[fk]at this;have h:n∈ord↔∃x∈s.articles,x.id=n:=by rw[hp.mem_iff,aZ]
 by_cases q:n∈ord;rw[aw q]at this;rw[aw (h.mp q)];exact this;rw[ak q]at this;rw[ak fun z=>q (h.mpr z)];exact this
def World.lW (W:World C A Z H s M)(n:Nat):iM H (A .sd) (iV n) (if(∃x∈s.sessions,x.id=n)then some (.ref (A (.ses n)))else none):=by
 obtain⟨ord,hp,e⟩:=W.at_ .sd trivial;have:=rZ (k:=Sum.inl (n:Int)) e;rw[fk]at this;have h:n∈ord↔∃x∈s.sessions,x.id=n:=by rw[hp.mem_iff,aZ]
 by_cases q:n∈ord;rw[aw q]at this;rw[aw (h.mp q)];exact this;rw[ak q]at this;rw[ak fun z=>q (h.mpr z)];exact this
def World.Qa (W:World C A Z H s M)(hz:Z .ld=none):H (A .ld)=some (.dK (s.lots.map fun l=>(Sum.inl (l.id:Int),V.ref (A (.lot l.id))))):=by
 have e:H (A .ld)=some (fz (Z .ld) _):=W.at_ .ld trivial;rw[hz]at e;exact e
def World.oe (W:World C A Z H s M)(n:Nat):iM H (A .ld) (iV n) ((lotOf s n).map fun l=> .ref (A (.lot l.id))):=by
 have e:H (A .ld)=some (fz (Z .ld) _):=W.at_ .ld trivial;have:=rZ (k:=Sum.inl (n:Int)) e;rw[k8 (fun l=>V.ref (A (.lot l.id)))]at this;exact this
end
section
variable{A:Tag→Addr}
def NG (d:Nat):(Ci A d).lookup ("day" :Str)=some (iV d):=by rfl
def Bd (d:Nat):(Ci A d).lookup ("articles" :Str)=some (.ref (A .ad)):=by rfl
def LG (d:Nat):(Ci A d).lookup ("lots" :Str)=some (.ref (A .ld)):=by rfl
def B6 (d:Nat):(Ci A d).lookup ("sessions" :Str)=some (.ref (A .sd)):=by rfl
def GI (d:Nat):(Ci A d).lookup ("thrown_for" :Str)=some (.ref (A .th)):=by rfl
def GG (x:Article):(jA A x).lookup ("parts" :Str)=some (.ref (A (.part x.id))):=by rfl
end
end Lw
namespace L2
open PySem PySem.Spec PyProof.Rows
structure jZ (K:Frag)(H:Hp)(a:Addr)(f:Str)(v:V):Prop where
 ex:∃C dx fs,H a=some (.ins C dx fs)∧JO K C∧fc K C f∧fs.lookup f=some v
def jZ.use {K:Frag}{H:Hp}{a:Addr}{f:Str}{v:V}{R:Addr→Addr→Addr→List (Str×V)→V→Prop}(h:jZ K H a f v)
  (r:∀C dx fs,H a=some (.ins C dx fs)→JO K C→fc K C f→fs.lookup f=some v→R a C dx fs v):∃a' C dx fs v',R a' C dx fs v':=by
 obtain⟨C,dx,fs,h1,h2,h3,h4⟩:=h.ex;exact⟨a,C,dx,fs,v,r C dx fs h1 h2 h3 h4⟩
def jZ.go {K:Frag}{H:Hp}{a:Addr}{f:Str}{v:V}{Q:VK}(h:jZ K H a f v)(q:Q v H):iF_ K f Q (.ref a) H:=
 let⟨C,dx,fs,h1,h2,h3,h4⟩:=h.ex
 ⟨a,C,dx,fs,v,rfl,h1,h2,h3,h4,q⟩
def jZ.upd {K:Frag}{H:Hp}{a d:Addr}{f:Str}{v:V}{o o':HO}(h:jZ K H a f v)(hd:H d=some o)(n:∀C dx fs,o≠ .ins C dx fs):jZ K (upd H d o') a f v:=by
 obtain⟨C,dx,fs,h1,h2⟩:=h.ex;exact⟨C,dx,fs,by rw[ah fun z=>by rw[z,hd]at h1;cases h1;exact n _ _ _ rfl];exact h1,h2⟩
end L2
namespace Lw
open PySem PySem.Spec PyProof.Rows L2
open Vbdlal (Lot Ses Article Bag)
open Vm
def jZ.aF {C:cw}{K:Frag}{H H':Hp}{a:Addr}{f:Str}{v:V}(h:jZ K H a f v)(k:ao C H H'):jZ K H' a f v:=by
 obtain⟨C,dx,fs,h1,h2⟩:=h.ex;exact⟨C,dx,fs,k.at_ _ _ h1 trivial,h2⟩
section
variable{K:Frag}{mg:Str→Option Value}{C:cw}{A:Tag→Addr}{H H':Hp}{s:bE}{M:Nat→dW}{Z:Tag→Option Obj}(T:Txt K mg C)(W:World C A Z H s M)
include T W
theorem ve:jZ K H (A .st) "day" (iV s.today):=by
 obtain⟨dx,e⟩:=W.at_ .st trivial;exact⟨_,dx,_,e,T.cn.cl,T.cn.na,NG _⟩
theorem bh:jZ K H (A .st) "articles" (.ref (A .ad)):=by
 obtain⟨dx,e⟩:=W.at_ .st trivial;exact⟨_,dx,_,e,T.cn.cl,T.cn.na,Bd _⟩
theorem eE:jZ K H (A .st) "lots" (.ref (A .ld)):=by
 obtain⟨dx,e⟩:=W.at_ .st trivial;exact⟨_,dx,_,e,T.cn.cl,T.cn.na,LG _⟩
theorem cU:jZ K H (A .st) "sessions" (.ref (A .sd)):=by
 obtain⟨dx,e⟩:=W.at_ .st trivial;exact⟨_,dx,_,e,T.cn.cl,T.cn.na,B6 _⟩
theorem sr:jZ K H (A .st) "thrown_for" (.ref (A .th)):=by
 obtain⟨dx,e⟩:=W.at_ .st trivial;exact⟨_,dx,_,e,T.cn.cl,T.cn.na,GI _⟩
theorem Oo {x:Article}(hx:x∈s.articles):jZ K H (A (.art x.id)) "parts" (.ref (A (.part x.id))):=by
 obtain⟨dx,e⟩:=W.at_ (.art x.id) ⟨x,hx,rfl⟩ x hx rfl;exact⟨_,dx,_,e,T.bI.cl,T.bI.na,GG _⟩
end
section
variable{K:Frag}{mg:Str→Option Value}{C:cw}{A:Tag→Addr}{H H':Hp}{s:bE}{M:Nat→dW}{Z:Tag→Option Obj}
def g9 (T:Txt K mg C)(W:World C A Z H s M){l:Lot}(hl:l∈s.lots):jZ K H (A (.lot l.id)) "number" (iV l.id):=by
 obtain⟨dx,e⟩:=W.at_ (.lot l.id) ⟨l,hl,rfl⟩ l hl rfl;exact⟨_,dx,_,e,T.a_.cl,T.a_.na,by rfl⟩
def gf (T:Txt K mg C)(W:World C A Z H s M){l:Lot}(hl:l∈s.lots):jZ K H (A (.lot l.id)) "article" (iV l.article):=by
 obtain⟨dx,e⟩:=W.at_ (.lot l.id) ⟨l,hl,rfl⟩ l hl rfl;exact⟨_,dx,_,e,T.a_.cl,T.a_.na,by rfl⟩
def c_ (T:Txt K mg C)(W:World C A Z H s M){l:Lot}(hl:l∈s.lots):jZ K H (A (.lot l.id)) "last_day" (iV l.expiry):=by
 obtain⟨dx,e⟩:=W.at_ (.lot l.id) ⟨l,hl,rfl⟩ l hl rfl;exact⟨_,dx,_,e,T.a_.cl,T.a_.na,by rfl⟩
def p7 (T:Txt K mg C)(W:World C A Z H s M){l:Lot}(hl:l∈s.lots):jZ K H (A (.lot l.id)) "first_day" (iV l.day):=by
 obtain⟨dx,e⟩:=W.at_ (.lot l.id) ⟨l,hl,rfl⟩ l hl rfl;exact⟨_,dx,_,e,T.a_.cl,T.a_.na,by rfl⟩
def iQ (T:Txt K mg C)(W:World C A Z H s M){l:Lot}(hl:l∈s.lots):jZ K H (A (.lot l.id)) "received" (iV l.received):=by
 obtain⟨dx,e⟩:=W.at_ (.lot l.id) ⟨l,hl,rfl⟩ l hl rfl;exact⟨_,dx,_,e,T.a_.cl,T.a_.na,by rfl⟩
def xJ (T:Txt K mg C)(W:World C A Z H s M){l:Lot}(hl:l∈s.lots):jZ K H (A (.lot l.id)) "gained" (iV l.gained):=by
 obtain⟨dx,e⟩:=W.at_ (.lot l.id) ⟨l,hl,rfl⟩ l hl rfl;exact⟨_,dx,_,e,T.a_.cl,T.a_.na,by rfl⟩
def dF (T:Txt K mg C)(W:World C A Z H s M){l:Lot}(hl:l∈s.lots):jZ K H (A (.lot l.id)) "free" (iV l.free):=by
 obtain⟨dx,e⟩:=W.at_ (.lot l.id) ⟨l,hl,rfl⟩ l hl rfl;exact⟨_,dx,_,e,T.a_.cl,T.a_.na,by rfl⟩
def gA (T:Txt K mg C)(W:World C A Z H s M){l:Lot}(hl:l∈s.lots):jZ K H (A (.lot l.id)) "held" (.ref (A (.held l.id))):=by
 obtain⟨dx,e⟩:=W.at_ (.lot l.id) ⟨l,hl,rfl⟩ l hl rfl;exact⟨_,dx,_,e,T.a_.cl,T.a_.na,by rfl⟩
def eV (T:Txt K mg C)(W:World C A Z H s M){l:Lot}(hl:l∈s.lots):jZ K H (A (.lot l.id)) "used" (.ref (A (.used l.id))):=by
 obtain⟨dx,e⟩:=W.at_ (.lot l.id) ⟨l,hl,rfl⟩ l hl rfl;exact⟨_,dx,_,e,T.a_.cl,T.a_.na,by rfl⟩
def GF (T:Txt K mg C)(W:World C A Z H s M){l:Lot}(hl:l∈s.lots):jZ K H (A (.lot l.id)) "thrown" (iV l.thrown):=by
 obtain⟨dx,e⟩:=W.at_ (.lot l.id) ⟨l,hl,rfl⟩ l hl rfl;exact⟨_,dx,_,e,T.a_.cl,T.a_.na,by rfl⟩
def Ml (T:Txt K mg C)(W:World C A Z H s M){l:Lot}(hl:l∈s.lots):jZ K H (A (.lot l.id)) "lost" (iV l.lost):=by
 obtain⟨dx,e⟩:=W.at_ (.lot l.id) ⟨l,hl,rfl⟩ l hl rfl;exact⟨_,dx,_,e,T.a_.cl,T.a_.na,by rfl⟩
def eQ (T:Txt K mg C)(W:World C A Z H s M){l:Lot}(hl:l∈s.lots):jZ K H (A (.lot l.id)) "called_back" (.bl l.called):=by
 obtain⟨dx,e⟩:=W.at_ (.lot l.id) ⟨l,hl,rfl⟩ l hl rfl;exact⟨_,dx,_,e,T.a_.cl,T.a_.na,by rfl⟩
def kn (l:Lot)(n:Nat):dZ "received" (iV n) (bQ A l)=bQ A {l with received:=n}:=by rfl
def xA (l:Lot)(n:Nat):dZ "gained" (iV n) (bQ A l)=bQ A {l with gained:=n}:=by rfl
def eI (l:Lot)(n:Nat):dZ "free" (iV n) (bQ A l)=bQ A {l with free:=n}:=by rfl
def xR (l:Lot)(n:Nat):dZ "thrown" (iV n) (bQ A l)=bQ A {l with thrown:=n}:=by rfl
def BF (l:Lot)(n:Nat):dZ "lost" (iV n) (bQ A l)=bQ A {l with lost:=n}:=by rfl
def iG (l:Lot)(b:Bool):dZ "called_back" (.bl b) (bQ A l)=bQ A {l with called:=b}:=by rfl
def yT (T:Txt K mg C)(W:World C A Z H s M){x:Ses}(hl:x∈s.sessions):jZ K H (A (.ses x.id)) "closed" (.bl x.closed):=by
 obtain⟨dx,e⟩:=W.at_ (.ses x.id) ⟨x,hl,rfl⟩ x hl rfl;exact⟨_,dx,_,e,T.b7.cl,T.b7.na,by rfl⟩
def jd (T:Txt K mg C)(W:World C A Z H s M){x:Ses}(hl:x∈s.sessions):jZ K H (A (.ses x.id)) "broken" (.bl x.broken):=by
 obtain⟨dx,e⟩:=W.at_ (.ses x.id) ⟨x,hl,rfl⟩ x hl rfl;exact⟨_,dx,_,e,T.b7.cl,T.b7.na,by rfl⟩
def xn (x:Ses)(b:Bool):dZ "closed" (.bl b) (uP x)=uP {x with closed:=b}:=by rfl
def ja (x:Ses)(b:Bool):dZ "broken" (.bl b) (uP x)=uP {x with broken:=b}:=by rfl
def AA (T:Txt K mg C)(W:World C A Z H s M){x:Article}(hl:x∈s.articles):jZ K H (A (.art x.id)) "least" (iV x.least):=by
 obtain⟨dx,e⟩:=W.at_ (.art x.id) ⟨x,hl,rfl⟩ x hl rfl;exact⟨_,dx,_,e,T.bI.cl,T.bI.na,by rfl⟩
def oP (T:Txt K mg C)(W:World C A Z H s M){x:Article}(hl:x∈s.articles):jZ K H (A (.art x.id)) "parts" (.ref (A (.part x.id))):=by
 obtain⟨dx,e⟩:=W.at_ (.art x.id) ⟨x,hl,rfl⟩ x hl rfl;exact⟨_,dx,_,e,T.bI.cl,T.bI.na,by rfl⟩
def nh (T:Txt K mg C)(W:World C A Z H s M){x:Article}(hl:x∈s.articles):jZ K H (A (.art x.id)) "measure" (.ref (A (.dw x.id))):=by
 obtain⟨dx,e⟩:=W.at_ (.art x.id) ⟨x,hl,rfl⟩ x hl rfl;exact⟨_,dx,_,e,T.bI.cl,T.bI.na,by rfl⟩
def zP (x:Article)(n:Nat):dZ "least" (iV n) (jA A x)=jA A {x with least:=n}:=by rfl
end
section
variable{C:cw}{A:Tag→Addr}{H H':Hp}{s:bE}{M:Nat→dW}{Z:Tag→Option Obj}
def bY (s:bE)(l':Lot):bE:=Vbdlal.onLot s l'.id fun _=>l'
def ui (s:bE)(l':Lot):(bY s l').lots=s.lots.map fun l=>if(l.id==l'.id)=true then l' else l:=rfl
theorem dm {s:bE}(hn:(s.lots.map (·.id)).Nodup){l:Lot}(hl:l∈s.lots)(f:Lot→Lot)(hf:(f l).id=l.id):Vbdlal.onLot s l.id f=bY s (f l):=by (simp only[bY,Vbdlal.onLot,List.map_congr_left,kj];(simp_all;grind[bY,Vbdlal.onLot,List.map_congr_left,kj]))
def nZ {s:bE}{l l':Lot}(hl:l∈s.lots)(iA:l'.id=l.id):l'∈(bY s l').lots:=by
 rw[ui];simp;grind
def dE {s:bE}{l' m:Lot}(hm:m∈(bY s l').lots):m=l'∨(m∈s.lots∧m.id≠l'.id):=by
 rw[ui]at hm;simp_all;lia
def m_ {s:bE}{l':Lot}:(bY s l').lots.map (·.id)=s.lots.map (·.id):=by (simp[ui,List.map_congr_left];lia)
def bu {s:bE}{l':Lot}(t:Tag):bT (bY s l') t↔bT s t:=by
 have h:∀n,(∃l∈(bY s l').lots,l.id=n)↔∃l∈s.lots,l.id=n:=fun n=>by
  have e:n∈(bY s l').lots.map (·.id)↔n∈s.lots.map (·.id):=by rw[m_]
  simp_all
 cases t<;>first|exact Iff.rfl|exact h _
def oE {s:bE}{l':Lot}(A:Tag→Addr):((bY s l').lots.map fun l=>((Sum.inl (l.id:Int):Key),V.ref (A (.lot l.id))))=s.lots.map fun l=>((Sum.inl (l.id:Int):Key),V.ref (A (.lot l.id))):=by
 have e:∀ls:List Lot,(ls.map fun l=>((Sum.inl (l.id:Int):Key),V.ref (A (.lot l.id))))=(ls.map (·.id)).map fun(n:Nat)=>((Sum.inl (n:Int):Key),V.ref (A (.lot n))):=fun ls=>by rw[aV];rfl
 rw[e,e,m_]
def World.j9 (W:World C A Z H s M)(hn:(s.lots.map (·.id)).Nodup){l l':Lot}(hl:l∈s.lots)(iA:l'.id=l.id)(hh:l'.held=l.held)(hu:l'.uses=l.uses){dx:Addr}:
  World C A Z (upd H (A (.lot l.id)) (.ins C.Lot dx (bQ A l'))) (bY s l') M:=by
 refine W.write (t₀:= .lot l.id) ⟨l,hl,rfl⟩ (fun t h=>(bu t).mp h) (fun t ht hv h=>?_) ?_
 ·cases t with
  | st=>exact h
  | ad=>exact h
  | ld=>
   show H (A .ld)=some (fz (Z .ld) (.dK ((bY s l').lots.map _)));rw[oE];exact h
  | sd=>exact h
  | th=>exact h
  | art n=>exact h
  | part n=>exact h
  | dw n=>exact h
  | need n=>exact h
  | lot n=>
   intro m hm e;rcases dE hm with z|⟨hm,z⟩;lia;exact h m hm e
  | held n=>
   intro m hm e;rcases dE hm with z|⟨hm,z⟩;rw[z,hh];exact h l hl (by rw[←iA,←z];exact e);exact h m hm e
  | used n=>
   intro m hm e;rcases dE hm with z|⟨hm,z⟩;rw[z,hu];exact h l hl (by rw[←iA,←z];exact e);exact h m hm e
  | ses n=>exact h
 intro m hm e;rcases dE hm with z|⟨hm,z⟩;rw[z];exact⟨dx,af⟩;lia
def World.CM (W:World C A Z H s M){l l':Lot}(hl:l∈s.lots)(hn:(s.lots.map (·.id)).Nodup)(iA:l'.id=l.id)(hF:bQ A l'=bQ A l)(hu:l'.uses=l.uses){kvs:List (Nat×Nat)}(hp:kvs.Perm l'.held)(hz:Z (.held l.id)=none):
  World C A Z (upd H (A (.held l.id)) (.dK (kvs.map bg))) (bY s l') M:=by
 refine W.write (t₀:= .held l.id) ⟨l,hl,rfl⟩ (fun t h=>(bu t).mp h) (fun t ht hv h=>?_) ?_
 ·cases t with
  | st=>exact h
  | ad=>exact h
  | ld=>
   show H (A .ld)=some (fz (Z .ld) (.dK ((bY s l').lots.map _)));rw[oE];exact h
  | sd=>exact h
  | th=>exact h
  | art n=>exact h
  | part n=>exact h
  | dw n=>exact h
  | need n=>exact h
  | lot n=>
   intro m hm e;rcases dE hm with z|⟨hm,z⟩;rw[z,hF];exact h l hl (by rw[←iA,←z];exact e);exact h m hm e
  | held n=>
   intro m hm e;rcases dE hm with z|⟨hm,z⟩;simp_all;exact h m hm e
  | used n=>
   intro m hm e;rcases dE hm with z|⟨hm,z⟩;rw[z,hu];exact h l hl (by rw[←iA,←z];exact e);exact h m hm e
  | ses n=>exact h
 intro m hm e;rcases dE hm with z|⟨hm,z⟩;rw[z,←e,z,iA,hz];exact⟨kvs,hp,af⟩;lia
def World.setUsed (W:World C A Z H s M){l l':Lot}(hl:l∈s.lots)(hn:(s.lots.map (·.id)).Nodup)(iA:l'.id=l.id)(hF:bQ A l'=bQ A l)(hh:l'.held=l.held){kvs:List (Nat×Nat)}(hp:kvs.Perm l'.uses)(hz:Z (.used l.id)=none):
  World C A Z (upd H (A (.used l.id)) (.dK (kvs.map bg))) (bY s l') M:=by
 refine W.write (t₀:= .used l.id) ⟨l,hl,rfl⟩ (fun t h=>(bu t).mp h) (fun t ht hv h=>?_) ?_
 ·cases t with
  | st=>exact h
  | ad=>exact h
  | ld=>
   show H (A .ld)=some (fz (Z .ld) (.dK ((bY s l').lots.map _)));rw[oE];exact h
  | sd=>exact h
  | th=>exact h
  | art n=>exact h
  | part n=>exact h
  | dw n=>exact h
  | need n=>exact h
  | lot n=>
   intro m hm e;rcases dE hm with z|⟨hm,z⟩;rw[z,hF];exact h l hl (by rw[←iA,←z];exact e);exact h m hm e
  | held n=>
   intro m hm e;rcases dE hm with z|⟨hm,z⟩;rw[z,hh];exact h l hl (by rw[←iA,←z];exact e);exact h m hm e
  | used n=>
   intro m hm e;rcases dE hm with z|⟨hm,z⟩;simp_all;exact h m hm e
  | ses n=>exact h
 intro m hm e;rcases dE hm with z|⟨hm,z⟩;rw[z,←e,z,iA,hz];exact⟨kvs,hp,af⟩;omega
end
theorem n9 {α β:Type}{R:α→β→Prop}{a:α}{b:β}:∀{l:List α} {m:List β},Paired R l m→R a b→Paired R (l++[a]) (m++[b])
 | _,_,.nil,r=> .cons r .nil
 | _,_,.cons q t,r=> .cons q (n9 t r)
theorem cT {α β:Type}{R:α→β→Prop}:∀{l:List α} {m:List β} {i:Nat} {b:β},Paired R l m→m[i]? =some b→∃a,l[i]? =some a∧R a b
 | _,_,i,b,.nil,h=>by simp at h
 | _,_,0,b,.cons (a:=a) q t,h=>by simp_all
 | _,_,i+1,b,.cons q t,h=>by
  obtain⟨a,e,r⟩:=cT t (by simpa using h);simp_all
theorem AJ {α β:Type}{f:β→α}:∀{l:List α} {m:List β},Paired (fun a b=>a=f b) l m→l=m.map f
 | _,_,.nil=>rfl
 | _,_,.cons q t=>by rw[bF,AJ t,q]
theorem zm {α β:Type}{f:β→α}:∀{m:List β},Paired (fun a b=>a=f b) (m.map f) m
 | []=> .nil
 | b::m=> .cons rfl zm
def aQ {α:Type}(E:α→V→Hp→Prop):Prop:=∀a y H1 H2,(∀b xs,H1 b=some (.tup xs)→H2 b=some (.tup xs))→E a y H1→E a y H2
def Got {α:Type}(E:α→V→Hp→Prop)(H:Hp)(D:Addr)(L:List α):Prop:=∃ys,H D=some (.lst ys)∧Paired (fun y a=>E a y H) ys L
def aQ.eq {α:Type}(f:α→V):aQ (fun(a:α) (y:V) (_:Hp)=>y=f a):=fun _ _ _ _ _ h=>h
def Got.aF {C:cw}{α:Type}{E:α→V→Hp→Prop}{H H':Hp}{D:Addr}{L:List α}(h:Got E H D L)(hE:aQ E)(k:ao C H H'):Got E H' D L:=by
 obtain⟨ys,e,p⟩:=h;exact⟨ys,k.at_ _ _ e trivial,Paired.tY p fun y a q=>hE a y H H' (fun b xs z=>k.at_ b _ z trivial) q⟩
def Got.move {α:Type}{E:α→V→Hp→Prop}{H H':Hp}{D:Addr}{L:List α}(h:Got E H D L)(hE:aQ E)(k1:∀ys,H D=some (.lst ys)→H' D=some (.lst ys))(k2:∀b xs,H b=some (.tup xs)→H' b=some (.tup xs)):Got E H' D L:=by
 obtain⟨ys,e,p⟩:=h;exact⟨ys,k1 _ e,Paired.tY p fun y a q=>hE a y H H' k2 q⟩
def Got.eq {α:Type}{f:α→V}{H:Hp}{D:Addr}{L:List α}(h:Got (fun a y _=>y=f a) H D L):H D=some (.lst (L.map f)):=by
 obtain⟨ys,e,p⟩:=h;rw[e,AJ p]
def Got.of {α:Type}{f:α→V}{H:Hp}{D:Addr}{L:List α}(h:H D=some (.lst (L.map f))):Got (fun a y _=>y=f a) H D L:=⟨_,h,zm⟩
def ao.putL {C:cw}{H H1:Hp}{D:Addr}{acc acc':List V}(k:ao C H H1)(hD:H D=none)(e:H1 D=some (.lst acc)):ao C H (upd H1 D (.lst acc')):=
 ⟨fun b o q n=>by rw[ah (aP q hD)];exact k.at_ b o q n,fun b ps q=>by rw[ah (aP q hD)];exact k.tb b ps q,fun t=>(k.tabs t).upd e trivial⟩
def iR {σ:L2.St}{H:Hp}{A B:Hp→Prop}(h:A H):Ut σ H fun b H3=>if b=true then A H3 else B H3:=cZ (A:=A H) (B:=B H) h
section
variable{C:cw}{α:Type}{E:α→V→Hp→Prop}{L:List α}{p:α→Bool}{g:TG}{tt:TT}{te:TE}{vs:List Nat}{σ:L2.St}
def GK (hE:aQ E){J:It}{H1:Hp}{D:Addr}{Qd:Hp→Prop}(hD:H1 D=none)(hlen:L.length≤sizeLine)
  (hstop:∀H,ao C H1 H→J.stop L.length H) (hgo:∀i a H,ao C H1 H→L[i]? =some a→J.go i H)
  (ny:∀i a H x H',L[i]? =some a→ao C H1 H→J.M_ i H x H'→∀(Ky:V→Hp→Prop) (Kn:Hp→Prop),(p a=true→∀y H4,ao C H H4→E a y H4→Ky y H4)→(p a=false→∀H3,ao C H H3→Kn H3)→
   g x (wipe σ vs) H' fun σ2 H2=>wipe σ2 vs=wipe σ vs∧tt σ2 H2 fun b H3=>if b=true then te σ2 H3 Ky else Kn H3)
  (hd:∀H,ao C H1 H→Got E H D (L.filter p)→Qd H):
  ∃W:Nat→Nat→Hp→Prop,(∃m,W 0 m (upd H1 D (.lst [])))∧∀i m H,W i m H→
   (J.stop i H∧Qd H)∨(J.go i H∧∃Nx:Hp→Prop,(∀H',Nx H'→∃m',m'<m∧W (i+1) m' H')∧∀x H',J.M_ i H x H'→g x (wipe σ vs) H' fun σ2 H2=>wipe σ2 vs=wipe σ vs∧tt σ2 H2 fun b H3=>
    if b=true then te σ2 H3 fun y H4=>∃acc,H4 D=some (.lst acc)∧acc.length<sizeLine∧Nx (upd H4 D (.lst (acc++[y])))else Nx H3):=by
 refine⟨fun i m H=>m=L.length-i∧i≤L.length∧ao C H1 H∧Got E H D ((L.take i).filter p),⟨L.length,by simp,fJ _,ao.new hD,[],af,.nil⟩,?_⟩;rintro i m H ⟨rfl,hi,k,gt⟩;by_cases lu:i<L.length
 ·have ea:L[i]? =some L[i]:=by simp[lu]
  have et:L.take (i+1)=L.take i++[L[i]]:=by rw[gx,ea];rfl
  refine .inr ⟨hgo i _ H k ea,fun H'=>ao C H1 H'∧Got E H' D ((L.take (i+1)).filter p),fun H' p'=>⟨L.length-(i+1),by grind,rfl,lu,p'⟩,fun x H' y=>?_⟩;refine ny i _ H x H' ea k y _ _ (fun hp yv H4 k4 ey=>?_) fun hp H3 k3=>?_
  ·obtain⟨ys,e,pr⟩:=gt.aF hE k4;have hl:ys.length≤i:=by
    rw[bZ pr];grind -order
   refine⟨ys,e,by lia,(k.trans k4).putL hD e,?_⟩;have tm:∀b xs,H4 b=some (.tup xs)→upd H4 D (.lst (ys++[yv])) b=some (.tup xs):=fun b xs q=>by grind[ah]
   refine⟨ys++[yv],af,?_⟩;rw[et,List.filter_append,MC hp,List.filter_nil];exact n9 (Paired.tY pr fun y a q=>hE a y _ _ tm q) (hE _ _ _ _ tm ey)
  refine⟨k.trans k3,?_⟩;rw[et,List.filter_append,Lh (by rw[hp];simp),List.filter_nil,mr];exact gt.aF hE k3
 (constructor<;>grind)
def J9 {K:Frag}(hE:aQ E){F:α→V→Hp→Prop}(hF:aQ F){tl:TE}{H:Hp}{Q:VK}{a:Addr}{H1:Hp}(k1:ao C H H1)(gt:Got F H1 a L)(hlen:L.length≤sizeLine)
  (Vt:∀R:VK,R (.ref a) H1→tl σ H R)
  (ny:∀a∈L,∀x H,ao C H1 H→F a x H→∀(Ky:V→Hp→Prop) (Kn:Hp→Prop),(p a=true→∀y H4,ao C H H4→E a y H4→Ky y H4)→(p a=false→∀H3,ao C H H3→Kn H3)→
   g x (wipe σ vs) H fun σ2 H2=>wipe σ2 vs=wipe σ vs∧tt σ2 H2 fun b H3=>if b=true then te σ2 H3 Ky else Kn H3)
  (hd:∀D H2,H1 D=none→ao C H1 H2→Got E H2 D (L.filter p)→Q (.ref D) H2):Pz (HV K tl) g tt te vs σ H Q:=by
 obtain⟨xs,e,pr⟩:=gt;refine Vt _ ⟨a,rfl,⟨xs,bz.of e⟩,fun D hD=>?_⟩;have hx:xs.length=L.length:=bZ pr;refine GK (p:=p) hE hD hlen (fun H2 k2=>⟨xs,bz.of (k2.at_ _ _ e trivial),rh hx⟩) (fun i b H2 k2 eb=>?_) (fun i b H2 x H' eb k2 y Ky Kn h1 h2=>?_) fun H2 k2 gt=>hd D H2 hD k2 gt
 ·obtain⟨y,ey,_⟩:=cT pr eb;exact⟨xs,y,bz.of (k2.at_ _ _ e trivial),ey⟩
 obtain⟨rfl,y⟩:=y;obtain⟨y',ey,r⟩:=cT pr eb;have:=y xs (bz.of (k2.at_ _ _ e trivial));rw[ey]at this;cases this;exact ny b (dJ eb) _ _ k2 (hF _ _ _ _ (fun b xs z=>k2.at_ b _ z trivial) r) Ky Kn h1 h2
def eY {K:Frag}(hE:aQ E){F:α→V→Hp→Prop}(hF:aQ F){R:Addr→Hp→Prop}{a:Addr}{H1:Hp}(gt:Got F H1 a L)(hlen:L.length≤sizeLine)
  (ny:∀a∈L,∀x H,ao C H1 H→F a x H→∀(Ky:V→Hp→Prop) (Kn:Hp→Prop),(p a=true→∀y H4,ao C H H4→E a y H4→Ky y H4)→(p a=false→∀H3,ao C H H3→Kn H3)→
   g x (wipe σ vs) H fun σ2 H2=>wipe σ2 vs=wipe σ vs∧tt σ2 H2 fun b H3=>if b=true then te σ2 H3 Ky else Kn H3)
  (hd:∀D H2,H1 D=none→ao C H1 H2→Got E H2 D (L.filter p)→R D H2):
  ∃a',V.ref a=V.ref a'∧(∃xs,bz K H1 a' xs)∧∀D,H1 D=none→∃W:Nat→Nat→Hp→Prop,(∃m,W 0 m (upd H1 D (.lst [])))∧∀i m H,W i m H→
   ((Hj K a').stop i H∧R D H)∨((Hj K a').go i H∧∃Nx:Hp→Prop,(∀H',Nx H'→∃m',m'<m∧W (i+1) m' H')∧∀x H',(Hj K a').M_ i H x H'→g x (wipe σ vs) H' fun σ2 H2=>wipe σ2 vs=wipe σ vs∧tt σ2 H2 fun b H3=>
    if b=true then te σ2 H3 fun y H4=>∃acc,H4 D=some (.lst acc)∧acc.length<sizeLine∧Nx (upd H4 D (.lst (acc++[y])))else Nx H3):=
 J9 (C:=C) (H:=H1) (tl:=fun _ H R=>R (.ref a) H) (Q:=fun v H=>match v with | .ref D=>R D H|_=>False) hE hF ao.refl gt hlen (fun R r=>r) ny hd
def Hv (hE:aQ E){td:TE}{H:Hp}{Q:VK}{d:Addr}{kvs:List (Key×V)}{f:α→V}(Oq:H d=some (.dK kvs))(hk:kvs.map (·.2)=L.map f)(hlen:L.length≤sizeLine)
  (TM:∀od,∀R:VK,R (.ref d) (upd H d (.eS od (.dK kvs)))→td σ (upd H d (.eS od (.dK kvs))) R)
  (ny:∀od,∀a∈L,∀Hc,ao C (upd H d (.eS od (.dK kvs))) Hc→∀(Ky:V→Hp→Prop) (Kn:Hp→Prop),(p a=true→∀y H4,ao C Hc H4→E a y H4→Ky y H4)→(p a=false→∀H3,ao C Hc H3→Kn H3)→
   g (f a) (wipe σ vs) Hc fun σ2 H2=>wipe σ2 vs=wipe σ vs∧tt σ2 H2 fun b H3=>if b=true then te σ2 H3 Ky else Kn H3)
  (hd:∀D H2,H D=none→ao C H H2→Got E H2 D (L.filter p)→Q (.ref D) H2):nM (Pz (L4 td) g tt te vs) σ H Q:=by
 refine⟨d,.dK kvs,Oq,trivial,fun od=>TM od _ ⟨d,od,kvs,rfl,af,fun D hD=>?_⟩⟩;have hl:kvs.length=L.length:=by have:=congrArg List.length hk;simpa using this
 have O1:D≠d:=fun z=>by rw[z,af]at hD;cases hD
 have K_:H D=none:=by rw[ah O1]at hD;exact hD
 refine GK (C:=C) (p:=p) hE hD hlen (fun H2 k2=>⟨k2.at_ _ _ af trivial,rh hl⟩) (fun i b H2 k2 eb=>?_) (fun i b H2 x H' eb k2 y Ky Kn h1 h2=>?_) fun H2 k2 gt=>?_
 ·refine⟨k2.at_ _ _ af trivial,?_⟩;simp_all;grind
 ·obtain⟨rfl,k,ek⟩:=y;have:x=f b:=by
   have h1:(kvs.map (·.2))[i]? =some x:=by rw[cO,ek];rfl
   simp_all
  subst this;exact ny od b (dJ eb) _ k2 Ky Kn h1 h2
 have QB:H2 d=some (.eS od (.dK kvs)):=k2.at_ _ _ af trivial;refine⟨QB,hd D _ K_ ⟨fun b o e n=>?_,fun b ps e=>?_,fun t=>?_⟩ ?_⟩
 ·by_cases z:b=d
  ·subst z;rw[af,←e,Oq]
  rw[ah z];exact k2.at_ b o (by rw[ah z];exact e) n
 ·have z:b≠d:=fun z=>by rw[z,Oq]at e;cases e
  rw[ah z];exact k2.tb b ps (by rw[ah z];exact e)
 exact(k2.tabs (t.upd Oq trivial)).upd QB trivial;exact gt.move hE (fun ys e=>by rw[ah O1];exact e) fun b xs e=>by rw[ah fun z=>by rw[z,QB]at e;cases e];exact e
end
def lk (Z:Tag→Option Obj)(t:Tag)(od:Obj):Tag→Option Obj:=fun t'=>if t'=t then some od else Z t'
def Tb (Z:Tag→Option Obj)(t:Tag)(od:Obj):lk Z t od t=some od:=aw rfl
def O7 {Z:Tag→Option Obj}{t t':Tag}{od:Obj}(h:t'≠t):lk Z t od t'=Z t':=ak h
section
variable{C:cw}{A:Tag→Addr}{H H':Hp}{s:bE}{M:Nat→dW}{Z:Tag→Option Obj}
def At.z {Z':Tag→Option Obj}{t:Tag}(h:At C A Z H s M t)(e:Z' t=Z t):At C A Z' H s M t:=by
 cases t with
 | ad=>unfold At;rw[e];exact h
 | ld=>unfold At;rw[e];exact h
 | sd=>unfold At;rw[e];exact h
 | need n=>show gO (Z' (.need n)) _ _ _;rw[e];exact h
 | held n=>show ∀l∈s.lots,l.id=n→yr (Z' (.held n)) H (A (.held n)) l.held;rw[e];exact h
 | used n=>show ∀l∈s.lots,l.id=n→yr (Z' (.used n)) H (A (.used n)) l.uses;rw[e];exact h
 | _=>exact h
def World.lock (W:World C A Z H s M){t:Tag}(ht:bT s t){o:HO}{od:Obj}(EC:At C A (lk Z t od) (upd H (A t) o) s M t):World C A (lk Z t od) (upd H (A t) o) s M:=
 W.write ht (fun _ h=>h) (fun t' eP _ h=>h.z (O7 eP)) EC
def World.K8 (W:World C A Z H s M)(od:Obj):World C A (lk Z .ld od) (upd H (A .ld) (.eS od (.dK (s.lots.map fun l=>(Sum.inl (l.id:Int),V.ref (A (.lot l.id))))))) s M:=by
 refine W.lock (t:= .ld) trivial ?_;show upd H _ _ _=some (fz (lk Z .ld od .ld) _);rw[Tb,af];rfl
def iP {K:Frag}{mg:Str→Option Value}(T:Txt K mg C)(W:World C A Z H s M)(hz:Z .ld=none)(ok:aM s){σ:L2.St}{i:Nat}(hσ:σ[i]? =some (some (.ref (A .st)))){E:Lot→V→Hp→Prop}(hE:aQ E)(p:Lot→Bool)
  {g:TG} {tt:TT} {te:TE} {vs:List Nat} {Q:VK}
  (ny:∀l∈s.lots,∀Hc Zc,World C A Zc Hc s M→(∀t,t≠ .ld→Zc t=Z t)→(∀b o,H b=some o→NT o→b≠A .ld→Hc b=some o)→∀(Ky:V→Hp→Prop) (Kn:Hp→Prop),(p l=true→∀y H4,ao C Hc H4→E l y H4→Ky y H4)→(p l=false→∀H3,ao C Hc H3→Kn H3)→
   g (.ref (A (.lot l.id))) (wipe σ vs) Hc fun σ2 H2=>wipe σ2 vs=wipe σ vs∧tt σ2 H2 fun b H3=>if b=true then te σ2 H3 Ky else Kn H3)
  (hd:∀D H2,H D=none→ao C H H2→Got E H2 D (s.lots.filter p)→Q (.ref D) H2):nM (Pz (L4 (N5 K (iD i) "lots")) g tt te vs) σ H Q:=by
 refine Hv (C:=C) (d:=A .ld) (L:=s.lots) (p:=p) (f:=fun l=>V.ref (A (.lot l.id))) hE (W.Qa hz) (by rw[aV];rfl) (aG ok.gX (by decide)) (fun od R r=>?_) (fun od l hl Hc k Ky Kn h1 h2=>?_) hd
 ·refine iM_ hσ ?_;exact(eE T (W.K8 od)).go r
 refine ny l hl Hc _ ((W.K8 od).aF k) (fun t ht=>O7 ht) (fun b o e n hb=>k.at_ b o (by rw[ah hb];exact e) n) Ky Kn h1 h2
def kS {t:TE}{i:Nat}{D:Ends}{σ:L2.St}(h:nM t σ H fun v H'=>D.nx (σ.set i (some v)) H'):Kw (Nj t (pB i)) D σ H:=by
 obtain⟨d,u,h1,h2,h3⟩:=h;exact⟨d,u,h1,h2,fun od=>h3 od⟩
end
section
variable{C:cw}{A:Tag→Addr}{H H':Hp}{s:bE}{M:Nat→dW}{Z:Tag→Option Obj}
def sD (s:bE)(x':Ses):bE:=onSes s x'.id fun _=>x'
def Hw {s:bE}{x' m:Ses}(hm:m∈(sD s x').sessions):m=x'∨(m∈s.sessions∧m.id≠x'.id):=by
 have hm:m∈s.sessions.map fun x=>if(x.id==x'.id)=true then x' else x:=hm;simp_all;lia
def E8 {s:bE}{x':Ses}:(sD s x').sessions.map (·.id)=s.sessions.map (·.id):=by
 show(s.sessions.map fun x=>if(x.id==x'.id)=true then x' else x).map (·.id)=_;rw[aV];refine cE fun m _=>?_;simp;split<;>simp_all
def oS {s:bE}{x':Ses}(t:Tag):bT (sD s x') t↔bT s t:=by
 have h:∀n,(∃l∈(sD s x').sessions,l.id=n)↔∃l∈s.sessions,l.id=n:=fun n=>by
  have e:n∈(sD s x').sessions.map (·.id)↔n∈s.sessions.map (·.id):=by rw[E8]
  simp_all
 cases t<;>first|exact Iff.rfl|exact h _
def qY {s:bE}(ok:aM s){x:Ses}(hx:x∈s.sessions)(f:Ses→Ses)(hf:(f x).id=x.id):onSes s x.id f=sD s (f x):=by
 unfold sD onSes;rw[hf]
 congr 1
 refine cE fun m hm=>?_;by_cases e:(m.id==x.id)=true;rw[aw e,aw e,II ok.J5 hm hx (eq_of_beq e)];simp_all
def World.GQ (W:World C A Z H s M){x x':Ses}(hx:x∈s.sessions)(iA:x'.id=x.id){dx:Addr}:World C A Z (upd H (A (.ses x.id)) (.ins C.f7 dx (uP x'))) (sD s x') M:=by
 refine W.write (t₀:= .ses x.id) ⟨x,hx,rfl⟩ (fun t h=>(oS t).mp h) (fun t ht hv h=>?_) ?_
 ·cases t with
  | sd=>
   obtain⟨ord,p,e⟩:=h;exact⟨ord,by rw[E8];exact p,e⟩
  | ses n=>
   intro m hm e;rcases Hw hm with z|⟨hm,z⟩;lia;exact h m hm e
  | _=>exact h
 intro m hm e;rcases Hw hm with z|⟨hm,z⟩;rw[z];exact⟨dx,af⟩;lia
def World.RT (W:World C A Z H s M)(d:Nat){dx:Addr}:World C A Z (upd H (A .st) (.ins C.pH dx (Ci A d))) {s with today:=d} M:=by
 refine W.write (t₀:= .st) trivial (fun t h=>by cases t<;>exact h) (fun t ht hv h=>?_) ⟨dx,af⟩;cases t with
 | st=>exact absurd rfl ht
 | _=>exact h
def World.TU (W:World C A Z H s M)(r:List Nat):World C A Z (upd H (A .th) (.lst ((0::r).map iV))) {s with reasons:=r} M:=by
 refine W.write (t₀:= .th) trivial (fun t h=>by cases t<;>exact h) (fun t ht hv h=>?_) af;cases t with
 | th=>exact absurd rfl ht
 | _=>exact h
end
end Lw
namespace Zt
open PySem
open Sem (wp)
section
variable{P:Program}{W:World}{A:Around}{E:Value→Shared→Prop}{s:Shared}{b t:Addr}{i:Nat}{us:Array Value}
def Lc (t:Addr):¬((Value.ref t==Value.none)=true):=fg
theorem Kf {Q:Value→Shared→Prop}(hb:s.heap.IsTupleIter b t i)(ht:s.heap.IsTuple t us)(calm:A.handled=none)
  (item:∀x h',us[i]? =some x→h'.IsTupleIter b t (i+1)→Heap.SameBut b s.heap h'→Q x {s with heap:=h'})
  (over:us[i]? =none→∀h' e,Heap.ExtBut b s.heap h'→(∃o,h'.get? e=some o∧o.cls= .type "StopIteration")→E (.ref e) {s with heap:=h'}):
  wpAny (model P W) A (Builtin.SmallTypes.nextOf (.ref b)) Q E s:=by
 have ty:=hb.typeIs;obtain⟨ob,eb,cb,db⟩:=hb;obtain⟨ot,et,_,n,dt⟩:=ht;refine aq (xq (name:=Str.ofString "__next__") ty F.slot_tuple_iterator_next (lX F.slot_tuple_iterator_next ty F.entry_tuple_iterator_next ?_ (F.args_tuple_iterator_next_1 _)));refine(show wpAny _ _ (field (.ref b) 0 >>=_) _ _ s from aq (jV eb db (x:= .ref t) rfl ?_));refine(show wpAny _ _ (ite ((Value.ref t==Value.none)=true) _ _) _ _ s from ?_);rw[ak (Lc t)];refine(show wpAny _ _ (field (.ref b) 1 >>=_) _ _ s from aq (jV eb db (x:= .int i 0) rfl ?_));refine(show wpAny _ _ (seqItems? _ >>=_) _ _ s from aq (lB et dt ?_));cases hu:us[i]? with
 | some x=>
  simp only[hu,cY];refine aq (Bm eb db (by simp) (aL ⟨x,rfl,aL (item x _ hu ?_ (BI ..))⟩));exact⟨_,ra _ eb (Obj.isFreed_of_fields (B' db _)),(Obj.cls_mapFields ..).trans cb,by simp[B' db,rawInt]⟩
 | none=>
  simp only[hu,cY];refine aq (wpAny_rule (aq (Bm eb db (by simp) ?_)));have mem:firstArgMember (.type "StopIteration") []=(pure Value.none:Sem Value):=by first|rfl|(unfold firstArgMember;rfl)
  have put:∀(c:Addr) (g:Obj→Obj),Heap.ExtBut c s.heap (s.heap.update c g):=fun c g=>(BI ..).extBut;refine(show wpAny _ _ (newExc (.type "StopIteration") [] >>=raiseNew) _ _ _ from aq ?_);unfold newExc newTuple;refine aq (tX (aq (wpAny_of_eq mem (tX (wpAny_raiseNew_none (by exact calm) ?_) (by size_fits)))) (by size_fits));exact over hu _ _ (((put _ _).push _).push _) ⟨_,bU _ rfl,rfl⟩
end
structure Src (P:Program)(W:World)(A:Around)(it:Addr)(fp:List Addr)(St:Nat→Heap→Prop)(th:Nat→Option Value):Prop where
 keep:∀i h h',St i h→(∀c∈fp,∀o,h.get? c=some o→h'.get? c=some o)→St i h'
 draw:∀(i:Nat) (s:Shared) (Q:Value→Shared→Prop) (E:Value→Shared→Prop),St i s.heap→(∀x h',th i=some x→St (i+1) h'→Heap.SameBut it s.heap h'→Q x {s with heap:=h'})→
  (th i=none→∀h' e,Heap.ExtBut it s.heap h'→(∃o,h'.get? e=some o∧o.cls= .type "StopIteration")→E (.ref e) {s with heap:=h'})→wpAny (model P W) A (Builtin.SmallTypes.nextOf (.ref it)) Q E s
section
variable{P:Program}{W:World}{A:Around}
def HZ (calm:A.handled=none){it t:Addr}(ne:t≠it)(us:Array Value):Src P W A it [it,t] (fun i h=>h.IsTupleIter it t i∧h.IsTuple t us) (fun i=>us[i]?)where
 keep:=fun i h h' ⟨a,b⟩ k=>⟨a.at fun o e=>k it (by simp) o e,let⟨o,e,r⟩:=b;⟨o,k t (by simp) o e,r⟩⟩
 draw:=fun i s Q E ⟨a,b⟩ item over=>Kf a b calm (fun x h' e1 e2 e3=>item x h' e1 ⟨e2,b.extBut e3.extBut ne⟩ e3) over
def wJ (calm:A.handled=none){it l:Addr}(ne:l≠it)(us:Array Value):Src P W A it [it,l] (fun i h=>h.IsListIter it l i∧h.IsList l us) (fun i=>us[i]?)where
 keep:=fun i h h' ⟨a,b⟩ k=>⟨a.at fun o e=>k it (by simp) o e,b.at fun o e=>k l (by simp) o e⟩
 draw:=fun i s Q E ⟨a,b⟩ item over=>by
  cases e:us[i]? with
  | some x=>exact wpAny_nextOf_list_item a b e fun h' e2 e3=>item x h' e ⟨e2,b.extBut e3.extBut ne⟩ e3
  | none=>exact wpAny_nextOf_list_end calm a b e (over e)
end
structure Apart (z TI TO i1 i2:Addr)(f1 f2:List Addr):Prop where
 nd:[z,TI,TO,i1,i2].Nodup
 z1:z∉f1∧TO∉f1∧i2∉f1
 z2:z∉f2∧TO∉f2∧i1∉f2
 i1:i1∈f1
 i2:i2∈f2
section
variable{P:Program}{W:World}{A:Around}{E:Value→Shared→Prop}{s:Shared}{z TI TO i1 i2:Addr}{f1 f2:List Addr}{S1 S2:Nat→Heap→Prop}{t1 t2:Nat→Option Value}{k:Nat}{a b:Value}
def jw (l:List Addr)(h h':Heap):Prop:=∀c o,c∉l→h.get? c=some o→h'.get? c=some o
def jw.trans {l:List Addr}{h h1 h2:Heap}(x:jw l h h1)(y:jw l h1 h2):jw l h h2:=fun c o n e=>y c o n (x c o n e)
def jw.one {l:List Addr}{c:Addr}{h h':Heap}(hc:c∈l)(x:Heap.ExtBut c h h'):jw l h h':=fun d o n e=>x d o (fun q=>n (q▸hc)) e
def jw.wide {l m:List Addr}{h h':Heap}(x:jw l h h')(s:∀c∈l,c∈m):jw m h h':=fun c o n e=>x c o (fun q=>n (s c q)) e
def LY {Q:Value→Shared→Prop}(D1:Src P W A.in1 i1 f1 S1 t1)(D2:Src P W A.in1 i2 f2 S2 t2)(ap:Apart z TI TO i1 i2 f1 f2)(hz:IsZip s.heap z TI TO .none)(pI:IsPair s.heap TI (.ref i1) (.ref i2))(pO:IsPair s.heap TO a b)
  (KH:S1 k s.heap) (Fc:S2 k s.heap)
  (item:∀x y h',t1 k=some x→t2 k=some y→IsZip h' z TI TO (rawInt s.heap.objs.size)→IsPair h' TO x y→S1 (k+1) h'→S2 (k+1) h'→IsPair h' s.heap.objs.size x y→jw [z,TO,i1,i2] s.heap h'→Q (.ref s.heap.objs.size) {s with heap:=h'})
  (over:t1 k=none∨t2 k=none→∀h' e,jw [z,TO,i1,i2] s.heap h'→(∃o,h'.get? e=some o∧o.cls= .type "StopIteration")→E (.ref e) {s with heap:=h'}):
  wpAny (model P W) A.in1 (Builtin.«zip.__next__» ⟨[.ref z],[]⟩) (fun fin s'=>∃v,fin= .done (.ret v)∧Q v s') E s:=by
 have nd:=ap.nd;simp only[fO,bM,rl,not_or,CA,and_true,or_false]at nd;obtain⟨⟨R4,Pc,RC,P4⟩,⟨Uu,Ub,Th⟩,⟨Ws,VE⟩,Yp⟩:=nd;have back:∀(h1:Heap) (e:Addr),jw [z,TO,i1,i2] s.heap h1→IsZip h1 z TI TO .ellipsis→(∃o,h1.get? e=some o∧o.cls= .type "StopIteration")→(t1 k=none∨t2 k=none)→
   wpAny (model P W) A.in1 (setField (.ref z) 0 .none) (fun _ s'=>E (.ref e) s') E {s with heap:=h1}:=by
  intro h1 e k1 z1 ⟨o,eo,co⟩ hh;have hez:e≠z:=fun q=>by rw[q,z1]at eo;cases eo;simp at co
  exact xH z1 (by simp) fun h2 _ s2=>over hh h2 e (k1.trans (jw.one (by simp) s2.extBut)) ⟨o,s2.extBut _ _ hez eo,co⟩
 refine(show wpAny _ _ (field (.ref z) 2 >>=_) _ _ s from aq (jV hz rfl (x:= .bool false) rfl ?_));refine(show wpAny _ _ (field (.ref z) 3 >>=_) _ _ s from aq (jV hz rfl (x:= .ref TI) rfl (aq (lB pI rfl ?_))));refine(show wpAny _ _ (Builtin.SmallTypes.ownedTupleIsFree _ >>=_) _ _ s from aq (aq (jV hz rfl (x:= .none) rfl (aL ?_))));simp only[qF];refine aq (wpAny_rule (aq (jV hz rfl (x:= .ref TO) rfl (aq (xH hz (by simp) fun h1 z1 s1=>aq ?_)))))
 replace z1:IsZip h1 z TI TO .ellipsis:=z1
 have b1:jw [z,TO,i1,i2] s.heap h1:=jw.one (by simp) s1.extBut;simp only[Mh,Ii,List.zipIdx_nil,List.zipIdx_cons];refine aq (aq (wpAny_onRaise (show wpAny _ _ (Builtin.SmallTypes.nextOf (.ref i1) >>=_) _ _ _ from aq (D1.draw k _ _ _ (D1.keep _ _ _ KH fun c hc o e=>s1.extBut c o (fun q=>ap.z1.1 (q▸hc)) e) (fun x h2 e2 RL s2=>aL ?_) fun e2 h2 e s2 he=>?_))))
 rotate_left
 exact back h2 e (b1.trans (jw.one (by simp) s2)) (s2 _ _ RC z1) he (.inl e2);have b2:jw [z,TO,i1,i2] h1 h2:=jw.one (by simp) s2.extBut;have o2:IsPair h2 TO a b:=s2.extBut _ _ Ws (s1.extBut _ _ (aR Pc) pO);refine aq (lB o2 rfl (aq (wpAny_updateSeq_pair o2 fun h3 o3 s3=>aq (wpAny_letGo (aL ?_)))))
 replace o3:IsPair h3 TO x b:=o3
 have b3:jw [z,TO,i1,i2] h2 h3:=jw.one (by simp) s3.extBut;have Q8:S2 k h3:=D2.keep _ _ _ Fc fun c hc o e=>s3.extBut c o (fun q=>ap.z2.2.1 (q▸hc)) (s2.extBut c o (fun q=>ap.z2.2.2 (q▸hc)) (s1.extBut c o (fun q=>ap.z2.1 (q▸hc)) e));have z3:IsZip h3 z TI TO .ellipsis:=s3.extBut _ _ Pc (s2.extBut _ _ RC z1);refine aq (aq (wpAny_onRaise (show wpAny _ _ (Builtin.SmallTypes.nextOf (.ref i2) >>=_) _ _ _ from aq (D2.draw k _ _ _ Q8 (fun y h4 e4 LV s4=>aL ?_) fun e4 h4 e s4 he=>?_))))
 rotate_left
 exact back h4 e (((b1.trans b2).trans b3).trans (jw.one (by simp) s4)) (s4 _ _ P4 z3) he (.inr e4);have b4:jw [z,TO,i1,i2] h3 h4:=jw.one (by simp) s4.extBut;have o4:IsPair h4 TO x b:=s4.extBut _ _ VE o3;refine aq (lB o4 rfl (aq (wpAny_updateSeq_pair o4 fun h5 o5 s5=>aq (wpAny_letGo (aL (aL ?_))))))
 replace o5:IsPair h5 TO x y:=o5
 have b5:jw [z,TO,i1,i2] h4 h5:=jw.one (by simp) s5.extBut;have O6:h5.objs.size=s.heap.objs.size:=(((s5.1.trans s4.1).trans s3.1).trans s2.1).trans s1.1;have z5:IsZip h5 z TI TO .ellipsis:=s5.extBut _ _ Pc (s4.extBut _ _ P4 z3);have st15:S1 (k+1) h5:=D1.keep _ _ _ RL fun c hc o e=>s5.extBut c o (fun q=>ap.z1.2.1 (q▸hc)) (s4.extBut c o (fun q=>ap.z1.2.2 (q▸hc)) (s3.extBut c o (fun q=>ap.z1.2.1 (q▸hc)) e));have st25:S2 (k+1) h5:=D2.keep _ _ _ LV fun c hc o e=>s5.extBut c o (fun q=>ap.z2.2.1 (q▸hc)) e;refine aq (lB o5 rfl (aq (wpAny_newTuple ?_)));have z6:IsZip (h5.push {cls:= .type "tuple",data:= .seq #[x,y]}) z TI TO .ellipsis:=bB _ z5;refine(show wpAny _ _ (Builtin.SmallTypes.ownedTupleHandOut _ _ >>=_) _ _ _ from aq (aq (xH z6 (by simp) fun h7 z7 s7=>xH z7 (by simp) fun h8 z8 s8=>aL ⟨_,rfl,?_⟩)))
 replace z8:IsZip h8 z TI TO (rawInt h5.objs.size):=z8
 have b8:jw [z] h5 h8:=fun c o n e=>s8.extBut c o (by simpa using n) (s7.extBut c o (by simpa using n) (bB _ e));have new:IsPair h8 h5.objs.size x y:=by
  have ne:h5.objs.size≠z:=uC (bb z5);exact s8.extBut _ _ ne (s7.extBut _ _ ne (bU _ rfl))
 rw[O6]at z8 new;refine(show Q (.ref h5.objs.size) _ from ?_);rw[O6];exact item x y h8 e2 e4 z8 (b8 _ _ (by simpa using aR Pc) o5) (D1.keep _ _ _ st15 fun c hc o e=>b8 c o (by simp;exact fun q=>ap.z1.1 (q▸hc)) e) (D2.keep _ _ _ st25 fun c hc o e=>b8 c o (by simp;exact fun q=>ap.z2.1 (q▸hc)) e) new
  (((((b1.trans b2).trans b3).trans b4).trans b5).trans (b8.wide (by simp)))
end
section
variable{P:Program}{W:World}{A:Around}{E:Value→Shared→Prop}{s:Shared}{z TI TO i1 i2:Addr}{f1 f2:List Addr}{S1 S2:Nat→Heap→Prop}{t1 t2:Nat→Option Value}{k:Nat}{a b:Value}
def wM {Q:Option Value→Shared→Prop}(D1:Src P W A.in1 i1 f1 S1 t1)(D2:Src P W A.in1 i2 f2 S2 t2)(ap:Apart z TI TO i1 i2 f1 f2)(hz:IsZip s.heap z TI TO .none)(pI:IsPair s.heap TI (.ref i1) (.ref i2))(pO:IsPair s.heap TO a b)
  (KH:S1 k s.heap) (Fc:S2 k s.heap)
  (item:∀x y h',t1 k=some x→t2 k=some y→IsZip h' z TI TO (rawInt s.heap.objs.size)→IsPair h' TO x y→S1 (k+1) h'→S2 (k+1) h'→IsPair h' s.heap.objs.size x y→jw [z,TO,i1,i2] s.heap h'→Q (some (.ref s.heap.objs.size)) {s with heap:=h'})
  (over:t1 k=none∨t2 k=none→∀h',jw [z,TO,i1,i2] s.heap h'→Q none {s with heap:=h'}):wpAny (model P W) A (pyNext (.ref z)) Q E s:=by
 have ty:s.TypeIs (.ref z) "zip" :=⟨_,hz,rfl⟩;refine aq (Bn (xq (name:=Str.ofString "__next__") ty BB (lX BB ty F.entry_zip_next
  (LY D1 D2 ap hz pI pO KH Fc (fun x y h' e1 e2 e3 e4 e5 e6 e7 e8=>aL (item x y h' e1 e2 e3 e4 e5 e6 e7 e8)) fun e h' x kb hx=>?_) (F.args_zip_next_1 _))))
 obtain⟨o,eo,co⟩:=hx;exact aq (GA (T:="StopIteration") (b:=true) ⟨o,eo,co⟩ isSubtype_stop (aL (over e h' kb)))
def J' (h:Heap)(l:Addr):Heap:=h.push {cls:= .type "list_iterator",data:= .fields #[.ref l,.int 0 0]}
def Kk (h:Heap)(l t:Addr):Heap:=(J' h l).push {cls:= .type "tuple_iterator",data:= .fields #[.ref t,.int 0 0]}
def Mn (h:Heap)(l t:Addr):Heap:=(Kk h l t).push {cls:= .type "tuple",data:= .seq #[.ref h.objs.size,.ref (J' h l).objs.size]}
def Ln (h:Heap)(l t:Addr):Heap:=(Mn h l t).push {cls:= .type "tuple",data:= .seq #[.none,.none]}
def Jf (h:Heap)(l t:Addr):Heap:=(Ln h l t).push {cls:= .type "zip",data:= .fields #[.none,.bool false,.bool false,.ref (Kk h l t).objs.size,.ref (Mn h l t).objs.size]}
def Ob (l t:Addr)(us vs:Array Value):Meets (Builtin.«zip.__new__» ⟨[.type "zip",.ref l,.ref t],[]⟩) (fun _ R s=>(s.heap.IsList l us∧s.heap.IsTuple t vs)∧R (.ok (.ret (.ref (Ln s.heap l t).objs.size))) {s with heap:=Jf s.heap l t}):=
 .of_wp fun P W A R s h=>by
  obtain⟨hp,g,d,tk,os⟩:=s;obtain⟨⟨hl,ht⟩,q⟩:=h;have sub:=sub_zip;have h1:Heap.IsList (Shared.heap ⟨hp,g,d,tk,os⟩) l us:=hl;have h2:Heap.IsTuple (Shared.heap ⟨hp.push {cls:= .type "list_iterator",data:= .fields #[.ref l,.int 0 0]},g,d,tk,os⟩) t vs:=Heap.IsTuple.push ht _
  wp_walk using F9 h1,wpAny_pyIter_tuple h2
  exact⟨_,rfl,q⟩
def LJ {l t:Addr}{us vs:Array Value}{Q:Value→Shared→Prop}(hl:s.heap.IsList l us)(ht:s.heap.IsTuple t vs)
  (q:∀h' n,n=s.heap.objs.size→IsZip h' (n+4) (n+2) (n+3) .none→IsPair h' (n+2) (.ref n) (.ref (n+1))→IsPair h' (n+3) .none .none→h'.IsListIter n l 0→h'.IsTupleIter (n+1) t 0→(∀c o,s.heap.get? c=some o→h'.get? c=some o)→Q (.ref (n+4)) {s with heap:=h'}):
  wpAny (model P W) A (call (.type "zip") [.ref l,.ref t]) Q E s:=by
 refine callType_new F.called_zip (by decide) (F.typeCall_zip_2 ..) (F.newCall_zip_2 ..) (fun ob=>F.args_object_init_3 ob ..) F.entry_zip_new (Ob l t us vs) ⟨⟨hl,ht⟩,?_⟩;have n1:(J' s.heap l).objs.size=s.heap.objs.size+1:=ff ..;have n2:(Kk s.heap l t).objs.size=s.heap.objs.size+2:=(ff ..).trans (by rw[n1]);have n3:(Mn s.heap l t).objs.size=s.heap.objs.size+3:=(ff ..).trans (by rw[n2]);have n4:(Ln s.heap l t).objs.size=s.heap.objs.size+4:=(ff ..).trans (by rw[n3]);have p4:∀c o,(Ln s.heap l t).get? c=some o→(Jf s.heap l t).get? c=some o:=fun c o e=>bB _ e;have p3:∀c o,(Mn s.heap l t).get? c=some o→(Jf s.heap l t).get? c=some o:=fun c o e=>p4 c o (bB _ e);have p2:∀c o,(Kk s.heap l t).get? c=some o→(Jf s.heap l t).get? c=some o:=fun c o e=>p3 c o (bB _ e);have p1:∀c o,(J' s.heap l).get? c=some o→(Jf s.heap l t).get? c=some o:=fun c o e=>p2 c o (bB _ e);have a5:(Jf s.heap l t).get? (Ln s.heap l t).objs.size=some _:=bU _ rfl;have a4:=p4 (Mn s.heap l t).objs.size _ (bU _ rfl);have a3:=p3 (Kk s.heap l t).objs.size _ (bU _ rfl);have a2:=p2 (J' s.heap l).objs.size _ (bU _ rfl);have a1:=p1 s.heap.objs.size _ (bU _ rfl);rw[n2,n3,n4]at a5;rw[n3]at a4;rw[n1,n2]at a3;rw[n1]at a2;refine(show _∧_ from ?_);rw[n4];exact⟨⟨_,a5,rfl⟩,q _ _ rfl a5 a3 a4 ⟨_,a1,rfl,rfl⟩ ⟨_,a2,rfl,rfl⟩ fun c o e=>p1 c o (bB _ e)⟩
end
section
variable{P:Program}{W:World}{A:Around}{E:Value→Shared→Prop}{s:Shared}{z TI TO i1 i2 T0:Addr}{f1 f2:List Addr}{S1 S2:Nat→Heap→Prop}{t1 t2:Nat→Option Value}{k:Nat}{b:Bool}
def Gp {a:Addr}{Q:Option Obj→Shared→Prop}(h:Q (s.heap.get? a) s):wpAny (model P W) A (loadIfAlive a) Q E s:=fun Γ p _=>by
 unfold loadIfAlive;trivial
def BC (h:Heap)(z TI TO T0:Addr)(b:Bool):Prop:=h.get? z=some {cls:= .type "zip",data:= .fields #[rawInt T0,.bool b,.bool false,.ref TI,.ref TO]}
def L0 {Q:Bool→Shared→Prop}(hz:BC s.heap z TI TO T0 b)(alive:∃o,s.heap.get? T0=some o)(q:∀h',BC h' z TI TO T0 true→h'.objs.size=s.heap.objs.size→jw [z] s.heap h'→Q false {s with heap:=h'}):
  wpAny (model P W) A (Builtin.SmallTypes.ownedTupleIsFree (.ref z)) Q E s:=by
 obtain⟨o,eo⟩:=alive;refine aq (jV hz rfl (x:=rawInt T0) rfl ?_);refine(show wpAny _ _ (loadIfAlive ((T0:Int).toNat) >>=_) _ _ s from aq (Gp ?_));rw[cY,eo];refine(show wpAny _ _ (field (.ref z) 1 >>=_) _ _ s from aq (jV hz rfl (x:= .bool b) rfl ?_));cases b with
 | true=>exact aL (q s.heap hz rfl fun _ _ _ e=>e)
 | false=>exact aq (xH hz (by simp) fun h1 z1 s1=>aL (q h1 z1 s1.1 (jw.one (by simp) s1.extBut)))
def MD {Q:Value→Shared→Prop}(D1:Src P W A.in1 i1 f1 S1 t1)(D2:Src P W A.in1 i2 f2 S2 t2)(ap:Apart z TI TO i1 i2 f1 f2)(hz:BC s.heap z TI TO T0 b)(alive:∃o,s.heap.get? T0=some o)(pI:IsPair s.heap TI (.ref i1) (.ref i2))
  (KH:S1 k s.heap) (Fc:S2 k s.heap)
  (item:∀x y h',t1 k=some x→t2 k=some y→BC h' z TI TO T0 true→S1 (k+1) h'→S2 (k+1) h'→IsPair h' s.heap.objs.size x y→jw [z,i1,i2] s.heap h'→Q (.ref s.heap.objs.size) {s with heap:=h'})
  (over:t1 k=none∨t2 k=none→∀h' e,jw [z,i1,i2] s.heap h'→(∃o,h'.get? e=some o∧o.cls= .type "StopIteration")→E (.ref e) {s with heap:=h'}):
  wpAny (model P W) A.in1 (Builtin.«zip.__next__» ⟨[.ref z],[]⟩) (fun fin s'=>∃v,fin= .done (.ret v)∧Q v s') E s:=by
 have nd:=ap.nd;simp only[fO,bM,rl,not_or,CA,and_true,or_false]at nd;obtain⟨⟨R4,Pc,RC,P4⟩,⟨Uu,Ub,Th⟩,⟨Ws,VE⟩,Yp⟩:=nd;refine(show wpAny _ _ (field (.ref z) 2 >>=_) _ _ s from aq (jV hz rfl (x:= .bool false) rfl ?_));refine(show wpAny _ _ (field (.ref z) 3 >>=_) _ _ s from aq (jV hz rfl (x:= .ref TI) rfl (aq (lB pI rfl ?_))));refine(show wpAny _ _ (Builtin.SmallTypes.ownedTupleIsFree _ >>=_) _ _ s from aq (L0 hz alive fun h1 z1 n1 b1=>?_));have WW:jw [z,i1,i2] s.heap h1:=b1.wide (by grind);simp only[E5,jW];refine aq ?_;rw[←Array.forIn_toList];simp only[Mh,Ii];refine aq (aq (qT (show wpAny _ _ (Builtin.SmallTypes.nextOf (.ref i1) >>=_) _ _ _ from aq (D1.draw k _ _ _ (D1.keep _ _ _ KH fun c hc o e=>b1 c o (by simp;exact fun q=>ap.z1.1 (q▸hc)) e) (fun x h2 e2 RL s2=>aL (aL ?_)) fun e2 h2 e s2 he=>?_))))
 rotate_left
 exact over (.inl e2) h2 e (WW.trans (jw.one (by simp) s2)) he;have b2:jw [z,i1,i2] h1 h2:=jw.one (by simp) s2.extBut;have Q8:S2 k h2:=D2.keep _ _ _ Fc fun c hc o e=>s2.extBut c o (fun q=>ap.z2.2.2 (q▸hc)) (b1 c o (by simp;exact fun q=>ap.z2.1 (q▸hc)) e);refine aq (aq (qT (show wpAny _ _ (Builtin.SmallTypes.nextOf (.ref i2) >>=_) _ _ _ from aq (D2.draw k _ _ _ Q8 (fun y h3 e3 LV s3=>aL (aL ?_)) fun e3 h3 e s3 he=>?_))))
 rotate_left
 exact over (.inr e3) h3 e ((WW.trans b2).trans (jw.one (by simp) s3)) he;have b3:jw [z,i1,i2] h2 h3:=jw.one (by simp) s3.extBut;have n3:h3.objs.size=s.heap.objs.size:=(s3.1.trans s2.1).trans n1;refine aL (aq (wpAny_newTuple (aL ⟨_,rfl,?_⟩) (by show 2≤sizeLine;decide)));have z3:BC h3 z TI TO T0 true:=s3.extBut _ _ P4 (s2.extBut _ _ RC z1);refine(show Q (.ref h3.objs.size) _ from ?_);have new:IsPair (h3.push {cls:= .type "tuple",data:= .seq #[x,y]}) h3.objs.size x y:=bU _ rfl;rw[n3]at new ⊢;refine item x y _ e2 e3 (bB _ z3) (D1.keep _ _ _ RL fun c hc o e=>bB _ (s3.extBut c o (fun q=>ap.z1.2.2 (q▸hc)) e)) (D2.keep _ _ _ LV fun c hc o e=>bB _ e) new (((WW.trans b2).trans b3).trans fun c o _ e=>bB _ e)
def H_ {Q:Option Value→Shared→Prop}(D1:Src P W A.in1 i1 f1 S1 t1)(D2:Src P W A.in1 i2 f2 S2 t2)(ap:Apart z TI TO i1 i2 f1 f2)(hz:BC s.heap z TI TO T0 b)(alive:∃o,s.heap.get? T0=some o)(pI:IsPair s.heap TI (.ref i1) (.ref i2))
  (KH:S1 k s.heap) (Fc:S2 k s.heap)
  (item:∀x y h',t1 k=some x→t2 k=some y→BC h' z TI TO T0 true→S1 (k+1) h'→S2 (k+1) h'→IsPair h' s.heap.objs.size x y→jw [z,i1,i2] s.heap h'→Q (some (.ref s.heap.objs.size)) {s with heap:=h'})
  (over:t1 k=none∨t2 k=none→∀h',jw [z,i1,i2] s.heap h'→Q none {s with heap:=h'}):wpAny (model P W) A (pyNext (.ref z)) Q E s:=by
 have ty:s.TypeIs (.ref z) "zip" :=⟨_,hz,rfl⟩;refine aq (Bn (xq (name:=Str.ofString "__next__") ty BB (lX BB ty F.entry_zip_next
  (MD D1 D2 ap hz alive pI KH Fc (fun x y h' e1 e2 e3 e4 e5 e6 e7=>aL (item x y h' e1 e2 e3 e4 e5 e6 e7)) fun e h' x kb hx=>?_) (F.args_zip_next_1 _))))
 obtain⟨o,eo,co⟩:=hx;exact aq (GA (T:="StopIteration") (b:=true) ⟨o,eo,co⟩ isSubtype_stop (aL (over e h' kb)))
end
def Qg:typeLookup (.type "zip") "__len__" =pure none:=by rw[typeLookup_type,builtinLookup_eq_fast];kernel_rfl
def Ng:typeLookup (.type "zip") "__length_hint__" =pure none:=by rw[typeLookup_type,builtinLookup_eq_fast];kernel_rfl
section
variable{P:Program}{W:World}{A:Around}{E:Value→Shared→Prop}{s:Shared}{z TI TO i1 i2 S:Addr}{f1 f2:List Addr}{S1 S2:Nat→Heap→Prop}{t1 t2:Nat→Option Value}
def Lx {Q:Bool→Shared→Prop}(hT:s.TypeIs (.ref z) "zip")(h:Q true s):wpAny (model P W) A (Builtin.List.listLengthHint (.ref z)) Q E s:=by
 unfold Builtin.List.listLengthHint;refine aq (wpAny_specialOf hT Qg ?_);refine(show wpAny _ _ (specialOf (.ref z) "__length_hint__" >>=_) _ _ s from aq (wpAny_specialOf hT Ng ?_));exact aL h
structure Lp (h0:Heap)(z TI TO i1 i2 S:Addr)(S1 S2:Nat→Heap→Prop)(t1 t2:Nat→Option Value)(i:Nat)(acc:Array Value)(c:Nat)(h:Heap):Prop where
 mark:(i=0∧IsZip h z TI TO .none)∨∃T0 b,BC h z TI TO T0 b∧(∃o,h.get? T0=some o)∧T0∉[S,z,TO,i1,i2]
 pI:IsPair h TI (.ref i1) (.ref i2)
 pO:∃a b,IsPair h TO a b
 s1:S1 i h
 s2:S2 i h
 lst:h.get? S=some {cls:= .type "list",dict:=none,data:= .seq acc c,slots:=#[]}
 old:∀c o,c∉[S,z,TO,i1,i2]→h0.get? c=some o→h.get? c=some o
 got:∃Ts:List Addr,acc.toList=Ts.map Value.ref∧Ts.length=i∧Ts.Nodup∧(∀T∈Ts,h0.objs.size≤T∧T∉[S,z,TO,i1,i2])∧∀j T,Ts[j]? =some T→∃x y,t1 j=some x∧t2 j=some y∧IsPair h T x y
theorem Om {R:Result→Shared→Prop}{h0:Heap}(D1:Src P W A.in1.in1 i1 f1 S1 t1)(D2:Src P W A.in1.in1 i2 f2 S2 t2)(ap:Apart z TI TO i1 i2 f1 f2)(hS:S∉[z,TI,TO,i1,i2]∧S∉f1∧S∉f2)(n:Nat)(hn:n≤sizeLine)(hO:∀i,i<n→∃x y,t1 i=some x∧t2 i=some y)(hE:t1 n=none∨t2 n=none)(res:Value)
  (hsz:∀c∈[S,z,TI,TO,i1,i2],c<h0.objs.size∨c=S):
  ∀(k i:Nat) (s:Shared) (acc:Array Value) (c:Nat),n-i=k→i≤n→h0.objs.size≤s.heap.objs.size→Lp h0 z TI TO i1 i2 S S1 S2 t1 t2 i acc c s.heap→
  (∀h' acc' c',h'.get? S=some {cls:= .type "list",dict:=none,data:= .seq acc' c',slots:=#[]}→(∀c o,c∉[S,z,TO,i1,i2]→h0.get? c=some o→h'.get? c=some o)→
   (∃Ts:List Addr,acc'.toList=Ts.map Value.ref∧Ts.length=n∧Ts.Nodup∧(∀T∈Ts,h0.objs.size≤T∧T∉[S,z,TO,i1,i2])∧∀j T,Ts[j]? =some T→∃x y,t1 j=some x∧t2 j=some y∧IsPair h' T x y)→R (.ok (.ret res)) {s with heap:=h'})→
  codeAny (model P W) A (.builtin "list.extend.loop" ⟨[.ref S,.ref z,res],[]⟩) R s:=by
 intro k
 induction k with
 | zero=>
  intro i s acc c hk hi hle L hR;have Pa:i=n:=by lia
  subst Pa;refine codeAny_builtin F.entry_extend_loop ?_;rw[Around.under_plainId A4 _];have fin:∀h',jw [z,TO,i1,i2] s.heap h'→R (.ok (.ret res)) {s with heap:=h'}:=fun h' kb=>by
   have Um:jw [S,z,TO,i1,i2] s.heap h':=kb.wide (by grind);obtain⟨Ts,g1,g2,gn,g3,g4⟩:=L.got;refine hR h' acc c (kb S _ (by intro q;exact hS.1 (by simp at q ⊢;rcases q with q|q|q|q<;>simp[q])) L.lst) (fun c o hc e=>Um c o hc (L.old c o hc e)) ⟨Ts,g1,g2,gn,g3,fun j T e=>?_⟩;obtain⟨x,y,h1,h2,h3⟩:=g4 j T e;exact⟨x,y,h1,h2,Um T _ (g3 T (dJ e)).2 h3⟩
  refine(show wpAny _ A.in1 (pyNext (.ref z) >>=_) _ _ s from aq ?_);obtain⟨a,b,pO⟩:=L.pO;rcases L.mark with⟨_,hz⟩|⟨T0,b',hz,al,_⟩
  ·refine wM D1 D2 ap hz L.pI pO L.s1 L.s2 (fun x y h' e1 e2=>?_) fun _ h' kb=>aL (fin h' kb);exfalso;lia
  refine H_ D1 D2 ap hz al L.pI L.s1 L.s2 (fun x y h' e1 e2=>?_) fun _ h' kb=>aL (fin h' (kb.wide (by grind)));simp_all
 | succ k ih=>
  intro i s acc c hk hi hle L hR;have lu:i<n:=by (clear hle hi hn;omega)
  obtain⟨x0,y0,ex,ey⟩:=hO i lu;refine codeAny_builtin F.entry_extend_loop ?_;rw[Around.under_plainId A4 _];obtain⟨Ts,g1,g2,gn,g3,g4⟩:=L.got;have Tr:acc.size=i:=by rw[←FL,g1,ay];exact g2
  have hTn:s.heap.objs.size∉[S,z,TO,i1,i2]:=fun q=>by
   obtain⟨a,b,pO⟩:=L.pO;have l1:S<s.heap.objs.size:=bb L.lst;grind
  have step:∀x y h',t1 i=some x→t2 i=some y→(∃T0 b,BC h' z TI TO T0 b∧(∃o,h'.get? T0=some o)∧T0∉[S,z,TO,i1,i2])→(∃a b,IsPair h' TO a b)→S1 (i+1) h'→S2 (i+1) h'→IsPair h' s.heap.objs.size x y→jw [z,TO,i1,i2] s.heap h'→
    wpAny (model P W) A.in1 (updateSeq S (·.push (.ref s.heap.objs.size)) >>=fun _=>again (.builtin "list.extend.loop" ⟨[.ref S,.ref z,res],[]⟩)) (fun fin s'=>match fin with | .done f=>R (.ok f) s' | .again c'=>c'.quiet=true∧codeAny (model P W) A c' R s') (fun e s'=>R (.error e) s') {s with heap:=h'}:=by
   intro x y h' e1 e2 mk pO' KH Fc pT kb;have Um:jw [S,z,TO,i1,i2] s.heap h':=kb.wide (by grind);have hSn:S∉[z,TO,i1,i2]:=by intro q;exact hS.1 (by simp at q ⊢;rcases q with q|q|q|q<;>simp[q])
   have Ux:=kb S _ hSn L.lst;refine aq (yZ Ux rfl (aL ⟨plainId_quiet A4 _,?_⟩) (by rw[Tr];exact Nat.le_trans ‹_› ‹_›) (by show(acc.push _).size≤sizeLine+1;rw[Array.size_push,Tr];(simp;exact Nat.le_trans ‹_› ‹_›)));have up:∀c o,c≠S→h'.get? c=some o→(h'.update S (Obj.mapSeq (·.push (Value.ref s.heap.objs.size)))).get? c=some o:=fun c o hc e=>(uh _ _ (aR hc)).trans e;have eP:∀c,c∈[z,TI,TO,i1,i2]→c≠S:=fun c hc q=>hS.1 (q▸hc);refine ih (i+1) {s with heap:=h'.update S (Obj.mapSeq (·.push (Value.ref s.heap.objs.size)))} (acc.push (.ref s.heap.objs.size)) _ (by clear Tr g2 hle hn;(clear hi;grind)) lu ?_ ⟨.inr ?_,?_,?_,?_,?_,ra _ Ux rfl,fun c o hc e=>up c o (fun q=>hc (by simp[q])) (Um c o hc (L.old c o hc e)),Ts++[s.heap.objs.size],?_,by simp[g2],?_,fun T hT=>?_,fun j T e=>?_⟩ fun h2 acc' c' r1 r2 r3=>hR h2 acc' c' r1 r2 r3
   ·show h0.objs.size≤(h'.update S _).objs.size;rw[MK];exact aG hle (jn (bb pT))
   ·obtain⟨T0,b,hz,⟨o,al⟩,QU⟩:=mk;exact⟨T0,b,up _ _ (eP z (by simp)) hz,⟨o,up _ _ (fun q=>QU (by simp[q])) al⟩,QU⟩
   ·exact up _ _ (eP TI (by simp)) (kb TI _ (by
     have nd:=ap.nd;simp only[fO,bM,rl,not_or,CA,and_true,or_false]at nd;obtain⟨⟨R4,Pc,RC,P4⟩,⟨Uu,Ub,Th⟩,_⟩:=nd;simp only[bM,rl,or_false,not_or];exact⟨aR R4,Uu,Ub,Th⟩) L.pI)
   grind;exact D1.keep _ _ _ KH fun c hc o e=>up c o (fun q=>hS.2.1 (q▸hc)) e;exact D2.keep _ _ _ Fc fun c hc o e=>up c o (fun q=>hS.2.2 (q▸hc)) e;simpa
   ·refine BA.2 ⟨gn,by simp,fun x hx y hy e=>?_⟩;have hy:y=s.heap.objs.size:=by simpa using hy
    obtain⟨j,hj,ej⟩:=List.getElem_of_mem hx;obtain⟨_,_,_,_,h3⟩:=g4 j x (by rw[vc hj,ej]);exact absurd (bb h3) (by rw[e,hy];exact gu _)
   grind;by_cases hj:j<Ts.length
   ·rw[List.getElem?_append_left hj]at e;obtain⟨x,y,h1,h2,h3⟩:=g4 j T e;have YA:=(g3 T (dJ e)).2;exact⟨x,y,h1,h2,up _ _ (fun q=>YA (by simp[q])) (Um T _ YA h3)⟩
   have hj2:j=Ts.length:=by grind
   subst hj2;grind
  refine(show wpAny _ A.in1 (pyNext (.ref z) >>=_) _ _ s from aq ?_);obtain⟨a,b,pO⟩:=L.pO;rcases L.mark with⟨_,hz⟩|⟨T0,b',hz,al,QU⟩
  ·refine wM D1 D2 ap hz L.pI pO L.s1 L.s2 (fun x y h' e1 e2 e3 e4 e5 e6 e7 e8=>?_) fun hh=>?_
   ·exact step x y h' e1 e2 ⟨_,false,e3,⟨_,e7⟩,hTn⟩ ⟨_,_,e4⟩ e5 e6 e7 e8
   grind
  refine H_ D1 D2 ap hz al L.pI L.s1 L.s2 (fun x y h' e1 e2 e3 e5 e6 e7 e8=>?_) fun hh=>?_
  ·obtain⟨o,al⟩:=al;have XD:jw [z,TO,i1,i2] s.heap h':=e8.wide (by simp);refine step x y h' e1 e2 ⟨T0,true,e3,⟨o,XD T0 o (fun q=>QU (cP _ q)) al⟩,QU⟩ ⟨a,b,e8 TO _ ?_ pO⟩ e5 e6 e7 XD;have nd:=ap.nd;grind
  grind
end
section
variable{P:Program}{W:World}{A:Around}{E:Value→Shared→Prop}{s:Shared}{z TI TO i1 i2 S:Addr}{f1 f2:List Addr}{S1 S2:Nat→Heap→Prop}{t1 t2:Nat→Option Value}
def LQ {R:Result→Shared→Prop}{h0:Heap}(D1:Src P W A.in1.in1 i1 f1 S1 t1)(D2:Src P W A.in1.in1 i2 f2 S2 t2)(ap:Apart z TI TO i1 i2 f1 f2)(hS:S∉[z,TI,TO,i1,i2]∧S∉f1∧S∉f2)(n:Nat)(hn:n≤sizeLine)(hO:∀i,i<n→∃x y,t1 i=some x∧t2 i=some y)(hE:t1 n=none∨t2 n=none)(res:Value)
  (hsz:∀c∈[S,z,TI,TO,i1,i2],c<h0.objs.size∨c=S) (hz:IsZip s.heap z TI TO .none) (pI:IsPair s.heap TI (.ref i1) (.ref i2)) (pO:∃a b,IsPair s.heap TO a b) (s1:S1 0 s.heap) (s2:S2 0 s.heap) {c0:Nat}
  (lst:s.heap.get? S=some {cls:= .type "list",dict:=none,data:= .seq #[] c0,slots:=#[]}) (old:∀c o,c∉[S,z,TO,i1,i2]→h0.get? c=some o→s.heap.get? c=some o) (hle:h0.objs.size≤s.heap.objs.size)
  (hR:∀h' acc' c',h'.get? S=some {cls:= .type "list",dict:=none,data:= .seq acc' c',slots:=#[]}→(∀c o,c∉[S,z,TO,i1,i2]→h0.get? c=some o→h'.get? c=some o)→
   (∃Ts:List Addr,acc'.toList=Ts.map Value.ref∧Ts.length=n∧Ts.Nodup∧(∀T∈Ts,h0.objs.size≤T∧T∉[S,z,TO,i1,i2])∧∀j T,Ts[j]? =some T→∃x y,t1 j=some x∧t2 j=some y∧IsPair h' T x y)→R (.ok (.ret res)) {s with heap:=h'}):
  wpAny (model P W) A.in1 (Builtin.List.listExtendWith (.ref S) (.ref z) res) (fun fin s'=>match fin with | .done f=>R (.ok f) s' | .again c'=>c'.quiet=true∧codeAny (model P W) A c' R s') (fun e s'=>R (.error e) s') s:=by
 have ty:s.TypeIs (.ref z) "zip" :=⟨_,hz,rfl⟩;have ne:S≠z:=fun q=>hS.1 (by simp[q]);have same:Builtin.List.listSameRef (.ref S) (.ref z)=false:=by simp[Builtin.List.listSameRef,ne]
 unfold Builtin.List.listExtendWith;refine aq (wpAny_typeOf (T:="zip") ty ?_);have n1:(Value.type "zip" ==Value.type "list")=false:=by decide
 have n2:(Value.type "zip" ==Value.type "tuple")=false:=by decide
 simp only[same,n1,n2,Bool.or_false,E5,jW];refine aq (Gb hz (aq (qT (Lx ty ?_))));refine wpAny_ite_split (fun _=>aq (wpAny_rule (aq ?_))) fun hn=>absurd rfl hn;refine(show wpAny _ _ (updateSeq S (·.push .none) >>=fun _=>updateSeq S (·.pop)) _ _ s from aq (yZ lst rfl ?_));have l2:=ra (Obj.mapSeq (·.push Value.none)) lst rfl;refine yZ (hz:=by seq_fits) l2 rfl (aL ⟨plainId_quiet A4 _,?_⟩);have l3:=ra (Obj.mapSeq (·.pop)) l2 rfl;have up:∀c o,c≠S→s.heap.get? c=some o→((s.heap.update S (Obj.mapSeq (·.push Value.none))).update S (Obj.mapSeq (·.pop))).get? c=some o:=fun c o hc e=>(uh _ _ (aR hc)).trans ((uh _ _ (aR hc)).trans e);have eP:∀c,c∈[z,TI,TO,i1,i2]→c≠S:=fun c hc q=>hS.1 (q▸hc);refine Om D1 D2 ap hS n hn hO hE res hsz n 0 {s with heap:=(s.heap.update S (Obj.mapSeq (·.push Value.none))).update S (Obj.mapSeq (·.pop))} #[] _ (by rfl) (fJ _) ?_ ⟨.inl ⟨rfl,up _ _ (eP z (by simp)) hz⟩,up _ _ (eP TI (by simp)) pI,?_,D1.keep _ _ _ s1 fun c hc o e=>up c o (fun q=>hS.2.1 (q▸hc)) e,D2.keep _ _ _ s2 fun c hc o e=>up c o (fun q=>hS.2.2 (q▸hc)) e,l3,fun c o hc e=>up c o (fun q=>hc (by simp[q])) (old c o hc e),[],rfl,rfl,lA,(fun T hT=>by cases hT),fun j T e=>by simp at e⟩ hR;simp only[Heap.size_update];omega;grind
def C2 (n a b:Nat)(la:a<n)(lb:b<n):Apart (n+4) (n+2) (n+3) n (n+1) [n,a] [n+1,b]:=by
 have h:∀x y:Nat,x<y→¬(y=x):=fun x y h=>by exact Nat.ne_of_gt ‹_›
 have h':∀x y:Nat,x<y→¬(x=y):=fun x y h=>by lia
 refine⟨?_,⟨?_,?_,?_⟩,⟨?_,?_,?_⟩,cQ,cQ⟩;simp
 all_goals grind
def apart_new (n a b S:Nat)(la:a<n)(lb:b<n)(hS:n+4<S):S∉[n+4,n+2,n+3,n,n+1]∧S∉[n,a]∧S∉[n+1,b]:=by (refine ⟨?_,?_,?_⟩<;>grind)
def IE (n c S:Nat)(h:c<n)(hS:n+4<S):c∉[S,n+4,n+3,n,n+1]:=by grind -order
def MO {Q:Value→Shared→Prop}{a b:Addr}{us vs:Array Value}(calm:A.handled=none)(n0:Nat)(hz:IsZip s.heap (n0+4) (n0+2) (n0+3) .none)(pI:IsPair s.heap (n0+2) (.ref n0) (.ref (n0+1)))(pO:∃x y,IsPair s.heap (n0+3) x y)
  (j1:s.heap.IsListIter n0 a 0) (j2:s.heap.IsListIter (n0+1) b 0) (ha:s.heap.IsList a us) (hb:s.heap.IsList b vs) (la:a<n0) (lb:b<n0) (hn:min us.size vs.size≤sizeLine)
  (q:∀(h':Heap) (Ts:List Addr) (c:Nat),h'.get? s.heap.objs.size=some {cls:= .type "list",dict:=none,data:= .seq (Ts.map Value.ref).toArray c,slots:=#[]}→(∀c o,c<n0→s.heap.get? c=some o→h'.get? c=some o)→Ts.length=min us.size vs.size→Ts.Nodup→(∀T∈Ts,s.heap.objs.size<T)→
   (∀(j:Nat) (T:Addr),Ts[j]? =some T→∃x y,us[j]? =some x∧vs[j]? =some y∧IsPair h' T x y)→Q (.ref s.heap.objs.size) {s with heap:=h'}):
  wpAny (model P W) A (call (.type "list") [.ref (n0+4)]) Q E s:=by
 have lu:n0+4<s.heap.objs.size:=bb hz;refine callType_codes (Q₁:=fun ob t=>ob= .ref s.heap.objs.size∧t={s with heap:=s.heap.push {cls:= .type "list",data:= .seq #[]}}) F.called_list (F.typeCall_list_1 _) F.entry_list_init (code_list_new _ ⟨rfl,rfl⟩) fun ob t ht=>?_;obtain⟨rfl,rfl⟩:=ht;have l1:(s.heap.push {cls:= .type "list",data:= .seq #[]}).get? s.heap.objs.size=some {cls:= .type "list",dict:=none,data:= .seq #[] 0,slots:=#[]}:=bU _ rfl;refine⟨⟨_,l1,rfl⟩,F.args_list_init_2 _ _,?_⟩;refine(show wpAny _ _ (Builtin.List.listItems (.ref s.heap.objs.size) >>=_) _ _ _ from aq ?_);unfold Builtin.List.listItems;refine aq (lB l1 rfl (aL ?_));refine(show wpAny _ _ (updateSeq s.heap.objs.size (fun _=>#[]) >>=fun _=>letGo (#[]:Array Value).toList.reverse >>=fun _=>Builtin.List.listExtendWith (.ref s.heap.objs.size) (.ref (n0+4)) .none) _ _ _ from aq (yZ l1 rfl (aq (wpAny_letGo ?_))));have l2:=ra (Obj.mapSeq (fun _=>(#[]:Array Value))) l1 rfl;have kp:∀c o,s.heap.get? c=some o→((s.heap.push {cls:= .type "list",data:= .seq #[]}).update s.heap.objs.size (Obj.mapSeq (fun _=>(#[]:Array Value)))).get? c=some o:=fun c o e=>
  (uh _ _ (uC (bb e))).trans (bB _ e)
 have apt:=C2 n0 a b la lb;have hS:=apart_new n0 a b s.heap.objs.size la lb lu;refine LQ (A:=A.in1) (h0:=s.heap) (S:=s.heap.objs.size) (wJ (by exact calm) (cC la) us) (wJ (by exact calm) (cC (yN lb)) vs) apt hS (min us.size vs.size) hn (fun i hi=>?_) ?_ .none (fun c hc=>?_)
  (kp _ _ hz) (kp _ _ pI) (by obtain⟨x,y,p⟩:=pO;exact⟨x,y,kp _ _ p⟩) ⟨j1.at fun o e=>kp _ _ e,ha.at fun o e=>kp _ _ e⟩ ⟨j2.at fun o e=>kp _ _ e,hb.at fun o e=>kp _ _ e⟩ l2 (fun c o _ e=>kp c o e) (by rw[MK,ff];lia) fun h' acc' c' r1 r2 r3=>?_
 exact⟨us[i]'(by clear lu hn;omega),vs[i]'(by clear lu hn;omega),by (clear lu;simp[show i<us.size by omega]),by (clear lu;simp[show i<vs.size by omega])⟩;clear pO;simp;lia;clear pO;grind;obtain⟨Ts,g1,g2,gn,g3,g4⟩:=r3;have ea:acc'=(Ts.map Value.ref).toArray:=by rw[←g1,Hh]
 rw[ea]at r1;exact⟨rfl,q h' Ts c' r1 (fun c o hc e=>r2 c o (IE n0 c s.heap.objs.size hc lu) e) g2 gn (fun T hT=>Nat.lt_of_le_of_ne (g3 T hT).1 fun e=>(g3 T hT).2 (by simp[e])) g4⟩
end
end Zt
namespace L2
open PySem PySem.Spec PyProof.Rows
section
variable{X:Cx}{o e f:Expr}{td ty tx:TE}{apos dX:Pos}
def Q2 (td ty tx:TE):TE:=fun σ H Q=>td σ H fun x H1=>∃a,x= .ref a∧R7 H1 a∧ty σ H1 fun y H2=>tx σ H2 fun z H3=>∃kvs k,H3 a=some (.dK kvs)∧y=kV k∧kvs.length<sizeLine∧
 (∀v,fS kvs k=some v→Q v H3)∧(fS kvs k=none→Q z (upd H3 a (.dK (putK kvs k z))))
def KS (ho:PE X o td)(he:PE X e ty)(hf:PE X f tx)(m:M2 X o "setdefault" apos e f dX):PE X (.Call (.Attribute o "setdefault" apos) [e,f] [] dX) (Q2 td ty tx):=by
 intro pins s σ H Q I h;refine qy m.base m.UJ m.line qD LN PySem.F.type_dict_setdefault (cS (ho pins s σ H _ I h) fun u s1 ⟨x,H1,I1,rx,a,ex,d,q1⟩=>?_);subst ex;obtain rfl:u=Value.ref a:=rx;obtain⟨t1,t2,_⟩:=GD I1 d;refine⟨t1,t2,?_⟩;rw[m.trees];refine yf rfl (Cz (j6 (cS (he pins s1 σ H1 _ I1 q1) fun iv s2 ⟨y,H2,I2,ry,q2⟩=>
  j6 (cS (hf pins s2 σ H2 _ I2 q2) fun fv s3 ⟨z,H3,I3,rz,kvs,k,ea,ey,hl,q3,q4⟩=>nO ?_))))
 subst ey;obtain⟨zz,hd,vs,rel,dd⟩:=EE I3.b9 ea;refine xw LN dd.typeIs PySem.F.entry_dict_setdefault (PySem.F.args_dict_setdefault_3 _ _ _) (kt_meets_setdefault (bw X.prog X.w) a (l_ ry) hd fv) ⟨vs,dd,by rw[←rel.length];exact zz,fun v hv=>?_,fun hn h' Fb hs=>?_⟩
 ·have hr:=rel.val k;rw[hv]at hr;obtain⟨v0,e0,r0⟩:∃v0,fS kvs k=some v0∧RelV v0 v:=by
   cases q:fS kvs k with
   | none=>rw[q]at hr;exact hr.elim
   | some v0=>rw[q]at hr;exact⟨v0,rfl,hr⟩
  exact⟨v0,H3,I3.tok _,r0,q3 v0 e0⟩
 have hr:=rel.val k;rw[hn]at hr;have e0:fS kvs k=none:=by
  cases q:fS kvs k with
  | none=>rfl
  | some v0=>rw[q]at hr;exact hr.elim
 have he:∃q,h'.get? a=some q:=let⟨q,_,_,hq,_⟩:=Fb;⟨q,hq⟩;refine⟨z,_,oH I3 (by rw[ea];exact True.intro) hs he (xB ?_ hd (rel.put k rz) Fb),rz,q4 e0⟩;have:(putK kvs k z).length≤kvs.length+1:=by
  unfold putK;by_cases q:(kvs.any fun kv=>decide (kv.1=k))=true;clear t2;grind;clear t2;grind
 exact Nat.le_trans ‹_› ‹_›
end
def Bs (ks:List Int)(ns Bj:List Nat):Prop:=∃ps:List (Int×Nat),ps.Perm (ks.zip ns)∧Bj=ps.map Prod.snd∧ps.Pairwise fun p q=>p.1≤q.1
def natOf:Value→Nat
 | .int n _=>n.toNat
 | _=>0
theorem EZ:∀{ns:List Nat} {us:List Value},Vals (ns.map iV) us→us.map natOf=ns∧∀u∈us,RelV (iV (natOf u)) u
 | [],[],_=>⟨rfl,fun _ h=>by cases h⟩
 | n::ns,u::us,h=>by
  cases h with
  | cons r t=>
   obtain⟨h1,h2⟩:=EZ t;obtain⟨tk,rfl⟩:=r;refine⟨by rw[bF,h1];rfl,fun v hv=>?_⟩;rcases bM.mp hv with e|e;subst e;exact⟨tk,rfl⟩;exact h2 v e
theorem Ee:∀{us:List Value},(∀u∈us,RelV (iV (natOf u)) u)→Vals ((us.map natOf).map iV) us
 | [],_=> .nil
 | u::us,h=> .cons (h u cQ) (Ee fun v hv=>h v (cP _ hv))
def Mu {kz:List Int}{ns:List Nat}{us out:List Value}(h:KskOutSt false kz us out)(hv:Vals (ns.map iV) us):∃Bj,Vals (Bj.map iV) out∧Bs kz ns Bj:=by
 obtain⟨ps,h1,h2,h3,_⟩:=h;obtain⟨e1,e2⟩:=EZ hv;have hm:∀u∈out,RelV (iV (natOf u)) u:=fun u hu=>by
  rw[h2]at hu;obtain⟨p,hp,rfl⟩:=aZ.mp hu;exact e2 _ (Cv (show(p.1,p.2)∈kz.zip us from h1.mem_iff.mp hp)).2
 refine⟨out.map natOf,Ee hm,ps.map fun p=>(p.1,natOf p.2),?_,?_,?_⟩
 ·have:=h1.map fun(p:Int×Value)=>(p.1,natOf p.2);have hz:(kz.zip us).map (fun(p:Int×Value)=>(p.1,natOf p.2))=kz.zip ns:=by
   rw[←e1,List.zip_map_right];rfl
  simp_all
 simp_all;grind
def N2 (H:Hp):lay H []=H:=funext fun b=>oR rfl
section
variable{X:Cx}{pins:List (Addr×Obj)}{σ:St}{H:Hp}{s:Shared}
def Inv.grown {h':Heap}{t':Nat}(I:Inv X pins σ H s)(k:∀b u,s.heap.get? b=some u→h'.get? b=some u):Inv X pins σ H {s with heap:=h',toks:=t'}:=by
 have:=I.HJ (t':=t') (news:=[]) k (fun b o e=>by cases e) (fun b o e=>by cases e);rw[N2]at this;exact this
end
def NN (K:Frag)(P:Addr)(fY:Pos)(qual f g:Str)(i:Nat):TE:=fun σ H Q=>∃(d:Addr) (ns:List Nat) (r:Nat→Addr) (ks:List Int),σ[i]? =some (some (.ref d))∧H d=some (.dK (ns.map fun(n:Nat)=>((Sum.inl (n:Int):Key),V.ref (r n))))∧ks.length=ns.length∧
 (∀(j n:Nat) (k:Int),ns[j]? =some n→ks[j]? =some k→∃m,(∃C dx fs,H (r n)=some (.ins C dx fs)∧JO K C∧fc K C f∧fs.lookup f=some (.ref m))∧RF K H m g k)∧fA H P fY qual∧
 ∀(D:Addr) (Bj:List Nat) (H2:Hp),Bs ks ns Bj→qf P H H2→fA H2 P fY qual→H2 D=none→Q (.ref D) (upd H2 D (.lst (Bj.map iV)))
theorem EM (r:Nat→Addr)(n:Nat):∀{l:List Nat},n∈l→fS (l.map fun(a:Nat)=>((Sum.inl (a:Int):Key),V.ref (r a))) (Sum.inl (n:Int))=some (V.ref (r n))
 | a::l,h=>by
  rw[bF];by_cases e:a=n;simp_all[i6];rw[ji (p:=((Sum.inl (a:Int):Key),V.ref (r a))) fun z=>e (by have:=Sum.inl.inj z;lia)];exact EM r n ((bM.mp h).resolve_left fun z=>e z.symm)
section
variable{X:Cx}{c P:Addr}{params:Arguments}{scope:Scope}{x x0 f1 f2:Str}{p pos RK fY pa p1 p2 p3 p4 p5:Pos}
def DT {k i:Nat}(hr:fX k X.A)(zV:X.calm=true)(hm:X.mg "sorted" =none)(pj:X.env.code= .ref c)(hd:codeHdIn X.K c P=true)(B:E9 X.K X.mg)(he:PE X (.Name x0 pa) (iD i))
  (hN:X.N[i]? =some x0:=by rfl) (NZ:X.env.kindOf x0=some .cell:=by rfl)
  (hg:Gl X "sorted" :=by rfl) (Mo:defaultsOf params X.env=([],[]):=by rfl)
  (pX:backTo pos (starEach [.Name x0 pa] X.env)=[(false,eval (.Name x0 pa) X.env)]:=by rfl)
  (kM:∀(qual:Str) (vZ:List (Str×Addr)) (pm cd Dl v:Value),bindArgs (kla_fn "<lambda>" qual params (.Attribute (.Attribute (.Subscript (.Name x0 p1) (.Name x p2) p3) f1 p4) f2 p5) scope vZ pm cd Dl) ⟨[v],[]⟩=pure [(x,v)]:=by intro _ _ _ _ _ _;rfl)
  (Jw:scope.names.lookup x=some .local:=by rfl) (AH:scope.names.lookup x0=some .free:=by rfl) (hclo:∀y∈scope.names,y.2= .free→y.1=x0:=by decide)
  (hclo2:∀cells:List (Str×Addr),(ck cells scope.names []).lookup x0=some ((cells.lookup x0).getD 0):=by intro _;rfl)
  (RU:scope.isCoroutine=false:=by rfl) (K7:scope.isGenerator=false:=by rfl) (hk:scope.kind= .function:=by rfl) (qk:∀y∈scope.names,y.2≠ .cell:=by decide)
  (WJ:(x==("__debug__" :Str))=false:=by decide) (hx0d:(x0==("__debug__" :Str))=false:=by decide) (hx0c:(x0==("__classdict__" :Str))=false:=by decide):
  PE X (.Call (.Name "sorted" p) [.Name x0 pa] [⟨some "key",.Lambda params (.Attribute (.Attribute (.Subscript (.Name x0 p1) (.Name x p2) p3) f1 p4) f2 p5) scope fY,RK⟩] pos) (NN X.K P fY (X.env.qual++"<lambda>") f1 f2 i):=by
 intro pins s σ H Q I h;obtain⟨d,ns,r,ks,hσ,Ue,hl,hf,tab,q⟩:=h;refine qC (lR I hg hm nV ?_);refine callWith_kw ?_ (by rw[pX];rfl) (by rw[pX];rfl) rfl rfl;rw[pX];refine j6 (cS (he pins s σ H (fun v H1=>v= .ref d∧H1=H) I (iM_ hσ ⟨rfl,rfl⟩)) fun u s1 ⟨v,H1,I1,r1,ev,eH⟩=>nO ?_);subst ev;subst eH;cases r1;have EW:closureFor scope X.env=pure (ck X.env.cells scope.names []):=w_ fun y hy e=>by
  obtain⟨cc,U_⟩:=I1.ok.has x0 (.inl NZ);grind
 refine wpAny_evalAll_cons (aq (E1 I1 pj hd B tab EW Mo fun f c' Dl pm H2 s2 I2 sm PQ Xs BH V9 Wq=>aq (BV (aL (wpAny_evalAll_nil ?_)))));show wpAny (model X.prog X.w) X.A (call (.builtin "sorted") [.ref d] [(Str.ofString "key",.ref f)]) _ _ s2;obtain⟨Vk,hps0⟩:=tab.ex;have nP:∀b o,H1 b=some o→(∀ps,o≠ .lQ ps)→b≠P:=fun b o e n z=>by grind
 have hd2:H2 d=some (.dK (ns.map fun(n:Nat)=>((Sum.inl (n:Int):Key),V.ref (r n)))):=sm _ _ Ue (nP _ _ Ue fun _ y=>by cases y);obtain⟨hz,WX,vs,rel,dd⟩:=I2.b9 d _ hd2;obtain⟨ep0,da⟩:=oU dd;have Ry:ns.length=vs.length:=by have:=bZ rel;rw[ay]at this;exact this
 rw[ay]at hz;refine call_function_entry_kw kind_sorted plain_sorted entry_sorted (ksk_s1 _ _) ?_;unfold Builtin.«sorted»;refine aq (m:=checkCount "sorted" 1 1 _) (aL ?_);refine aq (kdu_collect (A:=X.A.in1) (F3 (knd:=bw X.prog X.w) (kvs:=vs) (ep:=ep0) WX) (I2.ok.hd zV) da (by rw[←Ry];exact hz) fun h3 X9 acc Wb hi=>?_);have OD:Vals (ns.map iV) acc.toList:=uR rel hi Ry;have Gk:acc.toList.length=ns.length:=by rw[FL,hi.1,Ry]
 have I3:Inv X pins σ H2 {s2 with heap:=h3,toks:=X9}:=I2.grown Wb;refine aq (wpAny_newList ?_ (by rw[Gk];exact hz));have UW:(h3.push {cls:= .type "list",data:= .seq acc.toList.toArray}).get? h3.objs.size=some (seqObj "list" acc.toList.toArray 0):=bU _ rfl;obtain⟨m,Ap,_⟩:=id I3.loc;have F:Fr X.base X.env.locals h3 m:=⟨Ap,I3.bk,aG I3.ok.JK I3.ok.above⟩;have N:News X.base X.env.locals h3 (eK X.base h3 X.env.locals):=xF;have kp:∀b o,h3.get? b=some o→(h3.push {cls:= .type "list",data:= .seq acc.toList.toArray}).get? b=some o:=fun b o e=>bB _ e;have Ta:X.env.locals<h3.objs.size:=F.ns.lt;refine aq (qT (wpAny_call_entry_kw slot_list_sort ⟨_,UW,rfl⟩ entry_list_sort ?body (ksk_l1 _ _)))
 case body=>
  show wpAny (model X.prog X.w) X.A.in1.in1 (Builtin.«list.sort» ⟨[.ref h3.objs.size],[(Str.ofString "key",.ref f)]⟩) _ _ _;rw[ksk_t1 f];refine ksk_sortSt (s:={s2 with heap:=h3.push {cls:= .type "list",data:= .seq acc.toList.toArray},toks:=X9}) (b:=false) (f:= .ref f) (kz:=ks) (news:=eK X.base h3 X.env.locals)
   (F.keeps kp) (N.grown kp) UW (uC Ta) (w9 (aG F.above (jn Ta))) (fun p hp=>cC (bb (N p hp).1)) (by rw[Gk];exact hl) (by rw[Gk];exact hz)
   (fun j v k hv VR h0 tk own F0 N0=>?_) fun h' tk out ep F' N' ko=>⟨_,rfl,aL ⟨_,rfl,?_⟩⟩
  ·
   obtain⟨n,hn,rv⟩:∃n,ns[j]? =some n∧RelV (iV n) v:=by
    have hj:j<ns.length:=by rw[←Gk];exact(fu.mp hv).1
    have hn:ns[j]? =some ns[j]:=by simp[hj]
    obtain⟨b,hb,rb⟩:=cT OD (i:=j) (a:=iV ns[j]) (by rw[cO,hn];rfl);grind
   obtain⟨mo,⟨C,dx,fs,g1,g2,g3,g4⟩,gm⟩:=hf j n k hn VR;obtain⟨C',R8,Pu,w1,w2,w3,w4⟩:=gm.ex;have Wn:H2 (r n)=some (.ins C dx fs):=sm _ _ g1 (nP _ _ g1 fun _ y=>by cases y);have w1':H2 mo=some (.ins C' R8 Pu):=sm _ _ w1 (nP _ _ w1 fun _ y=>by cases y);have TZ:News X.base X.env.locals h0 (eK X.base h3 X.env.locals):=fun p hp=>N0 p (h_ _ hp);have k0:=tN I3 F0 TZ;have I0:Inv X pins σ H2 {s2 with heap:=h0,toks:=tk}:=I3.ledger Ap F0 TZ;have Vs:f≠X.env.locals:=fun z=>by
    obtain⟨o,es,ep,e1,e2,_⟩:=Ap;grind
   have hfo0:h0.get? f=some (kla_obj "<lambda>" (X.env.qual++"<lambda>") params (.Attribute (.Attribute (.Subscript (.Name x0 p1) (.Name x p2) p3) f1 p4) f2 p5) scope (ck X.env.cells scope.names []) pm c' Dl):=k0 f _ Vs (Wb _ _ Xs);have Km:h0.CodeRec (.ref c') (X.env.qual++"<lambda>"):=by
    obtain⟨c2,o,vs,t,e1,e2,e3,e4⟩:=BH;refine⟨c2,o,vs,t,e1,k0 c2 o (fun z=>?_) (Wb _ _ e2),e3,e4⟩;obtain⟨o2,es,ep,y1,y2,_⟩:=Ap;grind
   refine EK (s:={s2 with heap:=h0,toks:=tk}) (x:=x) (by have:=hr.dp;show X.A.depth<_;lia) I0.nolimit hfo0 Km (kM _ _ _ _ _ _) Jw RU K7 hk qk fun h1 TK Na=>?_;have I9:Inv X pins σ H2 {s2 with heap:=h1,toks:=tk+1}:=I0.grown Na;obtain⟨m9,hn9,hl9⟩:=id I9.loc;obtain⟨u9,ru9,l9⟩:=hl9 i x0 _ hN hσ (.inr (.inl NZ));obtain⟨cc,U_,hcv⟩:∃cc,X.env.cells.lookup x0=some cc∧h1.IsCell cc (some u9):=by
    rcases l9 with⟨z,_⟩|⟨_,cc,e1,e2⟩;simp_all;grind
   obtain rfl:u9=Value.ref d:=ru9;refine wC rfl ?_;refine wC rfl ?_;refine Bz GC.lookup (fun _ _=>rfl) ?_;refine uJ (wpAny_loadName_free hk AH (by show(ck X.env.cells scope.names []).lookup x0=some cc;rw[hclo2,U_];rfl) hcv ?_ hx0c) hx0d;refine uJ (Ce hk Jw TK (show [(x,v)].lookup x=some v by simp) ?_) WJ;obtain⟨_,_,vs9,rel9,Yh⟩:=I9.b9 d _ hd2;refine⟨Yh.typeIs,?_⟩;obtain⟨w',hw,B2⟩:=oz.some_of (v:=V.ref (r n)) (o:=valueAt vs9 (Sum.inl (n:Int))) (by rw[←EM r n (dJ hn)];exact rel9.val _);refine Fy (l_ (k:=Sum.inl (n:Int)) rv) Yh.mapOf hw ?_;obtain rfl:w'=Value.ref (r n):=B2;obtain⟨mA,O,ro,_,_,_⟩:=sP I9.b9 Wn;obtain⟨uv,hu,ru⟩:∃uv,mA f1=some uv∧RelV (.ref mo) uv:=by
    have:=ro f1;rw[g4]at this;cases e:mA f1 with
    | none=>rw[e]at this;exact this.elim
    | some uv=>rw[e]at this;exact⟨uv,rfl,this⟩
   obtain rfl:uv=Value.ref mo:=ru;obtain⟨mB,O2,ro2,_,_,_⟩:=sP I9.b9 w1';obtain⟨uw,hu2,S9⟩:∃uw,mB f2=some uw∧RelV (.int k) uw:=by
    have:=ro2 f2;rw[w4]at this;cases e:mB f2 with
    | none=>rw[e]at this;exact this.elim
    | some uw=>rw[e]at this;exact⟨uw,rfl,this⟩
   obtain⟨tu,rfl⟩:=S9;refine get_map I9.CP O (g2.get f1) g2.hd g3 hu (by rfl) ?_;refine get_map I9.CP O2 (w2.get f2) w2.hd w3 hu2 (by rfl) ?_;exact⟨h1,_,tu,rfl,rfl,⟨F0.ns.keeps Na,fun b o e=>Na _ _ (F0.keep b o e),F0.above⟩,fun p hp=>⟨Na _ _ (N0 p hp).1,(N0 p hp).2⟩⟩
  obtain⟨Bj,vo,Rp⟩:=Mu ko OD;have hD:h3.get? h3.objs.size=none:=w9 (bo _);have Uw:H2 h3.objs.size=none:=I3.b9.gone hD;have xx:(Bj.map iV).length≤sizeLine:=by
   obtain⟨ps,h1,h2,_⟩:=Rp;rw[ay,h2,ay,h1.length_eq,CN,hl,CC];exact hz
  refine⟨.ref h3.objs.size,upd H2 h3.objs.size (.lst (Bj.map iV)),I3.Ak Ap F' (DE N') hD ⟨xx,out.toList,ep,vo,?_⟩,rfl,q h3.objs.size Bj H2 Rp sm PQ Uw⟩;have:=(N' _ cQ).1;omega
end
def MY (K:Frag)(a b:Addr):It:=
 ⟨fun i H=>∃(xs ys:List V) (x y:V),bz K H a xs∧ju K H b ys∧xs[i]? =some x∧ys[i]? =some y,
  fun i H v H'=>∃T x y,v= .ref T∧H T=none∧H'=upd H T (.tup [x,y])∧(∀xs,bz K H a xs→xs[i]? =some x)∧∀ys,ju K H b ys→ys[i]? =some y,
  fun i H=>∃xs ys:List V,bz K H a xs∧ju K H b ys∧(xs.length≤i∨ys.length≤i)⟩
def Fw {P:Program}{w:World}{K:Frag}{elts:List Expr}{kk:Nat}{tW:Pos}{a b z TI TO i1 i2:Addr}(D:Zt.Apart z TI TO i1 i2 [i1,a] [i2,b])(na:a≠i1)(nb:b≠i2):
  Turn P w K (.Tuple elts kk tW) (MY K a b) [z,TI,TO,i1,i2] z (fun i h=>IsZip h z TI TO .none∧IsPair h TI (.ref i1) (.ref i2)∧(∃x y,IsPair h TO x y)∧h.IsListIter i1 a i∧h.IsTupleIter i2 b i)where
 mem:=cQ
 obj:=fun i h st c hc=>by
  obtain⟨q1,q2,⟨x,y,q3⟩,⟨o1,q4,_,d1⟩,⟨o2,q5,_,d2⟩⟩:=st;simp_all;grind
 keep:=fun i h h' st k=>by
  obtain⟨q1,q2,⟨x,y,q3⟩,q4,q5⟩:=st;exact⟨k _ (by simp) _ q1,k _ (by simp) _ q2,⟨x,y,k _ (by simp) _ q3⟩,q4.at fun o e=>k _ (by simp) o e,q5.at fun o e=>k _ (by simp) o e⟩
 item:=by
  intro X hP hw hK hc i pins s σ H E I hf st hg;subst hP hw hK;obtain⟨q1,q2,⟨x0,y0,q3⟩,q4,q5⟩:=st;obtain⟨xs,ys,x,y,lx,ly,ex,ey⟩:=hg;obtain⟨us,rx,px,_⟩:=I.list lx;obtain⟨vs,ry,py,_⟩:=I.tuple ly;obtain⟨u,hu,ru⟩:=rx.get ex;obtain⟨v,hv,rv⟩:=ry.get ey;have zl:z<s.heap.objs.size:=bb q1;have lt4:i1<s.heap.objs.size:=let⟨_,e,_⟩:=q4;bb e;have lt5:i2<s.heap.objs.size:=let⟨_,e,_⟩:=q5;bb e;refine Zt.wM (Zt.wJ (A:=X.A.in1) (I.ok.hd hc) na us.toArray) (Zt.HZ (A:=X.A.in1) (I.ok.hd hc) nb vs.toArray) D q1 q2 q3 ⟨q4,px.isList⟩ ⟨q5,py⟩ (fun u' v' h' e1 e2 z' TO' KH Fc hT kb=>?_) fun hh=>?_
  ·have e1:us.toArray[i]? =some u':=e1;have e2:vs.toArray[i]? =some v':=e2;have:u'=u:=by simp at e1;rw[hu]at e1;exact(cV e1).symm
   subst this;have:v'=v:=by simp at e2;rw[hv]at e2;exact(cV e2).symm
   subst this;refine⟨_,rfl,wpAny_letOwnedTupleGo_zip (s:={s with heap:=h'}) z' fun O0 z'' sb=>?_⟩;have kb2:∀c o,c∉[z,TI,TO,i1,i2]→s.heap.get? c=some o→O0.get? c=some o:=fun c o hb e=>(sb.2 c (fun q=>hb (by simp[q]))).trans (kb c o (fun q=>hb (by simp at q ⊢;rcases q with q|q|q|q<;>simp[q])) e);have nd:=D.nd;simp only[fO,bM,rl,not_or,CA,and_true,or_false]at nd;obtain⟨⟨R4,Pc,RC,P4⟩,⟨Uu,Ub,Th⟩,⟨Ws,VE⟩,Yp⟩:=nd;have T2:O0.get? s.heap.objs.size=some {cls:= .type "tuple",data:= .seq #[u',v']}:=(sb.2 _ (uC zl)).trans hT;have I1:Inv X pins σ (upd H s.heap.objs.size (.tup [x,y])) {s with heap:=O0}:=
    I.AN (t':=s.toks) (ch:=[z,TI,TO,i1,i2]) kb2 hf (bo _) ⟨by show 2≤sizeLine;decide,[u',v'],.cons ru (.cons rv .nil),⟨_,T2,rfl,_,rfl⟩⟩
   refine⟨.ref s.heap.objs.size,_,I1,rfl,⟨_,x,y,rfl,I.b9.fresh (bo _),rfl,fun l hl=>by rw[I.Ed hl lx];exact ex,fun l hl=>by rw[I.IC hl ly];exact ey⟩,⟨z'',?_,⟨u',v',?_⟩,?_,?_⟩,fun c M5=>?_⟩;exact(sb.2 _ (aR R4)).trans (kb _ _ (by simp only[bM,rl,or_false,not_or];exact⟨aR R4,Uu,Ub,Th⟩) q2);exact(sb.2 _ (aR Pc)).trans TO';exact KH.1.at fun o e=>(sb.2 _ (aR RC)).trans e;exact Fc.1.at fun o e=>(sb.2 _ (aR P4)).trans e;have lc:c<s.heap.objs.size:=by
    simp only[bM,rl,or_false]at M5;rcases M5 with rfl|rfl|rfl|rfl|rfl;exact zl;exact bb q2;exact bb q3;exact lt4;exact lt5
   rw[ah (cC lc)];exact(hf c M5).1
  simp_all
 done:=by
  intro X hP hw hK hc i pins s σ H E I hf st hg;subst hP hw hK;obtain⟨q1,q2,⟨x0,y0,q3⟩,q4,q5⟩:=st;obtain⟨xs,ys,lx,ly,T1⟩:=hg;obtain⟨us,rx,px,_⟩:=I.list lx;obtain⟨vs,ry,py,_⟩:=I.tuple ly;have l1:=rx.length;have l2:=ry.length;refine Zt.wM (Zt.wJ (A:=X.A.in1) (I.ok.hd hc) na us.toArray) (Zt.HZ (A:=X.A.in1) (I.ok.hd hc) nb vs.toArray) D q1 q2 q3 ⟨q4,px.isList⟩ ⟨q5,py⟩ (fun u' v' h' e1 e2=>?_) fun hh h' kb=>⟨rfl,I.Nz (t':=s.toks) (ch:=[z,TI,TO,i1,i2]) (fun c o hb e=>kb c o (fun q=>hb (by simp at q ⊢;rcases q with q|q|q|q<;>simp[q])) e) hf⟩;simp_all;exfalso;grind
 self:=fun A i s Q E st h=>Gb st.1 h
def Qo (K:Frag)(ta:TA):TI:=fun σ H R=>ta σ H fun vs H1=>∃a b xs ys,vs=[.ref a,.ref b]∧bz K H1 a xs∧ju K H1 b ys∧R (MY K a b) H1
def Kj {X:Cx}{e e2:Expr}{ta:TA}{p pos tW:Pos}{elts:List Expr}{kk:Nat}(hg:Gl X "zip")(hm:X.mg "zip" =none)(ha:PA X [e,e2] ta)
  (hs:starEach [e,e2] X.env=(false,eval e X.env)::starEach [e2] X.env:=by rfl) (iE:(backTo pos (starEach [e2] X.env)).any (·.1)=false:=by rfl):
  PI X (.Tuple elts kk tW) (.Call (.Name "zip" p) [e,e2] [] pos) (Qo X.K ta):=by
 intro pins s σ H R I h;refine Call_ (lR I hg hm Ac (xg (cS (ha pos pins s σ H _ I h) fun us s1 ⟨vs,H1,I1,r1,q1⟩=>?_) hs iE));obtain⟨a,b,xs,ys,ex,lx,ly,q⟩:=q1;subst ex;obtain⟨u1,us1,eu,V6,rt⟩:∃u SN,us=u::SN∧RelV (.ref a) u∧Vals [.ref b] SN:=by cases r1 with|cons r t=>exact⟨_,_,rfl,r,t⟩
 subst eu;obtain⟨u2,rfl,S9⟩:=vals1 rt;obtain rfl:u1=Value.ref a:=V6;obtain rfl:u2=Value.ref b:=S9;obtain⟨bp,rv,p1,_⟩:=I1.list lx;obtain⟨uN,Vp,p2,_⟩:=I1.tuple ly;have la:a<s1.heap.objs.size:=p1.lt;have lb:b<s1.heap.objs.size:=let⟨_,e,_⟩:=p2;bb e;refine Zt.LJ p1.isList p2 fun h' n hn hz Ww VQ h1 h2 hk=>Gb hz ?_;subst hn;have I2:Inv X pins σ H1 {s1 with heap:=h'}:=I1.kept (t':=s1.toks) hk;refine⟨s1.heap.objs.size+4,[s1.heap.objs.size+4,s1.heap.objs.size+2,s1.heap.objs.size+3,s1.heap.objs.size,s1.heap.objs.size+1],_,_,H1,rfl,I2,Fw (Zt.C2 _ a b la lb) (cC la) (cC (yN lb)),⟨hz,Ww,⟨_,_,VQ⟩,h1,h2⟩,fun c M5=>?_,q⟩;have hle:s1.heap.objs.size≤c:=by (simp_all;lia)
 exact I1.Nf hle (I1.b9.fresh hle)
def Q7 (K:Frag)(ta:TA):TE:=fun σ H Q=>ta σ H fun vs H1=>∃a b xs ys,vs=[.ref a,.ref b]∧bz K H1 a xs∧bz K H1 b ys∧
 ∀(D:Addr) (Ts:List Addr) (H2:Hp),H1 D=none→qW H1 H2→H2 D=some (.lst (Ts.map V.ref))→Ts.length=min xs.length ys.length→(∀(j:Nat) (T:Addr),Ts[j]? =some T→∃x y,xs[j]? =some x∧ys[j]? =some y∧H2 T=some (.tup [x,y]))→Q (.ref D) H2
def YF {Ts:List Addr}(nd:Ts.Nodup){j:Nat}{T:Addr}(h:Ts[j]? =some T):Ts.idxOf T=j:=by grind -order
def ME {X:Cx}{e e2:Expr}{te Vo:TE}{p p2 pos yY:Pos}(Ua:X.mg "list" =none)(hmz:X.mg "zip" =none)(he:PE X e te)(he2:PE X e2 Vo)(zV:X.calm=true:=by rfl)(ND:Gl X "list" :=by rfl)(hgz:Gl X "zip" :=by rfl)
  (hs:starEach [e,e2] X.env=(false,eval e X.env)::starEach [e2] X.env:=by rfl) (iE:(backTo yY (starEach [e2] X.env)).any (·.1)=false:=by rfl) (R_:starEach [e2] X.env=(false,eval e2 X.env)::starEach [] X.env:=by rfl)
  (OW:starEach [Expr.Call (.Name "zip" p2) [e,e2] [] yY] X.env=(false,eval (.Call (.Name "zip" p2) [e,e2] [] yY) X.env)::starEach [] X.env:=by rfl) (QS:(backTo pos (starEach [] X.env)).any (·.1)=false:=by rfl):
  PE X (.Call (.Name "list" p) [.Call (.Name "zip" p2) [e,e2] [] yY] [] pos) (Q7 X.K (fG te (fG Vo rA))):=by
 intro pins s σ H Q I h;refine Call_ (lR I ND Ua boot_list (xg ?_ OW QS));rw[OW];refine j6 ?_;have ha:PA X [e,e2] (fG te (fG Vo rA)):=aa he (aa he2 ag R_) hs;refine Call_ (lR I hgz hmz Ac (xg (cS (ha yY pins s σ H _ I h) fun us s1 ⟨vs,H1,I1,r1,q1⟩=>?_) hs iE));obtain⟨a,b,xs,ys,ex,lx,ly,q⟩:=q1;subst ex;obtain⟨u1,us1,eu,V6,rt⟩:∃u SN,us=u::SN∧RelV (.ref a) u∧Vals [.ref b] SN:=by cases r1 with|cons r t=>exact⟨_,_,rfl,r,t⟩
 subst eu;obtain⟨u2,rfl,S9⟩:=vals1 rt;obtain rfl:u1=Value.ref a:=V6;obtain rfl:u2=Value.ref b:=S9;obtain⟨bp,rv,p1,lz1⟩:=I1.list lx;obtain⟨uN,Vp,Xi,lz2⟩:=I1.list ly;have la:a<s1.heap.objs.size:=p1.lt;have lb:b<s1.heap.objs.size:=Xi.lt;have l1:=rv.length;have l2:=Vp.length;refine call_zip_2 p1.isList Xi.isList fun h' hz Ww VQ h1 h2 hsz hk=>nO ?_;have ka:h'.IsList a bp.toArray:=p1.isList.at fun o e=>hk _ _ e;have kb:h'.IsList b uN.toArray:=Xi.isList.at fun o e=>hk _ _ e;refine Zt.MO (s:={s1 with heap:=h'}) (I1.ok.hd zV) s1.heap.objs.size hz Ww ⟨_,_,VQ⟩ h1 h2 ka kb la lb (by simp only[cu];(clear l2;lia)) fun Xv Ts c0 eD old hl nd VS hp=>?_;have hl:Ts.length=min xs.length ys.length:=by rw[hl,cu,cu,l1,l2]
 let ct:Addr→HO:=fun T=> .tup [(xs[Ts.idxOf T]?).getD .gq,(ys[Ts.idxOf T]?).getD .gq]
 have Vn:∀(j:Nat) (T:Addr),Ts[j]? =some T→∃x y u v,xs[j]? =some x∧ys[j]? =some y∧ct T= .tup [x,y]∧RelV x u∧RelV y v∧IsPair Xv T u v:=fun j T hT=>by
  obtain⟨u,v,e1,e2,e3⟩:=hp j T hT;simp at e1 e2;have hj:=(fu.mp hT).1;have hx:xs[j]? =some xs[j]:=by simp[show j<xs.length by omega]
  have hy:ys[j]? =some ys[j]:=by simp[show j<ys.length by omega]
  obtain⟨u',hu,ru⟩:=rv.get hx;obtain⟨v',hv,VF⟩:=Vp.get hy;rw[e1]at hu;cases hu;rw[e2]at hv;cases hv;refine⟨_,_,u,v,hx,hy,?_,ru,VF,e3⟩;grind
 have keep:∀c o,s1.heap.get? c=some o→Xv.get? c=some o:=fun c o e=>old c o (bb e) (hk c o e);have hDlt:s1.heap.objs.size≤h'.objs.size:=aG (Nat.le_add_right _ 4) (jn (bb hz))
 let news:List (Addr×HO):=(h'.objs.size,.lst (Ts.map V.ref))::Ts.map fun T=>(T,ct T)
 have nD:∀T∈Ts,T≠h'.objs.size:=fun T hT e=>absurd (VS T hT) (by rw[e];exact gu _);have Yv:news.lookup h'.objs.size=some (.lst (Ts.map V.ref)):=by simp[news]
 have lkT:∀T∈Ts,news.lookup T=some (ct T):=fun T hT=>by
  show((h'.objs.size,HO.lst (Ts.map V.ref))::Ts.map fun T=>(T,ct T)).lookup T=_;rw[rj,show(T==h'.objs.size)=false by simpa using nD T hT];exact jo hT
 have lkI:∀c o,news.lookup c=some o→(c=h'.objs.size∧o= .lst (Ts.map V.ref))∨(c∈Ts∧o=ct c):=fun c o e=>by
  have hm:=lookup_mem e;grind
 have gone:∀c o,news.lookup c=some o→s1.heap.get? c=none:=fun c o e=>by
  refine w9 ?_;grind
 have I3:=I1.HJ (t':=s1.toks) (news:=news) keep gone fun c o e=>by
  rcases lkI c o e with⟨z1,z2⟩|⟨z1,z2⟩
  ·subst z1;subst z2;refine⟨?_,Ts.map Value.ref,c0,oO Ts,eD⟩;grind
  subst z2;obtain⟨j,hj,ej⟩:=List.getElem_of_mem z1;obtain⟨x,y,u,v,_,_,ec,ru,VF,pT⟩:=Vn j c (by rw[vc hj,ej]);rw[ec];exact⟨by show 2≤sizeLine;decide,[u,v],.cons ru (.cons VF .nil),⟨_,pT,rfl,_,rfl⟩⟩
 have Pn:∀c o,news.lookup c=some o→H1 c=none:=fun c o e=>I1.b9.gone (gone c o e);refine⟨.ref h'.objs.size,lay H1 news,I3,rfl,q h'.objs.size Ts (lay H1 news) (Pn _ _ Yv) (fun c o e=>?_) (sj Yv) hl fun j T hT=>?_⟩
 ·cases z:news.lookup c with
  | none=>rw[oR z];exact e
  | some o'=>rw[Pn c o' z]at e;cases e
 obtain⟨x,y,u,v,hx,hy,ec,_⟩:=Vn j T hT;exact⟨x,y,hx,hy,by rw[sj (lkT T (dJ hT)),ec]⟩
structure wA (P:Program)(w:World)(K:Frag)(mg:Str→Option Value)(x:Str)(kvs:List (Str×Addr)):Prop where
 ex:∃a,mg x=some (.ref a)∧∀h,K.In h→∃vs,h.DictOf (bw P w) a vs∧∀y t,(y,t)∈kvs→valueAt vs (Sum.inr y)=some (.ref t)
def VY (kvs:List (Str×Addr))(ty:TE):TE:=fun σ H Q=>ty σ H fun y H1=>∃k t,y= .str k∧(k,t)∈kvs∧Q (.ref t) H1
def Rl {X:Cx}{x:Str}{kvs:List (Str×Addr)}{i:Expr}{ty:TE}{p pos:Pos}(d:wA X.prog X.w X.K X.mg x kvs)(hg:Gl X x)(hi:PE X i ty)(hs:Rr i)(hd:(x==("__debug__" :Str))=false:=by decide):PE X (.Subscript (.Name x p) i pos) (VY kvs ty):=by
 intro pins s σ H Q I h;obtain⟨a,hm,hdict⟩:=d.ex;refine Bz GC.lookup hs (sJ I hg hm (cS (hi pins s σ H _ I h) fun iv s2 ⟨y,H2,I2,ry,k,t,ey,hk,q⟩=>?_) hd);subst ey;obtain⟨vs,dd,hv⟩:=hdict _ I2.CP;exact⟨dd.typeIs,Fy (l_ (k:=Sum.inr k) ry) dd.mapOf (hv k t hk) ⟨.ref t,H2,I2.tok _,rfl,q⟩⟩
def vE (ns:List Int):Nat:=(firstMet (fun i=>ns.getD i 0) ns.length).length
def Nk (K:Frag)(ta:TA):TE:=fun σ H Q=>ta σ H fun vs H1=>∃a ns,vs=[.ref a]∧bz K H1 a (ns.map V.int)∧ns.length<1000∧Q (.int (vE ns)) H1
def Jn {X:Cx}{e:Expr}{te:TE}{p p2 pos yY:Pos}(Ua:X.mg "len" =none)(M3:X.mg "set" =none)(he:PE X e te)(zV:X.calm=true:=by rfl)(ND:Gl X "len" :=by rfl)(hgs:Gl X "set" :=by rfl)
  (hs:starEach [e] X.env=(false,eval e X.env)::starEach [] X.env:=by rfl) (iE:(backTo yY (starEach [] X.env)).any (·.1)=false:=by rfl)
  (OW:starEach [Expr.Call (.Name "set" p2) [e] [] yY] X.env=(false,eval (.Call (.Name "set" p2) [e] [] yY) X.env)::starEach [] X.env:=by rfl) (QS:(backTo pos (starEach [] X.env)).any (·.1)=false:=by rfl):
  PE X (.Call (.Name "len" p) [.Call (.Name "set" p2) [e] [] yY] [] pos) (Nk X.K (fG te rA)):=by
 intro pins s σ H Q I h;refine Call_ (lR I ND Ua gb (LH ?_ OW QS));rw[OW];refine j6 ?_;have ha:PA X [e] (fG te rA):=aa he ag hs;refine Call_ (lR I hgs M3 boot_set (xg (cS (ha yY pins s σ H _ I h) fun us s1 ⟨vs,H1,I1,r1,q1⟩=>?_) hs iE));obtain⟨a,ns,ex,lx,hz,q⟩:=q1;subst ex;obtain⟨u,rfl,ru⟩:=vals1 r1;obtain rfl:u=Value.ref a:=ru;obtain⟨bp,rv,p1,_⟩:=I1.list lx;have hl:=rv.length;rw[ay]at hl;have hi:=Vals.ints rv;refine call_set_list (I1.ok.hd zV) p1.isList (by simpa using hi) (by rw[cu,←hl];exact Nat.lt_trans (Nat.succ_lt_succ hz) (by decide)) fun h' tk st hk=>nO ?_;obtain⟨o,es,ep,t,ho,hex,hd,_,_,UT,Qt,hn⟩:=st;have Wy:es.size=vE ns:=by rw[hn,cu,←hl];rfl
 have h4:es.size<4096:=UT;refine call_len_set (s:={s1 with heap:=h',toks:=tk}) ho hex hd Qt (by clear Wy;lia) ⟨.int (vE ns),H1,(I1.kept (t':=tk+1+1) fun b o e=>hk b o (bb e) e),⟨tk+1,by rw[Wy]⟩,q⟩
def De (ns:List Int):vE ns=ns.length↔ns.Nodup:=by
 unfold vE;have e:∀m,m≤ns.length→((firstMet (fun i=>ns.getD i 0) m).length=m↔(ns.take m).Nodup):=by
  intro m
  induction m with
  | zero=>intro _;simp[PyProof.Rows.firstMet_zero]
  | succ m ih=>
   intro hm;have ih:=ih (by exact Nat.le_of_lt ‹_›);have hx:ns[m]? =some ns[m]:=by simp[show m<ns.length by trivial]
   have hg:ns.getD m 0=ns[m]:=by rw[MG,hx];rfl
   have ha:(firstMet (fun i=>ns.getD i 0) m).any (·==ns[m])=decide (ns[m]∈ns.take m):=by
    rw[PyProof.Rows.firstMet_any,l5,xE,iw,List.mem_take_iff_getElem];constructor;simp;grind;rintro⟨i,hi,e⟩;refine⟨ns[i],aZ.mpr ⟨i,List.mem_range.mpr (by clear ih;lia),?_⟩,by rw[e];simp⟩;clear e;grind
   rw[PyProof.Rows.firstMet_succ,List.take_add_one,hx,hg];have le:=PyProof.Rows.firstMet_length_le (fun i=>ns.getD i 0) m;unfold step_dedup;clear hx;grind -order -ring -linarith
 simp_all
end L2
namespace Lw
open PySem PySem.Spec PyProof.Rows L2
open Vbdlal (Lot Ses Article Bag)
open Vm
section
variable{P:Program}{w:PySem.World}{K:Frag}{mg:Str→Option Value}{base:Heap}{C:cw}
inductive FG (C:cw)(vs:List V)(H:Hp)(Q:VK)(E:XK):Prop|mk A Z s M l d:vs=[.ref (A (.lot l.id)),iV d]→World C A Z H s M→l∈s.lots→Q (.bl (good d l)) H→FG C vs H Q E
def ue (T:Txt K mg C):Callee P w K mg base 1 "is_good" ["lot","day"] (FG C):=by
 refine T.JW.callee yW fun f0 cg A0 aY s0 H vs Q E hr h=>?_;obtain⟨A,Z,s,M,l,d,rfl,W,hl,q⟩:=h;have nd:=yW.nd;refine⟨_,(ai (au (RP (Qh (az (pv 0) rfl)) (yc (lF sg (pv 1) (az (pv 0) rfl) (aJ _)))))),?_⟩;refine(eQ T W hl).go ?_;refine⟨_,rfl,_,rfl,?_⟩;unfold good at q;cases hc:l.called with
 | true=>rw[hc]at q;exact dk q
 | false=>
  rw[hc]at q;refine cZ ?_;refine(c_ T W hl).go ?_;refine⟨_,_,rfl,rfl,?_⟩;simp_all
def vw (A:Tag→Addr){L:List Lot}{Dh:List Addr}(h:yI (L.map fun l=>(l.expiry:Int)) (L.map fun l=>A (.lot l.id)) Dh):Dh=(byExpiry L).map fun l=>A (.lot l.id):=by
 obtain⟨ps,h1,h2,h3,h4⟩:=h;have hz:(L.map fun l=>(l.expiry:Int)).zip (L.map fun l=>A (.lot l.id))=L.map fun l=>((l.expiry:Int),A (.lot l.id)):=by grind
 rw[hz]at h4;have hf:∀(c:Int),((byExpiry L).filter fun a=>(a.expiry:Int)==c)=L.filter fun a=>(a.expiry:Int)==c:=fun c=>by
  by_cases hc:0≤c
  ·have e:∀k:List Lot,k.filter (fun a=>(a.expiry:Int)==c)=k.filter fun a=>a.expiry==c.toNat:=fun k=>Io fun a _=>by lia
   rw[e,e,mz]
  grind[List.filter_eq_nil_iff]
 have:ps=(byExpiry L).map fun l=>((l.expiry:Int),A (.lot l.id)):=by
  refine pA (key:=Prod.fst) h3 ?_ fun c=>?_;grind -order[jE];rw[h4 c,vp,vp]
  congr 1
  exact(hf c).symm
 simp_all
abbrev Fs (A:Tag→Addr)(H:Hp)(D:Addr)(L:List Lot):Prop:=H D=some (.lst (L.map fun l=>V.ref (A (.lot l.id))))
inductive Cb (C:cw)(vs:List V)(H:Hp)(Q:VK)(E:XK):Prop|mk A Z s M a:vs=[.ref (A .st),iV a]→World C A Z H s M→Z .ld=none→aM s→(∀D H',H D=none→ao C H H'→Fs A H' D (shelf s a)→Q (.ref D) H')→Cb C vs H Q E
def nN (T:Txt K mg C):Callee P w K mg base 2 "good_lots" ["store","article"] (Cb C):=by
 refine T.DV.callee rW fun f0 c0 A0 aY s0 H vs Q E wF hr h=>?_;obtain⟨A,Z,s,M,a,rfl,W,hz,ok,q⟩:=h;have nd:=rW.nd;refine⟨_,(ae (iJ (fm (i:=2) rfl nd rfl rfl (gE rfl rfl rfl rfl) (fb (az (pv 0) rfl)) (ba (own:=[("lot",3)]) (show ef ["store","article","good","lot"] (aj nR) _ _=true by decide +kernel)) (fun _ _ _ _ _=>by exact(aC (i:=3) nd)) (fun _ _ _ _ _=>by exact(fC (PW.pt (ua (aD cG (bA K (pv 3) (by rfl)) (pv 1) (aJ _)) (oB (ke K (aI (ue T) hr (aa (pv 3) (aa (bA K (pv 0) (by rfl)) ag))) (fun _=>by rfl))))))) (fun _ _ _ _ _=>by exact(pv 3))))
  (ai (au (wQ hr rfl T.gQ rfl wF T.blt (pv 2))))),?_⟩
 refine kS (iP T W hz ok rfl (aQ.eq fun l=>V.ref (A (.lot l.id))) (fun l=>l.article==a&&good s.today l) (fun l hl Hc Zc Wc hZ hk Ky Kn hy hn=>?_) fun D H2 hD k gt=>?_)
 ·refine⟨rfl,(gf T Wc hl).go ?_⟩;refine⟨rfl,_,rfl,?_⟩;by_cases e:l.article=a
  ·have e1:decide (iV l.article=iV a)=true:=by rw[e];simp
   rw[e1];refine cZ ?_;refine(ve T Wc).go ?_;refine⟨A,Zc,s,M,l,s.today,rfl,Wc,hl,_,rfl,?_⟩;cases hg:good s.today l with
   | true=>exact cZ (hy (by simp[e,hg]) _ _ ao.refl rfl)
   | false=>exact dk (hn (by simp[hg]) _ ao.refl)
  (split<;>grind[ao.refl])
 have g2:=gt.eq;have W2:=W.aF k;refine⟨D,_,(s.lots.filter fun l=>l.article==a&&good s.today l).map fun l=>(l.expiry:Int),rfl,bz.of (xs:=List.map V.ref ((s.lots.filter fun l=>l.article==a&&good s.today l).map fun l=>A (.lot l.id))) ?_,?_,?_,?_,?_⟩;simp_all;simp
 ·intro i r kk e1 e2;rw[cO]at e1 e2;cases e3:(s.lots.filter fun l=>l.article==a&&good s.today l)[i]? with
  | none=>rw[e3]at e1;cases e1
  | some l=>
   rw[e3]at e1 e2;cases e1;cases e2;have hl:l∈s.lots:=(eC.mp (dJ e3)).1;obtain⟨Cc,dx,fs,y1,y2,y3,y4⟩:=(c_ T W2 hl).ex;exact⟨Cc,dx,fs,y1,y2,y3,y4⟩
 exact W2.tabs.d9;intro D' Dh H3 hs sb tb pV;have k3:ao C H2 H3:=by
  obtain⟨Vk,e0⟩:=W2.tabs.d9.ex;obtain⟨Yr,e1⟩:=tb.ex;refine⟨fun b o e n=>sb b o e fun z=>?_,fun b ps e=>?_,fun t=>t.Bc sb tb⟩;rw[z,e0]at e;cases e;exact n;by_cases z:b=C.eJ;simp_all;exact⟨ps,sb b _ e z⟩
 refine q D' _ ((k.trans k3).back pV) ((k.trans k3).trans (ao.new pV)) ?_;rw[vw A hs];show upd _ _ _ _=_;rw[af,aV];rfl
def jY (m:List Int)(y:V)(H:Hp):Prop:=∃t,y= .ref t∧H t=some (.tup (m.map V.int))
def jY.mono:aQ jY:=fun m y H1 H2 k ⟨t,e,h⟩=>⟨t,e,k t _ h⟩
def Fm (L:List (List Int)):List Int:=(L.length:Int)::L.flatten
inductive Qs (C:cw)(vs:List V)(H:Hp)(Q:VK)(E:XK):Prop|mk a L:vs=[.ref a]→Got jY H a L→(Fm L).length≤sizeLine→(∀D H',H D=none→ao C H H'→H' D=some (.lst ((Fm L).map V.int))→Q (.ref D) H')→Qs C vs H Q E
def qb (T:Txt K mg C):Callee P w K mg base 1 "row" ["members"] (Qs C):=by
 refine T.SI.callee Kh fun f0 cg A0 aY s0 H vs Q E hr h=>?_;have nd:=Kh.nd;refine⟨_,(ae (aN (i:=1) nd (a0 (aa (aW cJ (by rfl) T.i_ gb (aa (pv 0) ag)) ag)))
  (ae (dM dj rfl (bf (pv 0)) (aC (i:=2) nd) (ai (dR (yh nJ q0 yR FN (pv 1) (aa (pv 2) ag)))))
  (ai (au (pv 1))))),w2z ?_⟩;intros;obtain⟨a,L,rfl,gt,hlen,q⟩:=h;obtain⟨ys,ea,pr⟩:=id gt;have hy:ys.length=L.length:=bZ pr
 refine⟨_,_,rfl,.inl (bz.of ea),by show 1≤sizeLine;decide,fun D hD=>?_⟩;have ha:a≠D:=aP ea hD;refine⟨a,rfl,⟨_,bz.of (by rw[ah ha];exact ea)⟩,?_⟩;refine dS (xs:=ys) (fun i σ H'=>∃v,σ=[some (.ref a),some (.ref D),v]∧ao C H H'∧H' D=some (.lst (((L.length:Int)::(L.take i).flatten).map V.int))) ⟨_,rfl,ao.new hD,?_⟩ (fun i σ H' hi ⟨v,_,k,_⟩=>bz.of (k.at_ _ _ ea trivial)) (fun i x σ H' hx ⟨v,es,k,eD⟩=>?_) fun σ H' ⟨v,es,k,eD⟩=>?_;rw[af,hy];rfl
 ·subst es;have hi:i<L.length:=by rw[←hy];exact(fu.mp hx).1
  have em:L[i]? =some L[i]:=by simp[hi]
  obtain⟨y,ey,t,rfl,et⟩:=cT pr em;rw[hx]at ey;cases ey;have L9:H' t=some (.tup (L[i].map V.int)):=k.at_ _ _ et trivial;have hb:((L.length:Int)::(L.take (i+1)).flatten).length≤sizeLine:=by
   refine aG ?_ hlen;show _≤((L.length:Int)::L.flatten).length;rw[cH,cH];have:=congrArg (fun z=>z.flatten.length) (KI (i+1) L);grind
  have e2:(L.take (i+1)).flatten=(L.take i).flatten++L[i]:=by rw[gx,em,List.flatten_append];show _++[L[i]].flatten=_;rw[Mz,List.flatten_nil,mr]
  refine⟨.inl ⟨rfl,_,bz.of eD⟩,D,t,_,_,rfl,rfl,eD,ju.of L9,?_,?_⟩;grind;refine⟨_,rfl,k.putL hD eD,?_⟩;rw[af,e2];grind
 subst es;rw[hy,du]at eD;exact q D H' hD k eD
def bK (A:Tag→Addr)(p:Nat×Nat)(y:V)(H:Hp):Prop:=∃t,y= .ref t∧H t=some (.tup [.ref (A (.lot p.1)),iV p.2])
def bK.mono {A:Tag→Addr}:aQ (bK A):=fun m y H1 H2 k ⟨t,e,h⟩=>⟨t,e,k t _ h⟩
def Got.map {α β:Type}{E:α→V→Hp→Prop}{F:β→V→Hp→Prop}{f:α→β}{H:Hp}{D:Addr}{L:List α}(h:Got E H D L)(hf:∀a y,E a y H→F (f a) y H):Got F H D (L.map f):=by
 obtain⟨ys,e,p⟩:=h;refine⟨ys,e,?_⟩;clear e
 induction p with
 | nil=>exact .nil
 | cons r t ih=>exact .cons (hf _ _ r) ih
def filter_all {α:Type}(L:List α):(L.filter fun _=>true)=L:=List.filter_eq_self.mpr fun _ _=>rfl
def cM (ps:List (Nat×Nat)):Fm (ps.map fun p=>[(p.1:Int),(p.2:Int)])=Vbdlal.rowOf ps:=by
 unfold Fm Vbdlal.rowOf flat;grind
def bG (p:Nat×Nat)(y:V)(H:Hp):Prop:=jY [(p.1:Int),(p.2:Int)] y H
def bG.mono:aQ bG:=fun _ _ _ _ k h=>jY.mono _ _ _ _ k h
def b_ (ps:List (Nat×Nat)):(Vbdlal.rowOf ps).length=1+2*ps.length:=by
 unfold Vbdlal.rowOf;rw[cH];have:∀ps:List (Nat×Nat),(flat ps).length=2*ps.length:=fun ps=>by
  induction ps with
  | nil=>rfl
  | cons p ps ih=>simp_all[flat]<;>omega
 rw[this];lia
inductive yk (C:cw)(vs:List V)(H:Hp)(Q:VK)(E:XK):Prop|mk A Z s M a ps:vs=[.ref a]→World C A Z H s M→Got (bK A) H a ps→(∀p∈ps,∃l∈s.lots,l.id=p.1)→(Vbdlal.rowOf ps).length≤sizeLine→(∀D H',H D=none→ao C H H'→H' D=some (.lst ((Vbdlal.rowOf ps).map V.int))→Q (.ref D) H')→yk C vs H Q E
def g8 (T:Txt K mg C):Callee P w K mg base 2 "lot_row" ["shares"] (yk C):=by
 refine T.JP.callee x6 fun f0 cg A0 aY s0 H vs Q E hr h=>?_;obtain⟨A,Z,s,M,a,ps,rfl,W,gt,NS,hlen,q⟩:=h;have nd:=x6.nd;refine⟨_,(ai (au (aI (qb T) hr (aa (d7 rfl nd (bf (pv 0)) (ba (own:=[("lot",1),("count",2)]) (show ef ["shares","lot","count"] (aj ub) _ _=true by decide +kernel)) (fun _ _ _ _ _=>by exact(gB K 2 (by rfl) (aT (aC (i:=1) nd) (aT (aC (i:=2) nd) cz)))) (fun _ _ _ _ _=>by exact cB) (fun _ _ _ _ _=>by exact(jb (aa (bA K (pv 1) (by rfl)) (aa (pv 2) ag))))) ag)))),?_⟩;unfold GR vC fG;refine J9 (C:=C) (L:=ps) (E:=bG) (p:=fun _=>true) bG.mono bK.mono ao.refl gt ?_ (fun R r=>r) (fun p hp x Hc k ⟨t,ex,et⟩ Ky Kn hy hn=>?_) fun D H2 hD k g2=>?_;rw[b_]at hlen;lia
 ·subst ex;obtain⟨l,hl,e⟩:=NS p hp;refine⟨_,_,rfl,ju.of et,rfl,_,_,rfl,_,_,rfl,rfl,rfl,iR ?_⟩;rw[←e];refine(g9 T (W.aF k) hl).go ?_;refine⟨by show 2≤sizeLine;decide,fun t' SU=>hy rfl _ _ (ao.new SU) ⟨t',rfl,?_⟩⟩;rw[af,e];rfl
 rw[filter_all]at g2;refine⟨D,_,rfl,g2.map (F:=jY) (f:=fun(p:Nat×Nat)=>[(p.1:Int),(p.2:Int)]) fun _ _ h=>h,?_,fun D' H' pV k' e'=>?_⟩;rw[cM];exact hlen;rw[cM]at e';exact q D' H' (k.back pV) (k.trans k') e'
def o6 {p:Prop}[Decidable p](h:¬decide p=true):¬p:=fun z=>h (iy z)
def C1 (kvs:List (Nat×Nat))(k:Nat):(fS (kvs.map bg) (Sum.inl (k:Int))).getD (.int 0)=iV ((cK kvs k).getD 0):=by
 rw[gy];cases cK kvs k<;>rfl
inductive Bp(vs:List V)(H:Hp)(Q:VK)(E:XK):Prop|mk d kvs k n:vs=[.ref d,iV k,iV n]→H d=some (.dK (kvs.map bg))→kvs.length<sizeLine→Q .gq (upd H d (.dK ((dput kvs k ((cK kvs k).getD 0+n)).map bg)))→Bp vs H Q E
def n8 (T:Txt K mg C):Callee P w K mg base 1 "add_count" ["counts","session","count"] Bp:=by
 refine T.Dm.callee rD fun f0 cg A0 aY s0 H vs Q E hr h=>?_;obtain⟨d,kvs,k,n,rfl,hd,hl,q⟩:=h;have hu:=bt hr;have nd:=rD.nd;refine⟨_,(ai (ib hu (pv 0) (pv 1) (cx fP (wO hu (pv 0) (pv 1) ax ⟨rfl,rfl,rfl,rfl⟩) (pv 2)) rfl)),?_⟩;refine⟨d,rfl,.inl ⟨_,.inl hd⟩,_,iM.k (k:=Sum.inl (k:Int)) hd,?_⟩;rw[C1];refine⟨_,_,rfl,rfl,d,_,rfl,tp.k (k:=Sum.inl (k:Int)) hd (by rw[ay];exact hl),?_⟩;have e:putK (kvs.map bg) (Sum.inl (k:Int)) (V.int (((cK kvs k).getD 0:Nat)+(n:Int)))=(dput kvs k ((cK kvs k).getD 0+n)).map bg:=xo kvs k _;simp_all
def rE (s:bE)(n:Nat):Int:=match Vbdlal.ses s n with
 | none=> -6
 | some x=>if x.closed=true then -7 else 0
inductive qG (C:cw)(vs:List V)(H:Hp)(Q:VK)(E:XK):Prop|mk A Z s M n:vs=[.ref (A .st),iV n]→World C A Z H s M→Q (.int (rE s n)) H→qG C vs H Q E
def dC (T:Txt K mg C):Callee P w K mg base 1 "session_refusal" ["store","number"] (qG C):=by
 refine T.rp.callee qB fun f0 cg A0 aY s0 H vs Q E hr h=>?_;obtain⟨A,Z,s,M,n,rfl,W,q⟩:=h;have hu:=bt hr;refine⟨_,(ae (aU (dc (cj hu (pv 1) (az (pv 0) rfl))) (ai (au (aK T.iN rfl))) aB)
  (ai (au (ft (bV (az (bD hu (az (pv 0) rfl) (pv 1)) rfl) (fun _=>rfl)) (aK T.MJ rfl) (aK T.bH rfl))))),?_⟩
 have g:=W.lW n;refine(cU T W).go ?_;refine⟨_,_,rfl,g,_,rfl,?_⟩;unfold rE at q;cases ha:Vbdlal.ses s n with
 | none=>
  have hn:¬ ∃x∈s.sessions,x.id=n:=fun z=>by rw[←fV,ha]at z;cases z
  rw[ak hn];rw[ha]at q;exact cZ q
 | some x=>
  have hx:=iI ha;have hk:∃x∈s.sessions,x.id=n:=⟨x,hx⟩;rw[aw hk]at g ⊢;rw[ha]at q;refine dk ?_;refine(cU T W).go ?_;refine⟨_,_,rfl,g,?_⟩;rw[←hx.2];refine(yT T W hx.1).go ?_;refine⟨_,rfl,?_⟩;have q:Q (.int (if x.closed=true then -7 else 0)) H:=q;cases hc:x.closed with
  | true=>rw[hc]at q;exact cZ q
  | false=>rw[hc]at q;exact dk q
def qE (s:bE)(n:Nat):Int:=if rE s n≠0 then rE s n else if Vbdlal.broken s n=true then -16 else 0
def bS {a b:Int}:(!decide (V.int a=V.int b))=true↔a≠b:=by simp
def lG {a b:Int}:decide (V.int a=V.int b)=true↔a=b:=by simp
theorem sY {s:bE}{n:Nat}(h:rE s n=0):∃x,Vbdlal.ses s n=some x∧x.closed=false:=by
 unfold rE at h;grind -ring
inductive j5 (C:cw)(vs:List V)(H:Hp)(Q:VK)(E:XK):Prop|mk A Z s M n:vs=[.ref (A .st),iV n]→World C A Z H s M→Q (.int (qE s n)) H→j5 C vs H Q E
def gd (T:Txt K mg C):Callee P w K mg base 2 "whole_session_refusal" ["store","number"] (j5 C):=by
 refine T.kC.callee fT fun f0 cg A0 aY s0 H vs Q E hr h=>?_;have hu:=bt hr;have nd:=fT.nd;refine⟨_,(ae (aN (i:=2) nd (aI (dC T) hr (aa (pv 0) (aa (pv 1) ag))))
  (ae (aU (aD g0 (pv 2) (aK T.bH rfl) (aJ _)) (ai (au (pv 2))) aB)
  (ai (au (ft (bV (az (bD hu (az (pv 0) rfl) (pv 1)) rfl) (fun _=>rfl)) (aK T.KA rfl) (aK T.bH rfl)))))),w2z ?_⟩;intros;obtain⟨A,Z,s,M,n,rfl,W,q⟩:=h
 refine⟨A,Z,s,M,n,rfl,W,?_⟩;refine⟨rfl,_,rfl,?_⟩;unfold qE at q;refine b0 (fun h=>?_) fun h=>?_
 ·rw[aw (bS.mp h)]at q;exact q
 have h0:rE s n=0:=qj fun z=>h (bS.mpr z);rw[ak fun z=>z h0]at q;obtain⟨x,ha,hc⟩:=sY h0;have hx:=iI ha;have g:=W.lW n;rw[aw ⟨x,hx⟩]at g;refine(cU T W).go ?_;refine⟨_,_,rfl,g,?_⟩;rw[←hx.2];refine(jd T W hx.1).go ?_;refine⟨_,rfl,?_⟩;have e:Vbdlal.broken s n=x.broken:=by unfold Vbdlal.broken;rw[ha];rfl
 rw[e]at q;cases hc:x.broken with
 | true=>rw[hc]at q;exact cZ q
 | false=>rw[hc]at q;exact dk q
def HU (l:Lot)(a e:Nat):Int:=if l.article≠a∨l.expiry≠e then -12 else if l.called=true then -13 else 0
inductive qR (C:cw)(vs:List V)(H:Hp)(Q:VK)(E:XK):Prop|mk A Z s M l a e:vs=[.ref (A (.lot l.id)),iV a,iV e]→World C A Z H s M→l∈s.lots→Q (.int (HU l a e)) H→qR C vs H Q E
def BZ {a b:Nat}:(!decide (iV a=iV b))=true↔a≠b:=by (constructor<;>grind)
def nat_eq {a b:Nat}:decide (iV a=iV b)=true↔a=b:=by (constructor<;>grind)
def sM (T:Txt K mg C):Callee P w K mg base 1 "telling_refusal" ["lot","article","last_day"] (qR C):=by
 refine T.sC.callee qX fun f0 cg A0 aY s0 H vs Q E hr h=>?_;obtain⟨A,Z,s,M,l,a,e,rfl,W,hl,q⟩:=h;refine⟨_,(ae (aU (PW.pt (Aa (aD g0 (az (pv 0) rfl) (pv 1) (aJ _)) (uE (aD g0 (az (pv 0) rfl) (pv 2) (aJ _))))) (ai (au (aK T.uU rfl))) aB)
  (ai (au (ft (bV (az (pv 0) rfl) (fun _=>rfl)) (aK T.pU rfl) (aK T.bH rfl))))),?_⟩
 refine(gf T W hl).go ?_;refine⟨rfl,_,rfl,?_⟩;unfold HU at q;refine b0 (fun h=>?_) fun h=>?_
 ·rw[aw (Or.inl (BZ.mp h))]at q;exact cZ q
 refine(c_ T W hl).go ?_;refine⟨rfl,_,rfl,?_⟩;refine b0 (fun h2=>?_) fun h2=>?_
 ·rw[aw (Or.inr (BZ.mp h2))]at q;exact q
 rw[ak (fun z=>z.elim (fun y=>h (BZ.mpr y)) fun y=>h2 (BZ.mpr y))]at q;refine(eQ T W hl).go ?_;refine⟨_,rfl,?_⟩;cases hc:l.called with
 | true=>rw[hc]at q;exact cZ q
 | false=>rw[hc]at q;exact dk q
def Av (s:bE)(n m:Nat):Int:=match lotOf s n with
 | some x=>if THOUSANDMILLION<x.received+m then -8 else 0
 | none=>if MAXLOT≤s.lots.length then -8 else 0
inductive iC (C:cw)(vs:List V)(H:Hp)(Q:VK)(E:XK):Prop|mk A Z s M n m:vs=[.ref (A .st),iV n,iV m]→World C A Z H s M→Z .ld=none→Q (.int (Av s n m)) H→iC C vs H Q E
def yA (T:Txt K mg C):Callee P w K mg base 1 "room_refusal" ["store","number","amount"] (iC C):=by
 refine T.wV.callee l8 fun f0 cg A0 aY s0 H vs Q E hr h=>?_;obtain⟨A,Z,s,M,n,m,rfl,W,hz,q⟩:=h;have hu:=bt hr;have nd:=l8.nd;refine⟨_,(ae (aU (dc (nq hu (pv 1) (az (pv 0) rfl))) (ai (au (ft (aD p8 (cx fP (az (bD hu (az (pv 0) rfl) (pv 1)) rfl) (pv 2)) (aK T.wb rfl) (aJ _)) (aK T.yw rfl) (aK T.bH rfl)))) aB)
  (ai (au (ft (aD DW (aW t8 (by rfl) T.i_ gb (aa (az (pv 0) rfl) ag)) (aK T.EA rfl) (aJ _)) (aK T.yw rfl) (aK T.bH rfl))))),?_⟩
 have g:=W.oe n;refine(eE T W).go ?_;refine⟨_,_,rfl,g,_,rfl,?_⟩;unfold Av at q;cases ha:lotOf s n with
 | none=>
  rw[ha]at q;refine dk ?_;refine(eE T W).go ?_;refine⟨_,_,rfl,W.Qa hz,_,_,rfl,rfl,_,rfl,?_⟩;have q:Q (.int (if MAXLOT≤s.lots.length then -8 else 0)) H:=q;refine b0 (fun h=>?_) fun h=>?_
  ·have h:=bW h;rw[ay]at h;rw[aw (show MAXLOT≤s.lots.length by unfold MAXLOT;lia)]at q;exact q
  have h:=o6 h;rw[ay]at h;rw[ak (show ¬MAXLOT≤s.lots.length by unfold MAXLOT;lia)]at q;exact q
 | some x=>
  have hx:=gK ha;rw[ha]at q g;refine cZ ?_;refine(eE T W).go ?_;refine⟨_,_,rfl,g,?_⟩;refine(iQ T W hx.1).go ?_;refine⟨_,_,rfl,rfl,_,_,rfl,rfl,_,rfl,?_⟩;have q:Q (.int (if THOUSANDMILLION<x.received+m then -8 else 0)) H:=q;refine b0 (fun h=>?_) fun h=>?_
  ·have h:=bW h;rw[aw (show THOUSANDMILLION<x.received+m by unfold THOUSANDMILLION;lia)]at q;exact q
  have h:=o6 h;rw[ak (show ¬THOUSANDMILLION<x.received+m by unfold THOUSANDMILLION;lia)]at q;exact q
theorem u6 (f:Nat→Nat)(j:Nat):∀ks:List Nat,cK (ks.map fun k=>(k,f k)) j=if j∈ks then some (f j)else none
 | []=>rfl
 | k::ks=>by
  rw[bF,dg,u6 f j ks];grind
def JZ {s:bE}(ok:aM s){a m:Nat}(hm:m≠0){kvs:List (Nat×Nat)}(hn:(keys kvs).Nodup)(hv:∀k,cK kvs k=if cnt s.articles a k=0 then none else some (cnt s.articles a k)){ks':List Nat}(hp:ks'.Perm (keys kvs))(hs:ks'.Pairwise (·≤·)):
  ks'.map (fun k=>(k,cnt s.articles a k*m))=needs s.articles a m:=by
 obtain⟨hb,hc⟩:=hJ (cN ok.c7) a m;have nd:ks'.Nodup:=hp.nodup_iff.mpr hn;have mem:∀k,k∈ks'↔cnt s.articles a k≠0:=fun k=>by (constructor<;>grind[de])
 refine Ie ⟨?_,fun p hp=>?_⟩ hb fun k=>?_
 ·rw[hY];have:=hs.and nd;clear nd;grind -order
 grind[Nat.mul_ne_zero];rw[hc k,ll,u6 (fun k=>cnt s.articles a k*m)];grind
def Ka (T:Txt K mg C){A:Tag→Addr}{Z:Tag→Option Obj}{H:Hp}{s:bE}{M:Nat→dW}(W:World C A Z H s M){n:Nat}(hn:∃x∈s.articles,x.id=n):jZ K H (A (.dw n)) "need" (.ref (A (.need n))):=by
 obtain⟨dx,e⟩:=W.at_ (.dw n) hn;exact⟨_,dx,_,e,T.bN.cl,T.bN.na,by rfl⟩
theorem KQ {s:bE}(ok:aM s){x:Article}(hx:x∈s.articles)(j:Nat):cnt s.articles x.id j≤1000000:=(((oG (Wf.kQ ok.c7)).mp ok.c7) x hx).2 j
inductive Gd (C:cw)(vs:List V)(H:Hp)(Q:VK)(E:XK):Prop|mk A Z s x m:vs=[.ref (A (.art x.id)),iV m]→World C A Z H s (bC s.articles)→Z (.need x.id)=none→aM s→x∈s.articles→m≠0→(∀D H',H D=none→ao C H H'→Got bG H' D (needs s.articles x.id m)→Q (.ref D) H')→Gd C vs H Q E
def i5 (T:Txt K mg C):Callee P w K mg base 1 "need_of" ["article","amount"] (Gd C):=by
 refine T.IK.callee xh fun f0 cg A0 aY s0 H vs Q E hr h=>?_;obtain⟨A,Z,s,x,m,rfl,W,hz,ok,hx,hm,q⟩:=h;have hu:=bt hr;have nd:=xh.nd;refine⟨_,(ae (aN (i:=2) nd (az (az (pv 0) rfl) rfl))
  (ai (au (d7 rfl nd (bf (aW (y8 rfl) (by rfl) T.gQ nV (aa (pv 2) ag))) (ba (own:=[("plain",3)]) (show ef ["article","amount","need","plain"] (aj uf) _ _=true by decide +kernel)) (fun _ _ _ _ _=>by exact(aC (i:=3) nd)) (fun _ _ _ _ _=>by exact cB) (fun _ _ _ _ _=>by exact(jb (aa (pv 3) (aa (cx FI (bD hu (pv 2) (pv 3)) (pv 1)) ag)))))))),?_⟩
 refine(nh T W hx).go ?_;refine(Ka T W ⟨x,hx,rfl⟩).go ?_;obtain⟨kvs,hn,hv,ed⟩:gO (Z (.need x.id)) H (A (.need x.id)) (cnt s.articles x.id):=W.at_ (.need x.id) ⟨x,hx,rfl⟩;rw[hz]at ed;have ed:H (A (.need x.id))=some (.dK (kvs.map bg)):=ed;have ek:kvs.map bg=(keys kvs).map fun(k:Nat)=>((Sum.inl (k:Int):Key),iV ((cK kvs k).getD 0)):=by
  rw[aV];refine cE fun p hp=>?_;have:cK kvs p.1=some p.2:=oA hn hp;show bg p=(Sum.inl (p.1:Int),iV ((cK kvs p.1).getD 0));rw[this];rfl
 refine⟨A (.need x.id),keys kvs,fun k=>iV ((cK kvs k).getD 0),rfl,ek▸ed,fun ks' D hp hs hD=>?_⟩;have hL:=JZ ok hm hn hv hp hs;have hlen:ks'.length≤64:=by grind[dY]
 refine eY (C:=C) (L:=ks') (E:=fun k y H=>bG (k,cnt s.articles x.id k*m) y H) (p:=fun _=>true) (F:=fun k y _=>y=iV k) (fun _ _ _ _ k h=>bG.mono _ _ _ _ k h) (aQ.eq _) (Got.of af) (aG hlen (by decide))
  (fun k hk y Hc kc ey Ky Kn hy jx=>?_) fun D2 H2 lr k2 g2=>?_
 ·subst ey;have e0:Hc (A (.need x.id))=some (.dK (kvs.map bg)):=kc.at_ _ _ (by rw[ah (aP ed hD)];exact ed) trivial;have gg:=iM.k (k:=Sum.inl (k:Int)) e0;have JB:cK kvs k=some (cnt s.articles x.id k):=by grind[de]
  rw[gy,JB]at gg;have hc:=KQ ok hx k;refine⟨rfl,iR ?_⟩;refine⟨_,_,rfl,gg,_,_,rfl,rfl,.inl ⟨by (constructor<;>omega),by lia⟩,by show 2≤sizeLine;decide,fun t ht=>hy rfl _ _ (ao.new ht) ⟨t,rfl,?_⟩⟩;rw[af];rfl
 rw[filter_all]at g2;have VC:ao C H H2:=(ao.new hD).trans k2;refine q D2 H2 ((ao.new (C:=C) hD).back lr) VC ?_;rw[←hL];exact g2.map (F:=bG) fun _ _ h=>h
def gH (s:bE)(n:Nat):Int:=match Vbdlal.art s n with
 | none=> -4
 | some x=>if x.parts=[]then 0 else -9
inductive uc (C:cw)(vs:List V)(H:Hp)(Q:VK)(E:XK):Prop|mk A Z s M n:vs=[.ref (A .st),iV n]→World C A Z H s M→Q (.int (gH s n)) H→uc C vs H Q E
def eW (T:Txt K mg C):Callee P w K mg base 1 "plain_refusal" ["store","number"] (uc C):=by
 refine T.wo.callee kZ fun f kU A0 outer s0 H vs Q E hr h=>?_;obtain⟨A,Z,s,M,n,rfl,W,q⟩:=h;have hu:=bt hr;have nd:=kZ.nd;refine⟨_,(ae (aU (dc (cj hu (pv 1) (az (pv 0) rfl))) (ai (au (aK T.d_ rfl))) aB)
  (ai (au (ft (bV (az (bD hu (az (pv 0) rfl) (pv 1)) rfl) (fun _=>rfl)) (aK T.sG rfl) (aK T.bH rfl))))),?_⟩
 have g:=W.fM n;refine(bh T W).go ?_;refine⟨_,_,rfl,g,_,rfl,?_⟩;unfold gH at q;cases ha:Vbdlal.art s n with
 | none=>
  have hn:¬ ∃x∈s.articles,x.id=n:=fun z=>by rw[←dz,ha]at z;cases z
  rw[ak hn];rw[ha]at q;exact cZ q
 | some x=>
  have hx:=jF ha;have hk:∃x∈s.articles,x.id=n:=⟨x,hx⟩;rw[aw hk]at g ⊢;rw[ha]at q;refine dk ?_;refine(bh T W).go ?_;refine⟨_,_,rfl,g,?_⟩;rw[←hx.2];refine(Oo T W hx.1).go ?_;obtain⟨as,e1,e2⟩:=W.at_ (.part x.id) ⟨x,hx.1,rfl⟩ x hx.1 rfl;refine⟨_,.inl ⟨_,bz.of e1,rfl⟩,?_⟩;have hl:as.length=x.parts.length:=bZ e2;by_cases e:x.parts=[]
  ·have:as=[]:=by rw[e]at hl;simpa using hl
   subst this;have q:Q (.int (if x.parts=[]then 0 else -9)) H:=q;rw[aw e]at q;exact dk q
  have:as≠[]:=fun z=>e (by rw[z]at hl;exact qt.mp hl.symm);have q:Q (.int (if x.parts=[]then 0 else -9)) H:=q;rw[ak e]at q;have eP:(!(as.map V.ref).isEmpty)=true:=by simp[this]
  rw[eP];exact cZ q
theorem nQ (l:List Nat):(l.map fun(n:Nat)=>(n:Int)).sum=(total l:Int):=by
 induction l with
 | nil=>rfl
 | cons a l ih=>rw[bF,List.sum_cons,ih,bJ];rfl
def uF {s:bE}(ok:aM s)(a:Nat):(shelf s a).length≤256:=by
 unfold shelf;rw[(cW _).length_eq];exact aG (fN _ _) ok.gX
inductive yi (C:cw)(vs:List V)(H:Hp)(Q:VK)(E:XK):Prop|mk A Z s M a:vs=[.ref (A .st),iV a]→World C A Z H s M→Z .ld=none→aM s→(∀H',ao C H H'→Q (iV (avail s a)) H')→yi C vs H Q E
def jU (T:Txt K mg C):Callee P w K mg base 3 "count_there" ["store","plain"] (yi C):=by
 refine T.zx.callee mS fun f0 cg A0 aY s0 H vs Q E hr h=>?_;obtain⟨A,Z,s,M,a,rfl,W,hz,ok,q⟩:=h;have nd:=mS.nd;refine⟨_,(ai (au (aW (uV rfl) (by rfl) T.mC jt (aa (d7 rfl nd (bf (aI (nN T) hr (aa (pv 0) (aa (pv 1) ag)))) (ba (own:=[("lot",2)]) (show ef ["store","plain","lot"] (aj j') _ _=true by decide +kernel)) (fun _ _ _ _ _=>by exact(aC (i:=2) nd)) (fun _ _ _ _ _=>by exact cB) (fun _ _ _ _ _=>by exact(bA K (pv 2) (by rfl)))) ag)))),?_⟩;refine⟨A,Z,s,M,a,rfl,W,hz,ok,fun D H1 hD k1 e1=>?_⟩;refine eY (C:=C) (L:=shelf s a) (E:=fun l y _=>y=iV l.free) (p:=fun _=>true) (F:=fun l y _=>y=V.ref (A (.lot l.id))) (aQ.eq _) (aQ.eq _) (Got.of e1) (aG (uF ok _) (by decide))
  (fun l hl y Hc kc ey Ky Kn hy jx=>?_) fun D2 H2 lr k2 g2=>?_
 ·subst ey;refine⟨rfl,iR ?_⟩;exact(dF T (W.aF (k1.trans kc)) (k9 hl).1).go (hy rfl _ _ ao.refl rfl)
 rw[filter_all]at g2;refine⟨D2,(shelf s a).map fun l=>(l.free:Int),rfl,bz.of (by rw[g2.eq,aV];rfl),?_⟩;have es:((shelf s a).map fun l=>(l.free:Int)).sum=(avail s a:Int):=by
  rw[←DH,←nQ,aV];rfl
 rw[es];exact q _ (k1.trans k2)
def KG (s:bE)(p:Nat×Nat)(y:V)(H:Hp):Prop:=jY [(p.1:Int),(p.2:Int)-(avail s p.1:Int)] y H
def KG.mono {s:bE}:aQ (KG s):=fun _ _ _ _ k h=>jY.mono _ _ _ _ k h
inductive zE (C:cw)(vs:List V)(H:Hp)(Q:VK)(E:XK):Prop|mk A Z s M b L:vs=[.ref (A .st),.ref b]→World C A Z H s M→Z .ld=none→aM s→Got bG H b L→L.length≤sizeLine→(∀D H',H D=none→ao C H H'→Got bG H' D (lacking s L)→Q (.ref D) H')→zE C vs H Q E
def lZ (T:Txt K mg C):Callee P w K mg base 4 "missing_of" ["store","need"] (zE C):=by
 refine T.Bg.callee pQ fun f0 cg A0 aY s0 H vs Q E hr h=>?_;obtain⟨A,Z,s,M,b,L,rfl,W,hz,ok,gt,hlen,q⟩:=h;have nd:=pQ.nd;refine⟨_,(ae (fm (i:=2) rfl nd rfl rfl (gE rfl rfl rfl rfl) (bf (pv 1)) (ba (own:=[("plain",3),("count",4)]) (show ef ["store","need","beyond","plain","count","missing"] (aj iW) _ _=true by decide +kernel)) (fun _ _ _ _ _=>by exact(gB K 2 (by rfl) (aT (aC (i:=3) nd) (aT (aC (i:=4) nd) cz)))) (fun _ _ _ _ _=>by exact cB) (fun _ _ _ _ _=>by exact(jb (aa (pv 3) (aa (cx j4 (pv 4) (aI (jU T) hr (aa (pv 0) (aa (pv 3) ag)))) ag)))))
  (ai (au (d7 rfl nd (bf (pv 2)) (ba (own:=[("plain",3),("missing",5)]) (show ef ["store","need","beyond","plain","count","missing"] (aj iW) _ _=true by decide +kernel)) (fun _ _ _ _ _=>by exact(gB K 2 (by rfl) (aT (aC (i:=3) nd) (aT (aC (i:=5) nd) cz)))) (fun _ _ _ _ _=>by exact(fC (aD p8 (pv 5) ax (aJ _)))) (fun _ _ _ _ _=>by exact(jb (aa (pv 3) (aa (pv 5) ag)))))))),?_⟩
 refine eY (C:=C) (L:=L) (E:=KG s) (p:=fun _=>true) KG.mono bG.mono gt hlen (fun p hp x Hc k ⟨t,ex,et⟩ Ky Kn hy hn=>?_) fun D H2 hD k g2=>?_
 ·subst ex;refine⟨_,_,rfl,ju.of et,rfl,_,_,rfl,_,_,rfl,rfl,rfl,iR ?_⟩;refine⟨A,Z,s,M,p.1,rfl,W.aF k,hz,ok,fun H3 k3=>?_⟩;refine⟨_,_,rfl,rfl,by show 2≤sizeLine;decide,fun t' SU=>hy rfl _ _ (k3.trans (ao.new SU)) ⟨t',rfl,?_⟩⟩;rw[af];rfl
 rw[filter_all]at g2;refine eY (C:=C) (L:=L) (E:=fun(p:Nat×Nat) (y:V) (H:Hp)=>bG (p.1,p.2-avail s p.1) y H) (p:=fun p=>decide (avail s p.1<p.2)) (fun _ _ _ _ k h=>bG.mono _ _ _ _ k h) KG.mono g2 hlen (fun p hp x Hc k' ⟨t,ex,et⟩ Ky Kn hy hn=>?_) fun D3 H3 wx k3 g3=>?_
 ·subst ex;refine⟨_,_,rfl,ju.of et,rfl,_,_,rfl,_,_,rfl,rfl,rfl,?_⟩;refine⟨_,_,rfl,rfl,_,rfl,?_⟩;refine b0 (fun h=>?_) fun h=>?_
  ·have h:=bW h;refine⟨by show 2≤sizeLine;decide,fun t' SU=>hy (by simp;lia) _ _ (ao.new SU) ⟨t',rfl,?_⟩⟩;rw[af];clear et;grind
  simp_all[ao.refl]
 refine q D3 H3 (k.back wx) (k.trans k3) ?_;unfold lacking;exact g3.map (F:=bG) (f:=fun(p:Nat×Nat)=>(p.1,p.2-avail s p.1)) fun _ _ h=>h
def Z0:Tag→Option Obj:=fun _=>none
abbrev Wd (C:cw)(A:Tag→Addr)(H:Hp)(s:bE):Prop:=World C A Z0 H s (bC s.articles)
def rF (s:bE)(a m:Nat):Int:=match Vbdlal.art s a with
 | none=> -4
 | some _=>if(lacking s (needs s.articles a m)).isEmpty=true then 0 else -15
inductive wq (C:cw)(vs:List V)(H:Hp)(Q:VK)(E:XK):Prop|mk A s a m:vs=[.ref (A .st),iV a,iV m]→Wd C A H s→aM s→m≠0→(∀H',ao C H H'→Q (.int (rF s a m)) H')→wq C vs H Q E
def mY (T:Txt K mg C):Callee P w K mg base 5 "need_refusal" ["store","article","amount"] (wq C):=by
 refine T.yG.callee vX fun f0 cg A0 aY s0 H vs Q E hr h=>?_;obtain⟨A,s,a,m,rfl,W,ok,hm,q⟩:=h;have hu:=bt hr;refine⟨_,(ae (aU (dc (cj hu (pv 1) (az (pv 0) rfl))) (ai (au (aK T.d_ rfl))) aB)
  (ai (au (ft (bV (aI (lZ T) hr (aa (pv 0) (aa (aI (i5 T) hr (aa (bD hu (az (pv 0) rfl) (pv 1)) (aa (pv 2) ag))) ag))) (fun _=>rfl)) (aK T.rY rfl) (aK T.bH rfl))))),?_⟩
 have g:=W.fM a;refine(bh T W).go ?_;refine⟨_,_,rfl,g,_,rfl,?_⟩;unfold rF at q;cases ha:Vbdlal.art s a with
 | none=>
  have hn:¬ ∃x∈s.articles,x.id=a:=fun z=>by rw[←dz,ha]at z;cases z
  rw[ak hn];rw[ha]at q;exact cZ (q H ao.refl)
 | some x=>
  have hx:=jF ha;have hk:∃x∈s.articles,x.id=a:=⟨x,hx⟩;rw[aw hk]at g ⊢;rw[ha]at q;refine dk ?_;refine(bh T W).go ?_;obtain⟨hx,rfl⟩:=hx;refine⟨_,_,rfl,g,A,Z0,s,x,m,rfl,W,rfl,ok,hx,hm,fun D H1 hD k1 g1=>?_⟩;have O_:(needs s.articles x.id m).length≤sizeLine:=aG (dY ok (a:=x.id) (n:=m) ⟨x,hx,rfl⟩) (by decide);refine⟨A,Z0,s,_,D,_,rfl,W.aF k1,rfl,ok,g1,O_,fun D2 H2 lr k2 g2=>?_⟩;obtain⟨ys,ey,pr⟩:=g2;have hy:=bZ pr;refine⟨_,.inl ⟨_,bz.of ey,rfl⟩,?_⟩;have q:Q (.int (if(lacking s (needs s.articles x.id m)).isEmpty=true then 0 else -15)) H2:=q H2 (k1.trans k2);cases hc:lacking s (needs s.articles x.id m)with
  | nil=>
   rw[hc]at q hy;cases ys with
   | nil=>exact dk q
   | cons=>cases hy
  | cons a b=>
   rw[hc]at q hy;cases ys with
   | nil=>cases hy
   | cons=>exact cZ q
def ET (s:bE)(n a m e:Nat):Int:=
 let r0:=gH s a
 let r1:=if r0=0 then(match lotOf s n with|some x=>HU x a e|none=>r0)else r0
 let r2:=if r1=0∧e<s.today then -14 else r1
 if r2=0 then Av s n m else r2
inductive qS (C:cw)(vs:List V)(H:Hp)(Q:VK)(E:XK):Prop|mk A s n a m e:vs=[.ref (A .st),iV n,iV a,iV m,iV e]→Wd C A H s→Q (.int (ET s n a m e)) H→qS C vs H Q E
def tQ (T:Txt K mg C):Callee P w K mg base 2 "receive_refusal" ["store","number","article","amount","last_day"] (qS C):=by
 refine T.sQ.callee jg fun f0 cg A0 aY s0 H vs Q E hr h=>?_;have hu:=bt hr;have nd:=jg.nd;refine⟨_,(ae (aN (i:=5) nd (aI (eW T) hr (aa (pv 0) (aa (pv 2) ag))))
  (ae (aU (PW.pt (ua (aD cG (pv 5) (aK T.bH rfl) (aJ _)) (oB (dc (nq hu (pv 1) (az (pv 0) rfl)))))) (ai (aN (i:=5) nd (aI (sM T) hr (aa (bD hu (az (pv 0) rfl) (pv 1)) (aa (pv 2) (aa (pv 4) ag)))))) aB)
  (ae (aU (PW.pt (ua (aD cG (pv 5) (aK T.bH rfl) (aJ _)) (oB (aD pP (pv 4) (az (pv 0) rfl) (aJ _))))) (ai (aN (i:=5) nd (aK T.v_ rfl))) aB)
  (ai (au (FU (pv 5) (yc (aI (yA T) hr (aa (pv 0) (aa (pv 1) (aa (pv 3) ag))))))))))),w3z ?_⟩;intros;obtain⟨A,s,n,a,m,e,rfl,W,q⟩:=h
 refine⟨A,Z0,s,_,a,rfl,W,?_⟩;refine⟨rfl,_,rfl,?_⟩;have tail:∀r1:Int,Q (.int (if(if r1=0∧e<s.today then -14 else r1)=0 then Av s n m else(if r1=0∧e<s.today then -14 else r1))) H→∀D:Ends,D.rt=Q→
   (pb (JT (Tu (Ae (ON UU (iD 5) (tC (V.int 0)))) (Ae (ON (N9 fun i j=> .bl (decide (i<j))) (iD 4) (N5 K (iD 0) "day")))) (Nj (tC (V.int (-14))) (pB 5)) CS)
    (GR (Rh (iD 5) (vC (iC C) [] E0 (fG (iD 0) (fG (iD 1) (fG (iD 3) rA))))))) D [some (.ref (A .st)),some (iV n),some (iV a),some (iV m),some (iV e),some (.int r1)] H:=by
  intro r1 q D hD;have last:∀r2:Int,Q (.int (if r2=0 then Av s n m else r2)) H→GR (Rh (iD 5) (vC (iC C) [] E0 (fG (iD 0) (fG (iD 1) (fG (iD 3) rA))))) D [some (.ref (A .st)),some (iV n),some (iV a),some (iV m),some (iV e),some (.int r2)] H:=by
   intro r2 q;refine⟨_,rfl,?_⟩;refine b0 (fun h=>?_) fun h=>?_
   ·rw[aw h]at q;refine⟨A,Z0,s,_,n,m,rfl,W,rfl,?_⟩;rw[hD];exact q
   simp_all
  refine⟨rfl,_,rfl,?_⟩;refine b0 (fun h=>?_) fun h=>?_
  ·have h:=lG.mp h;refine(ve T W).go ?_;refine⟨_,_,rfl,rfl,_,rfl,?_⟩;refine b0 (fun h2=>?_) fun h2=>?_
   ·have h2:=bW h2;have e2:(if r1=0∧e<s.today then(-14:Int)else r1)= -14:=aw ⟨h,by lia⟩;rw[e2]at q;exact last (-14) q
   have h2:=o6 h2;have e2:(if r1=0∧e<s.today then(-14:Int)else r1)=r1:=ak fun z=>h2 (by have:=z.2;(simp;omega));rw[e2]at q;exact last r1 q
  have e2:(if r1=0∧e<s.today then(-14:Int)else r1)=r1:=ak fun z=>h (lG.mpr z.1);rw[e2]at q;exact dk (last r1 q)
 unfold ET at q;refine b0 (fun h=>?_) fun h=>?_
 ·have h:=lG.mp h;have g:=W.oe n;refine(eE T W).go ?_;refine⟨_,_,rfl,g,_,rfl,?_⟩;cases hl:lotOf s n with
  | none=>
   refine dk (tail _ ?_ _ rfl);simp_all
  | some x=>
   have hx:=gK hl;rw[hl]at g;refine cZ ?_;refine(eE T W).go ?_;refine⟨_,_,rfl,g,A,Z0,s,_,x,a,e,rfl,W,hx.1,?_⟩;refine tail _ ?_ _ rfl;simp_all
 have h:¬gH s a=0:=fun z=>h (lG.mpr z);refine dk (tail _ ?_ _ rfl);simp_all
end
end Lw
namespace Lw
open PySem PySem.Spec PyProof.Rows L2
open Vbdlal (Lot Ses Article Bag bagOf)
open Vm
section
variable{P:Program}{w:PySem.World}{K:Frag}{mg:Str→Option Value}{base:Heap}{C:cw}
def LO {A:Tag→Addr}{Z:Tag→Option Obj}{H:Hp}{s:bE}{M:Nat→dW}(W:World C A Z H s M)(ok:aM s){l:Lot}(hl:l∈s.lots)(n:Nat):iM H (A (.held l.id)) (iV n) (if bagOf l.held n=0 then none else some (iV (bagOf l.held n))):=by
 obtain⟨kvs,hp,e⟩:=W.at_ (.held l.id) ⟨l,hl,rfl⟩ l hl rfl;have:=rZ (k:=Sum.inl (n:Int)) e;rw[gy,fU (ok.lots l hl).held hp]at this;by_cases h:bagOf l.held n=0;rw[aw h]at this ⊢;exact this;rw[ak h]at this ⊢;exact this
def EO {A:Tag→Addr}{Z:Tag→Option Obj}{H:Hp}{s:bE}{M:Nat→dW}(W:World C A Z H s M)(ok:aM s){l:Lot}(hl:l∈s.lots)(n:Nat):iM H (A (.used l.id)) (iV n) (if bagOf l.uses n=0 then none else some (iV (bagOf l.uses n))):=by
 obtain⟨kvs,hp,e⟩:=W.at_ (.used l.id) ⟨l,hl,rfl⟩ l hl rfl;have:=rZ (k:=Sum.inl (n:Int)) e;rw[gy,fU (ok.lots l hl).uses hp]at this;by_cases h:bagOf l.uses n=0;rw[aw h]at this ⊢;exact this;rw[ak h]at this ⊢;exact this
def oY (s:bE)(n:Nat):(s.lots.filter fun l=>bagOf l.held n != 0).map (fun l=>(l.id,bagOf l.held n))=heldOf s n:=by
 unfold heldOf;rw[vp];rfl
inductive vy (C:cw)(vs:List V)(H:Hp)(Q:VK)(E:XK):Prop|mk A s M n:vs=[.ref (A .st),iV n]→World C A Z0 H s M→aM s→(∀D H',H D=none→ao C H H'→Got (bK A) H' D (heldOf s n)→Q (.ref D) H')→vy C vs H Q E
def lS (T:Txt K mg C):Callee P w K mg base 1 "held_for" ["store","number"] (vy C):=by
 refine T.FX.callee vB fun f0 cg A0 aY s0 H vs Q E hr h=>?_;obtain⟨A,s,M,n,rfl,W,ok,q⟩:=h;have hu:=bt hr;have nd:=vB.nd;refine⟨_,(ai (au (sf (d7 rfl nd (fb (az (pv 0) rfl)) (ba (own:=[("lot",2)]) (show ef ["store","number","lot"] (aj qx) _ _=true by decide +kernel)) (fun _ _ _ _ _=>by exact(aC (i:=2) nd)) (fun _ _ _ _ _=>by exact(fC (dc (nq hu (pv 1) (bA K (pv 2) (by rfl)))))) (fun _ _ _ _ _=>by exact(jb (aa (pv 2) (aa (bD hu (bA K (pv 2) (by rfl)) (pv 1)) ag)))))))),?_⟩;unfold GR;refine iP T W rfl ok rfl (E:=fun l y H=>bK A (l.id,bagOf l.held n) y H) (fun _ _ _ _ k h=>bK.mono _ _ _ _ k h) (fun l=>bagOf l.held n != 0) (fun l hl Hc Zc Wc hZ hk Ky Kn hy hn=>?_) fun D H2 hD k gt=>?_
 ·have g:=LO Wc ok hl n;refine⟨rfl,(gA T Wc hl).go ?_⟩;refine⟨_,_,rfl,g,_,rfl,?_⟩;by_cases h:bagOf l.held n=0;simp_all[ao.refl];rw[ak h]at g ⊢;refine cZ ?_;refine(gA T Wc hl).go ?_;refine⟨_,_,rfl,g,by show 2≤sizeLine;decide,fun t ht=>hy (by simp[h]) _ _ (ao.new ht) ⟨t,rfl,af⟩⟩
 refine q D H2 hD k ?_;rw[←oY];exact gt.map (F:=bK A) fun _ _ h=>h
def oW (s:bE)(n:Nat):(s.lots.filter fun l=>bagOf l.uses n != 0).map (fun l=>(l.id,bagOf l.uses n))=usesOf s n:=by
 unfold usesOf;rw[vp];rfl
inductive Fq (C:cw)(vs:List V)(H:Hp)(Q:VK)(E:XK):Prop|mk A s M n:vs=[.ref (A .st),iV n]→World C A Z0 H s M→aM s→(∀D H',H D=none→ao C H H'→Got (bK A) H' D (usesOf s n)→Q (.ref D) H')→Fq C vs H Q E
def uz (T:Txt K mg C):Callee P w K mg base 1 "used_by" ["store","number"] (Fq C):=by
 refine T.J1.callee yS fun f0 cg A0 aY s0 H vs Q E hr h=>?_;obtain⟨A,s,M,n,rfl,W,ok,q⟩:=h;have hu:=bt hr;have nd:=yS.nd;refine⟨_,(ai (au (sf (d7 rfl nd (fb (az (pv 0) rfl)) (ba (own:=[("lot",2)]) (show ef ["store","number","lot"] (aj uM) _ _=true by decide +kernel)) (fun _ _ _ _ _=>by exact(aC (i:=2) nd)) (fun _ _ _ _ _=>by exact(fC (dc (nq hu (pv 1) (bA K (pv 2) (by rfl)))))) (fun _ _ _ _ _=>by exact(jb (aa (pv 2) (aa (bD hu (bA K (pv 2) (by rfl)) (pv 1)) ag)))))))),?_⟩;unfold GR;refine iP T W rfl ok rfl (E:=fun l y H=>bK A (l.id,bagOf l.uses n) y H) (fun _ _ _ _ k h=>bK.mono _ _ _ _ k h) (fun l=>bagOf l.uses n != 0) (fun l hl Hc Zc Wc hZ hk Ky Kn hy hn=>?_) fun D H2 hD k gt=>?_
 ·have g:=EO Wc ok hl n;refine⟨rfl,(eV T Wc hl).go ?_⟩;refine⟨_,_,rfl,g,_,rfl,?_⟩;by_cases h:bagOf l.uses n=0;simp_all[ao.refl];rw[ak h]at g ⊢;refine cZ ?_;refine(eV T Wc hl).go ?_;refine⟨_,_,rfl,g,by show 2≤sizeLine;decide,fun t ht=>hy (by simp[h]) _ _ (ao.new ht) ⟨t,rfl,af⟩⟩
 refine q D H2 hD k ?_;rw[←oW];exact gt.map (F:=bK A) fun _ _ h=>h
def lO {s:bE}(ok:aM s)(n:Nat):(usesOf s n).length≤256:=by
 rw[←oW,ay];exact aG (fN _ _) ok.gX
theorem N8 {n j:Nat}(h:j<n):O4 n (j:Int)=some j:=by
 unfold O4;simp[h]
def Oc {a b:Nat}(h:b≤a):(V.int ((a:Int)-(b:Int)))=iV (a-b):=by lia
def xM (a b:Nat):(V.int ((a:Int)+(b:Int)))=iV (a+b):=rfl
def World.kq {A:Tag→Addr}{Z:Tag→Option Obj}{H:Hp}{s:bE}{M:Nat→dW}(W:World C A Z H s M){l:Lot}(hl:l∈s.lots):∃dx,H (A (.lot l.id))=some (.ins C.Lot dx (bQ A l)):=W.at_ (.lot l.id) ⟨l,hl,rfl⟩ l hl rfl
def World.Kp {A:Tag→Addr}{Z:Tag→Option Obj}{H:Hp}{s:bE}{M:Nat→dW}(W:World C A Z H s M){x:Ses}(hx:x∈s.sessions):∃dx,H (A (.ses x.id))=some (.ins C.f7 dx (uP x)):=W.at_ (.ses x.id) ⟨x,hx,rfl⟩ x hx rfl
def NV {s:bE}(ok:aM s){l l':Lot}(hl:l∈s.lots)(iA:l'.id=l.id)(h:ig s.sessions l'):aM (bY s l'):=by
 have:=aM.iU ok (f:=fun m=>if(m.id==l'.id)=true then l' else m) (fun m hm=>?_) (fun m hm=>?_);exact this;split<;>simp_all;by_cases z:(m.id==l'.id)=true;split<;>omega;simp only[z];exact ok.lots m hm
def sN (s:bE)(l:Lot)(n w:Nat):bE:={bY s {l with free:=l.free-n,thrown:=l.thrown+n}with reasons:=addAt s.reasons (w-1) n}
inductive zu (C:cw)(vs:List V)(H:Hp)(Q:VK)(E:XK):Prop|mk A s M l n w:vs=[.ref (A .st),.ref (A (.lot l.id)),iV n,iV w]→World C A Z0 H s M→aM s→l∈s.lots→n≤l.free→1≤w→w≤9→(∀H',Moved C A s H A (sN s l n w) H'→World C A Z0 H' (sN s l n w) M→Q .gq H')→zu C vs H Q E
def sL (T:Txt K mg C):Callee P w K mg base 1 "throw_away" ["store","lot","count","reason"] (zu C):=by
 refine T.Be.callee pM fun f0 cg A0 aY s0 H vs Q E hr h=>?_;have nd:=pM.nd;refine⟨_,(ae (e_ (pv 1) (pv 2) MW)
  (ae (e_ (pv 1) (pv 2) m8)
  (ai (N7 (az (pv 0) rfl) (pv 3) MN (pv 2) Bh set_list)))),w2z ?_⟩;intros;obtain⟨A,s,M,l,n,w,rfl,W,ok,hl,hn,Vh,UP,q⟩:=h
 obtain⟨dx,e⟩:=W.kq hl;refine⟨_,_,_,_,_,rfl,e,T.a_.cl,T.a_.na,rfl,_,_,rfl,rfl,_,_,e,by show 12<1000;decide,?_⟩;rw[Oc hn,eI];refine⟨_,_,_,_,_,rfl,af,T.a_.cl,T.a_.na,rfl,_,_,rfl,rfl,_,_,af,by show 12<1000;decide,?_⟩;rw[xM,xR,cp];have W2:=W.j9 (l':={l with free:=l.free-n,thrown:=l.thrown+n}) ok.iK hl rfl rfl rfl (dx:=dx);have m2:Moved C A s H A (bY s {l with free:=l.free-n,thrown:=l.thrown+n}) (upd H (A (.lot l.id)) (.ins C.Lot dx (bQ A {l with free:=l.free-n,thrown:=l.thrown+n}))):=Moved.write (t₀:= .lot l.id) ⟨l,hl,rfl⟩ bu e trivial;have et:upd H (A (.lot l.id)) (.ins C.Lot dx (bQ A {l with free:=l.free-n,thrown:=l.thrown+n})) (A .th)=some (.lst ((0::s.reasons).map iV)):=W2.at_ .th trivial;have XG:=ok.sF;have hx:((0::s.reasons).map iV)[w]? =some (iV (s.reasons.getD (w-1) 0)):=by grind -order
 refine(sr T W2).go ?_;refine⟨_,_,_,_,rfl,rfl,by (constructor<;>omega),bz.of et,aX hx,_,_,rfl,rfl,_,_,_,w,rfl,rfl,et,?_,?_⟩;simp_all;grind[N8];obtain⟨k,rfl⟩:∃k,w=k+1:=⟨w-1,by lia⟩;have hk:k<s.reasons.length:=by lia
 have e9:((0::s.reasons).map iV).set (k+1) (V.int (((s.reasons.getD (k+1-1) 0:Nat):Int)+(n:Int)))=(0::addAt s.reasons (k+1-1) n).map iV:=by simp_all[Nat.add_sub_cancel,EU,vc,List.getD,xM,bF,List.set_cons_succ,List.map_set]
 have W3:=W2.TU (addAt s.reasons (k+1-1) n);rw[←e9]at W3;refine q _ (m2.trans (Moved.write (t₀:= .th) trivial (fun t=>by cases t<;>exact Iff.rfl) et trivial)) W3
def c4 (C:cw)(A:Tag→Addr)(s:bE)(H:Hp)(r:bE×List Int)(Q:VK):Prop:=∀A' H' D,(∀o,H D=some o→cR A s D)→Moved C A s H A' r.1 H'→Wd C A' H' r.1→H' D=some (.lst (r.2.map V.int))→Q (.ref D) H'
def Moved.fresh {A A':Tag→Addr}{s s':bE}{H H1:Hp}{D:Addr}(m:Moved C A s H A' s' H1)(hD:H1 D=none):∀o,H D=some o→cR A s D:=fun o e=>yD fun h=>by
 by_cases n:NT o;rw[m.keep D o e n h]at hD;cases hD;cases o<;>first|exact absurd trivial n|(obtain⟨_,e1⟩:=m.tb _ _ e;rw[e1]at hD;cases hD)
def c4.pC {A A':Tag→Addr}{s:bE}{H H1:Hp}{r:bE×List Int}{Q:VK}{xs:List V}{D:Addr}(h:c4 C A s H r Q)(m:Moved C A s H A' r.1 H1)(W1:Wd C A' H1 r.1)(hD:H1 D=none)(e:xs=r.2.map V.int):Q (.ref D) (upd H1 D (.lst xs)):=
 h A' _ D (m.fresh hD) (m.trans (Moved.aF (ao.new hD))) (W1.aF (ao.new hD)) (by rw[af,e])
theorem c4.no {A:Tag→Addr}{s:bE}{H H1:Hp}{k:Int}{Q:VK}{D:Addr}(h:c4 C A s H (s,[k]) Q)(W:Wd C A H s)(k1:ao C H H1)(hD:H1 D=none):Q (.ref D) (upd H1 D (.lst [.int k])):=
 c4.pC h (Moved.aF k1) (W.aF k1) hD rfl
def aH:1≤sizeLine:=by decide
inductive Md (C:cw)(vs:List V)(H:Hp)(Q:VK)(E:XK):Prop|mk A s (l n w:Nat):vs=[.ref (A .st),iV l,iV n,iV w]→Wd C A H s→aM s→(isId l&&(Vbdlal.inR n 1 GREAT&&Vbdlal.inR w 1 9))=true→c4 C A s H (thrownCall s l n w) Q→Md C vs H Q E
def NF (T:Txt K mg C):Callee P w K mg base 2 "throw" ["store","number","count","reason"] (Md C):=by
 refine T.Oz.callee Dp fun f0 cg A0 aY s0 H vs Q E hr h=>?_;have hu:=bt hr;have nd:=Dp.nd;refine⟨_,(ae (aU (dc (cj hu (pv 1) (az (pv 0) rfl))) (ai (au (a0 (aa (aK T.ku rfl) ag)))) aB)
  (ae (aN (i:=4) nd (bD hu (az (pv 0) rfl) (pv 1)))
  (ae (aU (aD pP (az (pv 4) rfl) (pv 2) (aJ _)) (ai (au (a0 (aa (aK T.rY rfl) ag)))) aB)
  (ae (dR (aI (sL T) hr (aa (pv 0) (aa (pv 4) (aa (pv 2) (aa (pv 3) ag))))))
  (ai (au (a0 (aa (az (pv 4) rfl) ag)))))))),w4z ?_⟩;intros;obtain⟨A,s,l,n,w,rfl,W,ok,cD,q⟩:=h
 have g:=W.oe l;unfold thrownCall at q;rw[ak (by rw[cD];decide)]at q;simp only[cY]at q;refine(eE T W).go ?_;refine⟨_,_,rfl,g,_,rfl,?_⟩;cases hl:lotOf s l with
 | none=>
  rw[hl]at q;exact cZ ⟨aH,fun D hD=>q.no W ao.refl hD⟩
 | some x=>
  obtain⟨hx,rfl⟩:=gK hl;rw[hl]at q g;have q:c4 C A s H (if x.free<n then Vbdlal.no s 15 else _) Q:=q;refine dk ?_;refine(eE T W).go ?_;refine⟨_,_,rfl,g,?_⟩;refine(dF T W hx).go ?_;refine⟨_,_,rfl,rfl,_,rfl,?_⟩;refine b0 (fun h=>?_) fun h=>?_
  ·have h:=bW h;rw[aw (by lia)]at q;exact⟨aH,fun D hD=>q.no W ao.refl hD⟩
  have h:=o6 h;rw[ak (by lia)]at q;have hn:n≤x.free:=by grind
  obtain⟨Vh,UP⟩:1≤w∧w≤9:=by grind -order[jD]
  refine⟨A,s,_,x,n,w,rfl,W,ok,hx,hn,Vh,UP,fun H' m' W'=>?_⟩;have hm:({x with free:=x.free-n,thrown:=x.thrown+n}:Lot)∈(sN s x n w).lots:=nZ (s:=s) (l:=x) hx rfl;refine(dF T W' hm).go ?_;rw[dm ok.iK hx _ rfl]at q;exact⟨aH,fun D hD=>c4.pC q m' W' hD rfl⟩
def nX (s:bE)(k:Nat)(R:bE×List Int):(if(Vbdlal.ses s k).isNone=true then Vbdlal.no s 6 else if open_ s k=false then Vbdlal.no s 7 else R)=if rE s k≠0 then(s,[rE s k])else R:=by
 unfold rE open_;cases e:Vbdlal.ses s k with
 | none=>rfl
 | some x=>cases c:x.closed<;>simp[c]<;>rfl
def yJ (s:bE)(k:Nat)(R:bE×List Int):(if(Vbdlal.ses s k).isNone=true then Vbdlal.no s 6 else if open_ s k=false then Vbdlal.no s 7 else if Vbdlal.broken s k=true then Vbdlal.no s 16 else R)=if qE s k≠0 then(s,[qE s k])else R:=by
 rw[nX];unfold qE;by_cases h:rE s k=0
 ·rw[ak (fun z=>z h),ak (show ¬rE s k≠0 from fun z=>z h)];cases c:Vbdlal.broken s k<;>simp<;>rfl
 simp_all
section
variable{A:Tag→Addr}{Z:Tag→Option Obj}{H:Hp}{s:bE}{M:Nat→dW}
def CU (W:World C A Z H s M){l:Lot}(hl:l∈s.lots):R7 H (A (.used l.id)):=by
 obtain⟨kvs,hp,e⟩:=W.at_ (.used l.id) ⟨l,hl,rfl⟩ l hl rfl;exact .inl ⟨_,Kt e⟩
def E3 (W:World C A Z H s M){l:Lot}(hl:l∈s.lots):R7 H (A (.held l.id)):=by
 obtain⟨kvs,hp,e⟩:=W.at_ (.held l.id) ⟨l,hl,rfl⟩ l hl rfl;exact .inl ⟨_,Kt e⟩
end
def OG (n:Nat):(if n=0 then none else some (iV n):Option V).getD (.int 0)=iV n:=by (split<;>simp_all)
def uQ (s:bE){a b:Lot}(h:a.id=b.id):bY (bY s a) b=bY s b:=by
 unfold bY Vbdlal.onLot
 congr 1
 rw[aV];refine cE fun m _=>?_;split<;>simp_all
def fB {s:bE}(ok:aM s){l:Lot}(hl:l∈s.lots):l.uses.length≤128∧l.held.length≤128:=by
 have h:=ok.lots l hl;have sub:∀(b:Bag),bL b→(∀p∈b,∃x∈s.sessions,x.id=p.1)→b.length≤128:=fun b hb hk=>by
  have:=oJ (l:=keys b) (m:=s.sessions.map (·.id)) hb.nd fun j hj=>by grind
  rw[ay,ay]at this;exact aG this ok.o7
 exact⟨sub _ h.uses h.uk,sub _ h.held h.hk⟩
inductive zI (C:cw)(vs:List V)(H:Hp)(Q:VK)(E:XK):Prop|mk A s (k l n:Nat):vs=[.ref (A .st),iV k,iV l,iV n]→Wd C A H s→aM s→(isId k&&(isId l&&Vbdlal.inR n 1 GREAT))=true→c4 C A s H (unusedCall s k l n) Q→zI C vs H Q E
def Cy (T:Txt K mg C):Callee P w K mg base 2 "bring_back" ["store","number","lot_number","count"] (zI C):=by
 refine T.Bi.callee pw fun f0 cg A0 aY s0 H vs Q E hr h=>?_;have hu:=bt hr;have nd:=pw.nd;refine⟨_,(ae (aN (i:=4) nd (aI (dC T) hr (aa (pv 0) (aa (pv 1) ag))))
  (ae (aU (aD g0 (pv 4) (aK T.bH rfl) (aJ _)) (ai (au (a0 (aa (pv 4) ag)))) aB)
  (ae (aU (dc (cj hu (pv 2) (az (pv 0) rfl))) (ai (au (a0 (aa (aK T.ku rfl) ag)))) aB)
  (ae (aN (i:=5) nd (bD hu (az (pv 0) rfl) (pv 2)))
  (ae (aN (i:=6) nd (cx j4 (wO hu (az (pv 5) rfl) (pv 1) ax ⟨rfl,rfl,rfl,rfl⟩) (pv 3)))
  (ae (aU (aD pP (pv 6) ax (aJ _)) (ai (au (a0 (aa (aK T.mw rfl) ag)))) aB)
  (ae (e_ (pv 5) (pv 3) m8)
  (ae (aU (aD cG (pv 6) ax (aJ _)) (ai (dR (yx (az (pv 5) rfl) (pv 1) ⟨rfl,rfl,rfl,rfl⟩))) (ai (ib hu (az (pv 5) rfl) (pv 1) (pv 6) rfl)))
  (ai (au (a0 (aa (pv 6) ag)))))))))))),w8z ?_⟩;intros;obtain⟨A,s,k,l,n,rfl,W,ok,cD,q⟩:=h
 have g:=W.oe l;unfold unusedCall at q;rw[ak (by rw[cD];decide)]at q;simp only[cY]at q;rw[nX]at q;refine⟨A,Z0,s,_,k,rfl,W,?_⟩;refine⟨rfl,_,rfl,?_⟩;refine b0 (fun h=>?_) fun h=>?_
 ·rw[aw (bS.mp h)]at q;exact⟨aH,fun D hD=>q.no W ao.refl hD⟩
 rw[ak fun z=>h (bS.mpr z)]at q;refine(eE T W).go ?_;refine⟨_,_,rfl,g,_,rfl,?_⟩;cases hl:lotOf s l with
 | none=>
  rw[hl]at q;exact cZ ⟨aH,fun D hD=>q.no W ao.refl hD⟩
 | some x=>
  obtain⟨hx,rfl⟩:=gK hl;rw[hl]at q g;have q:c4 C A s H (if bagOf x.uses k<n then Vbdlal.no s 17 else _) Q:=q;refine dk ?_;refine(eE T W).go ?_;refine⟨_,_,rfl,g,?_⟩;refine(eV T W hx).go ?_;refine⟨_,rfl,CU W hx,_,EO W ok hx k,?_⟩;rw[OG];refine⟨_,_,rfl,rfl,?_⟩;refine⟨_,_,rfl,rfl,_,rfl,?_⟩;refine b0 (fun h=>?_) fun h=>?_
  ·have h:=bW h;rw[aw (by lia)]at q;exact⟨aH,fun D hD=>q.no W ao.refl hD⟩
  have h:=o6 h;rw[ak (by lia)]at q;rw[dm ok.iK hx _ rfl]at q;have hn:n≤bagOf x.uses k:=by (clear hu;omega)
  obtain⟨dx,e⟩:=W.kq hx;refine⟨_,_,_,_,_,rfl,e,T.a_.cl,T.a_.na,rfl,_,_,rfl,rfl,_,_,e,by show 12<1000;decide,?_⟩;rw[xM,eI];have W1:=W.j9 (l':={x with free:=x.free+n}) ok.iK hx rfl rfl rfl (dx:=dx);have m1:Moved C A s H A (bY s {x with free:=x.free+n}) (upd H (A (.lot x.id)) (.ins C.Lot dx (bQ A {x with free:=x.free+n}))):=Moved.write (t₀:= .lot x.id) ⟨x,hx,rfl⟩ bu e trivial;have J3:({x with free:=x.free+n}:Lot)∈(bY s {x with free:=x.free+n}).lots:=nZ hx rfl;have nd1:((bY s {x with free:=x.free+n}).lots.map (·.id)).Nodup:=by rw[m_];exact ok.iK
  obtain⟨kvs,hp,ed⟩:=W1.at_ (.used x.id) ⟨_,J3,rfl⟩ _ J3 rfl;have hp:kvs.Perm x.uses:=hp;have ed:upd H (A (.lot x.id)) (.ins C.Lot dx (bQ A {x with free:=x.free+n})) (A (.used x.id))=some (.dK (kvs.map bg)):=ed;have hb:=(ok.lots x hx).uses;refine⟨rfl,_,rfl,?_⟩;have fin:∀qA:List (Nat×Nat),qA.Perm (bagSub x.uses k n)→∀D,upd (upd H (A (.lot x.id)) (.ins C.Lot dx (bQ A {x with free:=x.free+n}))) (A (.used x.id)) (.dK (qA.map bg)) D=none→
    Q (.ref D) (upd (upd (upd H (A (.lot x.id)) (.ins C.Lot dx (bQ A {x with free:=x.free+n}))) (A (.used x.id)) (.dK (qA.map bg))) D (.lst [V.int ((bagOf x.uses k:Int)-(n:Int))])):=by
   intro qA He D hD;have W2:=W1.setUsed (l:={x with free:=x.free+n}) (l':={x with free:=x.free+n,uses:=bagSub x.uses k n}) J3 nd1 rfl rfl rfl He rfl;rw[uQ s (by rfl)]at W2;have m2:Moved C A (bY s {x with free:=x.free+n}) _ A (bY s {x with free:=x.free+n,uses:=bagSub x.uses k n}) _:=Moved.write (C:=C) (A:=A) (o:= .dK (qA.map bg)) (t₀:= .used x.id) ⟨_,J3,rfl⟩ (fun t=>(bu t).trans (bu t).symm) ed trivial;refine c4.pC q (m1.trans m2) W2 hD ?_;rw[Oc hn];rfl
  refine b0 (fun h2=>?_) fun h2=>?_
  ·have h2:=lG.mp h2;have TK:n≠0:=by grind[jD]
   have hv:fS (kvs.map bg) (Sum.inl (k:Int))=some (iV (bagOf x.uses k)):=by (clear h;grind -order[gy,fU])
   refine(eV T W1 J3).go ?_;refine⟨_,rfl,CU W1 J3,_,Sum.inl (k:Int),_,ed,rfl,hv,?_⟩;rw[uj];exact⟨aH,fin _ (Bl hb hp k n (by clear hu;omega))⟩
  have h2:¬((bagOf x.uses k:Int)-(n:Int)=0):=fun z=>h2 (lG.mpr z);have Kx:=(fB ok hx).1;refine(eV T W1 J3).go ?_;refine⟨_,_,rfl,tp.k (k:=Sum.inl (k:Int)) ed (by rw[ay,hp.length_eq];exact fe Kx (by decide)),?_⟩;have ep:putK (kvs.map bg) (Sum.inl (k:Int)) ((fun i j:Int=>V.int (i-j)) (bagOf x.uses k:Int) (n:Int))=(dput kvs k (bagOf x.uses k-n)).map bg:=by grind -order[xo]
  rw[ep];exact⟨aH,fin _ (KP hb hp k n (by clear hu;omega))⟩
end
end Lw
namespace Lw
open PySem PySem.Spec PyProof.Rows L2
open Vbdlal (Lot Ses Article Bag bagOf bagSum)
open Vm
section
variable{P:Program}{w:PySem.World}{K:Frag}{mg:Str→Option Value}{base:Heap}{C:cw}
def sy {kvs:List (Nat×Nat)}{b:Bag}(hp:kvs.Perm b):(kvs.map fun p=>(p.2:Int)).sum=(bagSum b:Int):=by
 unfold bagSum;rw[←x9 (hp.map (·.2)),←nQ,aV];rfl
def emax {a:Int}{n:Nat}(h:a=n∨(a≤0∧n=0)):(if(0:Int)>a then(0:Int)else a)=(n:Int):=by lia
inductive zK (C:cw)(vs:List V)(H:Hp)(Q:VK)(E:XK):Prop|mk A s (l m:Nat):vs=[.ref (A .st),iV l,iV m]→Wd C A H s→aM s→(isId l&&Vbdlal.inR m 0 THOUSANDMILLION)=true→c4 C A s H (countCall s l m) Q→zK C vs H Q E
def Bw (T:Txt K mg C):Callee P w K mg base 1 "take_stock" ["store","number","present"] (zK C):=by
 refine T.B9.callee pW fun f0 cg A0 aY s0 H vs Q E hr h=>?_;have hu:=bt hr;have nd:=pW.nd;refine⟨_,(ae (aU (dc (cj hu (pv 1) (az (pv 0) rfl))) (ai (au (a0 (aa (aK T.ku rfl) ag)))) aB)
  (ae (aN (i:=3) nd (bD hu (az (pv 0) rfl) (pv 1)))
  (ae (aN (i:=4) nd (aW (tw rfl) (by rfl) T.mC jt (aa (i3 (az (pv 3) rfl)) ag)))
  (ae (aU (aD pP (pv 2) (pv 4) (aJ _)) (ai (au (a0 (aa (aK T.tL rfl) ag)))) aB)
  (ae (aN (i:=5) nd (aW (AW rfl) (by rfl) T.HW boot_max (aa (cx j4 (cx j4 (pv 2) (pv 4)) (az (pv 3) rfl)) (aa ax ag))))
  (ae (aU (aD p8 (cx fP (az (pv 3) rfl) (pv 5)) (aK T.zD rfl) (aJ _)) (ai (au (a0 (aa (aK T.yw rfl) ag)))) aB)
  (ae (aN (i:=6) nd (aW (AW rfl) (by rfl) T.HW boot_max (aa (cx j4 (az (pv 3) rfl) (cx j4 (pv 2) (pv 4))) (aa ax ag))))
  (ae (bO (pv 3) (cx j4 (pv 2) (pv 4)) rfl)
  (ae (e_ (pv 3) (pv 5) m8)
  (ae (e_ (pv 3) (pv 6) m8)
  (ai (au (a0 (aa (pv 5) (aa (pv 6) ag))))))))))))))),w10z ?_⟩;intros;obtain⟨A,s,l,m,rfl,W,ok,cD,q⟩:=h
 have g:=W.oe l;unfold countCall at q;rw[ak (by rw[cD];decide)]at q;simp only[cY]at q;refine(eE T W).go ?_;refine⟨_,_,rfl,g,_,rfl,?_⟩;cases hl:lotOf s l with
 | none=>
  rw[hl]at q;exact cZ ⟨aH,fun D hD=>q.no W ao.refl hD⟩
 | some x=>
  obtain⟨hx,rfl⟩:=gK hl;rw[hl]at q g;have q:c4 C A s H (if m<bagSum x.held then Vbdlal.no s 18 else if GREAT<x.gained+(m-(x.free+bagSum x.held))then Vbdlal.no s 8 else _) Q:=q;refine dk ?_;refine(eE T W).go ?_;refine⟨_,_,rfl,g,?_⟩;obtain⟨kvs,hp,ed⟩:=W.at_ (.held x.id) ⟨_,hx,rfl⟩ _ hx rfl;have ed:H (A (.held x.id))=some (.dK (kvs.map bg)):=ed;refine(gA T W hx).go ?_;refine⟨_,_,rfl,ed,fun v hv=>?_⟩;have kv:ao C H (upd H v (iH "dict_values" v (A (.held x.id)))):=ao.new hv;have Wv:=W.aF kv;refine⟨v,A (.held x.id),kvs,rfl,af,kv.at_ _ _ ed trivial,?_⟩;rw[sy hp];refine⟨_,_,rfl,rfl,_,rfl,?_⟩;refine b0 (fun h=>?_) fun h=>?_
  ·have h:=bW h;rw[aw (by lia)]at q;exact⟨aH,fun D hD=>q.no W kv hD⟩
  have h:=o6 h;rw[ak (by lia)]at q;refine⟨_,_,rfl,rfl,(dF T Wv hx).go ?_⟩;refine⟨_,_,rfl,rfl,_,_,rfl,?_⟩;rw[emax (n:=m-(x.free+bagSum x.held)) (by lia)];refine(xJ T Wv hx).go ?_;refine⟨_,_,rfl,rfl,_,_,rfl,rfl,_,rfl,?_⟩;refine b0 (fun h2=>?_) fun h2=>?_
  ·have h2:=bW h2;rw[aw (by unfold GREAT;lia)]at q;exact⟨aH,fun D hD=>q.no W kv hD⟩
  have h2:=o6 h2;rw[ak (by unfold GREAT;lia),dm ok.iK hx _ rfl]at q;refine(dF T Wv hx).go ?_;refine⟨_,_,rfl,rfl,_,_,rfl,rfl,_,_,rfl,?_⟩;rw[emax (n:=(x.free+bagSum x.held)-m) (by clear q;lia)];obtain⟨dx,e⟩:=Wv.kq hx;refine⟨_,_,rfl,rfl,_,_,_,_,rfl,e,T.a_.cl,T.a_.na,by show 12<1000;decide,?_⟩;have ep:dZ "free" ((fun i j:Int=>V.int (i-j)) (m:Int) (bagSum x.held:Int)) (bQ A x)=bQ A {x with free:=m-bagSum x.held}:=by
   show dZ _ (V.int (_-_)) _=_;rw[Oc (by clear h2 hu;omega)];rfl
  rw[ep];refine⟨_,_,_,_,_,rfl,af,T.a_.cl,T.a_.na,rfl,_,_,rfl,rfl,_,_,af,by show 12<1000;decide,?_⟩;rw[xM,xA,cp];refine⟨_,_,_,_,_,rfl,af,T.a_.cl,T.a_.na,rfl,_,_,rfl,rfl,_,_,af,by show 12<1000;decide,?_⟩;rw[xM,BF,cp];have W3:=Wv.j9 (l':={x with free:=m-bagSum x.held,gained:=x.gained+(m-(x.free+bagSum x.held)),lost:=x.lost+((x.free+bagSum x.held)-m)}) ok.iK hx rfl rfl rfl (dx:=dx);have m3:Moved C A s _ A (bY s {x with free:=m-bagSum x.held,gained:=x.gained+(m-(x.free+bagSum x.held)),lost:=x.lost+((x.free+bagSum x.held)-m)}) _:=
   (Moved.aF kv).trans (Moved.write (C:=C) (A:=A) (o:= .ins C.Lot dx (bQ A {x with free:=m-bagSum x.held,gained:=x.gained+(m-(x.free+bagSum x.held)),lost:=x.lost+((x.free+bagSum x.held)-m)})) (t₀:= .lot x.id) ⟨x,hx,rfl⟩ bu e trivial)
  exact⟨by show 2≤sizeLine;decide,fun D hD=>c4.pC q m3 W3 hD rfl⟩
def NU {s:bE}(ok:aM s)(x':Ses):aM (sD s x'):=by
 refine aM.yU ok (f:=fun x=>if(x.id==x'.id)=true then x' else x) fun m=>?_;split<;>simp_all
inductive tZ (C:cw)(vs:List V)(H:Hp)(Q:VK)(E:XK):Prop|mk A s (k:Nat):vs=[.ref (A .st),iV k]→Wd C A H s→aM s→isId k=true→c4 C A s H (closeCall s k) Q→tZ C vs H Q E
def vR (T:Txt K mg C):Callee P w K mg base 2 "close_session" ["store","number"] (tZ C):=by
 refine T.wk.callee kh fun f0 cg A0 aY s0 H vs Q E hr h=>?_;have hu:=bt hr;have nd:=kh.nd;refine⟨_,(ae (aN (i:=2) nd (aI (dC T) hr (aa (pv 0) (aa (pv 1) ag))))
  (ae (aU (aD g0 (pv 2) (aK T.bH rfl) (aJ _)) (ai (au (a0 (aa (pv 2) ag)))) aB)
  (ae (aU (bV (aI (lS T) hr (aa (pv 0) (aa (pv 1) ag))) (fun _=>rfl)) (ai (au (a0 (aa (aK T.tL rfl) ag)))) aB)
  (ae (aN (i:=3) nd (bD hu (az (pv 0) rfl) (pv 1)))
  (ae (bO (pv 3) gG rfl)
  (ae (bO (pv 3) gG rfl)
  (ai (au (a0 (aa (aW (uV rfl) (by rfl) T.mC jt (aa (d7 rfl nd (bf (aI (uz T) hr (aa (pv 0) (aa (pv 1) ag)))) (ba (own:=[("lot",4),("count",5)]) (show ef ["store","number","refusal","session","lot","count"] (aj iu) _ _=true by decide +kernel)) (fun _ _ _ _ _=>by exact(gB K 2 (by rfl) (aT (aC (i:=4) nd) (aT (aC (i:=5) nd) cz)))) (fun _ _ _ _ _=>by exact cB) (fun _ _ _ _ _=>by exact(pv 5))) ag)) ag)))))))))),w6z ?_⟩;intros;obtain⟨A,s,k,rfl,W,ok,cD,q⟩:=h
 unfold closeCall at q;rw[ak (by rw[cD];decide)]at q;simp only[cY]at q;rw[nX]at q;refine⟨A,Z0,s,_,k,rfl,W,?_⟩;refine⟨rfl,_,rfl,?_⟩;refine b0 (fun h=>?_) fun h=>?_
 ·rw[aw (bS.mp h)]at q;exact⟨aH,fun D hD=>q.no W ao.refl hD⟩
 have h0:rE s k=0:=qj fun z=>h (bS.mpr z);rw[ak fun z=>h (bS.mpr z)]at q;obtain⟨x,Vr,EW⟩:=sY h0;obtain⟨hx,rfl⟩:=iI Vr;refine⟨A,s,_,x.id,rfl,W,ok,fun D H1 hD k1 g1=>?_⟩;obtain⟨ys,ey,pr⟩:=id g1;have hy:=bZ pr;refine⟨_,.inl ⟨_,bz.of ey,rfl⟩,?_⟩;have W1:=W.aF k1;refine b0 (fun h=>?_) fun h=>?_
 ·rw[aw (by cases ys with
    | nil=>cases h
    | cons a b=>cases e:heldOf s x.id with
     | nil=>rw[e]at hy;cases hy
     | cons c d=>rfl)]at q
  exact⟨aH,fun D hD=>q.no W k1 hD⟩
 rw[ak (by cases ys with
    | cons a b=>exact absurd rfl h
    | nil=>cases e:heldOf s x.id with
     | nil=>simp
     | cons c d=>rw[e]at hy;cases hy)]at q
 have g:=W1.lW x.id;rw[aw ⟨x,hx,rfl⟩]at g;refine(cU T W1).go ?_;refine⟨_,_,rfl,g,?_⟩;obtain⟨dx,e⟩:=W1.Kp hx;refine⟨_,_,_,_,rfl,e,T.b7.cl,T.b7.na,by show 2<1000;decide,?_⟩;rw[xn];refine⟨_,_,_,_,rfl,af,T.b7.cl,T.b7.na,by show 2<1000;decide,?_⟩;rw[ja,cp];have W2:=W1.GQ (x':={x with closed:=true,broken:=false}) hx rfl (dx:=dx);have m2:Moved C A s H A (sD s {x with closed:=true,broken:=false}) _:=(Moved.aF k1).trans (Moved.write (C:=C) (A:=A) (o:= .ins C.f7 dx (uP {x with closed:=true,broken:=false})) (t₀:= .ses x.id) ⟨x,hx,rfl⟩ oS e trivial);rw[qY ok hx _ rfl]at q;have ok2:aM (sD s {x with closed:=true,broken:=false}):=NU ok _;refine⟨A,_,_,x.id,rfl,W2,ok2,fun D H2 hD k2 g2=>?_⟩;refine eY (C:=C) (L:=usesOf s x.id) (E:=fun p y _=>y=iV p.2) (p:=fun _=>true) (F:=bK A) (aQ.eq _) bK.mono g2 (aG (lO ok _) (by decide))
  (fun p hp y Hc kc ⟨t,ey,et⟩ Ky Kn hy jx=>?_) fun D3 H3 wx k3 g3=>?_
 ·subst ey;exact⟨_,_,rfl,ju.of et,rfl,_,_,rfl,_,_,rfl,rfl,rfl,iR (hy rfl _ _ ao.refl rfl)⟩
 rw[filter_all]at g3;refine⟨D3,(usesOf s x.id).map fun p=>(p.2:Int),rfl,bz.of (by rw[g3.eq,aV];rfl),?_⟩;have e1:((usesOf s x.id).map fun p=>(p.2:Int)).sum=(bagSum (usesOf s x.id):Int):=by
  unfold bagSum;rw[←nQ,aV];rfl
 rw[e1];exact⟨aH,fun D' pV=>c4.pC q (m2.trans (Moved.aF (k2.trans k3))) (W2.aF (k2.trans k3)) pV rfl⟩
def jk {K K':Frag}{A:Tag→Addr}{s:bE}{M:Nat→dW}{H:Hp}{b:Addr}{ps:List (Nat×Nat)}{xs:List V}(eb:H b=some (.lst xs))(pr:Paired (fun y p=>bK A p y H) xs ps)(W:World C A Z0 H s M)(hb:¬cR A s b)
  (F:Nat→bE) (hF:F 0=s) (Sh:L2.St→Prop) {σ:L2.St} (hσ:Sh σ) {a c:Nat} {tb:TS} {D:Ends}
  (hs:∀i p σ H',ps[i]? =some p→Sh σ→Moved C A s H A (F i) H'→World C A Z0 H' (F i) M→∀D':Ends,(∀σ' jC,Sh σ'→Moved C A (F i) H' A (F (i+1)) jC→World C A Z0 jC (F (i+1)) M→D'.nx σ' jC)→tb D' ((σ.set a (some (.ref (A (.lot p.1))))).set c (some (iV p.2))) H')
  (hd:∀σ H',Sh σ→Moved C A s H A (F ps.length) H'→World C A Z0 H' (F ps.length) M→D.nx σ H'):
  ∃W:Nat→Nat→L2.St→Hp→Prop,(∃m,W 0 m σ H)∧∀i m σ H,W i m σ H→
   ((Hj K b).stop i H∧D.nx σ H)∨((Hj K b).go i H∧∃N:L2.St→Hp→Prop,(∀σ' H',N σ' H'→∃m',m'<m∧W (i+1) m' σ' H')∧∀x H',(Hj K b).M_ i H x H'→PZ K' 2 (K5 (pB a) (K5 (pB c) SW)) x σ H' fun σ2 H2=>tb {D with nx:=N,ct:=N,bk:=D.nx} σ2 H2):=by
 have hy:xs.length=ps.length:=bZ pr;refine dS (xs:=xs) (fun i σ H'=>Sh σ∧Moved C A s H A (F i) H'∧World C A Z0 H' (F i) M) ⟨hσ,by rw[hF];exact Moved.aF ao.refl,by rw[hF];exact W⟩ (fun i σ H' hi ⟨_,m,_⟩=>bz.of (m.bR eb trivial hb).1) (fun i x σ H' hx ⟨h1,m,W'⟩=>?_) fun σ H' ⟨h1,m,W'⟩=>?_
 ·have hi:i<ps.length:=by rw[←hy];exact(fu.mp hx).1
  have em:ps[i]? =some ps[i]:=by simp[hi]
  obtain⟨y,ey,t,rfl,et⟩:=cT pr em;rw[hx]at ey;cases ey;have L9:H' t=some (.tup [.ref (A (.lot ps[i].1)),iV ps[i].2]):=(m.bR et trivial (W.fh et fun z=>z)).1;refine⟨_,_,rfl,ju.of L9,rfl,_,_,rfl,_,_,rfl,rfl,?_⟩;exact hs i _ σ H' em h1 m W' _ fun σ' jC h2 m2 W2=>⟨h2,m.trans m2,W2⟩
 grind
def si {f:Lot→Lot}(iA:∀l,(f l).id=l.id){s:bE}{ids:List Nat}(hn:ids.Nodup){l:Lot}(hl:l∈s.lots)(h:l.id∉ids):l∈(ids.foldl (fun t i=>Vbdlal.onLot t i f) s).lots:=by
 rw[f_ iA ids s hn];simp;grind
def xQ {f:Lot→Lot}(iA:∀l,(f l).id=l.id){s:bE}{ids:List Nat}(hn:ids.Nodup):(ids.foldl (fun t i=>Vbdlal.onLot t i f) s).lots.map (·.id)=s.lots.map (·.id):=by
 rw[f_ iA ids s hn];show(s.lots.map _).map _=_;rw[aV];refine cE fun m _=>?_;simp;grind
theorem sV (s:bE)(k:Nat):(heldOf s k).map (·.1)=(s.lots.filter fun l=>bagOf l.held k != 0).map (·.id):=by
 rw[←oY,aV];rfl
def zf {s:bE}(ok:aM s)(k:Nat):(Vbdlal.rowOf (heldOf s k)).length≤513:=by
 rw[b_,←oY,ay];have:=fN (fun l=>bagOf l.held k != 0) s.lots;have:=ok.gX;lia
theorem sv {s:bE}{k:Nat}{p:Nat×Nat}(h:p∈heldOf s k):∃l∈s.lots,p=(l.id,bagOf l.held k)∧bagOf l.held k≠0:=by
 rw[←oY]at h;simp_all;grind
theorem eX {l:List Nat}(hn:l.Nodup){i:Nat}{x:Nat}(h:l[i]? =some x):x∉l.take i:=fun hm=>by grind[take_append_drop]
def mj (k:Nat)(l:Lot):Lot:={l with held:=bagDrop l.held k,uses:=bagAdd l.uses k (bagOf l.held k)}
inductive OO (C:cw)(vs:List V)(H:Hp)(Q:VK)(E:XK):Prop|mk A s (k:Nat):vs=[.ref (A .st),iV k]→Wd C A H s→aM s→isId k=true→c4 C A s H (takeCall s k) Q→OO C vs H Q E
def Ru (T:Txt K mg C):Callee P w K mg base 3 "take" ["store","number"] (OO C):=by
 refine T.Q_.callee Hk fun f0 cg A0 aY s0 H vs Q E hr h=>?_;have nd:=Hk.nd;refine⟨_,(ae (aN (i:=2) nd (aI (gd T) hr (aa (pv 0) (aa (pv 1) ag))))
  (ae (aU (aD g0 (pv 2) (aK T.bH rfl) (aJ _)) (ai (au (a0 (aa (pv 2) ag)))) aB)
  (ae (aN (i:=3) nd (aI (lS T) hr (aa (pv 0) (aa (pv 1) ag))))
  (ae (aU (jc (bV (pv 3) (fun _=>rfl))) (ai (au (a0 (aa (aK T.mw rfl) ag)))) aB)
  (ae (dM dj rfl (bf (pv 3)) (gT rfl (aT (aC (i:=4) nd) (aT (aC (i:=5) nd) cz))) (ae (dR (yx (az (pv 4) rfl) (pv 1) ⟨rfl,rfl,rfl,rfl⟩))
  (ai (dR (aI (n8 T) hr (aa (az (pv 4) rfl) (aa (pv 1) (aa (pv 5) ag))))))))
  (ai (au (aI (g8 T) hr (aa (pv 3) ag))))))))),w5z ?_⟩;intros;obtain⟨A,s,k,rfl,W,ok,cD,q⟩:=h
 unfold takeCall at q;rw[ak (by rw[cD];decide)]at q;simp only[cY]at q;rw[yJ]at q;refine⟨A,Z0,s,_,k,rfl,W,?_⟩;refine⟨rfl,_,rfl,?_⟩;refine b0 (fun h=>?_) fun h=>?_
 ·rw[aw (bS.mp h)]at q;exact⟨aH,fun D hD=>q.no W ao.refl hD⟩
 rw[ak fun z=>h (bS.mpr z)]at q;refine⟨A,s,_,k,rfl,W,ok,fun D H1 hD k1 g1=>?_⟩;obtain⟨ys,ey,pr⟩:=id g1;have hy:=bZ pr;refine⟨_,.inl ⟨_,bz.of ey,rfl⟩,?_⟩;have W1:=W.aF k1;have vH:¬cR A s D:=W.bR hD;have heq:(heldOf s k).isEmpty=ys.isEmpty:=by grind
 rw[heq,←Bool.not_not ys.isEmpty]at q;refine b0 (fun h=>?_) fun h=>?_
 ·rw[aw h]at q;exact⟨aH,fun D hD=>q.no W k1 hD⟩
 rw[ak h]at q;have iA:∀l,(mj k l).id=l.id:=fun _=>rfl;have QA:((heldOf s k).map (·.1)).Nodup:=by rw[sV];exact hU ok.iK _
 have Pw:∀i,(((heldOf s k).map (·.1)).take i).Nodup:=fun i=>QA.sublist (t_ _ _);refine⟨D,rfl,⟨_,bz.of ey⟩,jk ey pr W1 vH (fun i=>(((heldOf s k).map (·.1)).take i).foldl (fun t i=>Vbdlal.onLot t i (mj k)) s) (by simp) (fun σ=>∃r v4 v5,σ=[some (.ref (A .st)),some (iV k),r,some (.ref D),v4,v5]) ⟨_,_,_,rfl⟩ (fun i p σ H' hp ⟨r,v4,v5,es⟩ m' W' D' vV=>?_) fun σ H' ⟨r,v4,v5,es⟩ m' W'=>?_⟩
 ·subst es;obtain⟨l,hl,rfl,eP⟩:=sv (dJ hp);have J7:((heldOf s k).map (·.1))[i]? =some l.id:=by rw[cO,hp];rfl
  have fi:=si iA (Pw i) hl (eX QA J7);have tU:(((((heldOf s k).map (·.1)).take i).foldl (fun t i=>Vbdlal.onLot t i (mj k)) s).lots.map (·.id)).Nodup:=by rw[xQ iA (Pw i)];exact ok.iK
  have xx:=ok.lots l hl;have gz:(((heldOf s k).map (·.1)).take (i+1)).foldl (fun t i=>Vbdlal.onLot t i (mj k)) s=bY ((((heldOf s k).map (·.1)).take i).foldl (fun t i=>Vbdlal.onLot t i (mj k)) s) (mj k l):=by grind[take_succ,dm]
  rw[gz]at vV;revert vV m' W' fi tU;generalize(((heldOf s k).map (·.1)).take i).foldl (fun t i=>Vbdlal.onLot t i (mj k)) s=t;intro m' W' vV fi tU;obtain⟨kvs,J8,ed⟩:=W'.at_ (.held l.id) ⟨l,fi,rfl⟩ l fi rfl;have ed:H' (A (.held l.id))=some (.dK (kvs.map bg)):=ed;have hv:fS (kvs.map bg) (Sum.inl (k:Int))=some (iV (bagOf l.held k)):=by
   rw[gy,fU xx.held J8,ak eP];rfl
  refine(gA T W' fi).go ?_;refine⟨_,rfl,E3 W' fi,_,Sum.inl (k:Int),_,ed,rfl,hv,?_⟩;rw[uj];have W2:=W'.CM (l':={l with held:=bagDrop l.held k}) fi tU rfl rfl rfl (z9 xx.held J8 k) rfl;have m2:Moved C A t H' A (bY t {l with held:=bagDrop l.held k}) _:=Moved.write (C:=C) (A:=A) (o:= .dK ((jO kvs k).map bg)) (t₀:= .held l.id) ⟨l,fi,rfl⟩ bu ed trivial;have BP:({l with held:=bagDrop l.held k}:Lot)∈(bY t {l with held:=bagDrop l.held k}).lots:=nZ fi rfl;have QZ:((bY t {l with held:=bagDrop l.held k}).lots.map (·.id)).Nodup:=by rw[m_];exact tU
  obtain⟨U5,Fo,GP⟩:=W2.at_ (.used l.id) ⟨_,BP,rfl⟩ _ BP rfl;have Fo:U5.Perm l.uses:=Fo;have GP:upd H' (A (.held l.id)) (.dK ((jO kvs k).map bg)) (A (.used l.id))=some (.dK (U5.map bg)):=GP;refine(eV T W2 BP).go ?_;have Kx:=(fB ok hl).1;refine⟨_,U5,k,_,rfl,GP,by rw[Fo.length_eq];exact fe Kx (by decide),?_⟩;rw[yz xx.uses Fo];have W3:=W2.setUsed (l:={l with held:=bagDrop l.held k}) (l':=mj k l) BP QZ rfl rfl rfl (xN xx.uses Fo k _ eP) rfl;rw[uQ t (by rfl)]at W3;have m3:Moved C A (bY t {l with held:=bagDrop l.held k}) _ A (bY t (mj k l)) _:=Moved.write (C:=C) (A:=A) (o:= .dK ((dput U5 k (bagOf l.uses k+bagOf l.held k)).map bg)) (t₀:= .used l.id) ⟨_,BP,rfl⟩ (fun t=>(bu t).trans (bu t).symm) GP trivial;exact vV _ _ ⟨_,_,_,rfl⟩ (m2.trans m3) W3
 subst es;rw[show(heldOf s k).length=((heldOf s k).map (·.1)).length by rw[ay],du]at m' W';have Rm:((heldOf s k).map (·.1)).foldl (fun t i=>Vbdlal.onLot t i (mj k)) s={s with lots:=s.lots.map fun l=>mj k l}:=by
  rw[f_ iA _ s QA,map_some];intro l hl hnot;have h0:bagOf l.held k=0:=by grind[sV]
  unfold mj;rw[h0,Dc,rH (ok.lots l hl).held h0]
 rw[Rm]at m' W';have mm:=(Moved.aF (C:=C) (A:=A) (s:=s) k1).trans m';refine⟨A,Z0,_,_,D,_,rfl,W',g1.move bK.mono (fun ys e=>(m'.bR e trivial vH).1) (fun b xs e=>(m'.bR e trivial (W1.fh e fun z=>z)).1),fun p hp=>?_,aG (zf ok k) (by decide),fun D' jC pV k' e'=>?_⟩;grind[sv];exact q A jC D' (mm.fresh pV) (mm.trans (Moved.aF k')) (W'.aF k') e'
def lq (k:Nat)(l:Lot):Lot:={l with held:=bagDrop l.held k,free:=l.free+bagOf l.held k}
inductive FW (C:cw)(vs:List V)(H:Hp)(Q:VK)(E:XK):Prop|mk A s (k:Nat):vs=[.ref (A .st),iV k]→Wd C A H s→aM s→isId k=true→c4 C A s H (releaseCall s k) Q→FW C vs H Q E
def Ja (T:Txt K mg C):Callee P w K mg base 3 "release" ["store","number"] (FW C):=by
 refine T.JX.callee xt fun f0 cg A0 aY s0 H vs Q E hr h=>?_;have hu:=bt hr;have nd:=xt.nd;refine⟨_,(ae (aN (i:=2) nd (aI (dC T) hr (aa (pv 0) (aa (pv 1) ag))))
  (ae (aU (aD g0 (pv 2) (aK T.bH rfl) (aJ _)) (ai (au (a0 (aa (pv 2) ag)))) aB)
  (ae (aN (i:=3) nd (aI (lS T) hr (aa (pv 0) (aa (pv 1) ag))))
  (ae (dM dj rfl (bf (pv 3)) (gT rfl (aT (aC (i:=4) nd) (aT (aC (i:=5) nd) cz))) (ae (dR (yx (az (pv 4) rfl) (pv 1) ⟨rfl,rfl,rfl,rfl⟩))
  (ai (e_ (pv 4) (pv 5) m8))))
  (ae (aN (i:=6) nd (bD hu (az (pv 0) rfl) (pv 1)))
  (ae (bO (pv 6) gG rfl)
  (ai (au (aI (g8 T) hr (aa (pv 3) ag)))))))))),w6z ?_⟩;intros;obtain⟨A,s,k,rfl,W,ok,cD,q⟩:=h
 unfold releaseCall at q;rw[ak (by rw[cD];decide)]at q;simp only[cY]at q;rw[nX]at q;refine⟨A,Z0,s,_,k,rfl,W,?_⟩;refine⟨rfl,_,rfl,?_⟩;refine b0 (fun h=>?_) fun h=>?_
 ·rw[aw (bS.mp h)]at q;exact⟨aH,fun D hD=>q.no W ao.refl hD⟩
 have h0:rE s k=0:=qj fun z=>h (bS.mpr z);rw[ak fun z=>h (bS.mpr z)]at q;obtain⟨x,Vr,EW⟩:=sY h0;obtain⟨hx,rfl⟩:=iI Vr;refine⟨A,s,_,x.id,rfl,W,ok,fun D H1 hD k1 g1=>?_⟩;obtain⟨ys,ey,pr⟩:=id g1;have hy:=bZ pr;have W1:=W.aF k1;have vH:¬cR A s D:=W.bR hD;have iA:∀l,(lq x.id l).id=l.id:=fun _=>rfl;have QA:((heldOf s x.id).map (·.1)).Nodup:=by rw[sV];exact hU ok.iK _
 have Pw:∀i,(((heldOf s x.id).map (·.1)).take i).Nodup:=fun i=>QA.sublist (t_ _ _);refine⟨D,rfl,⟨_,bz.of ey⟩,jk ey pr W1 vH (fun i=>(((heldOf s x.id).map (·.1)).take i).foldl (fun t i=>Vbdlal.onLot t i (lq x.id)) s) (by simp) (fun σ=>∃r v4 v5 v6,σ=[some (.ref (A .st)),some (iV x.id),r,some (.ref D),v4,v5,v6]) ⟨_,_,_,_,rfl⟩ (fun i p σ H' hp ⟨r,v4,v5,v6,es⟩ m' W' D' vV=>?_) fun σ H' ⟨r,v4,v5,v6,es⟩ m' W'=>?_⟩
 ·subst es;obtain⟨l,hl,rfl,eP⟩:=sv (dJ hp);have J7:((heldOf s x.id).map (·.1))[i]? =some l.id:=by rw[cO,hp];rfl
  have fi:=si iA (Pw i) hl (eX QA J7);have tU:(((((heldOf s x.id).map (·.1)).take i).foldl (fun t i=>Vbdlal.onLot t i (lq x.id)) s).lots.map (·.id)).Nodup:=by rw[xQ iA (Pw i)];exact ok.iK
  have xx:=ok.lots l hl;have gz:(((heldOf s x.id).map (·.1)).take (i+1)).foldl (fun t i=>Vbdlal.onLot t i (lq x.id)) s=bY ((((heldOf s x.id).map (·.1)).take i).foldl (fun t i=>Vbdlal.onLot t i (lq x.id)) s) (lq x.id l):=by grind[take_succ,dm]
  rw[gz]at vV;revert vV m' W' fi tU;generalize(((heldOf s x.id).map (·.1)).take i).foldl (fun t i=>Vbdlal.onLot t i (lq x.id)) s=t;intro m' W' vV fi tU;obtain⟨kvs,J8,ed⟩:=W'.at_ (.held l.id) ⟨l,fi,rfl⟩ l fi rfl;have ed:H' (A (.held l.id))=some (.dK (kvs.map bg)):=ed;have hv:fS (kvs.map bg) (Sum.inl (x.id:Int))=some (iV (bagOf l.held x.id)):=by
   rw[gy,fU xx.held J8,ak eP];rfl
  refine(gA T W' fi).go ?_;refine⟨_,rfl,E3 W' fi,_,Sum.inl (x.id:Int),_,ed,rfl,hv,?_⟩;rw[uj];have W2:=W'.CM (l':={l with held:=bagDrop l.held x.id}) fi tU rfl rfl rfl (z9 xx.held J8 x.id) rfl;have m2:Moved C A t H' A (bY t {l with held:=bagDrop l.held x.id}) _:=Moved.write (C:=C) (A:=A) (o:= .dK ((jO kvs x.id).map bg)) (t₀:= .held l.id) ⟨l,fi,rfl⟩ bu ed trivial;have BP:({l with held:=bagDrop l.held x.id}:Lot)∈(bY t {l with held:=bagDrop l.held x.id}).lots:=nZ fi rfl;have QZ:((bY t {l with held:=bagDrop l.held x.id}).lots.map (·.id)).Nodup:=by rw[m_];exact tU
  obtain⟨dx,e⟩:=W2.kq BP;refine⟨_,_,_,_,_,rfl,e,T.a_.cl,T.a_.na,rfl,_,_,rfl,rfl,_,_,e,by show 12<1000;decide,?_⟩;rw[xM,eI];have W3:=W2.j9 (l':=lq x.id l) QZ BP rfl rfl rfl (dx:=dx);rw[uQ t (by rfl)]at W3;have m3:Moved C A (bY t {l with held:=bagDrop l.held x.id}) _ A (bY t (lq x.id l)) _:=Moved.write (C:=C) (A:=A) (o:= .ins C.Lot dx (bQ A (lq x.id l))) (t₀:= .lot l.id) ⟨_,BP,rfl⟩ (fun t=>(bu t).trans (bu t).symm) e trivial;exact vV _ _ ⟨_,_,_,_,rfl⟩ (m2.trans m3) W3
 subst es;rw[show(heldOf s x.id).length=((heldOf s x.id).map (·.1)).length by rw[ay],du]at m' W';have Rm:((heldOf s x.id).map (·.1)).foldl (fun t i=>Vbdlal.onLot t i (lq x.id)) s={s with lots:=s.lots.map fun l=>lq x.id l}:=by
  rw[f_ iA _ s QA,map_some];intro l hl hnot;have h0:bagOf l.held x.id=0:=by grind[sV]
  unfold lq;rw[h0,rH (ok.lots l hl).held h0];rfl
 rw[Rm]at m' W';have okt:aM {s with lots:=s.lots.map fun l=>lq x.id l}:=ok.iU (fun l _=>rfl) fun l hl=>⟨jj (ok.lots l hl).held _,(ok.lots l hl).uses,fun p hp=>(ok.lots l hl).hk p (eC.mp hp).1,(ok.lots l hl).uk⟩;have mm:=(Moved.aF (C:=C) (A:=A) (s:=s) k1).trans m';have VS:Got (bK A) H' D (heldOf s x.id):=g1.move bK.mono (fun ys e=>(m'.bR e trivial vH).1) (fun b xs e=>(m'.bR e trivial (W1.fh e fun z=>z)).1);have Lf:=(m'.bR ey trivial vH).2;have g:=W'.lW x.id;have IV:x∈({s with lots:=s.lots.map fun l=>lq x.id l}:bE).sessions:=hx;rw[aw ⟨x,hx,rfl⟩]at g;refine(cU T W').go ?_;refine⟨_,_,rfl,g,?_⟩;obtain⟨dx,e⟩:=W'.Kp IV;refine⟨_,_,_,_,rfl,e,T.b7.cl,T.b7.na,by show 2<1000;decide,?_⟩;rw[ja];have W4:=W'.GQ (x':={x with broken:=false}) IV rfl (dx:=dx);have m4:Moved C A {s with lots:=s.lots.map fun l=>lq x.id l} H' A (sD {s with lots:=s.lots.map fun l=>lq x.id l} {x with broken:=false}) _:=Moved.write (C:=C) (A:=A) (o:= .ins C.f7 dx (uP {x with broken:=false})) (t₀:= .ses x.id) (s:={s with lots:=s.lots.map fun l=>lq x.id l}) ⟨x,IV,rfl⟩ oS e trivial;have Wy:=qY okt IV (fun x=>{x with broken:=false}) rfl;have q:c4 C A s H (onSes {s with lots:=s.lots.map fun l=>lq x.id l} x.id (fun x=>{x with broken:=false}),Vbdlal.rowOf (heldOf s x.id)) Q:=q;rw[Wy]at q;refine⟨A,Z0,_,_,D,_,rfl,W4,VS.move bK.mono (fun ys e=>(m4.bR e trivial Lf).1) (fun b xs e=>(m4.bR e trivial (W'.fh e fun z=>z)).1),fun p hp=>?_,aG (zf ok x.id) (by decide),fun D' jC pV k' e'=>?_⟩
 ·obtain⟨l,hl,rfl,_⟩:=sv hp;exact⟨lq x.id l,aZ.mpr ⟨l,hl,rfl⟩,rfl⟩
 exact q A jC D' ((mm.trans m4).fresh pV) ((mm.trans m4).trans (Moved.aF k')) (W4.aF k') e'
def J2 (l:Lot):Lot:={l with free:=0,thrown:=l.thrown+l.free}
def c6 (s:bE):List (Nat×Nat):=(s.lots.filter fun l=>!Vbdlal.good s.today l&&l.free != 0).map fun l=>(l.id,l.free)
noncomputable def Gr (s:bE)(w i:Nat):bE:={((((c6 s).map (·.1)).take i).foldl (fun t i=>Vbdlal.onLot t i J2) s)with reasons:=addAt s.reasons (w-1) (bagSum ((c6 s).take i))}
def Lz (s:bE):(c6 s).map (·.1)=(s.lots.filter fun l=>!Vbdlal.good s.today l&&l.free != 0).map (·.id):=by
 unfold c6;rw[aV];rfl
def AO {s:bE}(ok:aM s):((c6 s).map (·.1)).Nodup:=by rw[Lz];exact hU ok.iK _
def SY {s:bE}(ok:aM s)(w i:Nat):aM (Gr s w i):=by
 unfold Gr;rw[f_ (f:=J2) (fun _=>rfl) _ s ((AO ok).sublist (t_ _ _))];have h:aM {s with lots:=s.lots.map fun l=>if l.id∈((c6 s).map (·.1)).take i then J2 l else l}:=ok.iU (fun l _=>by by_cases z:l.id∈((c6 s).map (·.1)).take i<;>simp[z]<;>rfl) fun l hl=>by
  by_cases z:l.id∈((c6 s).map (·.1)).take i;rw[aw z];exact(ok.lots l hl).of rfl rfl;rw[ak z];exact ok.lots l hl
 exact h.why (by rw[oF];exact ok.sF)
def OQ (s:bE)(w:Nat):Gr s w 0=s:=by
 unfold Gr;show({s with reasons:=addAt s.reasons (w-1) 0}:bE)=s;rw[yl]
def Px {s:bE}{p:Nat×Nat}(h:p∈c6 s):∃l∈s.lots,p=(l.id,l.free)∧l.free≠0:=by
 obtain⟨l,hl,e⟩:=aZ.mp h;simp_all;grind
def Qi {s:bE}(ok:aM s){w i:Nat}{l:Lot}(hl:l∈s.lots)(h:(c6 s)[i]? =some (l.id,l.free)):l∈(Gr s w i).lots:=by
 have J7:((c6 s).map (·.1))[i]? =some l.id:=by rw[cO,h];rfl
 exact si (f:=J2) (fun _=>rfl) ((AO ok).sublist (t_ _ _)) hl (eX (AO ok) J7)
def NB {s:bE}(ok:aM s){w i:Nat}{l:Lot}(hl:l∈s.lots)(h:(c6 s)[i]? =some (l.id,l.free)):sN (Gr s w i) l l.free w=Gr s w (i+1):=by
 have J7:((c6 s).map (·.1))[i]? =some l.id:=by rw[cO,h];rfl
 have Pw:=(AO ok).sublist (t_ i ((c6 s).map (·.1)));have fi:=si (f:=J2) (fun _=>rfl) Pw hl (eX (AO ok) J7);have tU:(((((c6 s).map (·.1)).take i).foldl (fun t i=>Vbdlal.onLot t i J2) s).lots.map (·.id)).Nodup:=by rw[xQ (f:=J2) (fun _=>rfl) Pw];exact ok.iK
 have e1:(((c6 s).map (·.1)).take (i+1)).foldl (fun t i=>Vbdlal.onLot t i J2) s=bY ((((c6 s).map (·.1)).take i).foldl (fun t i=>Vbdlal.onLot t i J2) s) (J2 l):=by
  rw[gx,J7,DM];exact dm tU fi _ rfl
 have e2:bagSum ((c6 s).take (i+1))=bagSum ((c6 s).take i)+l.free:=by
  unfold bagSum;rw[gx,h,gS,iL];rfl
 unfold Gr sN;rw[e1,e2,←AZ,Nat.sub_self];rfl
def FJ {s:bE}(ok:aM s)(w:Nat):Gr s w (c6 s).length={s with
   lots:=s.lots.map fun l=>if good s.today l=true then l else{l with free:=0,thrown:=l.thrown+l.free}
   reasons:=addAt s.reasons (w-1) (bagSum (c6 s))}:=by
 unfold Gr;rw[du,show(c6 s).length=((c6 s).map (·.1)).length by rw[ay],du,f_ (f:=J2) (fun _=>rfl) _ s (AO ok)];have:(s.lots.map fun l=>if l.id∈(c6 s).map (·.1)then J2 l else l)=s.lots.map fun l=>if good s.today l=true then l else{l with free:=0,thrown:=l.thrown+l.free}:=by
  refine cE fun l hl=>?_;have hm:=oo ok.iK (p:=fun l=>!Vbdlal.good s.today l&&l.free != 0) hl;rw[←Lz]at hm;cases hg:good s.today l with
  | true=>rw[ak (fun z=>by have:=hm.mp z;simp[hg]at this),aw rfl]
  | false=>
   rw[ak (show ¬(false=true) by simp)];by_cases h0:l.free=0
   ·rw[ak (fun z=>by have:=hm.mp z;simp[h0]at this)];cases l;simp_all
   rw[aw (hm.mpr (by simp[hg,h0]))];rfl
 rw[this]
inductive K1 (C:cw)(vs:List V)(H:Hp)(Q:VK)(E:XK):Prop|mk A s (w:Nat):vs=[.ref (A .st),iV w]→Wd C A H s→aM s→Vbdlal.inR w 1 9=true→c4 C A s H (sweepCall s w) Q→K1 C vs H Q E
def Og (T:Txt K mg C):Callee P w K mg base 3 "sweep" ["store","reason"] (K1 C):=by
 refine T.OC.callee E2 fun f0 cg A0 aY s0 H vs Q E hr h=>?_;have nd:=E2.nd;refine⟨_,(ae (iJ (fm (i:=2) rfl nd rfl rfl (gE rfl rfl rfl rfl) (fb (az (pv 0) rfl)) (ba (own:=[("lot",3)]) (show ef ["store","reason","spoiled","lot","swept","count"] (aj wL) _ _=true by decide +kernel)) (fun _ _ _ _ _=>by exact(aC (i:=3) nd)) (fun _ _ _ _ _=>by exact(fC (PW.pt (ua (aD p8 (bA K (pv 3) (by rfl)) ax (aJ _)) (oB (jc (ke K (aI (ue T) hr (aa (pv 3) (aa (bA K (pv 0) (by rfl)) ag))) (fun _=>by rfl)))))))) (fun _ _ _ _ _=>by exact(pv 3))))
  (ae (fm (i:=4) rfl nd rfl rfl (gE rfl rfl rfl rfl) (bf (pv 2)) (ba (own:=[("lot",3)]) (show ef ["store","reason","spoiled","lot","swept","count"] (aj wL) _ _=true by decide +kernel)) (fun _ _ _ _ _=>by exact(aC (i:=3) nd)) (fun _ _ _ _ _=>by exact cB) (fun _ _ _ _ _=>by exact(jb (aa (pv 3) (aa (bA K (pv 3) (by rfl)) ag)))))
  (ae (dM dj rfl (bf (pv 4)) (gT rfl (aT (aC (i:=3) nd) (aT (aC (i:=5) nd) cz))) (ai (dR (aI (sL T) hr (aa (pv 0) (aa (pv 3) (aa (pv 5) (aa (pv 1) ag))))))))
  (ai (au (aI (g8 T) hr (aa (pv 4) ag))))))),w3z ?_⟩;intros;obtain⟨A,s,w,rfl,W,ok,cD,q⟩:=h
 unfold sweepCall at q;rw[ak (by rw[cD];decide)]at q;simp only[cY]at q;have q:c4 C A s H ({s with
  lots:=s.lots.map fun l=>if good s.today l=true then l else{l with free:=0,thrown:=l.thrown+l.free}
  reasons:=addAt s.reasons (w-1) (bagSum (c6 s))},Vbdlal.rowOf (c6 s)) Q:=q
 rw[←FJ ok]at q;obtain⟨Vh,UP⟩:1≤w∧w≤9:=by
  rw[jD]at cD;lia
 refine kS (iP T W rfl ok rfl (aQ.eq fun l=>V.ref (A (.lot l.id))) (fun l=>!Vbdlal.good s.today l&&l.free != 0) (fun l hl Hc Zc Wc hZ hk Ky Kn hy hn=>?_) fun D H1 hD k1 gt=>?_)
 ·refine⟨rfl,(dF T Wc hl).go ?_⟩;refine⟨_,_,rfl,rfl,_,rfl,?_⟩;refine b0 (fun h=>?_) fun h=>?_
  ·have h:=bW h;have eP:l.free≠0:=by lia
   refine(ve T Wc).go ?_;refine⟨A,Zc,s,_,l,s.today,rfl,Wc,hl,_,rfl,?_⟩;cases hg:good s.today l with
   | true=>exact dk (hn (by simp[hg]) _ ao.refl)
   | false=>exact cZ (hy (by simp[hg,eP]) _ _ ao.refl rfl)
  simp_all[ao.refl]
 have W1:=W.aF k1;have dB:∀l∈(s.lots.filter fun l=>!Vbdlal.good s.today l&&l.free != 0),l∈s.lots:=fun l h=>(eC.mp h).1;have hlen:(s.lots.filter fun l=>!Vbdlal.good s.today l&&l.free != 0).length≤256:=aG (fN _ _) ok.gX;refine eY (C:=C) (L:=s.lots.filter fun l=>!Vbdlal.good s.today l&&l.free != 0) (E:=fun(l:Lot) (y:V) (H:Hp)=>bK A (l.id,l.free) y H) (p:=fun _=>true) (F:=fun(l:Lot) y _=>y=V.ref (A (.lot l.id))) (fun _ _ _ _ k h=>bK.mono _ _ _ _ k h) (aQ.eq _) gt (aG hlen (by decide))
  (fun l hl y Hc kc ey Ky Kn hy jx=>?_) fun D2 H2 lr k2 g2=>?_
 ·subst ey;refine⟨rfl,iR ?_⟩;refine(dF T (W1.aF kc) (dB l hl)).go ?_;exact⟨by show 2≤sizeLine;decide,fun t ht=>hy rfl _ _ (ao.new ht) ⟨t,rfl,af⟩⟩
 rw[filter_all]at g2;have g3:Got (bK A) H2 D2 (c6 s):=g2.map (F:=bK A) fun _ _ h=>h;have wu:=k1.trans k2;have W2:=W.aF wu;have vH:¬cR A s D2:=W.bR (k1.back lr);obtain⟨ys,ey,pr⟩:=id g3;refine⟨D2,rfl,⟨_,bz.of ey⟩,jk ey pr W2 vH (Gr s w) (OQ s w) (fun σ=>∃v2 v3 v5,σ=[some (.ref (A .st)),some (iV w),v2,v3,some (.ref D2),v5]) ⟨_,_,_,rfl⟩ (fun i p σ H' hp ⟨v2,v3,v5,es⟩ m' W' D' vV=>?_) fun σ H' ⟨v2,v3,v5,es⟩ m' W'=>?_⟩
 ·subst es;obtain⟨l,hl,rfl,eP⟩:=Px (dJ hp);refine⟨A,Gr s w i,_,l,l.free,w,rfl,W',SY ok w i,Qi ok hl hp,bo _,Vh,UP,fun jC m2 W2=>?_⟩;rw[NB ok hl hp]at m2 W2;simp_all
 subst es;have mm:=(Moved.aF (C:=C) (A:=A) (s:=s) wu).trans m';refine⟨A,Z0,_,_,D2,c6 s,rfl,W',g3.move bK.mono (fun ys e=>(m'.bR e trivial vH).1) (fun b xs e=>(m'.bR e trivial (W2.fh e fun z=>z)).1),fun p hp=>?_,?_,fun D' jC pV k' e'=>?_⟩
 ·obtain⟨l,hl,rfl,_⟩:=Px hp;rw[FJ ok];refine⟨_,aZ.mpr ⟨l,hl,rfl⟩,?_⟩;split<;>rfl
 ·rw[b_];have:(c6 s).length≤256:=by unfold c6;rw[ay];exact hlen
  exact aG (show 1+2*(c6 s).length≤513 by lia) (by decide)
 have ha:(Gr s w (c6 s).length).articles=s.articles:=by rw[FJ ok]
 refine q A jC D' (mm.fresh pV) (mm.trans (Moved.aF k')) ?_ e';show World C A Z0 jC (Gr s w (c6 s).length) (bC (Gr s w (c6 s).length).articles);rw[ha];exact W'.aF k'
def Moved.putL {A A':Tag→Addr}{s s':bE}{H H':Hp}{D:Addr}{acc acc':List V}(m:Moved C A s H A' s' H')(hD:H D=none)(e:H' D=some (.lst acc)):Moved C A s H A' s' (upd H' D (.lst acc')):=
 ⟨fun b o q n h=>by rw[ah (aP q hD)];exact m.keep b o q n h,fun b ps q=>by rw[ah (aP q hD)];exact m.tb b ps q,m.own,m.fix⟩
def World.putL {A:Tag→Addr}{Z:Tag→Option Obj}{s:bE}{M:Nat→dW}{H:Hp}{D:Addr}{acc acc':List V}(W:World C A Z H s M)(hD:¬cR A s D)(e:H D=some (.lst acc)):World C A Z (upd H D (.lst acc')) s M:=
 ⟨W.inj,fun t ht=>(W.at_ t ht).aF (fun o q=>by rw[ah fun z=>hD ⟨t,ht,z.symm⟩];exact q) fun b xs q=>by rw[ah fun z=>by rw[z,e]at q;cases q];exact q,W.tabs.upd e trivial⟩
def Got.putL {α:Type}{E:α→V→Hp→Prop}(hE:aQ E){H:Hp}{D:Addr}{L:List α}{y:V}{a:α}{acc:List V}(e:H D=some (.lst acc))(p:Paired (fun y a=>E a y H) acc L)(h:E a y H):Got E (upd H D (.lst (acc++[y]))) D (L++[a]):=by
 have tm:∀b xs,H b=some (.tup xs)→upd H D (.lst (acc++[y])) b=some (.tup xs):=fun b xs q=>by grind[ah]
 exact⟨_,af,n9 (Paired.tY p fun y a q=>hE a y _ _ tm q) (hE _ _ _ _ tm h)⟩
def Jg {s:bE}(p:Nat×Nat)(t:Tag):bT (dA s p) t↔bT s t:=by
 have h:∀n,(∃l∈(dA s p).lots,l.id=n)↔∃l∈s.lots,l.id=n:=fun n=>by
  rw[uO];constructor;simp;grind;rintro⟨l,hl,e⟩;refine⟨_,aZ.mpr ⟨l,hl,rfl⟩,?_⟩;split<;>omega
 cases t<;>first|exact Iff.rfl|exact h _
theorem dU:∀(ps:List (Nat×Nat)) (s:bE) (t:Tag),bT (ps.foldl dA s) t↔bT s t
 | [],_,_=>Iff.rfl
 | p::ps,s,t=>(dU ps (dA s p) t).trans (Jg p t)
theorem p_ {l:Lot}:∀(ps:List (Nat×Nat)) {s:bE},l∈s.lots→(∀p∈ps,p.1≠l.id)→l∈(ps.foldl dA s).lots
 | [],_,h,_=>h
 | p::ps,s,h,hp=>by
  refine p_ ps ?_ fun q hq=>hp q (cP _ hq);rw[uO];simp;grind
theorem k_:∀(l:List (Nat×Nat)) (n:Nat),(fefo l n).length≤l.length
 | [],_=>bo _
 | (a,f)::r,n=>by
  rw[iZ,dv,cH];have:=k_ r (n-min f n);grind
theorem hW {s:bE}(ok:aM s):∀b:List (Nat×Nat),(picks s b).length≤256*b.length
 | []=>bo _
 | p::b=>by
  have e:picks s (p::b)=fefo ((shelf s p.1).map fun l=>(l.id,l.free)) p.2++picks s b:=rfl;rw[e,dv,cH];have h1:=k_ ((shelf s p.1).map fun l=>(l.id,l.free)) p.2;have h2:=uF ok p.1;have h3:=hW ok b;grind
def MV {s:bE}(ok:aM s)(a:Nat):((shelf s a).map (·.id)).Nodup:=by
 unfold shelf;rw[((cW _).map _).nodup_iff];exact hU ok.iK _
def Mf (a f n:Nat):fefo [(a,f)] n=if min f n=0 then []else [(a,min f n)]:=by
 rw[iZ];show _++([]:List (Nat×Nat))=_;simp
inductive NH (C:cw)(vs:List V)(H:Hp)(Q:VK)(E:XK):Prop|mk A s M b L:vs=[.ref (A .st),.ref b]→World C A Z0 H s M→aM s→Got bG H b L→¬cR A s b→bL L→L.length≤64→(∀D H',H D=none→Moved C A s H A ((picks s L).foldl dA s) H'→World C A Z0 H' ((picks s L).foldl dA s) M→Got (bK A) H' D (picks s L)→Q (.ref D) H')→NH C vs H Q E
def Lu (T:Txt K mg C):Callee P w K mg base 3 "pick" ["store","need"] (NH C):=by
 refine T.P_.callee HI fun f0 cg A0 aY s0 H vs Q E hr h=>?_;have hu:=bt hr;have nd:=HI.nd;refine⟨_,(ae (aN (i:=2) nd (a0 ag))
  (ae (dM dj rfl (bf (pv 1)) (gT rfl (aT (aC (i:=3) nd) (aT (aC (i:=4) nd) cz))) (ae (aN (i:=5) nd (pv 4))
  (ai (dM dj rfl (bf (aI (nN T) hr (aa (pv 0) (aa (pv 3) ag)))) (aC (i:=6) nd) (ae (aN (i:=7) nd (aW (uI rfl) (by rfl) T.Iv boot_min (aa (az (pv 6) rfl) (aa (pv 5) ag))))
  (ai (aU (aD p8 (pv 7) ax (aJ _)) (ae (e_ (pv 6) (pv 7) MW)
  (ae (Cr (i:=5) nd rfl (Or.inl rfl) (pv 7) RQ)
  (ai (dR (yh nJ F8 J_ zS (pv 2) (aa (jb (aa (pv 6) (aa (pv 7) ag))) ag)))))) aB)))))))
  (ai (au (pv 2))))),w2z ?_⟩;intros;obtain⟨A,s,M,b,L,rfl,W,ok,gt,hnb,hL,hL64,q⟩:=h;obtain⟨ys,eb,pr⟩:=id gt;have hy:ys.length=L.length:=bZ pr
 refine⟨by show 0≤sizeLine;decide,fun D hD=>?_⟩;have vH:¬cR A s D:=W.bR hD;have hbD:b≠D:=aP eb hD;have QO:∀ps:List (Nat×Nat),¬cR A (ps.foldl dA s) D:=fun ps ⟨t,ht,z⟩=>vH ⟨t,(dU ps s t).mp ht,z⟩;refine⟨b,rfl,⟨_,bz.of (by rw[ah hbD];exact eb)⟩,?_⟩;refine dS (xs:=ys) (fun i σ H'=>(∃v3 v4 v5 v6 v7,σ=[some (.ref (A .st)),some (.ref b),some (.ref D),v3,v4,v5,v6,v7])∧Moved C A s H A ((picks s (L.take i)).foldl dA s) H'∧World C A Z0 H' ((picks s (L.take i)).foldl dA s) M∧Got (bK A) H' D (picks s (L.take i)))
  ⟨⟨_,_,_,_,_,rfl⟩,Moved.aF (ao.new hD),W.aF (ao.new hD),⟨[],af,.nil⟩⟩ (fun i σ H' hi ⟨_,m,_⟩=>bz.of (m.bR eb trivial hnb).1) (fun i x σ H' hx ⟨⟨v3,v4,v5,v6,v7,es⟩,m,W',g'⟩=>?_) fun σ H' ⟨⟨v3,v4,v5,v6,v7,es⟩,m,W',g'⟩=>?_
 ·subst es;have hi:i<L.length:=by rw[←hy];exact(fu.mp hx).1
  have em:L[i]? =some L[i]:=by simp[hi]
  obtain⟨y,ey,t,rfl,et⟩:=cT pr em;rw[hx]at ey;cases ey;have L9:H' t=some (.tup [iV L[i].1,iV L[i].2]):=(m.bR et trivial (W.fh et fun z=>z)).1;have Qr:=eO (picks s (L.take i)) ok;have eL:L=L.take i++L[i]::L.drop (i+1):=by simp
  have gr:=Dx ok.iK hL eL;refine⟨_,_,rfl,ju.of L9,rfl,_,_,rfl,_,_,rfl,rfl,?_⟩;refine⟨A,Z0,_,M,L[i].1,rfl,W',rfl,Qr,fun D2 H1 lr k1 e1=>?_⟩;rw[gr]at e1;have Sr:D2≠D:=fun z=>by obtain⟨zs,e,_⟩:=g';rw[z,e]at lr;cases lr
  have vV:∀(pre:List (Nat×Nat)) (σ:L2.St) (H':Hp),pre=picks s (L.take (i+1))→(∃v3 v4 v5 v6 v7,σ=[some (.ref (A .st)),some (.ref b),some (.ref D),v3,v4,v5,v6,v7])→Moved C A s H A (pre.foldl dA s) H'→World C A Z0 H' (pre.foldl dA s) M→Got (bK A) H' D pre→
    (∃v3 v4 v5 v6 v7,σ=[some (.ref (A .st)),some (.ref b),some (.ref D),v3,v4,v5,v6,v7])∧Moved C A s H A ((picks s (L.take (i+1))).foldl dA s) H'∧World C A Z0 H' ((picks s (L.take (i+1))).foldl dA s) M∧Got (bK A) H' D (picks s (L.take (i+1))):=by
   rintro pre σ H' rfl h1 h2 h3 h4;exact⟨h1,h2,h3,h4⟩
  have epick:picks s (L.take (i+1))=picks s (L.take i)++fefo ((shelf s L[i].1).map fun l=>(l.id,l.free)) L[i].2:=by grind[Fl]
  have iE:(picks s (L.take i)).length≤256*64:=by grind[hW]
  have hmS:∀l∈shelf s L[i].1,l∈((picks s (L.take i)).foldl dA s).lots:=fun l hl=>by grind[k9]
  have hshn:=MV ok L[i].1;have hshl:=uF ok L[i].1;generalize picks s (L.take i)=pre at *;generalize hn:L[i].2=n at *;generalize ha:L[i].1=a at *;generalize hshE:shelf s a=sh at *;refine⟨D2,rfl,⟨_,bz.of e1⟩,?_⟩;refine dS (xs:=sh.map fun l=>V.ref (A (.lot l.id))) (fun j σ H2=>(∃v6 v7,σ=[some (.ref (A .st)),some (.ref b),some (.ref D),some (iV a),some (iV n),some (iV (n-total ((sh.take j).map (·.free)))),v6,v7])∧Moved C A s H A ((pre++fefo ((sh.take j).map fun l=>(l.id,l.free)) n).foldl dA s) H2∧
    World C A Z0 H2 ((pre++fefo ((sh.take j).map fun l=>(l.id,l.free)) n).foldl dA s) M∧Got (bK A) H2 D (pre++fefo ((sh.take j).map fun l=>(l.id,l.free)) n)∧Fs A H2 D2 sh)
   ⟨⟨_,_,rfl⟩,?_,?_,?_,e1⟩ (fun j σ H2 hj ⟨_,_,_,_,PL⟩=>bz.of PL) (fun j x σ H2 Xe ⟨⟨v6,v7,es⟩,m2,W2,g2,PL⟩=>?_) fun σ H2 ⟨⟨v6,v7,es⟩,m2,W2,g2,PL⟩=>?_
  ·show Moved C A s H A ((pre++[]).foldl dA s) H1;rw[mr];exact m.trans (Moved.aF k1)
  ·show World C A Z0 H1 ((pre++[]).foldl dA s) M;rw[mr];exact W'.aF k1
  ·show Got (bK A) H1 D (pre++[]);rw[mr];exact g'.aF bK.mono k1
  ·subst es;have YE:j<sh.length:=by have:=(fu.mp Xe).1;rw[ay]at this;exact this
   have ej:sh[j]? =some sh[j]:=by simp[YE]
   have M9:x= .ref (A (.lot sh[j].id)):=by rw[cO,ej]at Xe;exact(cV Xe).symm
   subst M9;have Qj:=hmS sh[j] (fL YE);have UI:sh[j].id∉(sh.map (·.id)).take j:=eX hshn (by rw[cO,ej];rfl);have T5:sh[j]∈((pre++fefo ((sh.take j).map fun l=>(l.id,l.free)) n).foldl dA s).lots:=by
    rw[DM];refine p_ _ Qj fun p hp z=>UI ?_;obtain⟨f,hf,_⟩:=sH hp;obtain⟨m,hm,e⟩:=aZ.mp hf;rw[←z,←List.map_take];grind
   have Xx:=eO (pre++fefo ((sh.take j).map fun l=>(l.id,l.free)) n) ok;have IW:sh.take (j+1)=sh.take j++[sh[j]]:=by rw[gx,ej];rfl
   have Uq:total ((sh.take (j+1)).map (·.free))=total ((sh.take j).map (·.free))+sh[j].free:=by
    rw[IW,gS,iL];rfl
   have Vj:fefo ((sh.take (j+1)).map fun l=>(l.id,l.free)) n=fefo ((sh.take j).map fun l=>(l.id,l.free)) n++(if min sh[j].free (n-total ((sh.take j).map (·.free)))=0 then []else [(sh[j].id,min sh[j].free (n-total ((sh.take j).map (·.free))))]):=by
    rw[IW,gS,vL,aV]
    congr 1
    exact Mf _ _ _
   have WT:=k_ ((sh.take j).map fun l=>(l.id,l.free)) n;rw[ay,lz]at WT;generalize total ((sh.take j).map (·.free))=tot at *;generalize fefo ((sh.take j).map fun l=>(l.id,l.free)) n=fj at *;generalize hl:sh[j]=l at *;have ec:(if((n-tot:Nat):Int)<(l.free:Int)then((n-tot:Nat):Int)else(l.free:Int))=((min l.free (n-tot):Nat):Int):=by (clear WT ha hn iE hy hu;(split<;>omega))
   refine(dF T W2 T5).go ?_;refine⟨_,_,rfl,?_⟩;rw[ec];refine⟨_,_,rfl,rfl,_,rfl,?_⟩;refine b0 (fun h=>?_) fun h=>?_
   ·have h:=bW h;have Tv:min l.free (n-tot)≠0:=by lia
    rw[ak Tv]at Vj;obtain⟨dx,e⟩:=W2.kq T5;refine⟨_,_,_,_,_,rfl,e,T.a_.cl,T.a_.na,rfl,_,_,rfl,rfl,_,_,e,by show 12<1000;decide,?_⟩;rw[Oc (Nat.min_le_left _ _),eI];refine⟨_,rfl,_,_,rfl,rfl,?_⟩;have W3:=W2.j9 (l':={l with free:=l.free-min l.free (n-tot)}) Xx.iK T5 rfl rfl rfl (dx:=dx);have m3:Moved C A _ H2 A (bY ((pre++fj).foldl dA s) {l with free:=l.free-min l.free (n-tot)}) _:=Moved.write (C:=C) (A:=A) (o:= .ins C.Lot dx (bQ A {l with free:=l.free-min l.free (n-tot)})) (t₀:= .lot l.id) ⟨l,T5,rfl⟩ bu e trivial;have Vw:bY ((pre++fj).foldl dA s) {l with free:=l.free-min l.free (n-tot)}=(pre++(fj++[(l.id,min l.free (n-tot))])).foldl dA s:=by
     rw[←AS,DM (l':=[(l.id,min l.free (n-tot))])];exact(dm Xx.iK T5 (fun l'=>{l' with free:=l'.free-min l.free (n-tot)}) rfl).symm
    rw[Vw]at m3 W3;have Wm:=m2.trans m3;have g3:Got (bK A) (upd H2 (A (.lot l.id)) (.ins C.Lot dx (bQ A {l with free:=l.free-min l.free (n-tot)}))) D (pre++fj):=g2.move bK.mono (fun ys q=>by rw[ah fun z=>by rw[z,e]at q;cases q];exact q) fun b xs q=>by rw[ah fun z=>by rw[z,e]at q;cases q];exact q
    have Pr:Fs A (upd H2 (A (.lot l.id)) (.ins C.Lot dx (bQ A {l with free:=l.free-min l.free (n-tot)}))) D2 sh:=by grind[ah]
    generalize upd H2 (A (.lot l.id)) (.ins C.Lot dx (bQ A {l with free:=l.free-min l.free (n-tot)}))=H3 at *;obtain⟨acc,eD,X1⟩:=id g3;have haccl:acc.length<sizeLine:=by
     rw[bZ X1,dv];exact fe (show _≤256*64+256 by (clear Tv h ec Uq ha hn hy hu;omega)) (by decide)
    refine⟨.inl ⟨rfl,_,bz.of eD⟩,by show 2≤sizeLine;decide,fun tu htu=>?_⟩;have hDtu:D≠tu:=aP eD htu;have U8:upd H3 tu (.tup [.ref (A (.lot l.id)),iV (min l.free (n-tot))]) D=some (.lst acc):=by rw[ah hDtu];exact eD
    refine⟨D,acc,_,rfl,rfl,U8,haccl,?_⟩;have kt:ao C H3 (upd H3 tu (.tup [.ref (A (.lot l.id)),iV (min l.free (n-tot))])):=ao.new htu;have W4:=(W3.aF kt).putL (acc':=acc++[V.ref tu]) (QO _) U8;have m4:=(Wm.trans (Moved.aF kt)).putL (acc':=acc++[V.ref tu]) hD U8;have g4:=Got.putL (E:=bK A) bK.mono (a:=(l.id,min l.free (n-tot))) (y:=V.ref tu) U8 (Paired.tY X1 fun y a q=>bK.mono a y _ _ (fun b xs z=>kt.at_ b _ z trivial) q) ⟨tu,rfl,af⟩;rw[Vj,Uq];rw[AS]at g4;refine⟨⟨some (V.ref (A (.lot l.id))),some (V.int ((min l.free (n-tot):Nat):Int)),?_⟩,m4,W4,g4,?_⟩
    ·show _=[some (V.ref (A .st)),some (V.ref b),some (V.ref D),some (iV a),some (iV n),some (iV (n-(tot+l.free))),some (V.ref (A (.lot l.id))),some (V.int ((min l.free (n-tot):Nat):Int))];have:V.int (((n-tot:Nat):Int)-((min l.free (n-tot):Nat):Int))=iV (n-(tot+l.free)):=by
      show V.int _=V.int _
      congr 1
      (clear haccl Tv h ec Uq WT ha iE hy hu;omega)
     rw[←this];rfl
    grind[ah]
   have h:=o6 h;have Tv:min l.free (n-tot)=0:=by lia
   rw[aw Tv,mr]at Vj;show(∃v6 v7,_)∧_;rw[Vj,Uq];refine⟨⟨some (V.ref (A (.lot l.id))),some (V.int ((min l.free (n-tot):Nat):Int)),?_⟩,m2,W2,g2,PL⟩;have:n-(tot+l.free)=n-tot:=by (clear ec Uq WT ha iE hy hu;omega)
   rw[this];rfl
  grind
 subst es;rw[hy,du]at m W' g';exact q D H' hD m W' g'
def Ad (s:bE)(a m:Nat)(R:bE×List Int):(if(Vbdlal.art s a).isNone=true then Vbdlal.no s 4 else if(lacking s (needs s.articles a m)).isEmpty=false then Vbdlal.no s 15 else R)=if rF s a m≠0 then(s,[rF s a m])else R:=by
 unfold rF;cases e:Vbdlal.art s a with
 | none=>rfl
 | some x=>cases c:(lacking s (needs s.articles a m)).isEmpty<;>simp<;>rfl
def Ds {s:bE}{a m:Nat}(h:rF s a m=0):∃x∈s.articles,x.id=a:=by grind -ring[rF,Vbdlal.art]
def qw {s:bE}{i:Nat}{f:Lot→Lot}(iA:∀l,(f l).id=l.id)(t:Tag):bT (Vbdlal.onLot s i f) t↔bT s t:=by
 have h:∀n,(∃l∈(Vbdlal.onLot s i f).lots,l.id=n)↔∃l∈s.lots,l.id=n:=fun n=>by
  rw[lE];constructor<;>grind
 cases t<;>first|exact Iff.rfl|exact h _
theorem jl {k:Nat}:∀(ps:List (Nat×Nat)) (s:bE) (t:Tag),bT (ps.foldl (mE k) s) t↔bT s t
 | [],_,_=>Iff.rfl
 | p::ps,s,t=>(jl ps (mE k s p) t).trans (qw (i:=p.1) (f:=fun l=>{l with uses:=bagAdd l.uses k p.2}) (fun _=>rfl) t)
theorem jf {k:Nat}:∀(ps:List (Nat×Nat)) (s:bE) (t:Tag),bT (ps.foldl (j7 k) s) t↔bT s t
 | [],_,_=>Iff.rfl
 | p::ps,s,t=>(jf ps (j7 k s p) t).trans (qw (i:=p.1) (f:=fun l=>{l with held:=bagAdd l.held k p.2}) (fun _=>rfl) t)
theorem pN {k:Nat}:∀(ps:List (Nat×Nat)) (s:bE),(ps.foldl (mE k) s).articles=s.articles
 | [],_=>rfl
 | p::ps,s=>pN ps (mE k s p)
theorem qg {k:Nat}:∀(ps:List (Nat×Nat)) (s:bE),(ps.foldl (j7 k) s).articles=s.articles
 | [],_=>rfl
 | p::ps,s=>qg ps (j7 k s p)
theorem jT:∀(ps:List (Nat×Nat)) (s:bE),(ps.foldl dA s).articles=s.articles
 | [],_=>rfl
 | p::ps,s=>jT ps (dA s p)
def D9 {s:bE}{b:Bag}{p:Nat×Nat}(h:p∈picks s b):(∃l∈s.lots,l.id=p.1)∧p.2≠0:=by
 obtain⟨q,_,hq⟩:=List.mem_flatMap.mp h;obtain⟨f,hf,_,h0⟩:=sH hq;obtain⟨l,hl,e⟩:=aZ.mp hf;exact⟨⟨l,(k9 hl).1,(Prod.mk.inj e).1⟩,h0⟩
def Jm {s:bE}{n:Nat}(h:qE s n=0):∃x,Vbdlal.ses s n=some x∧x.closed=false:=by grind[qE,sY]
inductive Mg (C:cw)(vs:List V)(H:Hp)(Q:VK)(E:XK):Prop|mk A s (k a n:Nat):vs=[.ref (A .st),iV k,iV a,iV n]→Wd C A H s→aM s→(isId k&&(isArt a&&isFew n))=true→c4 C A s H (issueCall s k a n) Q→Mg C vs H Q E
def Oi (T:Txt K mg C):Callee P w K mg base 6 "issue" ["store","number","article","amount"] (Mg C):=by
 refine T.OS.callee CZ fun f0 cg A0 aY s0 H vs Q E hr h=>?_;have hu:=bt hr;have nd:=CZ.nd;refine⟨_,(ae (aN (i:=4) nd (FU (aI (dC T) hr (aa (pv 0) (aa (pv 1) ag))) (yc (aI (mY T) hr (aa (pv 0) (aa (pv 2) (aa (pv 3) ag)))))))
  (ae (aU (aD g0 (pv 4) (aK T.bH rfl) (aJ _)) (ai (au (a0 (aa (pv 4) ag)))) aB)
  (ae (aN (i:=5) nd (aI (Lu T) hr (aa (pv 0) (aa (aI (i5 T) hr (aa (bD hu (az (pv 0) rfl) (pv 2)) (aa (pv 3) ag))) ag))))
  (ae (dM dj rfl (bf (pv 5)) (gT rfl (aT (aC (i:=6) nd) (aT (aC (i:=7) nd) cz))) (ai (dR (aI (n8 T) hr (aa (az (pv 6) rfl) (aa (pv 1) (aa (pv 7) ag)))))))
  (ai (au (aI (g8 T) hr (aa (pv 5) ag)))))))),w4z ?_⟩;intros;obtain⟨A,s,k,a,n,rfl,W,ok,cD,q⟩:=h
 unfold issueCall at q;rw[ak (by rw[cD];decide)]at q;simp only[cY]at q;have hn:n≠0:=by grind[isFew,jD]
 rw[nX,Ad]at q;refine⟨A,Z0,s,_,k,rfl,W,_,rfl,?_⟩;refine b0 (fun h0=>?_) fun h0=>?_
 rotate_left
 ·refine⟨rfl,_,rfl,?_⟩;rw[aw h0]at q;refine b0 (fun h=>?_) fun h=>absurd (bS.mpr h0) h;exact⟨aH,fun D hD=>q.no W ao.refl hD⟩
 rw[ak fun z=>z h0]at q;refine⟨A,s,a,n,rfl,W,ok,hn,fun H1 k1=>?_⟩;refine⟨rfl,_,rfl,?_⟩;refine b0 (fun h=>?_) fun h=>?_
 ·rw[aw (bS.mp h)]at q;exact⟨aH,fun D hD=>q.no W k1 hD⟩
 have h1:rF s a n=0:=qj fun z=>h (bS.mpr z);rw[ak fun z=>z h1,qP]at q;obtain⟨x,hx,rfl⟩:=Ds h1;have W1:=W.aF k1;have g:=W1.fM x.id;rw[aw ⟨x,hx,rfl⟩]at g;refine(bh T W1).go ?_;have Qq:=(hJ (cN ok.c7) x.id n).1;have P0:∃y∈s.sessions,y.id=k:=by
  obtain⟨y,hy,_⟩:=sY h0;exact⟨y,iI hy⟩
 refine⟨_,_,rfl,g,A,Z0,s,x,n,rfl,W1,rfl,ok,hx,hn,fun D1 H2 Ff k2 g2=>?_⟩;have W2:=W1.aF k2;refine⟨A,s,_,D1,_,rfl,W2,ok,g2,W1.bR Ff,Qq,dY ok ⟨x,hx,rfl⟩,fun D H3 hD m3 W3 g3=>?_⟩;have J8:∀p∈picks s (needs s.articles x.id n),(∃l∈s.lots,l.id=p.1)∧p.2≠0:=fun p hp=>D9 hp;have iE:=hW ok (needs s.articles x.id n);have zp:=dY ok (n:=n) ⟨x,hx,rfl⟩;generalize picks s (needs s.articles x.id n)=ps at *;have Qr:=eO ps ok;have vH:¬cR A (ps.foldl dA s) D:=fun⟨t,ht,z⟩=>W2.bR hD ⟨t,(dU ps s t).mp ht,z⟩;have WA:∃y∈(ps.foldl dA s).sessions,y.id=k:=by rw[fZ];exact P0
 have Xc:=jT ps s;have Qj:∀p∈ps,∃l∈(ps.foldl dA s).lots,l.id=p.1:=fun p hp=>(dU ps s (.lot p.1)).mpr (J8 p hp).1;generalize ps.foldl dA s=S at *;obtain⟨ys,ey,pr⟩:=id g3;refine⟨D,rfl,⟨_,bz.of ey⟩,jk ey pr W3 vH (fun i=>(ps.take i).foldl (mE k) S) (by simp) (fun σ=>∃v4 v6 v7,σ=[some (.ref (A .st)),some (iV k),some (iV x.id),some (iV n),v4,some (.ref D),v6,v7]) ⟨_,_,_,rfl⟩ (fun i p σ H' hp ⟨v4,v6,v7,es⟩ m' W' D' vV=>?_) fun σ H' ⟨v4,v6,v7,es⟩ m' W'=>?_⟩
 ·subst es;have EI:=dJ hp;obtain⟨l,fi,el⟩:=(jl (k:=k) (ps.take i) S (.lot p.1)).mpr (Qj p EI);have uy:=lM (k:=k) (ps.take i) Qr WA;have gz:(ps.take (i+1)).foldl (mE k) S=bY ((ps.take i).foldl (mE k) S) {l with uses:=bagAdd l.uses k p.2}:=by
   rw[gx,hp,DM];show mE k ((ps.take i).foldl (mE k) S) p=_;unfold mE;rw[←el];exact dm uy.iK fi _ rfl
  rw[gz]at vV;revert vV m' W' fi uy;generalize(ps.take i).foldl (mE k) S=t;intro m' W' vV fi uy;have xx:=uy.lots l fi;obtain⟨kvs,F_,ed⟩:=W'.at_ (.used l.id) ⟨l,fi,rfl⟩ l fi rfl;have ed:H' (A (.used l.id))=some (.dK (kvs.map bg)):=ed;rw[←el];refine(eV T W' fi).go ?_;refine⟨_,kvs,k,p.2,rfl,ed,by rw[F_.length_eq];exact fe (fB uy fi).1 (by decide),?_⟩;rw[yz xx.uses F_];have W3:=W'.setUsed (l':={l with uses:=bagAdd l.uses k p.2}) fi uy.iK rfl rfl rfl (xN xx.uses F_ k _ (J8 p EI).2) rfl;have m3:Moved C A t H' A (bY t {l with uses:=bagAdd l.uses k p.2}) _:=Moved.write (C:=C) (A:=A) (o:= .dK ((dput kvs k (bagOf l.uses k+p.2)).map bg)) (t₀:= .used l.id) ⟨l,fi,rfl⟩ bu ed trivial;simp_all
 subst es;rw[du]at m' W';have mm:=((Moved.aF (C:=C) (A:=A) (s:=s) (k1.trans k2)).trans m3).trans m';refine⟨A,Z0,_,_,D,ps,rfl,W',g3.move bK.mono (fun ys e=>(m'.bR e trivial vH).1) (fun b xs e=>(m'.bR e trivial (W3.fh e fun z=>z)).1),fun p hp=>?_,?_,fun D' jC pV k' e'=>?_⟩;exact(jl (k:=k) ps S (.lot p.1)).mpr (Qj p hp)
 ·rw[b_];exact aG (show _≤1+2*(256*64) by lia) (by decide)
 refine q A jC D' (mm.fresh pV) (mm.trans (Moved.aF k')) ?_ e';show World C A Z0 jC (ps.foldl (mE k) S) (bC (ps.foldl (mE k) S).articles);rw[pN,Xc];exact W'.aF k'
inductive Fz (C:cw)(vs:List V)(H:Hp)(Q:VK)(E:XK):Prop|mk A s (k a n:Nat):vs=[.ref (A .st),iV k,iV a,iV n]→Wd C A H s→aM s→(isId k&&(isArt a&&isFew n))=true→c4 C A s H (reserveCall s k a n) Q→Fz C vs H Q E
def JV (T:Txt K mg C):Callee P w K mg base 6 "reserve" ["store","number","article","amount"] (Fz C):=by
 refine T.Je.callee x_ fun f0 cg A0 aY s0 H vs Q E hr h=>?_;have hu:=bt hr;have nd:=x_.nd;refine⟨_,(ae (aN (i:=4) nd (FU (aI (gd T) hr (aa (pv 0) (aa (pv 1) ag))) (yc (aI (mY T) hr (aa (pv 0) (aa (pv 2) (aa (pv 3) ag)))))))
  (ae (aU (aD g0 (pv 4) (aK T.bH rfl) (aJ _)) (ai (au (a0 (aa (pv 4) ag)))) aB)
  (ae (aN (i:=5) nd (aI (Lu T) hr (aa (pv 0) (aa (aI (i5 T) hr (aa (bD hu (az (pv 0) rfl) (pv 2)) (aa (pv 3) ag))) ag))))
  (ae (dM dj rfl (bf (pv 5)) (gT rfl (aT (aC (i:=6) nd) (aT (aC (i:=7) nd) cz))) (ai (dR (aI (n8 T) hr (aa (az (pv 6) rfl) (aa (pv 1) (aa (pv 7) ag)))))))
  (ai (au (aI (g8 T) hr (aa (pv 5) ag)))))))),w4z ?_⟩;intros;obtain⟨A,s,k,a,n,rfl,W,ok,cD,q⟩:=h
 unfold reserveCall at q;rw[ak (by rw[cD];decide)]at q;simp only[cY]at q;have hn:n≠0:=by grind[isFew,jD]
 rw[yJ,Ad]at q;refine⟨A,Z0,s,_,k,rfl,W,_,rfl,?_⟩;refine b0 (fun h0=>?_) fun h0=>?_
 rotate_left
 ·refine⟨rfl,_,rfl,?_⟩;rw[aw h0]at q;refine b0 (fun h=>?_) fun h=>absurd (bS.mpr h0) h;exact⟨aH,fun D hD=>q.no W ao.refl hD⟩
 rw[ak fun z=>z h0]at q;refine⟨A,s,a,n,rfl,W,ok,hn,fun H1 k1=>?_⟩;refine⟨rfl,_,rfl,?_⟩;refine b0 (fun h=>?_) fun h=>?_
 ·rw[aw (bS.mp h)]at q;exact⟨aH,fun D hD=>q.no W k1 hD⟩
 have h1:rF s a n=0:=qj fun z=>h (bS.mpr z);rw[ak fun z=>z h1,qL]at q;obtain⟨x,hx,rfl⟩:=Ds h1;have W1:=W.aF k1;have g:=W1.fM x.id;rw[aw ⟨x,hx,rfl⟩]at g;refine(bh T W1).go ?_;have Qq:=(hJ (cN ok.c7) x.id n).1;have P0:∃y∈s.sessions,y.id=k:=by
  obtain⟨y,hy,_⟩:=Jm h0;exact⟨y,iI hy⟩
 refine⟨_,_,rfl,g,A,Z0,s,x,n,rfl,W1,rfl,ok,hx,hn,fun D1 H2 Ff k2 g2=>?_⟩;have W2:=W1.aF k2;refine⟨A,s,_,D1,_,rfl,W2,ok,g2,W1.bR Ff,Qq,dY ok ⟨x,hx,rfl⟩,fun D H3 hD m3 W3 g3=>?_⟩;have J8:∀p∈picks s (needs s.articles x.id n),(∃l∈s.lots,l.id=p.1)∧p.2≠0:=fun p hp=>D9 hp;have iE:=hW ok (needs s.articles x.id n);have zp:=dY ok (n:=n) ⟨x,hx,rfl⟩;generalize picks s (needs s.articles x.id n)=ps at *;have Qr:=eO ps ok;have vH:¬cR A (ps.foldl dA s) D:=fun⟨t,ht,z⟩=>W2.bR hD ⟨t,(dU ps s t).mp ht,z⟩;have WA:∃y∈(ps.foldl dA s).sessions,y.id=k:=by rw[fZ];exact P0
 have Xc:=jT ps s;have Qj:∀p∈ps,∃l∈(ps.foldl dA s).lots,l.id=p.1:=fun p hp=>(dU ps s (.lot p.1)).mpr (J8 p hp).1;generalize ps.foldl dA s=S at *;obtain⟨ys,ey,pr⟩:=id g3;refine⟨D,rfl,⟨_,bz.of ey⟩,jk ey pr W3 vH (fun i=>(ps.take i).foldl (j7 k) S) (by simp) (fun σ=>∃v4 v6 v7,σ=[some (.ref (A .st)),some (iV k),some (iV x.id),some (iV n),v4,some (.ref D),v6,v7]) ⟨_,_,_,rfl⟩ (fun i p σ H' hp ⟨v4,v6,v7,es⟩ m' W' D' vV=>?_) fun σ H' ⟨v4,v6,v7,es⟩ m' W'=>?_⟩
 ·subst es;have EI:=dJ hp;obtain⟨l,fi,el⟩:=(jf (k:=k) (ps.take i) S (.lot p.1)).mpr (Qj p EI);have uy:=lU (k:=k) (ps.take i) Qr WA;have gz:(ps.take (i+1)).foldl (j7 k) S=bY ((ps.take i).foldl (j7 k) S) {l with held:=bagAdd l.held k p.2}:=by
   rw[gx,hp,DM];show j7 k ((ps.take i).foldl (j7 k) S) p=_;unfold j7;rw[←el];exact dm uy.iK fi _ rfl
  rw[gz]at vV;revert vV m' W' fi uy;generalize(ps.take i).foldl (j7 k) S=t;intro m' W' vV fi uy;have xx:=uy.lots l fi;obtain⟨kvs,F_,ed⟩:=W'.at_ (.held l.id) ⟨l,fi,rfl⟩ l fi rfl;have ed:H' (A (.held l.id))=some (.dK (kvs.map bg)):=ed;rw[←el];refine(gA T W' fi).go ?_;refine⟨_,kvs,k,p.2,rfl,ed,by rw[F_.length_eq];exact fe (fB uy fi).2 (by decide),?_⟩;rw[yz xx.held F_];have W3:=W'.CM (l':={l with held:=bagAdd l.held k p.2}) fi uy.iK rfl rfl rfl (xN xx.held F_ k _ (J8 p EI).2) rfl;have m3:Moved C A t H' A (bY t {l with held:=bagAdd l.held k p.2}) _:=Moved.write (C:=C) (A:=A) (o:= .dK ((dput kvs k (bagOf l.held k+p.2)).map bg)) (t₀:= .held l.id) ⟨l,fi,rfl⟩ bu ed trivial;simp_all
 subst es;rw[du]at m' W';have mm:=((Moved.aF (C:=C) (A:=A) (s:=s) (k1.trans k2)).trans m3).trans m';refine⟨A,Z0,_,_,D,ps,rfl,W',g3.move bK.mono (fun ys e=>(m'.bR e trivial vH).1) (fun b xs e=>(m'.bR e trivial (W3.fh e fun z=>z)).1),fun p hp=>?_,?_,fun D' jC pV k' e'=>?_⟩;exact(jf (k:=k) ps S (.lot p.1)).mpr (Qj p hp)
 ·rw[b_];exact aG (show _≤1+2*(256*64) by lia) (by decide)
 refine q A jC D' (mm.fresh pV) (mm.trans (Moved.aF k')) ?_ e';show World C A Z0 jC (ps.foldl (j7 k) S) (bC (ps.foldl (j7 k) S).articles);rw[qg,Xc];exact W'.aF k'
def qQ (A:Tag→Addr)(t₀:Tag)(d:Addr):Tag→Addr:=fun t=>if t=t₀ then d else A t
theorem lH (A:Tag→Addr)(t:Tag)(d:Addr):qQ A t d t=d:=aw rfl
def qU {A:Tag→Addr}{t t₀:Tag}{d:Addr}(h:t≠t₀):qQ A t₀ d t=A t:=ak h
section
variable{A:Tag→Addr}{H:Hp}{s:bE}{M:Nat→dW}{l l':Lot}{dx d:Addr}
theorem World.Bu (W:World C A Z0 H s M)(hl:l∈s.lots)(iA:l'.id=l.id)(hh:l'.held=[])(hu:l'.uses=l.uses)(hd:H d=none):
  World C (qQ A (.held l.id) d) Z0 (upd (upd H d (.dK [])) (A (.lot l.id)) (.ins C.Lot dx (bQ (qQ A (.held l.id) d) l'))) (bY s l') M:=by
 have W0:=W.aF (ao.new (C:=C) (o:= .dK []) hd);obtain⟨XJ,e0⟩:=W0.kq hl;have eP:∀t,bT s t→A t≠d:=fun t ht z=>by
  obtain⟨o,q,_⟩:=(W.at_ t ht).some ht;simp_all
 have hA:∀t,t≠ .held l.id→qQ A (.held l.id) d t=A t:=fun t ht=>qU ht;have Yt:bT s (.lot l.id):=⟨l,hl,rfl⟩;refine⟨fun t t' h h' e=>?_,fun t ht=>?_,W0.tabs.upd e0 trivial⟩
 ·have h:=(bu t).mp h;have h':=(bu t').mp h';by_cases e1:t= .held l.id;grind[lH];by_cases e2:t'= .held l.id;simp_all[lH];rw[hA t e1,hA t' e2]at e;exact W.inj t t' h h' e
 have oZ:=(bu t).mp ht;by_cases e1:t= .lot l.id
 ·subst e1;intro m hm e;rcases dE hm with z|⟨hm,z⟩;simp_all[af];lia
 by_cases e2:t= .held l.id
 ·subst e2;intro m hm e;rcases dE hm with z|⟨hm,z⟩
  ·rw[z,hh,lH];refine⟨[],.nil,?_⟩;rw[ah (fun z=>eP _ Yt z.symm),af];rfl
  lia
 have h1:At C A Z0 (upd (upd H d (.dK [])) (A (.lot l.id)) (.ins C.Lot dx (bQ (qQ A (.held l.id) d) l'))) s M t:=(W0.at_ t oZ).aF (fun o q=>by rw[ah fun z=>e1 (W.inj t _ oZ Yt z)];exact q) fun b xs q=>by rw[ah fun z=>by rw[z,e0]at q;cases q];exact q
 cases t with
 | st=>
  obtain⟨x,q⟩:=h1;refine⟨x,?_⟩;have:Ci (qQ A (.held l.id) d) (bY s l').today=Ci A s.today:=by rfl
  trivial
 | ad=>
  obtain⟨ord,p,q⟩:=h1;refine⟨ord,p,?_⟩;trivial
 | ld=>
  show _=some (fz _ (.dK ((bY s l').lots.map fun l_1=>(Sum.inl (l_1.id:Int),V.ref (qQ A (.held l.id) d (.lot l_1.id))))));rw[oE (qQ A (.held l.id) d)];have:(fun(a:Lot)=>((Sum.inl (a.id:Int):Key),V.ref (qQ A (.held l.id) d (.lot a.id))))=fun(a:Lot)=>((Sum.inl (a.id:Int):Key),V.ref (A (.lot a.id))):=funext fun a=>by rw[hA _ (by simp)]
  rw[this,hA _ (by simp)];exact h1
 | sd=>
  obtain⟨ord,p,q⟩:=h1;refine⟨ord,p,?_⟩;trivial
 | th=>show _=_;rw[hA _ (by simp)];exact h1
 | art n=>
  intro x hx e;obtain⟨dx,q⟩:=h1 x hx e;have:jA (qQ A (.held l.id) d) x=jA A x:=by unfold jA;rw[hA _ (by simp),hA _ (by simp)]
  (constructor<;>assumption)
 | part n=>intro x hx e;rw[hA _ (by simp)];exact h1 x hx e
 | dw n=>
  obtain⟨dx,q⟩:=h1;refine⟨dx,?_⟩;trivial
 | need n=>show gO _ _ _ _;rw[hA _ (by simp)];exact h1
 | lot n=>
  intro m hm e;rcases dE hm with z|⟨hm,z⟩;lia;obtain⟨dx,q⟩:=h1 m hm e;have:bQ (qQ A (.held l.id) d) m=bQ A m:=by unfold bQ;rw[hA _ (by intro y;rw[iA]at z;exact z (Tag.held.inj y)),hA _ (by simp)]
  simp_all
 | held n=>
  intro m hm e;rcases dE hm with z|⟨hm,z⟩;lia;rw[hA _ e2];exact h1 m hm e
 | used n=>
  intro m hm e;rw[hA _ (by simp)];rcases dE hm with z|⟨hm,z⟩;rw[z,hu];exact h1 l hl (by rw[←iA,←z];exact e);exact h1 m hm e
 | ses n=>intro x hx e;rw[hA _ (by simp)];exact h1 x hx e
def Moved.Bu (W:World C A Z0 H s M)(hl:l∈s.lots){o:HO}(hd:H d=none):Moved C A s H (qQ A (.held l.id) d) (bY s l') (upd (upd H d (.dK [])) (A (.lot l.id)) o):=by
 obtain⟨XJ,e0⟩:=W.kq hl;refine⟨fun b ob e _ hb=>?_,fun b ps e=>⟨ps,?_⟩,fun t ht=>?_,fun t ht hf=>⟨?_,(bu t).mpr ht⟩⟩;rw[ah fun z=>hb ⟨.lot l.id,⟨l,hl,rfl⟩,z⟩,ah (aP e hd)];exact e;grind[ah]
 ·by_cases e1:t= .held l.id
  ·rw[e1,lH];exact .inr hd
  rw[qU e1];exact .inl ⟨t,(bu t).mp ht,rfl⟩
 exact qU fun z=>by rw[z]at hf;exact hf
end
theorem mW {α β γ:Type}{R:γ→β→Prop}{f:α→γ}:∀{l:List α} {m:List β},Paired (fun a b=>R (f a) b) l m→Paired R (l.map f) m
 | _,_,.nil=> .nil
 | _,_,.cons r t=> .cons r (mW t)
def gJ (i:Nat)(t:bE)(p:Nat×Nat):bE:=onSes (Vbdlal.onLot t i fun m=>{m with free:=m.free+p.2}) p.1 fun x=>{x with broken:=true}
def qv (i:Nat):∀(ps:List (Nat×Nat)) (s:bE),ps.foldl (gJ i) s={s with lots:=s.lots.map fun m=>if(m.id==i)=true then{m with free:=m.free+bagSum ps}else m,sessions:=s.sessions.map fun x=>if x.id∈keys ps then{x with broken:=true}else x}
 | [],s=>by
  have h1:(s.lots.map fun m=>if(m.id==i)=true then{m with free:=m.free+bagSum []}else m)=s.lots:=by
   conv=>rhs;rw[←jm s.lots]
   refine cE fun m _=>?_;by_cases z:(m.id==i)=true;rw[aw z];rfl;simp_all
  simp_all
 | p::ps,s=>by
  rw[gZ,qv i ps];unfold gJ onSes Vbdlal.onLot;dsimp only;rw[aV,aV]
  congr 1
  ·refine cE fun m _=>?_;simp only[Function.comp];by_cases z:(m.id==i)=true
   ·rw[aw z,aw (by exact z),aw z];show({m with free:=m.free+p.2+bagSum ps}:Lot)={m with free:=m.free+bagSum (p::ps)};have:bagSum (p::ps)=p.2+bagSum ps:=rfl;grind -ring
   simp_all
  grind[List.map_congr_left]
def Gn {s:bE}{i:Nat}{f:Ses→Ses}(iA:∀l,(f l).id=l.id)(t:Tag):bT (onSes s i f) t↔bT s t:=by
 have h:∀n,(∃l∈(onSes s i f).sessions,l.id=n)↔∃l∈s.sessions,l.id=n:=fun n=>by
  show(∃l∈s.sessions.map _,_)↔_;constructor<;>grind
 cases t<;>first|exact Iff.rfl|exact h _
def Gg (i:Nat)(s:bE)(p:Nat×Nat)(t:Tag):bT (gJ i s p) t↔bT s t:=(Gn (f:=fun x=>{x with broken:=true}) (fun _=>rfl) t).trans (qw (f:=fun m=>{m with free:=m.free+p.2}) (fun _=>rfl) t)
theorem f9 (i:Nat):∀(ps:List (Nat×Nat)) (s:bE) (t:Tag),bT (ps.foldl (gJ i) s) t↔bT s t
 | [],_,_=>Iff.rfl
 | p::ps,s,t=>(f9 i ps (gJ i s p) t).trans (Gg i s p t)
def L3 {s:bE}(ok:aM s)(i:Nat)(p:Nat×Nat):aM (gJ i s p):=by
 have h1:aM (Vbdlal.onLot s i fun m=>{m with free:=m.free+p.2}):=ok.onLot (fun _=>rfl) fun l hl _=>(ok.lots l hl).of rfl rfl;refine h1.yU (f:=fun x=>if(x.id==p.1)=true then{x with broken:=true}else x) fun m=>?_;split<;>rfl
theorem jX (i:Nat):∀(ps:List (Nat×Nat)) {s:bE},aM s→aM (ps.foldl (gJ i) s)
 | [],_,h=>h
 | p::ps,_,h=>jX i ps (L3 h i p)
inductive BE (C:cw)(vs:List V)(H:Hp)(Q:VK)(E:XK):Prop|mk A s M l:vs=[.ref (A .st),.ref (A (.lot l.id))]→World C A Z0 H s M→aM s→l∈s.lots→(∀A' D H',H D=none→¬cR A' (dropWhere (among [l.id]) s) D→Moved C A s H A' (dropWhere (among [l.id]) s) H'→World C A' Z0 H' (dropWhere (among [l.id]) s) M→Got bG H' D l.held→Q (.ref D) H')→BE C vs H Q E
def mX (T:Txt K mg C):Callee P w K mg base 1 "drop_held" ["store","lot"] (BE C):=by
 refine T.DQ.callee su fun f0 cg A0 aY s0 H vs Q E hr h=>?_;have hu:=bt hr;have nd:=su.nd;refine⟨_,(ae (aN (i:=2) nd (aW (zc rfl) (by rfl) T.gQ nV (aa (zg (az (pv 1) rfl)) ag)))
  (ae (dM dj rfl (bf (pv 2)) (gT rfl (aT (aC (i:=3) nd) (aT (aC (i:=4) nd) cz))) (ae (e_ (pv 1) (pv 4) m8)
  (ae (aN (i:=5) nd (bD hu (az (pv 0) rfl) (pv 3)))
  (ai (bO (pv 5) gG rfl)))))
  (ae (bO (pv 1) gN rfl)
  (ai (au (pv 2)))))),w3z ?_⟩;intros;obtain⟨A,s,M,l,rfl,W,ok,hl,q⟩:=h
 obtain⟨kvs,hp,ed⟩:=W.at_ (.held l.id) ⟨_,hl,rfl⟩ _ hl rfl;have ed:H (A (.held l.id))=some (.dK (kvs.map bg)):=ed;have xx:=ok.lots l hl;refine(gA T W hl).go ?_;refine⟨_,_,rfl,ed,fun v hv=>?_⟩;have kv:ao C H (upd H v (iH "dict_items" v (A (.held l.id)))):=ao.new hv;refine⟨v,A (.held l.id),kvs,rfl,af,kv.at_ _ _ ed trivial,fun H2 D ts qA sm hD Ul zU eD pr=>?_⟩;have k2:=kv.trans (ao.same (C:=C) sm);have K_:=kv.back hD;have Tc:qA=l.held:=qO xx.held (Ul.trans hp) zU;subst Tc;have W2:=W.aF k2;have vH:¬cR A s D:=W.bR K_;have QO:∀i (ps:List (Nat×Nat)),¬cR A (ps.foldl (gJ i) s) D:=fun i ps ⟨t,ht,z⟩=>vH ⟨t,(f9 i ps s t).mp ht,z⟩;have oZ:ts.length=l.held.length:=bZ pr;refine⟨D,rfl,⟨_,bz.of eD⟩,?_⟩;refine dS (xs:=ts.map V.ref) (fun i σ H'=>(∃v3 v4 v5,σ=[some (.ref (A .st)),some (.ref (A (.lot l.id))),some (.ref D),v3,v4,v5])∧Moved C A s H2 A ((l.held.take i).foldl (gJ l.id) s) H'∧World C A Z0 H' ((l.held.take i).foldl (gJ l.id) s) M)
  ⟨⟨_,_,_,rfl⟩,Moved.aF ao.refl,W2⟩ (fun i σ H' hi ⟨_,m,_⟩=>bz.of (m.bR eD trivial vH).1) (fun i x σ H' hx ⟨⟨v3,v4,v5,es⟩,m,W'⟩=>?_) fun σ H' ⟨⟨v3,v4,v5,es⟩,m,W'⟩=>?_
 ·subst es;have hi:i<l.held.length:=by rw[←oZ];have:=(fu.mp hx).1;rw[ay]at this;exact this
  have em:l.held[i]? =some l.held[i]:=by simp[hi]
  obtain⟨t,ety,et⟩:=cT pr em;have hxt:x= .ref t:=by rw[cO,ety]at hx;exact(cV hx).symm
  subst hxt;have L9:H' t=some (.tup [iV l.held[i].1,iV l.held[i].2]):=(m.bR et trivial (W2.fh et fun z=>z)).1;have uy:=jX l.id (l.held.take i) ok;obtain⟨x,IV,ex⟩:=(f9 l.id (l.held.take i) s (.ses l.held[i].1)).mpr (xx.hk _ (fL hi));obtain⟨y,hy,ey⟩:=(f9 l.id (l.held.take i) s (.lot l.id)).mpr ⟨l,hl,rfl⟩;have gz:(l.held.take (i+1)).foldl (gJ l.id) s=gJ l.id ((l.held.take i).foldl (gJ l.id) s) l.held[i]:=by grind[take_succ]
  rw[gz];generalize(l.held.take i).foldl (gJ l.id) s=S at *;generalize l.held[i]=p at *;have pX:gJ l.id S p=sD (bY S {y with free:=y.free+p.2}) {x with broken:=true}:=by
   unfold gJ;rw[←ey,dm uy.iK hy _ rfl,←ex];exact qY (NV (l':={y with free:=y.free+p.2}) uy hy rfl ((uy.lots y hy).of rfl rfl)) IV (fun x=>{x with broken:=true}) rfl
  rw[pX];refine⟨_,_,rfl,ju.of L9,rfl,_,_,rfl,_,_,rfl,rfl,?_⟩;obtain⟨dx,e⟩:=W'.kq hy;rw[←ey];refine⟨_,_,_,_,_,rfl,e,T.a_.cl,T.a_.na,rfl,_,_,rfl,rfl,_,_,e,by show 12<1000;decide,?_⟩;rw[xM,eI];have W3:=W'.j9 (l':={y with free:=y.free+p.2}) uy.iK hy rfl rfl rfl (dx:=dx);have m3:Moved C A S H' A (bY S {y with free:=y.free+p.2}) _:=Moved.write (C:=C) (A:=A) (o:= .ins C.Lot dx (bQ A {y with free:=y.free+p.2})) (t₀:= .lot y.id) ⟨y,hy,rfl⟩ bu e trivial;have g:=W3.lW p.1;rw[aw ⟨x,IV,ex⟩]at g;refine(cU T W3).go ?_;refine⟨_,_,rfl,g,?_⟩;obtain⟨XX,e2⟩:=W3.Kp (x:=x) IV;rw[←ex];refine⟨_,_,_,_,rfl,e2,T.b7.cl,T.b7.na,by show 2<1000;decide,?_⟩;rw[ja];have W4:=W3.GQ (x:=x) (x':={x with broken:=true}) IV rfl (dx:=XX);have m4:Moved C A (bY S {y with free:=y.free+p.2}) _ A (sD (bY S {y with free:=y.free+p.2}) {x with broken:=true}) _:=Moved.write (C:=C) (A:=A) (o:= .ins C.f7 XX (uP {x with broken:=true})) (t₀:= .ses x.id) (s:=bY S {y with free:=y.free+p.2}) ⟨x,IV,rfl⟩ oS e2 trivial;exact⟨⟨_,_,_,rfl⟩,(m.trans m3).trans m4,W4⟩
 subst es;rw[ay,oZ,du]at m W';have uy:=jX l.id l.held ok;have hnF:=QO l.id l.held;have Wr:({l with free:=l.free+bagSum l.held}:Lot)∈(l.held.foldl (gJ l.id) s).lots:=by
  rw[qv];simp;grind
 have T1:bY (l.held.foldl (gJ l.id) s) {l with free:=l.free+bagSum l.held,held:=[]}=dropWhere (among [l.id]) s:=by
  rw[drop_one s hl ok.iK,qv];unfold bY Vbdlal.onLot;dsimp only;rw[aV]
  congr 1
  refine cE fun m hm=>?_;simp only[Function.comp];by_cases z:(m.id==l.id)=true
  ·have:m=l:=kj ok.iK hm hl (eq_of_beq z);lia
  (split<;>grind)
 generalize l.held.foldl (gJ l.id) s=S at *;obtain⟨dx,e⟩:=W'.kq Wr;have e:H' (A (.lot l.id))=some (.ins C.Lot dx (bQ A {l with free:=l.free+bagSum l.held})):=e;intro d hd;have UM:A (.lot l.id)≠d:=aP e hd;refine⟨_,_,_,_,rfl,by rw[ah UM];exact e,T.a_.cl,T.a_.na,by show 12<1000;decide,?_⟩;have ep:dZ "held" (V.ref d) (bQ A {l with free:=l.free+bagSum l.held})=bQ (qQ A (.held l.id) d) {l with free:=l.free+bagSum l.held,held:=[]}:=by
  unfold bQ;rw[show qQ A (.held l.id) d (.held l.id)=d from lH _ _ _,show qQ A (.held l.id) d (.used l.id)=A (.used l.id)from qU (by simp)];rfl
 rw[ep];have W5:=W'.Bu (l':={l with free:=l.free+bagSum l.held,held:=[]}) (dx:=dx) Wr rfl rfl rfl hd;have m5:Moved C A S H' (qQ A (.held l.id) d) (bY S {l with free:=l.free+bagSum l.held,held:=[]}) _:=Moved.Bu (l:={l with free:=l.free+bagSum l.held}) (o:= .ins C.Lot dx (bQ (qQ A (.held l.id) d) {l with free:=l.free+bagSum l.held,held:=[]})) W' Wr hd;rw[T1]at W5 m5;have mm:=m.trans m5;have Rw:=mm.bR eD trivial vH;refine q _ D _ K_ Rw.2 ((Moved.aF k2).trans mm) W5 ⟨_,Rw.1,?_⟩;exact mW (Paired.tY pr fun t p h=>⟨t,rfl,(mm.bR h trivial (W2.fh h fun z=>z)).1⟩)
end
section
variable{P:Program}{w:PySem.World}{K:Frag}{mg:Str→Option Value}{base:Heap}{C:cw}
def lD {H:Hp}{D:Addr}{ps:List (Nat×Nat)}(g:Got bG H D ps):Got jY H D (ps.map fun p=>[(p.1:Int),(p.2:Int)]):=g.map (F:=jY) (f:=fun(p:Nat×Nat)=>[(p.1:Int),(p.2:Int)]) fun _ _ h=>h
def kW {H:Hp}{D:Addr}{ts:List Addr}{ps:List (Nat×Nat)}(e:H D=some (.lst (ts.map V.ref)))(pr:Paired (fun t (p:Nat×Nat)=>H t=some (.tup [iV p.1,iV p.2])) ts ps):Got bG H D ps:=⟨_,e,mW (Paired.tY pr fun t p h=>⟨t,rfl,h⟩)⟩
def se {s:bE}(ok:aM s){x:Lot}(hx:x∈s.lots):bY (dropWhere (among [x.id]) s) {x with free:=x.free+bagSum x.held,held:=[],called:=true}=callBack (fun y=>y.id==x.id) s:=by
 have e1:dropWhere (fun y=>y.id==x.id) s=dropWhere (among [x.id]) s:=iz fun l _=>by (simp[among];rfl)
 unfold callBack;rw[e1,drop_one s hx ok.iK];unfold bY Vbdlal.onLot;dsimp only;rw[aV,aV]
 congr 1
 refine cE fun m hm=>?_;simp only[Function.comp];by_cases z:(m.id==x.id)=true
 ·have:m=x:=kj ok.iK hm hx (eq_of_beq z);simp_all
 simp_all
def B7 {s:bE}(ok:aM s){x:Lot}(hx:x∈s.lots):({x with free:=x.free+bagSum x.held,held:=[]}:Lot)∈(dropWhere (among [x.id]) s).lots:=by
 rw[drop_one s hx ok.iK];simp;grind
inductive Jj (C:cw)(vs:List V)(H:Hp)(Q:VK)(E:XK):Prop|mk A s (l:Nat):vs=[.ref (A .st),iV l]→Wd C A H s→aM s→isId l=true→c4 C A s H (recallCall s l) Q→Jj C vs H Q E
def Lr (T:Txt K mg C):Callee P w K mg base 2 "recall" ["store","number"] (Jj C):=by
 refine T.K3.callee Ar fun f0 cg A0 aY s0 H vs Q E hr h=>?_;have hu:=bt hr;have nd:=Ar.nd;refine⟨_,(ae (aU (dc (cj hu (pv 1) (az (pv 0) rfl))) (ai (au (a0 (aa (aK T.ku rfl) ag)))) aB)
  (ae (aN (i:=2) nd (bD hu (az (pv 0) rfl) (pv 1)))
  (ae (aU (bV (az (pv 2) rfl) (fun _=>rfl)) (ai (au (a0 (aa (aK T.pU rfl) ag)))) aB)
  (ae (aN (i:=3) nd (aW (zc rfl) (by rfl) T.gQ nV (aa (zg (az (pv 2) rfl)) ag)))
  (ae (aN (i:=4) nd (aI (mX T) hr (aa (pv 0) (aa (pv 2) ag))))
  (ae (bO (pv 2) gG rfl)
  (ai (au (cx og (aI (qb T) hr (aa (pv 3) ag)) (aI (qb T) hr (aa (pv 4) ag))))))))))),w6z ?_⟩;intros;obtain⟨A,s,l,rfl,W,ok,cD,q⟩:=h
 have g:=W.oe l;unfold recallCall at q;rw[ak (by rw[cD];decide)]at q;simp only[cY]at q;refine(eE T W).go ?_;refine⟨_,_,rfl,g,_,rfl,?_⟩;cases hl:lotOf s l with
 | none=>
  rw[hl]at q;exact cZ ⟨aH,fun D hD=>q.no W ao.refl hD⟩
 | some x=>
  obtain⟨hx,rfl⟩:=gK hl;rw[hl]at q g;have q:c4 C A s H (if x.called=true then Vbdlal.no s 13 else(callBack (fun y=>y.id==x.id) s,Vbdlal.rowOf x.uses++Vbdlal.rowOf x.held)) Q:=q;refine dk ?_;refine(eE T W).go ?_;refine⟨_,_,rfl,g,?_⟩;refine(eQ T W hx).go ?_;refine⟨_,rfl,?_⟩;refine b0 (fun h=>?_) fun h=>?_
  ·rw[aw h]at q;exact⟨aH,fun D hD=>q.no W ao.refl hD⟩
  rw[ak h]at q;obtain⟨kvs,hp,ed⟩:=W.at_ (.used x.id) ⟨_,hx,rfl⟩ _ hx rfl;have ed:H (A (.used x.id))=some (.dK (kvs.map bg)):=ed;have xx:=ok.lots x hx;refine(eV T W hx).go ?_;refine⟨_,_,rfl,ed,fun v hv=>?_⟩;have kv:ao C H (upd H v (iH "dict_items" v (A (.used x.id)))):=ao.new hv;refine⟨v,A (.used x.id),kvs,rfl,af,kv.at_ _ _ ed trivial,fun H2 D ts qA sm hD Ul zU eD pr=>?_⟩;have k2:=kv.trans (ao.same (C:=C) sm);have K_:=kv.back hD;have Tc:qA=x.uses:=qO xx.uses (Ul.trans hp) zU;subst Tc;have W2:=W.aF k2;have vH:¬cR A s D:=W.bR K_;have gU:=kW eD pr;refine⟨A,s,_,x,rfl,W2,ok,hx,fun A' D2 H3 lr hnD2 m3 W3 g3=>?_⟩;have gU3:Got bG H3 D x.uses:=gU.move bG.mono (fun ys e=>(m3.bR e trivial vH).1) fun b xs e=>(m3.bR e trivial (W2.fh e fun z=>z)).1;have QW:=(m3.bR eD trivial vH).2;have RI:=B7 ok hx;have eA:A' (.lot x.id)=A (.lot x.id):=(m3.fix (.lot x.id) ⟨x,hx,rfl⟩ trivial).1;obtain⟨dx,e⟩:=W3.kq RI;have e:H3 (A (.lot x.id))=some (.ins C.Lot dx (bQ A' {x with free:=x.free+bagSum x.held,held:=[]})):=by rw[←eA];exact e
  refine⟨_,_,_,_,rfl,e,T.a_.cl,T.a_.na,by show 12<1000;decide,?_⟩;rw[iG,←eA];have V4:=gw ok (among [x.id]);have e':H3 (A' (.lot x.id))=some (.ins C.Lot dx (bQ A' {x with free:=x.free+bagSum x.held,held:=[]})):=by rw[eA];exact e
  have W4:=W3.j9 (l':={x with free:=x.free+bagSum x.held,held:=[],called:=true}) V4.iK RI rfl rfl rfl (dx:=dx);have m4:Moved C A' (dropWhere (among [x.id]) s) H3 A' (bY (dropWhere (among [x.id]) s) {x with free:=x.free+bagSum x.held,held:=[],called:=true}) _:=Moved.write (C:=C) (A:=A') (o:= .ins C.Lot dx (bQ A' {x with free:=x.free+bagSum x.held,held:=[],called:=true})) (t₀:= .lot x.id) ⟨_,RI,rfl⟩ bu e' trivial;have gU4:=gU3.move (H':=upd H3 (A' (.lot x.id)) (.ins C.Lot dx (bQ A' {x with free:=x.free+bagSum x.held,held:=[],called:=true}))) bG.mono (fun ys e=>(m4.bR e trivial QW).1) fun b xs e=>(m4.bR e trivial (W3.fh e fun z=>z)).1;have gH4:=g3.move (H':=upd H3 (A' (.lot x.id)) (.ins C.Lot dx (bQ A' {x with free:=x.free+bagSum x.held,held:=[],called:=true}))) bG.mono (fun ys e=>(m4.bR e trivial hnD2).1) fun b xs e=>(m4.bR e trivial (W3.fh e fun z=>z)).1;rw[se ok hx]at W4 m4;have mm:=((Moved.aF (C:=C) (A:=A) (s:=s) k2).trans m3).trans m4;generalize upd H3 (A' (.lot x.id)) (.ins C.Lot dx (bQ A' {x with free:=x.free+bagSum x.held,held:=[],called:=true}))=H4 at *;obtain⟨Wu,hb2⟩:=fB ok hx;have l1:(Vbdlal.rowOf x.uses).length≤257:=by rw[b_];lia
  have l2:(Vbdlal.rowOf x.held).length≤257:=by rw[b_];lia
  refine⟨D,_,rfl,lD gU4,by rw[cM];exact aG l1 (by decide),fun D5 H5 Ow k5 e5=>?_⟩;rw[cM]at e5;refine⟨D2,_,rfl,lD (gH4.aF bG.mono k5),by rw[cM];exact aG l2 (by decide),fun D6 H6 Vg k6 e6=>?_⟩;rw[cM]at e6;refine⟨D5,D6,_,_,rfl,rfl,k6.at_ _ _ e5 trivial,e6,?_,fun D7 XS=>?_⟩;rw[ay,ay];exact aG (show _≤514 by lia) (by decide);refine c4.pC q (mm.trans (Moved.aF (k5.trans k6))) (W4.aF (k5.trans k6)) XS ?_;simp
theorem pD {α β:Type}{R:α→β→Prop}:∀{l:List α} {m:List β} {l':List α} {m':List β},Paired R l m→Paired R l' m'→Paired R (l++l') (m++m')
 | _,_,_,_,.nil,h=>h
 | _,_,_,_,.cons r t,h=> .cons r (pD t h)
def iT (L:List Lot):List (Nat×Nat×Nat):=L.flatMap fun l=>l.held.map fun h=>(h.1,l.id,h.2)
def NW (t:Nat×Nat×Nat):List Int:=[(t.1:Int),(t.2.1:Int),(t.2.2:Int)]
def BO (k:List (Nat×Nat×Nat)):Fm (k.map NW)=(k.length:Int)::flat3 k:=by
 unfold Fm flat3 NW;grind
def Hi (k:List (Nat×Nat×Nat)):(Fm (k.map NW)).length=1+3*k.length:=by
 rw[BO,cH];have:∀k:List (Nat×Nat×Nat),(flat3 k).length=3*k.length:=fun k=>by
  induction k with
  | nil=>rfl
  | cons p k ih=>simp_all[flat3]<;>omega
 rw[this];lia
theorem nc {s:bE}(ok:aM s):∀{L:List Lot},(∀l∈L,l∈s.lots)→(iT L).length≤128*L.length
 | [],_=>bo _
 | l::L,h=>by
  have e:iT (l::L)=(l.held.map fun h=>(h.1,l.id,h.2))++iT L:=rfl;rw[e,dv,ay,cH];have h1:=(fB ok (h l cQ)).2;have h2:=nc ok (L:=L) fun m hm=>h m (cP _ hm);lia
def B0 {K:Frag}{t:TE}{g:TG}{tb rest:TS}{D:Ends}{σ:L2.St}{H:Hp}(h:nM t σ H fun x H1=>∃a,x= .ref a∧(∃xs,bz K H1 a xs)∧∃W:Nat→Nat→L2.St→Hp→Prop,(∃m,W 0 m σ H1)∧∀i m σ H,W i m σ H→
   ((Hj K a).stop i H∧({D with nx:=rest D}:Ends).nx σ H)∨((Hj K a).go i H∧∃N:L2.St→Hp→Prop,(∀σ' H',N σ' H'→∃m',m'<m∧W (i+1) m' σ' H')∧∀x H',(Hj K a).M_ i H x H'→g x σ H' fun σ2 H2=>tb {({D with nx:=rest D}:Ends)with nx:=N,ct:=N,bk:=({D with nx:=rest D}:Ends).nx} σ2 H2)):pb (NJ (HV K (nM t)) g tb) rest D σ H:=h
inductive Fx (C:cw)(vs:List V)(H:Hp)(Q:VK)(E:XK):Prop|mk A s (d:Nat):vs=[.ref (A .st),iV d]→Wd C A H s→aM s→isDay d=true→c4 C A s H (dayCall s d) Q→Fx C vs H Q E
def JR (T:Txt K mg C):Callee P w K mg base 2 "set_day" ["store","day"] (Fx C):=by
 refine T.IY.callee zh fun f0 cg A0 aY s0 H vs Q E hr h=>?_;have hu:=bt hr;have nd:=zh.nd;refine⟨_,(ae (aU (aD pP (pv 1) (az (pv 0) rfl) (aJ _)) (ai (au (a0 (aa (aK T.G7 rfl) ag)))) aB)
  (ae (bO (pv 0) (pv 1) rfl)
  (ae (aN (i:=2) nd (a0 ag))
  (ae (dM dj rfl (bf (sf (d7 rfl nd (fb (az (pv 0) rfl)) (ba (own:=[("each",4)]) (show ef ["store","day","dropped","lot","each","session","count"] (aj oK) _ _=true by decide +kernel)) (fun _ _ _ _ _=>by exact(aC (i:=4) nd)) (fun _ _ _ _ _=>by exact(fC (aD pP (bA K (pv 4) (by rfl)) (pv 1) (aJ _)))) (fun _ _ _ _ _=>by exact(pv 4))))) (aC (i:=3) nd) (ai (dR (yh nJ q0 yR oC (pv 2) (aa (d7 rfl nd (bf (aI (mX T) hr (aa (pv 0) (aa (pv 3) ag)))) (ba (own:=[("session",5),("count",6)]) (show ef ["store","day","dropped","lot","each","session","count"] (aj oK) _ _=true by decide +kernel)) (fun _ _ _ _ _=>by exact(gB K 2 (by rfl) (aT (aC (i:=5) nd) (aT (aC (i:=6) nd) cz)))) (fun _ _ _ _ _=>by exact cB) (fun _ _ _ _ _=>by exact(jb (aa (pv 5) (aa (bA K (pv 3) (by rfl)) (aa (pv 6) ag)))))) ag)))))
  (ai (au (aI (qb T) hr (aa (pv 2) ag)))))))),w4z ?_⟩;intros;obtain⟨A,s,d,rfl,W,ok,cD,q⟩:=h
 unfold dayCall at q;rw[ak (by rw[cD];decide)]at q;simp only[cY]at q;refine(ve T W).go ?_;refine⟨_,_,rfl,rfl,_,rfl,?_⟩;refine b0 (fun h=>?_) fun h=>?_
 ·have h:=bW h;rw[aw (by lia)]at q;exact⟨aH,fun D hD=>q.no W ao.refl hD⟩
 have h:=o6 h;rw[ak (by lia)]at q;obtain⟨dx,e⟩:=W.at_ .st trivial;refine⟨_,_,_,_,rfl,e,T.cn.cl,T.cn.na,by show 5<1000;decide,?_⟩;have ep:dZ "day" (iV d) (Ci A s.today)=Ci A d:=rfl;rw[ep];have W1:=W.RT d (dx:=dx);have PK:aM {s with today:=d}:=ok.today d;have m1:Moved C A s H A {s with today:=d} _:=Moved.write (C:=C) (A:=A) (o:= .ins C.pH dx (Ci A d)) (t₀:= .st) trivial (fun t=>by cases t<;>exact Iff.rfl) e trivial;have q:c4 C A s H (dropWhere (fun l=>decide (l.expiry<d)) {s with today:=d},((dropped (fun l=>decide (l.expiry<d)) {s with today:=d}).length:Int)::flat3 (dropped (fun l=>decide (l.expiry<d)) {s with today:=d})) Q:=q;have hart:({s with today:=d}:bE).articles=s.articles:=rfl;generalize upd H (A .st) (.ins C.pH dx (Ci A d))=H1 at *;generalize({s with today:=d}:bE)=s1 at *;refine⟨by show 0≤sizeLine;decide,fun D hD=>?_⟩;have kD:ao C H1 (upd H1 D (.lst [])):=ao.new hD;have vH:¬cR A s1 D:=W1.bR hD;have hh:∀X:Prop,X→X:=fun _ x=>x;refine hh (pb (NJ (HV K (nM _)) (pB 3) _) _ _ _ _) ?_;refine B0 ?_;refine iP (i:=0) T (W1.aF kD) rfl PK (by rfl) (aQ.eq fun l=>V.ref (A (.lot l.id))) (fun l=>decide (l.expiry<d)) (fun l hl Hc Zc Wc hZ hk Ky Kn hy hn=>?_) fun DL H2 SF k2 gL=>?_
 ·refine⟨rfl,(c_ T Wc hl).go ?_⟩;refine⟨_,_,rfl,rfl,_,rfl,?_⟩;refine b0 (fun h=>?_) fun h=>?_
  ·have h:=bW h;exact hy (iy (by lia)) _ _ ao.refl rfl
  grind[ao.refl]
 have eL:=gL.eq;have hDL1:=kD.back SF;have QY:¬cR A s1 DL:=W1.bR hDL1;have hDLD:DL≠D:=fun z=>by rw[z,af]at SF;cases SF
 have wu:=kD.trans k2;have W2:=W1.aF wu;have PL:H2 D=some (.lst []):=k2.at_ _ _ af trivial;have dB:∀l∈s1.lots.filter (fun l=>decide (l.expiry<d)),l∈s1.lots:=fun l h=>(eC.mp h).1;have OX:(s1.lots.filter fun l=>decide (l.expiry<d)).length≤256:=aG (fN _ _) PK.gX;have WH:((s1.lots.filter fun l=>decide (l.expiry<d)).map (·.id)).Nodup:=hU PK.iK _;have hdw:dropWhere (among ((s1.lots.filter fun l=>decide (l.expiry<d)).map (·.id))) s1=dropWhere (fun l=>decide (l.expiry<d)) s1:=iz (tP PK.iK _);have hdr:dropped (fun l=>decide (l.expiry<d)) s1=iT (s1.lots.filter fun l=>decide (l.expiry<d)):=rfl;rw[hdr,←hdw]at q;generalize(s1.lots.filter fun l=>decide (l.expiry<d))=L at *;refine⟨DL,rfl,⟨_,bz.of eL⟩,?_⟩;refine dS (xs:=L.map fun l=>V.ref (A (.lot l.id))) (fun i σ H'=>∃A',(∃v3 v4 v5 v6,σ=[some (.ref (A .st)),some (iV d),some (.ref D),v3,v4,v5,v6])∧Moved C A s1 H1 A' (dropWhere (among ((L.map (·.id)).take i)) s1) H'∧World C A' Z0 H' (dropWhere (among ((L.map (·.id)).take i)) s1) (bC s.articles)∧
   Got jY H' D ((iT (L.take i)).map NW)∧H' DL=some (.lst (L.map fun l=>V.ref (A (.lot l.id))))∧¬cR A' (dropWhere (among ((L.map (·.id)).take i)) s1) D∧¬cR A' (dropWhere (among ((L.map (·.id)).take i)) s1) DL)
  ?_ (fun i σ H' hi ⟨_,_,_,_,_,Nb,_⟩=>bz.of Nb) (fun i x σ H' hx ⟨A',⟨v3,v4,v5,v6,es⟩,m,W',gD,Nb,Lf,xc⟩=>?_) fun σ H' ⟨A',⟨v3,v4,v5,v6,es⟩,m,W',gD,Nb,Lf,xc⟩=>?_
 ·rw[F1,z0];exact⟨A,⟨_,_,_,_,rfl⟩,Moved.aF wu,W2,⟨[],PL,.nil⟩,eL,vH,QY⟩
 ·subst es;have hi:i<L.length:=by have:=(fu.mp hx).1;rw[ay]at this;exact this
  have ej:L[i]? =some L[i]:=by simp[hi]
  have M9:x= .ref (A (.lot L[i].id)):=by rw[cO,ej]at hx;exact(cV hx).symm
  subst M9;have R3:=dB L[i] (fL hi);have J7:(L.map (·.id))[i]? =some L[i].id:=by rw[cO,ej];rfl
  have fi:=zk R3 (eX WH J7);have uy:=gw PK (among ((L.map (·.id)).take i));have gz:dropWhere (among [L[i].id]) (dropWhere (among ((L.map (·.id)).take i)) s1)=dropWhere (among ((L.map (·.id)).take (i+1))) s1:=by grind -order[AQ,eX,take_succ]
  have hrows:iT (L.take (i+1))=iT (L.take i)++L[i].held.map fun h=>(h.1,L[i].id,h.2):=by grind[iT,take_succ]
  have UC:=nc PK (L:=L.take i) fun m hm=>dB m (Ha hm);have hhl:=(fB PK R3).2;have WL:A' .st=A .st:=(m.fix .st trivial trivial).1;have Tg:A' (.lot L[i].id)=A (.lot L[i].id):=(m.fix (.lot L[i].id) ⟨_,R3,rfl⟩ trivial).1;rw[←gz,hrows];generalize dropWhere (among ((L.map (·.id)).take i)) s1=S at *;have hti:(L.take i).length≤256:=by rw[lz];clear hhl UC h hu;grind
  generalize iT (L.take i)=rows at *;generalize L[i]=l at *;obtain⟨acc,SE,Td⟩:=id gD;refine⟨.inl ⟨rfl,_,bz.of SE⟩,?_⟩;refine⟨A',S,_,l,by rw[WL,Tg];rfl,W',uy,fi,fun A2 D3 H3 wx QW m3 W3 g3=>?_⟩;have T_:A2 (.lot l.id)=A (.lot l.id):=by rw[(m3.fix (.lot l.id) ⟨_,fi,rfl⟩ trivial).1,Tg]
  have Ur:=B7 uy fi;refine eY (C:=C) (L:=l.held) (E:=fun(h:Nat×Nat) (y:V) (H:Hp)=>jY (NW (h.1,l.id,h.2)) y H) (p:=fun _=>true) (F:=bG) (fun _ _ _ _ k h=>jY.mono _ _ _ _ k h) bG.mono g3 (aG hhl (by decide)) (fun h hh y Hc kc ⟨t,ey,et⟩ Ky Kn hy hn=>?_) fun D4 H4 LW k4 g4=>?_
  ·subst ey;refine⟨_,_,rfl,ju.of et,rfl,_,_,rfl,_,_,rfl,rfl,rfl,iR ?_⟩;rw[←T_];refine(g9 T (W3.aF kc) Ur).go ?_;exact⟨by show 3≤sizeLine;decide,fun t ht=>hy rfl _ _ (ao.new ht) ⟨t,rfl,af⟩⟩
  rw[filter_all]at g4;obtain⟨zs,ez,pz⟩:=id g4;have Pr:=m3.bR SE trivial Lf;have LP:=m3.bR Nb trivial xc;have Rz:=k4.at_ _ _ Pr.1 trivial;have m34:Moved C A s1 H1 A2 _ H4:=(m.trans m3).trans (Moved.aF k4);have W4:=W3.aF k4;refine⟨D,D4,acc,zs,rfl,rfl,Rz,ez,?_,?_⟩
  ·rw[bZ Td,bZ pz,ay];exact aG (show _≤128*256+128 by lia) (by decide)
  have tm:∀b xs,H4 b=some (.tup xs)→upd H4 D (.lst (acc++zs)) b=some (.tup xs):=fun b xs q=>by grind[ah]
  refine⟨A2,⟨_,_,_,_,rfl⟩,m34.putL hD Rz,W4.putL Pr.2 Rz,⟨_,af,?_⟩,?_,Pr.2,LP.2⟩
  ·rw[gS,aV];refine pD (Paired.tY Td fun y a q=>jY.mono _ _ _ _ tm (jY.mono _ _ _ _ (fun b xs z=>k4.at_ b _ ((m3.bR z trivial (W'.fh z fun z=>z)).1) trivial) q)) ?_;have:=(show Got _ H4 D4 l.held from g4).map (F:=jY) (f:=fun(h:Nat×Nat)=>NW (h.1,l.id,h.2)) fun _ _ h=>h;obtain⟨zs',XA,pz'⟩:=this;rw[ez]at XA;cases XA;exact Paired.tY pz' fun y a q=>jY.mono _ _ _ _ tm q
  rw[ah hDLD];exact k4.at_ _ _ LP.1 trivial
 subst es;rw[ay,du]at gD;rw[ay,show L.length=(L.map (·.id)).length by rw[ay],du]at m W' Lf xc;have UC:=nc PK dB;refine⟨D,_,rfl,gD,?_,fun D' jC pV k' e'=>?_⟩
 ·rw[Hi];exact aG (show _≤1+3*(128*256) by lia) (by decide)
 rw[BO]at e';refine q A' jC D' ((m1.trans m).fresh pV) ((m1.trans m).trans (Moved.aF k')) ?_ e';have ha:(dropWhere (among (L.map (·.id))) s1).articles=s1.articles:=rfl;show World C A' Z0 jC _ (bC (dropWhere (among (L.map (·.id))) s1).articles);rw[ha,hart];exact W'.aF k'
def ia.DZ {x qual:Str}{Cl:Addr}{st:Stmt}{fields N ps:List Str}{k:Nat}{sp:Sp}(cl:ia K mg x qual Cl st fields)(S:aE N ps (aj st))(len:∀vs H Q E,sp vs H Q E→vs.length=ps.length)
  (kM:∀(kV doc pm:Value) (an:Option Addr) (kU ct:Value) (us:List Value),us.length=ps.length→bindArgs (fnOf "__init__" qual (f6 st) (dP st) (aj st) .none kV doc pm an kU ct) ⟨us,[]⟩=pure (ps.zip us))
  (sR:∀(f:Addr) (kU:Value) (A:Around) (outer:List Env) (s:Shared) (H:Hp) (vs:List V) (Q:VK) (E:XK),fX k (A.deeper (envOfC qual (aj st) s.heap.objs.size f kU))→sp vs H Q E→
   ∃t,Fd (Ca M8 P w K mg base N qual (aj st) f kU A outer s H E).PH (dP st) t∧t {nx:=fun _ H'=>Q .gq H',rt:=Q} (start N vs) H):vm P w K mg base (k+1) x Cl ps sp:=by
 obtain⟨f,fd,M,hF⟩:=cl.YQ;exact⟨f,fd,cl.mg,M,hF.binds kM,hF.ok S len fun kU A outer s H vs Q E hr h=>sR f kU A outer s H vs Q E hr h⟩
inductive G3 (C:cw)(vs:List V)(H:Hp)(Q:VK)(E:XK):Prop|mk x dx:vs=[.ref x]→H x=some (.ins C.f7 dx [])→(∀i,Q .gq (upd H x (.ins C.f7 dx (uP {id:=i}))))→G3 C vs H Q E
def b7 (T:Txt K mg C):vm P w K mg base 1 "Session" C.f7 ["self"] (G3 C):=by
 refine T.b7.DZ vS ?_ (fun _ _ _ _ _ _ us hl=>match us,hl with | [_],_=>rfl) fun f0 cg A0 aY s0 H vs Q E hr h=>?_;rintro vs H Q E ⟨x,dx,rfl,_⟩;rfl;obtain⟨x,dx,rfl,e,q⟩:=h;refine⟨_,(ae (bO (pv 0) gG rfl)
  (ai (bO (pv 0) gG rfl))),?_⟩
 refine⟨_,_,_,_,rfl,e,T.b7.cl,T.b7.na,by show 0<1000;decide,?_⟩;refine⟨_,_,_,_,rfl,af,T.b7.cl,T.b7.na,by show 1<1000;decide,?_⟩;rw[cp];exact q 0
theorem vz (x:Ses):∀l:List Ses,(putSes x l).Perm (x::l)
 | []=>Ia _
 | y::l=>by
  unfold putSes;by_cases h:x.id<y.id;rw[aw h];rw[ak h];exact((vz x l).cons y).trans (List.Perm.swap x y l)
theorem u5 (x:Article):∀l:List Article,(putArt x l).Perm (x::l)
 | []=>Ia _
 | y::l=>by
  unfold putArt;by_cases h:x.id<y.id;rw[aw h];rw[ak h];exact((u5 x l).cons y).trans (List.Perm.swap x y l)
section
variable{A:Tag→Addr}{H H':Hp}{s s':bE}{M:Nat→dW}{t₀:Tag}{x:Addr}
def World.Gs (W:World C A Z0 H s M){k:Nat}(hk:∀y∈s.sessions,y.id≠k){ord:List Nat}(fq:ord.Perm (s.sessions.map (·.id)))(hx:H x=none)(pX:ao C H H')(IV:∃dx,H' x=some (.ins C.f7 dx (uP {id:=k}))):
  World C (qQ A (.ses k) x) Z0 (upd H' (A .sd) (.dK ((ord++[k]).map fun(a:Nat)=>((Sum.inl (a:Int):Key),V.ref (qQ A (.ses k) x (.ses a)))))) {s with sessions:=putSes {id:=k} s.sessions} M:=by
 have W1:=W.aF pX;have eP:∀t,bT s t→A t≠x:=fun t ht z=>by
  obtain⟨o,q,_⟩:=(W.at_ t ht).some ht;grind
 have hA:∀t,t≠ .ses k→qQ A (.ses k) x t=A t:=fun t ht=>qU ht;have Ry:∀t,bT {s with sessions:=putSes {id:=k} s.sessions} t↔bT s t∨t= .ses k:=fun t=>by
  cases t with
  | ses n=>
   show(∃y∈putSes {id:=k} s.sessions,y.id=n)↔(∃y∈s.sessions,y.id=n)∨_;constructor;intros;grind[dI];rintro(⟨y,hy,rfl⟩|h);grind[dI];simp_all[dI]
  | _=>exact⟨fun h=> .inl h,fun h=>h.elim id fun z=>by cases z⟩
 have zp:¬bT s (.ses k):=fun⟨y,hy,e⟩=>hk y hy e;obtain⟨Sw,Bq,Ib⟩:=At.some (t:= .sd) trivial (W1.at_ .sd trivial);have hsdx:A .sd≠x:=eP .sd trivial;refine⟨fun t t' h h' e=>?_,fun t ht=>?_,W1.tabs.upd Bq Ib⟩
 ·rcases(Ry t).mp h with h|h
  ·rcases(Ry t').mp h' with h'|h'
   ·rw[hA t fun z=>zp (z▸h),hA t' fun z=>zp (z▸h')]at e;exact W.inj t t' h h' e
   grind[lH]
  (simp_all;grind[lH])
 rcases(Ry t).mp ht with oZ|oZ
 ·have sk:t≠ .ses k:=fun z=>zp (z▸oZ);by_cases e1:t= .sd
  ·subst e1;refine⟨ord++[k],?_,?_⟩;grind[vz];rw[hA _ (by simp),af];rfl
  have h1:At C A Z0 (upd H' (A .sd) (.dK ((ord++[k]).map fun(a:Nat)=>((Sum.inl (a:Int):Key),V.ref (qQ A (.ses k) x (.ses a)))))) s M t:=(W1.at_ t oZ).aF (fun o q=>by rw[ah fun z=>e1 (W.inj t _ oZ trivial z)];exact q) fun b xs q=>by rw[ah fun z=>by rw[z,Bq]at q;cases q;exact Ib];exact q
  cases t with
  | st=>
   obtain⟨y,q⟩:=h1;refine⟨y,?_⟩;have:Ci (qQ A (.ses k) x) s.today=Ci A s.today:=by rfl
   trivial
  | ad=>
   obtain⟨ord,p,q⟩:=h1;refine⟨ord,p,?_⟩;trivial
  | ld=>
   have:(fun(a:Lot)=>((Sum.inl (a.id:Int):Key),V.ref (qQ A (.ses k) x (.lot a.id))))=fun(a:Lot)=>((Sum.inl (a.id:Int):Key),V.ref (A (.lot a.id))):=funext fun a=>by rw[hA _ (by simp)]
   show _=Option.some (fz _ (HO.dK (s.lots.map fun(a:Lot)=>((Sum.inl (a.id:Int):Key),V.ref (qQ A (.ses k) x (.lot a.id))))));rw[this,hA _ (by simp)];exact h1
  | sd=>exact absurd rfl e1
  | th=>show _=_;rw[hA _ (by simp)];exact h1
  | art n=>
   intro y hy e;obtain⟨dx,q⟩:=h1 y hy e;have:jA (qQ A (.ses k) x) y=jA A y:=by unfold jA;rw[hA _ (by simp),hA _ (by simp)]
   (constructor<;>assumption)
  | part n=>intro y hy e;rw[hA _ (by simp)];exact h1 y hy e
  | dw n=>
   obtain⟨dx,q⟩:=h1;refine⟨dx,?_⟩;trivial
  | need n=>show gO _ _ _ _;rw[hA _ (by simp)];exact h1
  | lot n=>
   intro m hm e;obtain⟨dx,q⟩:=h1 m hm e;have:bQ (qQ A (.ses k) x) m=bQ A m:=by unfold bQ;rw[hA _ (by simp),hA _ (by simp)]
   (constructor<;>assumption)
  | held n=>intro m hm e;rw[hA _ (by simp)];exact h1 m hm e
  | used n=>intro m hm e;rw[hA _ (by simp)];exact h1 m hm e
  | ses n=>
   intro y hy e;rw[hA _ sk];rcases dI.mp hy with rfl|h;lia;exact h1 y h e
 subst oZ;intro y hy e;rw[lH];rcases dI.mp hy with rfl|h;grind[ah];simp_all
def Moved.Gs (W:World C A Z0 H s M){k:Nat}(hk:∀y∈s.sessions,y.id≠k)(hx:H x=none)(pX:ao C H H'){o:HO}:Moved C A s H (qQ A (.ses k) x) {s with sessions:=putSes {id:=k} s.sessions} (upd H' (A .sd) o):=by
 obtain⟨Sw,Bq,Ib⟩:=At.some (t:= .sd) trivial (W.at_ .sd trivial);have zp:¬bT s (.ses k):=fun⟨y,hy,e⟩=>hk y hy e;refine⟨fun b ob e n hb=>?_,fun b ps e=>?_,fun t ht=>?_,fun t ht hf=>⟨qU fun z=>zp (z▸ht),?_⟩⟩;rw[ah fun z=>hb ⟨.sd,trivial,z⟩];exact pX.at_ b ob e n;rw[ah (fun z=>by rw[z,Bq]at e;cases e;exact Ib)];exact pX.tb b ps e
 ·by_cases e1:t= .ses k
  ·rw[e1,lH];exact .inr hx
  rw[qU e1];refine .inl ⟨t,?_,rfl⟩;cases t with
  | ses n=>
   obtain⟨y,hy,e⟩:=ht;rcases dI.mp hy with rfl|h;simp_all;exact⟨y,h,e⟩
  | _=>exact ht
 cases t with
 | ses n=>obtain⟨y,hy,e⟩:=ht;exact⟨y,dI.mpr (.inr hy),e⟩
 | _=>exact ht
end
theorem mO {kvs:List (Key×V)}{k:Key}{v:V}(h:fS kvs k=none):putK kvs k v=kvs++[(k,v)]:=by
 unfold putK;rw[kg,h];rfl
inductive vU (C:cw)(vs:List V)(H:Hp)(Q:VK)(E:XK):Prop|mk A s (k:Nat):vs=[.ref (A .st),iV k]→Wd C A H s→aM s→isId k=true→c4 C A s H (openCall s k) Q→vU C vs H Q E
def yp (T:Txt K mg C):Callee P w K mg base 3 "open_session" ["store","number"] (vU C):=by
 refine T.xV.callee mf fun f0 cg A0 aY s0 H vs Q E hr h=>?_;have hu:=bt hr;have nd:=mf.nd;refine⟨_,(ae (aU (dc (nq hu (pv 1) (az (pv 0) rfl))) (ai (au (a0 (aa (aK T.ml rfl) ag)))) aB)
  (ae (aU (aD DW (aW t8 (by rfl) T.i_ gb (aa (az (pv 0) rfl) ag)) (aK T.vN rfl) (aJ _)) (ai (au (a0 (aa (aK T.yw rfl) ag)))) aB)
  (ae (ib hu (az (pv 0) rfl) (pv 1) (Iy (b7 T) hr (by rfl)) rfl)
  (ai (au (a0 (aa ax ag))))))),w3z ?_⟩;intros;obtain⟨A,s,k,rfl,W,ok,cD,q⟩:=h
 unfold openCall at q;rw[ak (by rw[cD];decide)]at q;simp only[cY]at q;obtain⟨ord,fq,Bq⟩:=W.at_ .sd trivial;have Bq:H (A .sd)=some (.dK (ord.map fun(a:Nat)=>(Sum.inl (a:Int),V.ref (A (.ses a))))):=Bq;have g:=W.lW k;refine(cU T W).go ?_;refine⟨_,_,rfl,g,_,rfl,?_⟩;by_cases hk:∃x∈s.sessions,x.id=k
 ·rw[aw hk];rw[aw (fV.mpr hk)]at q;exact cZ ⟨aH,fun D hD=>q.no W ao.refl hD⟩
 rw[ak hk];rw[ak fun z=>hk (fV.mp z)]at q;refine dk ?_;refine(cU T W).go ?_;refine⟨_,_,rfl,Bq,_,_,rfl,rfl,_,rfl,?_⟩;have hlen:ord.length=s.sessions.length:=by rw[fq.length_eq,ay]
 refine b0 (fun h=>?_) fun h=>?_
 ·have h:=bW h;rw[ay,hlen]at h;rw[aw (show MAXSES≤s.sessions.length by unfold MAXSES;lia)]at q;exact⟨aH,fun D hD=>q.no W ao.refl hD⟩
 have h:=o6 h;rw[ay,hlen]at h;rw[ak (show ¬MAXSES≤s.sessions.length by unfold MAXSES;lia)]at q;refine fun x dx hx M6 eP=>⟨x,dx,rfl,af,fun i=>⟨rfl,?_⟩⟩;rw[cp];have JB:∀y∈s.sessions,y.id≠k:=fun y hy e=>hk ⟨y,hy,e⟩;have k1:ao C H (upd (upd H dx (.own x)) x (.ins C.f7 dx (uP {id:=k}))):=(ao.new M6).trans (ao.new (by rw[ah (aR eP)];exact hx));have W1:=W.aF k1;have e1:=k1.at_ _ _ Bq trivial;have Tj:k∉ord:=fun z=>by (clear hk;grind)
 have OD:fS (ord.map fun(a:Nat)=>((Sum.inl (a:Int):Key),V.ref (A (.ses a)))) (Sum.inl (k:Int))=none:=by rw[fk fun a=>V.ref (A (.ses a)),ak Tj]
 refine(cU T W1).go ?_;refine⟨_,_,rfl,tp.k (k:=Sum.inl (k:Int)) e1 (by rw[ay,hlen];exact fe ok.o7 (by decide)),?_⟩;have ep:putK (ord.map fun(a:Nat)=>((Sum.inl (a:Int):Key),V.ref (A (.ses a)))) (Sum.inl (k:Int)) (V.ref x)=(ord++[k]).map fun(a:Nat)=>((Sum.inl (a:Int):Key),V.ref (qQ A (.ses k) x (.ses a))):=by grind[mO,List.map_congr_left,qQ]
 rw[ep];have W2:=W.Gs JB fq hx k1 ⟨dx,af⟩;have m2:=Moved.Gs (o:= .dK ((ord++[k]).map fun(a:Nat)=>((Sum.inl (a:Int):Key),V.ref (qQ A (.ses k) x (.ses a))))) W JB hx k1;exact⟨aH,fun D hD=>c4.pC q m2 W2 hD rfl⟩
end
section
variable{P:Program}{w:PySem.World}{K:Frag}{mg:Str→Option Value}{base:Heap}{C:cw}
def vd {A B:List Article}(h:∀a,partsOf B a=partsOf A a):bC B=bC A:=funext fun a=>by
 obtain⟨_,h1,h2,h3⟩:=ir h 20 a;unfold bC dep CB;rw[h1,h2];have:cnt B a=cnt A a:=funext fun j=>h3 j;rw[this]
def lP (s:bE)(a:Nat)(R:bE×List Int):(if(Vbdlal.art s a).isNone=true then Vbdlal.no s 4 else if isKit s a=true then Vbdlal.no s 9 else R)=if gH s a≠0 then(s,[gH s a])else R:=by
 have hk:isKit s a=!(((Vbdlal.art s a).map fun x=>x.parts).getD []).isEmpty:=rfl;unfold gH;rw[hk];cases e:Vbdlal.art s a with
 | none=>rfl
 | some x=>cases c:x.parts<;>simp[c]<;>rfl
def JS {s:bE}{a:Nat}(h:gH s a=0):∃x∈s.articles,x.id=a∧x.parts=[]:=by grind -ring[gH,jF]
theorem Ef (L:List Article)(a m b:Nat):partsOf (L.map fun x=>if x.id==a then{x with least:=m}else x) b=partsOf L b:=by
 unfold partsOf
 induction L with
 | nil=>rfl
 | cons x L ih=>grind
def fo (s:bE)(a m:Nat):bE:={s with articles:=s.articles.map fun x=>if x.id==a then{x with least:=m}else x}
section
variable{A:Tag→Addr}{H:Hp}{s:bE}{M:Nat→dW}{Z:Tag→Option Obj}
def tq {a m:Nat}:(fo s a m).articles.map (·.id)=s.articles.map (·.id):=by
 show(s.articles.map _).map _=_;rw[aV];refine cE fun x _=>?_;simp;split<;>rfl
def pq {a m:Nat}(t:Tag):bT (fo s a m) t↔bT s t:=by
 have h:∀n,(∃l∈(fo s a m).articles,l.id=n)↔∃l∈s.articles,l.id=n:=fun n=>by
  have e:n∈(fo s a m).articles.map (·.id)↔n∈s.articles.map (·.id):=by rw[tq]
  simp_all
 cases t<;>first|exact Iff.rfl|exact h _
def oh {a m:Nat}{y:Article}(h:y∈(fo s a m).articles):∃x∈s.articles,y.id=x.id∧y.parts=x.parts∧(x.id≠a→y=x)∧(x.id=a→y={x with least:=m}):=by
 obtain⟨x,hx,rfl⟩:=aZ.mp h;simp;grind
def World.fo (W:World C A Z H s M)(ok:aM s){x:Article}(hx:x∈s.articles){m:Nat}{dx:Addr}:World C A Z (upd H (A (.art x.id)) (.ins C.Article dx (jA A {x with least:=m}))) (Lw.fo s x.id m) M:=by
 refine W.write (t₀:= .art x.id) ⟨x,hx,rfl⟩ (fun t h=>(pq t).mp h) (fun t ht hv h=>?_) ?_
 ·cases t with
  | ad=>
   obtain⟨ord,p,e⟩:=h;exact⟨ord,by rw[tq];exact p,e⟩
  | art n=>
   intro y hy e;obtain⟨z,hz,h1,h2,h3,h4⟩:=oh hy;by_cases q:z.id=x.id;lia;rw[h3 q];exact h z hz (by rw[←h1];exact e)
  | part n=>
   intro y hy e;obtain⟨z,hz,h1,h2,h3,h4⟩:=oh hy;rw[h2];exact h z hz (by rw[←h1];exact e)
  | _=>exact h
 intro y hy e;obtain⟨z,hz,h1,h2,h3,h4⟩:=oh hy;have hzx:z=x:=zW ok.Iq hz hx (by rw[←h1];exact e);subst hzx;rw[h4 rfl];exact⟨dx,af⟩
end
inductive Cd (C:cw)(vs:List V)(H:Hp)(Q:VK)(E:XK):Prop|mk A s (a m:Nat):vs=[.ref (A .st),iV a,iV m]→Wd C A H s→aM s→(isArt a&&Vbdlal.inR m 0 MILLION)=true→c4 C A s H (leastCall s a m) Q→Cd C vs H Q E
def Di (T:Txt K mg C):Callee P w K mg base 2 "set_least" ["store","number","least"] (Cd C):=by
 refine T.DP.callee tG fun f0 cg A0 aY s0 H vs Q E hr h=>?_;have hu:=bt hr;have nd:=tG.nd;refine⟨_,(ae (aN (i:=3) nd (aI (eW T) hr (aa (pv 0) (aa (pv 1) ag))))
  (ae (aU (aD g0 (pv 3) (aK T.bH rfl) (aJ _)) (ai (au (a0 (aa (pv 3) ag)))) aB)
  (ae (aN (i:=4) nd (bD hu (az (pv 0) rfl) (pv 1)))
  (ae (bO (pv 4) (pv 2) rfl)
  (ai (au (a0 (aa ax ag)))))))),w4z ?_⟩;intros;obtain⟨A,s,a,m,rfl,W,ok,cD,q⟩:=h
 unfold leastCall at q;rw[ak (by rw[cD];decide)]at q;simp only[cY]at q;rw[lP]at q;refine⟨A,Z0,s,_,a,rfl,W,?_⟩;refine⟨rfl,_,rfl,?_⟩;refine b0 (fun h=>?_) fun h=>?_
 ·rw[aw (bS.mp h)]at q;exact⟨aH,fun D hD=>q.no W ao.refl hD⟩
 have h0:gH s a=0:=qj fun z=>h (bS.mpr z);rw[ak fun z=>z h0]at q;obtain⟨x,hx,rfl,S0⟩:=JS h0;have g:=W.fM x.id;rw[aw ⟨x,hx,rfl⟩]at g;refine(bh T W).go ?_;refine⟨_,_,rfl,g,?_⟩;obtain⟨dx,e⟩:=W.at_ (.art x.id) ⟨x,hx,rfl⟩ x hx rfl;refine⟨_,_,_,_,rfl,e,T.bI.cl,T.bI.na,by show 3<1000;decide,?_⟩;rw[zP];have W1:=W.fo ok hx (m:=m) (dx:=dx);have m1:Moved C A s H A (fo s x.id m) _:=Moved.write (C:=C) (A:=A) (o:= .ins C.Article dx (jA A {x with least:=m})) (t₀:= .art x.id) ⟨x,hx,rfl⟩ pq e trivial;have q:c4 C A s H (fo s x.id m,[0]) Q:=q;refine⟨aH,fun D hD=>c4.pC q m1 ?_ hD rfl⟩;have hm:bC (fo s x.id m).articles=bC s.articles:=vd fun b=>Ef s.articles x.id m b;lia
end
section
variable{P:Program}{w:PySem.World}{K:Frag}{mg:Str→Option Value}{base:Heap}{C:cw}
def aO {H:Hp}{a b:Addr}{o:HO}(h:upd H a o b=none):H b=none∧b≠a:=by grind[af,ah]
def ao.lp {H0 H1:Hp}{x:Addr}{o o':HO}(k:ao C H0 H1)(hx:H0 x=none)(e:H1 x=Option.some o)(p:Plain o):ao C H0 (upd H1 x o'):=
 ⟨fun b ob q n=>by rw[ah (aP q hx)];exact k.at_ b ob q n,fun b ps q=>by rw[ah (aP q hx)];exact k.tb b ps q,fun t=>(k.tabs t).upd e p⟩
inductive FT (C:cw)(vs:List V)(H:Hp)(Q:VK)(E:XK):Prop|mk x dx a b c:vs=[.ref x,a,b,c]→H x=some (.ins C.dO dx [])→Q .gq (upd H x (.ins C.dO dx [("depth",a),("size",b),("need",c)]))→FT C vs H Q E
def bN (T:Txt K mg C):vm P w K mg base 1 "Measure" C.dO ["self","depth","size","need"] (FT C):=by
 refine T.bN.DZ vP ?_ (fun _ _ _ _ _ _ us hl=>match us,hl with | [_,_,_,_],_=>rfl) fun f0 cg A0 aY s0 H vs Q E hr h=>?_;rintro vs H Q E ⟨x,dx,a,b,c,rfl,_⟩;rfl;obtain⟨x,dx,a,b,c,rfl,e,q⟩:=h;refine⟨_,(ae (bO (pv 0) (pv 1) rfl)
  (ae (bO (pv 0) (pv 2) rfl)
  (ai (bO (pv 0) (pv 3) rfl)))),?_⟩
 refine⟨_,_,_,_,rfl,e,T.bN.cl,T.bN.na,by show 0<1000;decide,?_⟩;refine⟨_,_,_,_,rfl,af,T.bN.cl,T.bN.na,by show 1<1000;decide,?_⟩;refine⟨_,_,_,_,rfl,af,T.bN.cl,T.bN.na,by show 2<1000;decide,?_⟩;rw[cp,cp];exact q
inductive FQ (C:cw)(vs:List V)(H:Hp)(Q:VK)(E:XK):Prop|mk x dx n m:vs=[.ref x,iV n,iV m]→H x=some (.ins C.Article dx [])→(∀pl nd mo tV H',(∀H0,ao C H0 H→H0 x=none→ao C H0 H')→H pl=none→H nd=none→H mo=none→pl≠nd→pl≠mo→nd≠mo→H' x=some (.ins C.Article dx [("least",iV m),("parts",.ref pl),("measure",.ref mo)])→H' pl=some (.lst [])→H' nd=some (.dK ([(n,1)].map bg))→ H' mo=some (.ins C.dO tV [("depth",iV 0),("size",iV 1),("need",.ref nd)])→Q .gq H')→FQ C vs H Q E
def bI (T:Txt K mg C):vm P w K mg base 3 "Article" C.Article ["self","number","least"] (FQ C):=by
 refine T.bI.DZ l7 ?_ (fun _ _ _ _ _ _ us hl=>match us,hl with | [_,_,_],_=>rfl) fun f0 cg A0 aY s0 H vs Q E hr h=>?_;rintro vs H Q E ⟨x,dx,n,m,rfl,_⟩;rfl;obtain⟨x,dx,n,m,rfl,e,q⟩:=h;have hu:=bt hr;have nd:=l7.nd;refine⟨_,(ae (bO (pv 0) (pv 2) rfl)
  (ae (bO (pv 0) (a0 ag) rfl)
  (ai (bO (pv 0) (zj (bN T) hr (by rfl) (aa ax (aa ax (aa (wy (rL (pv 1) ax wH) rfl rfl (by simp) (by decide)) ag)))) rfl)))),?_⟩
 refine⟨_,_,_,_,rfl,e,T.bI.cl,T.bI.na,by show 0<1000;decide,?_⟩;refine⟨by show 0≤sizeLine;decide,fun pl iE=>?_⟩;have n1:x≠pl:=aP af iE;refine⟨_,_,_,_,rfl,by rw[ah n1];exact af,T.bI.cl,T.bI.na,by show 1<1000;decide,?_⟩;intro tU mx;refine⟨af,[(Sum.inl (n:Int),iV 1)],rfl,by show 1≤15;decide,?_⟩;rw[cp];intro mo tV qd Jl eP;refine⟨mo,tV,_,_,_,rfl,af,rfl,?_⟩;obtain⟨iE,p1⟩:=aO iE;obtain⟨mx,q1⟩:=aO mx;obtain⟨mx,q2⟩:=aO mx;obtain⟨mx,_⟩:=aO mx;obtain⟨qd,r1⟩:=aO qd;obtain⟨qd,r2⟩:=aO qd;obtain⟨qd,r3⟩:=aO qd;obtain⟨qd,_⟩:=aO qd;obtain⟨Se,u1⟩:=aO Jl;obtain⟨Se,u2⟩:=aO Se;obtain⟨Se,u3⟩:=aO Se;obtain⟨Se,_⟩:=aO Se;have ex:∀o1 o2 o3,upd (upd (upd (upd (upd (upd (upd H x (.ins C.Article dx (dZ "least" (iV m) []))) pl (.lst [])) x (.ins C.Article dx (dZ "parts" (V.ref pl) (dZ "least" (iV m) [])))) tU o1) tV o2) mo o3) mo (.ins C.dO tV [("depth",iV 0),("size",iV 1),("need",V.ref tU)]) x=some (.ins C.Article dx (dZ "parts" (V.ref pl) (dZ "least" (iV m) []))):=fun o1 o2 o3=>by grind[ah,af]
 refine⟨_,_,_,_,rfl,ex _ _ _,T.bI.cl,T.bI.na,by show 2<1000;decide,?_⟩;refine q pl tU mo tV _ (fun H0 k0 h0=>?_) iE mx qd (aR q2) (aR r3) (aR r1) af ?_ ?_ ?_
 ·have s1:=k0.lp (o':= .ins C.Article dx (dZ "least" (iV m) [])) h0 e trivial;have s2:=s1.trans (ao.new (C:=C) (p:=pl) (o:= .lst []) (by rw[ah p1];exact iE));have s3:=s2.lp (o:= .ins C.Article dx (dZ "least" (iV m) [])) (o':= .ins C.Article dx (dZ "parts" (V.ref pl) (dZ "least" (iV m) []))) h0 (by rw[ah n1];exact af) trivial;have s4:=s3.trans (ao.new (C:=C) (p:=tU) (o:= .dK (ux [] [(Sum.inl (n:Int),iV 1)])) (by rw[ah q1,ah q2,ah q1];exact mx));have s5:=s4.trans (ao.new (C:=C) (p:=tV) (o:= .own mo) Jl);have s6:=s5.trans (ao.new (C:=C) (p:=mo) (o:= .ins C.dO tV []) (by rw[ah (aR eP),ah r1,ah r2,ah r3,ah r2];exact qd));have h0m:H0 mo=none:=k0.back qd;have s7:=s6.lp (o':= .ins C.dO tV [("depth",iV 0),("size",iV 1),("need",V.ref tU)]) h0m af trivial;exact s7.lp h0 (ex _ _ _) trivial
 grind[ah,af];rw[ah q1,ah (aR r1),ah (aR r1),ah (aR u1),af];rfl;rw[ah r2,af];rfl
def ip (A:Tag→Addr)(k:Nat)(x pl mo nd:Addr):Tag→Addr:=fun t=>if t= .art k then x else if t= .part k then pl else if t= .dw k then mo else if t= .need k then nd else A t
def i9 (k:Nat)(t:Tag):Prop:=t= .art k∨t= .part k∨t= .dw k∨t= .need k
section
variable{A:Tag→Addr}{H H':Hp}{s:bE}{M:Nat→dW}{x pl mo nd:Addr}{k:Nat}
def BX {t:Tag}(h:¬i9 k t):ip A k x pl mo nd t=A t:=by
 unfold ip;rw[ak fun z=>h (.inl z),ak fun z=>h (.inr (.inl z)),ak fun z=>h (.inr (.inr (.inl z))),ak fun z=>h (.inr (.inr (.inr z)))]
theorem sI:ip A k x pl mo nd (.art k)=x:=aw rfl
theorem kr:ip A k x pl mo nd (.part k)=pl:=by unfold ip;simp
theorem kP:ip A k x pl mo nd (.dw k)=mo:=by unfold ip;simp
theorem lj:ip A k x pl mo nd (.need k)=nd:=by unfold ip;simp
theorem gk {m:Nat}(t:Tag):bT {s with articles:=putArt {id:=k,least:=m} s.articles} t↔bT s t∨i9 k t:=by
 have h:∀n,(∃y∈putArt {id:=k,least:=m} s.articles,y.id=n)↔(∃y∈s.articles,y.id=n)∨n=k:=fun n=>by
  constructor;intros;grind[di];rintro(⟨y,hy,rfl⟩|rfl);grind[di];simp[di]
 cases t with
 | art n=>exact(h n).trans ⟨fun z=>z.elim .inl fun e=> .inr (.inl (by rw[e])),fun z=>z.elim .inl fun e=> .inr (by rcases e with e|e|e|e<;>cases e;rfl)⟩
 | part n=>exact(h n).trans ⟨fun z=>z.elim .inl fun e=> .inr (.inr (.inl (by rw[e]))),fun z=>z.elim .inl fun e=> .inr (by rcases e with e|e|e|e<;>cases e;rfl)⟩
 | dw n=>exact(h n).trans ⟨fun z=>z.elim .inl fun e=> .inr (.inr (.inr (.inl (by rw[e])))),fun z=>z.elim .inl fun e=> .inr (by rcases e with e|e|e|e<;>cases e;rfl)⟩
 | need n=>exact(h n).trans ⟨fun z=>z.elim .inl fun e=> .inr (.inr (.inr (.inr (by rw[e])))),fun z=>z.elim .inl fun e=> .inr (by rcases e with e|e|e|e<;>cases e;rfl)⟩
 | _=>exact⟨fun h=> .inl h,fun h=>h.elim id fun e=>by rcases e with e|e|e|e<;>cases e⟩
def World.FE (W:World C A Z0 H s M){m:Nat}(hk:∀y∈s.articles,y.id≠k){ord:List Nat}(fq:ord.Perm (s.articles.map (·.id)))(pX:ao C H H')(hx:H x=none)(iE:H pl=none)(qd:H mo=none)(mx:H nd=none)
  (d1:x≠pl) (d2:x≠mo) (d3:x≠nd) (d4:pl≠mo) (d5:pl≠nd) (d6:mo≠nd) {dx tV:Addr} (ex:H' x=some (.ins C.Article dx [("least",iV m),("parts",.ref pl),("measure",.ref mo)])) (ep:H' pl=some (.lst [])) (en:H' nd=some (.dK ([(k,1)].map bg)))
  (em:H' mo=some (.ins C.dO tV [("depth",iV 0),("size",iV 1),("need",.ref nd)])) (hM:M k=⟨0,1,fun j=>if j=k then 1 else 0⟩):
  World C (ip A k x pl mo nd) Z0 (upd H' (A .ad) (.dK ((ord++[k]).map fun(a:Nat)=>((Sum.inl (a:Int):Key),V.ref (ip A k x pl mo nd (.art a)))))) {s with articles:=putArt {id:=k,least:=m} s.articles} M:=by
 have W1:=W.aF pX;have As:∀t,bT s t→H (A t)≠none:=fun t ht z=>by
  obtain⟨o,q,_⟩:=(W.at_ t ht).some ht;simp_all
 have zp:∀t,bT s t→¬i9 k t:=by
  rintro t ht (rfl|rfl|rfl|rfl)<;>(obtain⟨y,hy,e⟩:=ht;exact hk y hy e)
 have hA:∀t,¬i9 k t→ip A k x pl mo nd t=A t:=fun t ht=>BX ht;have EC:∀t,i9 k t→H (ip A k x pl mo nd t)=none:=by
  rintro t (rfl|rfl|rfl|rfl);rw[sI];exact hx;rw[kr];exact iE;rw[kP];exact qd;rw[lj];exact mx
 obtain⟨Sw,Bq,Ib⟩:=At.some (t:= .ad) trivial (W1.at_ .ad trivial);obtain⟨osd0,Rn,_⟩:=At.some (t:= .ad) trivial (W.at_ .ad trivial);have nt:∀n:Nat,n≠k→¬i9 k (.art n)∧¬i9 k (.part n)∧¬i9 k (.dw n)∧¬i9 k (.need n):=fun n hn=>by
  refine⟨?_,?_,?_,?_⟩<;>(rintro(e|e|e|e)<;>cases e<;>exact hn rfl)
 have nn:∀t,(∀n,t≠ .art n∧t≠ .part n∧t≠ .dw n∧t≠ .need n)→¬i9 k t:=fun t h e=>by
  rcases e with e|e|e|e;exact(h k).1 e;grind;grind;grind
 refine⟨fun t t' h h' e=>?_,fun t ht=>?_,W1.tabs.upd Bq Ib⟩
 ·rcases(gk t).mp h with h|h
  ·rcases(gk t').mp h' with h'|h'
   ·rw[hA t (zp t h),hA t' (zp t' h')]at e;exact W.inj t t' h h' e
   grind
  grind[gk,sI,kr,kP,lj]
 have zU:∀b,b≠A .ad→∀o,H' b=some o→upd H' (A .ad) (.dK ((ord++[k]).map fun(a:Nat)=>((Sum.inl (a:Int):Key),V.ref (ip A k x pl mo nd (.art a))))) b=some o:=fun b hb o q=>by rw[ah hb];exact q
 have FK:∀b,H b=none→b≠A .ad:=fun b hb z=>by rw[z,Rn]at hb;cases hb
 rcases(gk t).mp ht with oZ|oZ
 ·have sk:=zp t oZ;by_cases e1:t= .ad
  ·subst e1;refine⟨ord++[k],?_,?_⟩;grind[u5];rw[hA _ sk,af];rfl
  have h1:At C A Z0 (upd H' (A .ad) (.dK ((ord++[k]).map fun(a:Nat)=>((Sum.inl (a:Int):Key),V.ref (ip A k x pl mo nd (.art a)))))) s M t:=(W1.at_ t oZ).aF (fun o q=>by rw[ah fun z=>e1 (W.inj t _ oZ trivial z)];exact q) fun b xs q=>by rw[ah fun z=>by rw[z,Bq]at q;cases q;exact Ib];exact q
  generalize upd H' (A .ad) (.dK ((ord++[k]).map fun(a:Nat)=>((Sum.inl (a:Int):Key),V.ref (ip A k x pl mo nd (.art a)))))=H2 at *;cases t with
  | st=>
   obtain⟨y,q⟩:=h1;refine⟨y,?_⟩;have:Ci (ip A k x pl mo nd) s.today=Ci A s.today:=by rfl
   trivial
  | ad=>exact absurd rfl e1
  | ld=>
   have:(fun(a:Lot)=>((Sum.inl (a.id:Int):Key),V.ref (ip A k x pl mo nd (.lot a.id))))=fun(a:Lot)=>((Sum.inl (a.id:Int):Key),V.ref (A (.lot a.id))):=funext fun a=>by rw[hA _ (nn _ (by simp))]
   show _=Option.some (fz _ (HO.dK (s.lots.map fun(a:Lot)=>((Sum.inl (a.id:Int):Key),V.ref (ip A k x pl mo nd (.lot a.id))))));rw[this,hA _ sk];exact h1
  | sd=>
   obtain⟨ord,p,q⟩:=h1;refine⟨ord,p,?_⟩;trivial
  | th=>show _=_;rw[hA _ sk];exact h1
  | art n=>
   intro y hy e;rw[hA _ sk];rcases di.mp hy with rfl|h;exact absurd (.inl (by rw[←e])) sk;obtain⟨dx,q⟩:=h1 y h e;have Uv:y.id≠k:=hk y h;have:jA (ip A k x pl mo nd) y=jA A y:=by unfold jA;rw[hA _ (nt y.id Uv).2.1,hA _ (nt y.id Uv).2.2.1]
   grind
  | part n=>
   intro y hy e;rw[hA _ sk];rcases di.mp hy with rfl|h;exact absurd (.inr (.inl (by rw[←e]))) sk;exact h1 y h e
  | dw n=>
   obtain⟨dx,q⟩:=h1;refine⟨dx,?_⟩;have hnk:n≠k:=fun z=>sk (.inr (.inr (.inl (by rw[z]))));clear oZ;grind
  | need n=>show gO _ _ _ _;rw[hA _ sk];exact h1
  | lot n=>
   intro q hq e;obtain⟨dx,z⟩:=h1 q hq e;have:bQ (ip A k x pl mo nd) q=bQ A q:=by unfold bQ;rw[hA _ (nn _ (by simp)),hA _ (nn _ (by simp))]
   (constructor<;>assumption)
  | held n=>intro q hq e;rw[hA _ sk];exact h1 q hq e
  | used n=>intro q hq e;rw[hA _ sk];exact h1 q hq e
  | ses n=>intro y hy e;rw[hA _ sk];exact h1 y hy e
 have ex2:=zU x (FK x hx) _ ex;have P5:=zU pl (FK pl iE) _ ep;have en2:=zU nd (FK nd mx) _ en;have Ve:=zU mo (FK mo qd) _ em;generalize upd H' (A .ad) (.dK ((ord++[k]).map fun(a:Nat)=>((Sum.inl (a:Int):Key),V.ref (ip A k x pl mo nd (.art a)))))=H2 at *;rcases oZ with rfl|rfl|rfl|rfl
 ·intro y hy e;rw[sI];rcases di.mp hy with rfl|h;simp[jA,kr,kP];grind[jA,kr,kP];grind
 ·intro y hy e;rw[kr];rcases di.mp hy with rfl|h;exact⟨[],P5,.nil⟩;grind
 ·refine⟨tV,?_⟩;rw[kP,lj,hM];exact Ve
 show gO _ _ _ _;rw[lj,hM];refine⟨[(k,1)],by simp,fun j=>?_,en2⟩;rw[dg];by_cases z:j=k;subst z;simp;simp[z,aR z,rP]
end
end
section
variable{P:Program}{w:PySem.World}{K:Frag}{mg:Str→Option Value}{base:Heap}{C:cw}
def Moved.FE {A:Tag→Addr}{H H':Hp}{s:bE}{M:Nat→dW}{x pl mo nd:Addr}{k m:Nat}(W:World C A Z0 H s M)(hk:∀y∈s.articles,y.id≠k)(pX:ao C H H')(hx:H x=none)(iE:H pl=none)(qd:H mo=none)(mx:H nd=none){o:HO}:
  Moved C A s H (ip A k x pl mo nd) {s with articles:=putArt {id:=k,least:=m} s.articles} (upd H' (A .ad) o):=by
 obtain⟨Sw,Bq,Ib⟩:=At.some (t:= .ad) trivial (W.at_ .ad trivial);have zp:∀t,bT s t→¬i9 k t:=by
  rintro t ht (rfl|rfl|rfl|rfl)<;>(obtain⟨y,hy,e⟩:=ht;exact hk y hy e)
 refine⟨fun b ob e n hb=>?_,fun b ps e=>?_,fun t ht=>?_,fun t ht hf=>⟨BX (zp t ht),(gk t).mpr (.inl ht)⟩⟩;rw[ah fun z=>hb ⟨.ad,trivial,z⟩];exact pX.at_ b ob e n;rw[ah (fun z=>by rw[z,Bq]at e;cases e;exact Ib)];exact pX.tb b ps e;rcases(gk t).mp ht with h|h;rw[BX (zp t h)];exact .inl ⟨t,h,rfl⟩;refine .inr ?_;rcases h with rfl|rfl|rfl|rfl;rw[sI];exact hx;rw[kr];exact iE;rw[kP];exact qd;rw[lj];exact mx
def FP {L:List Article}(Wf:Wf L){k:Nat}(h:partsOf L k=[]):bC L k=⟨0,1,fun j=>if j=k then 1 else 0⟩:=by
 unfold bC;have e1:dep L k=0:=by rw[t6 Wf,aw h]
 have e2:CB L k=1:=by rw[FZ Wf,h];rfl
 have e3:cnt L k=fun j=>if j=k then 1 else 0:=funext fun j=>by rw[qZ Wf,aw h]
 rw[e1,e2,e3]
inductive xj (C:cw)(vs:List V)(H:Hp)(Q:VK)(E:XK):Prop|mk A s (a m:Nat):vs=[.ref (A .st),iV a,iV m]→Wd C A H s→aM s→(isArt a&&Vbdlal.inR m 0 MILLION)=true→c4 C A s H (articleCall s a m) Q→xj C vs H Q E
def zF (T:Txt K mg C):Callee P w K mg base 5 "add_article" ["store","number","least"] (xj C):=by
 refine T.zQ.callee nL fun f0 cg A0 aY s0 H vs Q E hr h=>?_;have hu:=bt hr;have nd:=nL.nd;refine⟨_,(ae (aU (dc (nq hu (pv 1) (az (pv 0) rfl))) (ai (au (a0 (aa (aK T.ml rfl) ag)))) aB)
  (ae (aU (aD DW (aW t8 (by rfl) T.i_ gb (aa (az (pv 0) rfl) ag)) (aK T.vY rfl) (aJ _)) (ai (au (a0 (aa (aK T.yw rfl) ag)))) aB)
  (ae (ib hu (az (pv 0) rfl) (pv 1) (zj (bI T) hr (by rfl) (aa (pv 1) (aa (pv 2) ag))) rfl)
  (ai (au (a0 (aa ax ag))))))),w3z ?_⟩;intros;obtain⟨A,s,a,m,rfl,W,ok,cD,q⟩:=h
 unfold articleCall at q;rw[ak (by rw[cD];decide)]at q;simp only[cY]at q;obtain⟨ord,fq,U'⟩:=W.at_ .ad trivial;have U':H (A .ad)=some (.dK (ord.map fun(a:Nat)=>(Sum.inl (a:Int),V.ref (A (.art a))))):=U';have g:=W.fM a;refine(bh T W).go ?_;refine⟨_,_,rfl,g,_,rfl,?_⟩;by_cases hk:∃x∈s.articles,x.id=a
 ·rw[aw hk];rw[aw (dz.mpr hk)]at q;exact cZ ⟨aH,fun D hD=>q.no W ao.refl hD⟩
 rw[ak hk];rw[ak fun z=>hk (dz.mp z)]at q;refine dk ?_;refine(bh T W).go ?_;refine⟨_,_,rfl,U',_,_,rfl,rfl,_,rfl,?_⟩;have hlen:ord.length=s.articles.length:=by rw[fq.length_eq,ay]
 refine b0 (fun h=>?_) fun h=>?_
 ·have h:=bW h;rw[ay,hlen]at h;rw[aw (show MAXART≤s.articles.length by unfold MAXART;lia)]at q;exact⟨aH,fun D hD=>q.no W ao.refl hD⟩
 have h:=o6 h;rw[ay,hlen]at h;rw[ak (show ¬MAXART≤s.articles.length by unfold MAXART;lia)]at q;have JB:∀y∈s.articles,y.id≠a:=fun y hy e=>hk ⟨y,hy,e⟩;refine fun x dx hx M6 eP=>⟨x,dx,a,m,rfl,af,fun pl tU mo tV H' hS iE mx qd d5 d4 d6 ex ep en em=>⟨rfl,?_⟩⟩;have k0:ao C H (upd (upd H dx (.own x)) x (.ins C.Article dx [])):=(ao.new M6).trans (ao.new (by rw[ah (aR eP)];exact hx));have k1:=hS H k0 hx;obtain⟨iE,p1⟩:=aO iE;obtain⟨iE,_⟩:=aO iE;obtain⟨mx,p2⟩:=aO mx;obtain⟨mx,_⟩:=aO mx;obtain⟨qd,p3⟩:=aO qd;obtain⟨qd,_⟩:=aO qd;have W1:=W.aF k1;have e1:=k1.at_ _ _ U' trivial;have Tj:a∉ord:=fun z=>by (clear hk;grind)
 have OD:fS (ord.map fun(a:Nat)=>((Sum.inl (a:Int):Key),V.ref (A (.art a)))) (Sum.inl (a:Int))=none:=by rw[fk fun a=>V.ref (A (.art a)),ak Tj]
 refine(bh T W1).go ?_;refine⟨_,_,rfl,tp.k (k:=Sum.inl (a:Int)) e1 (by rw[ay,hlen];exact fe ok.m6 (by decide)),?_⟩;have P5:putK (ord.map fun(a:Nat)=>((Sum.inl (a:Int):Key),V.ref (A (.art a)))) (Sum.inl (a:Int)) (V.ref x)=(ord++[a]).map fun(b:Nat)=>((Sum.inl (b:Int):Key),V.ref (ip A a x pl mo tU (.art b))):=by grind[mO,List.map_congr_left,ip]
 rw[P5];have U9:partsOf s.articles a=[]:=iO JB;have hMk:=FP (Wf.kQ ok.c7) U9;have W2:=W.FE (m:=m) JB fq k1 hx iE qd mx (aR p1) (aR p3) (aR p2) d4 d5 (aR d6) ex ep en em hMk;have m2:=Moved.FE (m:=m) (o:= .dK ((ord++[a]).map fun(b:Nat)=>((Sum.inl (b:Int):Key),V.ref (ip A a x pl mo tU (.art b))))) W JB k1 hx iE qd mx;refine⟨aH,fun D hD=>c4.pC q m2 ?_ hD rfl⟩;have hm:bC (putArt {id:=a,least:=m} s.articles)=bC s.articles:=vd (nr rfl JB);show World C _ Z0 _ _ (bC (putArt {id:=a,least:=m} s.articles));rw[hm];exact W2
def dN (A:Tag→Addr)(k:Nat)(x hd ud:Addr):Tag→Addr:=fun t=>if t= .lot k then x else if t= .held k then hd else if t= .used k then ud else A t
def i7 (k:Nat)(t:Tag):Prop:=t= .lot k∨t= .held k∨t= .used k
section
variable{A:Tag→Addr}{H H':Hp}{s:bE}{M:Nat→dW}{x hd ud:Addr}{k:Nat}{l:Lot}
theorem wI {t:Tag}(h:¬i7 k t):dN A k x hd ud t=A t:=by
 unfold dN;rw[ak fun z=>h (.inl z),ak fun z=>h (.inr (.inl z)),ak fun z=>h (.inr (.inr z))]
theorem i8:dN A k x hd ud (.lot k)=x:=aw rfl
theorem kJ:dN A k x hd ud (.held k)=hd:=by unfold dN;simp
theorem kH:dN A k x hd ud (.used k)=ud:=by unfold dN;simp
theorem iY (hk:l.id=k)(t:Tag):bT {s with lots:=s.lots++[l]} t↔bT s t∨i7 k t:=by
 have h:∀n,(∃y∈s.lots++[l],y.id=n)↔(∃y∈s.lots,y.id=n)∨n=k:=fun n=>by (constructor<;>grind)
 cases t with
 | lot n=>exact(h n).trans ⟨fun z=>z.elim .inl fun e=> .inr (.inl (by rw[e])),fun z=>z.elim .inl fun e=> .inr (by rcases e with e|e|e<;>cases e;rfl)⟩
 | held n=>exact(h n).trans ⟨fun z=>z.elim .inl fun e=> .inr (.inr (.inl (by rw[e]))),fun z=>z.elim .inl fun e=> .inr (by rcases e with e|e|e<;>cases e;rfl)⟩
 | used n=>exact(h n).trans ⟨fun z=>z.elim .inl fun e=> .inr (.inr (.inr (by rw[e]))),fun z=>z.elim .inl fun e=> .inr (by rcases e with e|e|e<;>cases e;rfl)⟩
 | _=>exact⟨fun h=> .inl h,fun h=>h.elim id fun e=>by rcases e with e|e|e<;>cases e⟩
def World.GX (W:World C A Z0 H s M)(hk:∀y∈s.lots,y.id≠k)(hl:l.id=k)(hh:l.held=[])(hu:l.uses=[])(pX:ao C H H')(hx:H x=none)(wF:H hd=none)(Aq:H ud=none)(d1:x≠hd)(d2:x≠ud)(d3:hd≠ud){dx:Addr}
  (ex:H' x=some (.ins C.Lot dx (bQ (dN A k x hd ud) l))) (eh:H' hd=some (.dK [])) (eu:H' ud=some (.dK [])):
  World C (dN A k x hd ud) Z0 (upd H' (A .ld) (.dK ((s.lots++[l]).map fun m=>((Sum.inl (m.id:Int):Key),V.ref (dN A k x hd ud (.lot m.id)))))) {s with lots:=s.lots++[l]} M:=by
 have W1:=W.aF pX;have As:∀t,bT s t→H (A t)≠none:=fun t ht z=>by
  obtain⟨o,q,_⟩:=(W.at_ t ht).some ht;grind
 have zp:∀t,bT s t→¬i7 k t:=by
  rintro t ht (rfl|rfl|rfl)<;>(obtain⟨y,hy,e⟩:=ht;exact hk y hy e)
 have hA:∀t,¬i7 k t→dN A k x hd ud t=A t:=fun t ht=>wI ht;have EC:∀t,i7 k t→H (dN A k x hd ud t)=none:=by
  rintro t (rfl|rfl|rfl);rw[i8];exact hx;rw[kJ];exact wF;rw[kH];exact Aq
 obtain⟨Sw,Bq,Ib⟩:=At.some (t:= .ld) trivial (W1.at_ .ld trivial);obtain⟨osd0,Rn,_⟩:=At.some (t:= .ld) trivial (W.at_ .ld trivial);have nt:∀n:Nat,n≠k→¬i7 k (.lot n)∧¬i7 k (.held n)∧¬i7 k (.used n):=fun n hn=>by
  refine⟨?_,?_,?_⟩<;>(rintro(e|e|e)<;>cases e<;>exact hn rfl)
 have nn:∀t,(∀n,t≠ .lot n∧t≠ .held n∧t≠ .used n)→¬i7 k t:=fun t h e=>by
  rcases e with e|e|e;exact(h k).1 e;grind;grind
 have mem:∀y,y∈s.lots++[l]→y∈s.lots∨y=l:=fun y hy=>(fK.mp hy).elim .inl fun h=> .inr (by simpa using h);refine⟨fun t t' h h' e=>?_,fun t ht=>?_,W1.tabs.upd Bq Ib⟩
 ·rcases(iY hl t).mp h with h|h
  ·rcases(iY hl t').mp h' with h'|h'
   ·rw[hA t (zp t h),hA t' (zp t' h')]at e;exact W.inj t t' h h' e
   grind
  grind[iY,i8,kJ,kH]
 have zU:∀b,b≠A .ld→∀o,H' b=some o→upd H' (A .ld) (.dK ((s.lots++[l]).map fun m=>((Sum.inl (m.id:Int):Key),V.ref (dN A k x hd ud (.lot m.id))))) b=some o:=fun b hb o q=>by rw[ah hb];exact q
 have FK:∀b,H b=none→b≠A .ld:=fun b hb z=>by rw[z,Rn]at hb;cases hb
 rcases(iY hl t).mp ht with oZ|oZ
 ·have sk:=zp t oZ;by_cases e1:t= .ld
  ·subst e1;show _=Option.some (fz _ (HO.dK ((s.lots++[l]).map fun m=>((Sum.inl (m.id:Int):Key),V.ref (dN A k x hd ud (.lot m.id))))));rw[hA _ sk,af];rfl
  have h1:At C A Z0 (upd H' (A .ld) (.dK ((s.lots++[l]).map fun m=>((Sum.inl (m.id:Int):Key),V.ref (dN A k x hd ud (.lot m.id)))))) s M t:=(W1.at_ t oZ).aF (fun o q=>by rw[ah fun z=>e1 (W.inj t _ oZ trivial z)];exact q) fun b xs q=>by rw[ah fun z=>by rw[z,Bq]at q;cases q;exact Ib];exact q
  generalize upd H' (A .ld) (.dK ((s.lots++[l]).map fun m=>((Sum.inl (m.id:Int):Key),V.ref (dN A k x hd ud (.lot m.id)))))=H2 at *;cases t with
  | st=>
   obtain⟨y,q⟩:=h1;refine⟨y,?_⟩;have:Ci (dN A k x hd ud) s.today=Ci A s.today:=by rfl
   trivial
  | ld=>exact absurd rfl e1
  | ad=>
   obtain⟨ord,p,q⟩:=h1;refine⟨ord,p,?_⟩;trivial
  | sd=>
   obtain⟨ord,p,q⟩:=h1;refine⟨ord,p,?_⟩;trivial
  | th=>show _=_;rw[hA _ sk];exact h1
  | art n=>
   intro y hy e;obtain⟨dx,q⟩:=h1 y hy e;have:jA (dN A k x hd ud) y=jA A y:=by unfold jA;rw[hA _ (nn _ (by simp)),hA _ (nn _ (by simp))]
   (constructor<;>assumption)
  | part n=>intro y hy e;rw[hA _ sk];exact h1 y hy e
  | dw n=>
   obtain⟨dx,q⟩:=h1;refine⟨dx,?_⟩;trivial
  | need n=>show gO _ _ _ _;rw[hA _ sk];exact h1
  | lot n=>
   intro y hy e;rw[hA _ sk];rcases mem y hy with h|rfl
   ·obtain⟨dx,q⟩:=h1 y h e;have Uv:=hk y h;have:bQ (dN A k x hd ud) y=bQ A y:=by unfold bQ;rw[hA _ (nt y.id Uv).2.1,hA _ (nt y.id Uv).2.2]
    simp_all
   exact absurd (.inl (by rw[←e,hl])) sk
  | held n=>
   intro y hy e;rw[hA _ sk];rcases mem y hy with h|rfl;exact h1 y h e;exact absurd (.inr (.inl (by rw[←e,hl]))) sk
  | used n=>
   intro y hy e;rw[hA _ sk];rcases mem y hy with h|rfl;exact h1 y h e;exact absurd (.inr (.inr (by rw[←e,hl]))) sk
  | ses n=>intro y hy e;rw[hA _ sk];exact h1 y hy e
 have ex2:=zU x (FK x hx) _ ex;have eh2:=zU hd (FK hd wF) _ eh;have eu2:=zU ud (FK ud Aq) _ eu;generalize upd H' (A .ld) (.dK ((s.lots++[l]).map fun m=>((Sum.inl (m.id:Int):Key),V.ref (dN A k x hd ud (.lot m.id)))))=H2 at *;rcases oZ with rfl|rfl|rfl
 ·intro y hy e;rw[i8];grind
 ·intro y hy e;rw[kJ];rcases mem y hy with h|rfl;simp_all;rw[hh];exact⟨[],.nil,eh2⟩
 intro y hy e;rw[kH];rcases mem y hy with h|rfl;simp_all;rw[hu];exact⟨[],.nil,eu2⟩
def Moved.GX (W:World C A Z0 H s M)(hk:∀y∈s.lots,y.id≠k)(hl:l.id=k)(pX:ao C H H')(hx:H x=none)(wF:H hd=none)(Aq:H ud=none){o:HO}:Moved C A s H (dN A k x hd ud) {s with lots:=s.lots++[l]} (upd H' (A .ld) o):=by
 obtain⟨Sw,Bq,Ib⟩:=At.some (t:= .ld) trivial (W.at_ .ld trivial);have zp:∀t,bT s t→¬i7 k t:=by
  rintro t ht (rfl|rfl|rfl)<;>(obtain⟨y,hy,e⟩:=ht;exact hk y hy e)
 refine⟨fun b ob e n hb=>?_,fun b ps e=>?_,fun t ht=>?_,fun t ht hf=>⟨wI (zp t ht),(iY hl t).mpr (.inl ht)⟩⟩;rw[ah fun z=>hb ⟨.ld,trivial,z⟩];exact pX.at_ b ob e n;rw[ah (fun z=>by rw[z,Bq]at e;cases e;exact Ib)];exact pX.tb b ps e;rcases(iY hl t).mp ht with h|h;rw[wI (zp t h)];exact .inl ⟨t,h,rfl⟩;refine .inr ?_;rcases h with rfl|rfl|rfl;rw[i8];exact hx;rw[kJ];exact wF;rw[kH];exact Aq
end
end
section
variable{P:Program}{w:PySem.World}{K:Frag}{mg:Str→Option Value}{base:Heap}{C:cw}
def dD (s:bE)(l a n e:Nat):Lot:={id:=l,article:=a,expiry:=e,day:=s.today,received:=n,free:=n}
def JJ (s:bE)(l a n e:Nat)(cD:(isId l&&(isArt a&&(isFew n&&isDay e)))=true):receiveCall s l a n e=if ET s l a n e≠0 then(s,[ET s l a n e])else
  match lotOf s l with
  | some x=>(Vbdlal.onLot s l fun x=>{x with received:=x.received+n,free:=x.free+n},[((x.received+n:Nat):Int)])
  | none=>({s with lots:=s.lots++[dD s l a n e]},[(n:Int)]):=by
 unfold receiveCall;rw[ak (by rw[cD];decide)];simp only[cY];rw[lP];unfold ET HU Av;by_cases h0:gH s a=0
 ·simp only[h0];cases lotOf s l<;>grind[Vbdlal.no,Vbdlal.done,dD]
 simp[h0]
inductive Rv (C:cw)(vs:List V)(H:Hp)(Q:VK)(E:XK):Prop|mk x dx n a e d:vs=[.ref x,iV n,iV a,iV e,iV d]→H x=some (.ins C.Lot dx [])→(∀hd ud H',(∀H0,ao C H0 H→H0 x=none→ao C H0 H')→H hd=none→H ud=none→hd≠ud→H' x=some (.ins C.Lot dx [("number",iV n),("article",iV a),("last_day",iV e),("first_day",iV d),("received",iV 0),("gained",iV 0),("free",iV 0),("held",.ref hd),("used",.ref ud),("thrown",iV 0),("lost",iV 0),("called_back",.bl false)])→ H' hd=some (.dK [])→H' ud=some (.dK [])→Q .gq H')→Rv C vs H Q E
def a_ (T:Txt K mg C):vm P w K mg base 1 "Lot" C.Lot ["self","number","article","last_day","first_day"] (Rv C):=by
 refine T.a_.DZ vD ?_ (fun _ _ _ _ _ _ us hl=>match us,hl with | [_,_,_,_,_],_=>rfl) fun f0 cg A0 aY s0 H vs Q E hr h=>?_;rintro vs H Q E ⟨x,dx,n,a,e,d,rfl,_⟩;rfl;obtain⟨x,dx,n,a,e,d,rfl,ex,q⟩:=h;have hu:=bt hr;have nd:=vD.nd;refine⟨_,(ae (bO (pv 0) (pv 1) rfl)
  (ae (bO (pv 0) (pv 2) rfl)
  (ae (bO (pv 0) (pv 3) rfl)
  (ae (bO (pv 0) (pv 4) rfl)
  (ae (bO (pv 0) ax rfl)
  (ae (bO (pv 0) ax rfl)
  (ae (bO (pv 0) ax rfl)
  (ae (bO (pv 0) gN rfl)
  (ae (bO (pv 0) gN rfl)
  (ae (bO (pv 0) ax rfl)
  (ae (bO (pv 0) ax rfl)
  (ai (bO (pv 0) gG rfl))))))))))))),?_⟩
 refine⟨_,_,_,_,rfl,ex,T.a_.cl,T.a_.na,by show 0<1000;decide,?_⟩;refine⟨_,_,_,_,rfl,af,T.a_.cl,T.a_.na,by show 1<1000;decide,?_⟩;refine⟨_,_,_,_,rfl,af,T.a_.cl,T.a_.na,by show 2<1000;decide,?_⟩;refine⟨_,_,_,_,rfl,af,T.a_.cl,T.a_.na,by show 3<1000;decide,?_⟩;refine⟨_,_,_,_,rfl,af,T.a_.cl,T.a_.na,by show 4<1000;decide,?_⟩;refine⟨_,_,_,_,rfl,af,T.a_.cl,T.a_.na,by show 5<1000;decide,?_⟩;refine⟨_,_,_,_,rfl,af,T.a_.cl,T.a_.na,by show 6<1000;decide,?_⟩;rw[cp,cp,cp,cp,cp,cp];intro hd wF;obtain⟨wF,p1⟩:=aO wF;refine⟨_,_,_,_,rfl,by rw[ah (aR p1)];exact af,T.a_.cl,T.a_.na,by show 7<1000;decide,?_⟩;intro ud Aq;obtain⟨Aq,p2⟩:=aO Aq;obtain⟨Aq,p3⟩:=aO Aq;obtain⟨Aq,_⟩:=aO Aq;refine⟨_,_,_,_,rfl,by rw[ah (aR p2)];exact af,T.a_.cl,T.a_.na,by show 8<1000;decide,?_⟩;refine⟨_,_,_,_,rfl,af,T.a_.cl,T.a_.na,by show 9<1000;decide,?_⟩;refine⟨_,_,_,_,rfl,af,T.a_.cl,T.a_.na,by show 10<1000;decide,?_⟩;refine⟨_,_,_,_,rfl,af,T.a_.cl,T.a_.na,by show 11<1000;decide,?_⟩;rw[cp,cp,cp];refine q hd ud _ (fun H0 k0 h0=>?_) wF Aq (aR p3) af ?_ ?_
 ·refine ao.lp ?_ h0 (by rw[ah (aR p2)];exact af) (by exact trivial);refine ao.trans ?_ (ao.new (by rw[ah p2,ah p3,ah p2];exact Aq));refine ao.lp ?_ h0 (by rw[ah (aR p1)];exact af) (by exact trivial);refine ao.trans ?_ (ao.new (by rw[ah p1];exact wF));exact k0.lp h0 ex trivial
 grind[ah,af];rw[ah p2,af]
inductive Fu (C:cw)(vs:List V)(H:Hp)(Q:VK)(E:XK):Prop|mk A s (l a n e:Nat):vs=[.ref (A .st),iV l,iV a,iV n,iV e]→Wd C A H s→aM s→(isId l&&(isArt a&&(isFew n&&isDay e)))=true→c4 C A s H (receiveCall s l a n e) Q→Fu C vs H Q E
def Jq (T:Txt K mg C):Callee P w K mg base 3 "receive" ["store","number","article","amount","last_day"] (Fu C):=by
 refine T.Jr.callee ze fun f0 cg A0 aY s0 H vs Q E hr h=>?_;have nd:=ze.nd;refine⟨_,(ae (aN (i:=5) nd (aI (tQ T) hr (aa (pv 0) (aa (pv 1) (aa (pv 2) (aa (pv 3) (aa (pv 4) ag)))))))
  (ae (aU (aD g0 (pv 5) (aK T.bH rfl) (aJ _)) (ai (au (a0 (aa (pv 5) ag)))) aB)
  (ae (aN (i:=6) nd (KS (az (pv 0) rfl) (pv 1) (zj (a_ T) hr (by rfl) (aa (pv 1) (aa (pv 2) (aa (pv 4) (aa (az (pv 0) rfl) ag))))) ⟨rfl,rfl,rfl,rfl⟩))
  (ae (e_ (pv 6) (pv 3) m8)
  (ae (e_ (pv 6) (pv 3) m8)
  (ai (au (a0 (aa (az (pv 6) rfl) ag))))))))),w5z ?_⟩;intros;obtain⟨A,s,l,a,n,e,rfl,W,ok,cD,q⟩:=h
 rw[JJ s l a n e cD]at q;refine⟨A,s,l,a,n,e,rfl,W,?_⟩;refine⟨rfl,_,rfl,?_⟩;refine b0 (fun h=>?_) fun h=>?_
 ·rw[aw (bS.mp h)]at q;exact⟨aH,fun D hD=>q.no W ao.refl hD⟩
 rw[ak fun z=>h (bS.mpr z)]at q;have Yl:=W.Qa (rfl:Z0 .ld=none);refine(eE T W).go ?_;refine⟨_,rfl,.inl ⟨_,.inl Yl⟩,?_⟩;refine(ve T W).go ?_;refine fun x dx hx M6 eP=>⟨x,dx,l,a,e,s.today,rfl,af,fun hd ud H' hS wF Aq d3 ex eh eu=>⟨rfl,?_⟩⟩;have k0:ao C H (upd (upd H dx (.own x)) x (.ins C.Lot dx [])):=(ao.new M6).trans (ao.new (by rw[ah (aR eP)];exact hx));have k1:=hS H k0 hx;obtain⟨wF,p1⟩:=aO wF;obtain⟨wF,_⟩:=aO wF;obtain⟨Aq,p2⟩:=aO Aq;obtain⟨Aq,_⟩:=aO Aq;have W1:=W.aF k1;have e1:=k1.at_ _ _ Yl trivial;refine⟨_,Sum.inl (l:Int),e1,rfl,by rw[ay];exact fe ok.gX (by decide),fun v hv=>?_,fun hv=>?_⟩
 ·rw[k8 fun m=>V.ref (A (.lot m.id))]at hv;have RZ:(lotOf s l).map (fun m=>V.ref (A (.lot m.id)))=some v:=hv;cases hl:lotOf s l with
  | none=>rw[hl]at RZ;cases RZ
  | some y=>
   rw[hl]at RZ q;obtain⟨hy,rfl⟩:=gK hl;have hv3:some (V.ref (A (.lot y.id)))=some v:=RZ;cases hv3;have q:c4 C A s H (Vbdlal.onLot s y.id fun x=>{x with received:=x.received+n,free:=x.free+n},[((y.received+n:Nat):Int)]) Q:=q;rw[dm ok.iK hy _ rfl]at q;obtain⟨dy,ey⟩:=W1.kq hy;refine⟨_,_,_,_,_,rfl,ey,T.a_.cl,T.a_.na,rfl,_,_,rfl,rfl,_,_,ey,by show 12<1000;decide,?_⟩;rw[xM,kn];refine⟨_,_,_,_,_,rfl,af,T.a_.cl,T.a_.na,rfl,_,_,rfl,rfl,_,_,af,by show 12<1000;decide,?_⟩;rw[xM,eI,cp];have W2:=W1.j9 (l':={y with received:=y.received+n,free:=y.free+n}) ok.iK hy rfl rfl rfl (dx:=dy);have m2:Moved C A s H A (bY s {y with received:=y.received+n,free:=y.free+n}) _:=(Moved.aF k1).trans (Moved.write (C:=C) (A:=A) (o:= .ins C.Lot dy (bQ A {y with received:=y.received+n,free:=y.free+n})) (t₀:= .lot y.id) ⟨y,hy,rfl⟩ bu ey trivial);have BP:({y with received:=y.received+n,free:=y.free+n}:Lot)∈(bY s {y with received:=y.received+n,free:=y.free+n}).lots:=nZ hy rfl;refine(iQ T W2 BP).go ?_;exact⟨aH,fun D hD=>c4.pC q m2 W2 hD rfl⟩
 rw[k8 fun m=>V.ref (A (.lot m.id))]at hv;have hv:(lotOf s l).map (fun m=>V.ref (A (.lot m.id)))=none:=hv;have hl:lotOf s l=none:=by cases hl:lotOf s l with
  | none=>rfl
  | some y=>rw[hl]at hv;cases hv
 rw[hl]at q;have q:c4 C A s H ({s with lots:=s.lots++[dD s l a n e]},[(n:Int)]) Q:=q;have hk:=EH.mp hl;have ep:putK (s.lots.map fun m=>((Sum.inl (m.id:Int):Key),V.ref (A (.lot m.id)))) (Sum.inl (l:Int)) (V.ref x)=(s.lots++[dD s l a 0 e]).map fun m=>((Sum.inl (m.id:Int):Key),V.ref (dN A l x hd ud (.lot m.id))):=by
  rw[mO (by rw[k8 fun m=>V.ref (A (.lot m.id))];exact hv),gS]
  congr 1
  (simp[List.map_congr_left,i7,wI];grind[List.map_congr_left,i7,wI]);show _=[((Sum.inl (l:Int):Key),V.ref (dN A l x hd ud (.lot l)))];rw[i8]
 rw[ep];have Sf:H' x=some (.ins C.Lot dx (bQ (dN A l x hd ud) (dD s l a 0 e))):=by (simp only[bQ,dD,kJ,kH];omega)
 have W2:=W.GX (k:=l) (l:=dD s l a 0 e) hk rfl rfl rfl k1 hx wF Aq (aR p1) (aR p2) d3 Sf eh eu;have m2:=Moved.GX (k:=l) (l:=dD s l a 0 e) (o:= .dK ((s.lots++[dD s l a 0 e]).map fun m=>((Sum.inl (m.id:Int):Key),V.ref (dN A l x hd ud (.lot m.id))))) W hk rfl k1 hx wF Aq;have BP:dD s l a 0 e∈({s with lots:=s.lots++[dD s l a 0 e]}:bE).lots:=by simp
 have QZ:(({s with lots:=s.lots++[dD s l a 0 e]}:bE).lots.map (·.id)).Nodup:=by
  show((s.lots++[_]).map _).Nodup;rw[gS,BA];refine⟨ok.iK,by simp,fun i hi j hj z=>?_⟩;obtain⟨m,hm,e⟩:=aZ.mp hi;have:j=l:=BG.mp hj;grind
 have pX:bY {s with lots:=s.lots++[dD s l a 0 e]} (dD s l a n e)={s with lots:=s.lots++[dD s l a n e]}:=by
  unfold bY Vbdlal.onLot;dsimp only;rw[gS]
  congr 2
  ·conv=>rhs;rw[←jm s.lots]
   refine cE fun m hm=>?_;exact ak (show ¬(m.id==l)=true by have:=hk m hm;simpa using this)
  show [if((l==l)=true)then _ else _]=_;simp
 obtain⟨dy,ey⟩:=W2.kq BP;have eA:dN A l x hd ud (.lot l)=x:=i8;have ey:upd H' (A .ld) (.dK ((s.lots++[dD s l a 0 e]).map fun m=>((Sum.inl (m.id:Int):Key),V.ref (dN A l x hd ud (.lot m.id))))) x=some (.ins C.Lot dy (bQ (dN A l x hd ud) (dD s l a 0 e))):=by grind[dD]
 refine⟨_,_,_,_,_,rfl,ey,T.a_.cl,T.a_.na,rfl,_,_,rfl,rfl,_,_,ey,by show 12<1000;decide,?_⟩;rw[xM,kn];refine⟨_,_,_,_,_,rfl,af,T.a_.cl,T.a_.na,rfl,_,_,rfl,rfl,_,_,af,by show 12<1000;decide,?_⟩;rw[xM,eI,cp];generalize upd H' (A .ld) (.dK ((s.lots++[dD s l a 0 e]).map fun m=>((Sum.inl (m.id:Int):Key),V.ref (dN A l x hd ud (.lot m.id)))))=Hn at *;have W3:World C (dN A l x hd ud) Z0 (upd Hn (dN A l x hd ud (.lot l)) (.ins C.Lot dy (bQ (dN A l x hd ud) (dD s l a n e)))) (bY {s with lots:=s.lots++[dD s l a 0 e]} (dD s l a n e)) (bC s.articles):=W2.j9 (l':=dD s l a n e) QZ BP rfl rfl rfl (dx:=dy);have m3:Moved C (dN A l x hd ud) {s with lots:=s.lots++[dD s l a 0 e]} Hn (dN A l x hd ud) (bY {s with lots:=s.lots++[dD s l a 0 e]} (dD s l a n e)) (upd Hn (dN A l x hd ud (.lot l)) (.ins C.Lot dy (bQ (dN A l x hd ud) (dD s l a n e)))):=
  Moved.write (t₀:= .lot l) ⟨_,BP,rfl⟩ bu (by rw[eA];exact ey) (by exact trivial)
 rw[pX,eA]at W3 m3;have Wm:=m2.trans m3;have hm3:dD s l a n e∈({s with lots:=s.lots++[dD s l a n e]}:bE).lots:=by simp
 have fr:jZ K (upd Hn x (.ins C.Lot dy (bQ (dN A l x hd ud) (dD s l a n e)))) x "received" (iV n):=by
  have:=iQ T W3 hm3;rw[show dN A l x hd ud (.lot (dD s l a n e).id)=x from i8]at this;exact this
 have e0:({dD s l a 0 e with received:=(dD s l a 0 e).received+n,free:=(dD s l a 0 e).free+n}:Lot)=dD s l a n e:=by unfold dD;simp
 have X3:bQ (dN A l x hd ud) {dD s l a 0 e with received:=(dD s l a 0 e).received+n,free:=(dD s l a 0 e).free+n}=bQ (dN A l x hd ud) (dD s l a n e):=by rw[e0]
 rw[show bQ (dN A l x hd ud) ({({dD s l a 0 e with received:=(dD s l a 0 e).received+n}:Lot)with free:=(dD s l a 0 e).free+n})=bQ (dN A l x hd ud) (dD s l a n e)from X3];refine fr.go ?_;exact⟨aH,fun D hD=>c4.pC q Wm W3 hD rfl⟩
structure mN (C:cw)(H:Hp)(p:Addr)(d s:Nat)(nd:Addr):Prop where
 ex:∃dx,H p=some (.ins C.dO dx (P7 d s nd))
def mN.aF {H H':Hp}{p nd:Addr}{d s:Nat}(h:mN C H p d s nd)(k:ao C H H'):mN C H' p d s nd:=by
 obtain⟨dx,e⟩:=h.ex;exact⟨dx,k.at_ _ _ e trivial⟩
section
variable{H:Hp}{p nd:Addr}{d s:Nat}
def mN.depth (T:Txt K mg C)(h:mN C H p d s nd):jZ K H p "depth" (iV d):=by
 obtain⟨dx,e⟩:=h.ex;exact⟨_,dx,_,e,T.bN.cl,T.bN.na,by rfl⟩
def mN.size (T:Txt K mg C)(h:mN C H p d s nd):jZ K H p "size" (iV s):=by
 obtain⟨dx,e⟩:=h.ex;exact⟨_,dx,_,e,T.bN.cl,T.bN.na,by rfl⟩
def mN.need (T:Txt K mg C)(h:mN C H p d s nd):jZ K H p "need" (.ref nd):=by
 obtain⟨dx,e⟩:=h.ex;exact⟨_,dx,_,e,T.bN.cl,T.bN.na,by rfl⟩
end
inductive uS (C:cw)(vs:List V)(H:Hp)(Q:VK)(E:XK):Prop|mk p d s nd (kvs:List (Nat×Nat)):vs=[.ref p]→mN C H p d s nd→H nd=some (.dK (kvs.map bg))→kvs≠[]→(∀H',ao C H H'→Q (.bl (decide (d≤8∧s≤256)&&kvs.all fun q=>decide (q.2≤1000000))) H')→uS C vs H Q E
def wj (T:Txt K mg C):Callee P w K mg base 1 "within_limits" ["measure"] (uS C):=by
 refine T.wm.callee kO fun f0 cg A0 aY s0 H vs Q E hr h=>?_;obtain⟨p,d,s,tU,kvs,rfl,me,en,eP,q⟩:=h;have nd:=kO.nd;refine⟨_,(ae (aU (PW.pt (Aa (aD p8 (az (pv 0) rfl) (aK T.uW rfl) (aJ _)) (uE (aD p8 (az (pv 0) rfl) (aK T.wd rfl) (aJ _))))) (ai (au gG)) aB)
  (ai (au (lF sg (aW (Of rfl) (by rfl) T.HW boot_max (aa (i3 (az (pv 0) rfl)) ag)) (aK T.wg rfl) (aJ _))))),?_⟩
 refine(me.depth T).go ?_;refine⟨_,_,rfl,rfl,_,rfl,?_⟩;refine b0 (fun h=>?_) fun h=>?_
 ·have h:=bW h;have:=q H ao.refl;rw[qu (by lia:¬(d≤8∧s≤256))]at this;exact cZ this
 have h:=o6 h;refine(me.size T).go ?_;refine⟨_,_,rfl,rfl,_,rfl,?_⟩;refine b0 (fun h2=>?_) fun h2=>?_
 ·have h2:=bW h2;have:=q H ao.refl;rw[qu (by lia:¬(d≤8∧s≤256))]at this;exact this
 have h2:=o6 h2;refine(me.need T).go ?_;refine⟨_,_,rfl,en,fun v hv=>?_⟩;have kv:ao C H (upd H v (iH "dict_values" v tU)):=ao.new hv;refine⟨v,tU,kvs,rfl,af,kv.at_ _ _ en trivial,eP,?_⟩;have:=q _ kv;rw[iy (by lia:d≤8∧s≤256)]at this;intro m ⟨p0,hp0,e0⟩ hmax;refine⟨_,_,rfl,rfl,?_⟩;clear q;simp_all;grind
inductive Lq (C:cw)(vs:List V)(H:Hp)(Q:VK)(E:XK):Prop|mk x dx:vs=[.ref x]→H x=some (.ins C.pH dx [])→(∀ad ld sd th H',(∀H0,ao C H0 H→H0 x=none→ao C H0 H')→H ad=none→H ld=none→H sd=none→H th=none→ad≠ld→ad≠sd→ad≠th→ld≠sd→ld≠th→sd≠th→ H' x=some (.ins C.pH dx [("day",iV 0),("articles",.ref ad),("lots",.ref ld),("sessions",.ref sd),("thrown_for",.ref th)])→H' ad=some (.dK [])→H' ld=some (.dK [])→H' sd=some (.dK [])→H' th=some (.lst ((0::Vbdlal.start.reasons).map iV))→Q .gq H')→Lq C vs H Q E
def cn (T:Txt K mg C):vm P w K mg base 1 "Store" C.pH ["self"] (Lq C):=by
 refine T.cn.DZ qh ?_ (fun _ _ _ _ _ _ us hl=>match us,hl with | [_],_=>rfl) fun f0 cg A0 aY s0 H vs Q E hr h=>?_;rintro vs H Q E ⟨x,dx,rfl,_⟩;rfl;obtain⟨x,dx,rfl,ex,q⟩:=h;have hu:=bt hr;have nd:=qh.nd;refine⟨_,(ae (bO (pv 0) ax rfl)
  (ae (bO (pv 0) gN rfl)
  (ae (bO (pv 0) gN rfl)
  (ae (bO (pv 0) gN rfl)
  (ai (bO (pv 0) (cx RS (a0 (aa ax ag)) ax) rfl)))))),?_⟩
 refine⟨_,_,_,_,rfl,ex,T.cn.cl,T.cn.na,by show 0<1000;decide,?_⟩;intro ad FK;obtain⟨FK,a1⟩:=aO FK;refine⟨_,_,_,_,rfl,by rw[ah (aR a1)];exact af,T.cn.cl,T.cn.na,by show 1<1000;decide,?_⟩;intro ld M4;obtain⟨M4,b1⟩:=aO M4;obtain⟨M4,b2⟩:=aO M4;obtain⟨M4,_⟩:=aO M4;refine⟨_,_,_,_,rfl,by rw[ah (aR b1)];exact af,T.cn.cl,T.cn.na,by show 2<1000;decide,?_⟩;intro sd Ej;obtain⟨Ej,c1⟩:=aO Ej;obtain⟨Ej,c2⟩:=aO Ej;obtain⟨Ej,_⟩:=aO Ej;obtain⟨Ej,c3⟩:=aO Ej;obtain⟨Ej,_⟩:=aO Ej;refine⟨_,_,_,_,rfl,by rw[ah (aR c1)];exact af,T.cn.cl,T.cn.na,by show 3<1000;decide,?_⟩;refine⟨aH,fun l0 US=>⟨l0,10,_,rfl,rfl,af,by decide,by decide,by show 1*10≤sizeLine;decide,fun th U3=>?_⟩⟩;obtain⟨hl0',d1⟩:=aO US;obtain⟨hth1,e1⟩:=aO U3;obtain⟨hth2,e2⟩:=aO hth1;obtain⟨hth3,e3⟩:=aO hth2;obtain⟨hth4,_⟩:=aO hth3;obtain⟨hth5,e4⟩:=aO hth4;obtain⟨hth6,_⟩:=aO hth5;obtain⟨hth7,e5⟩:=aO hth6;obtain⟨hth8,_⟩:=aO hth7;obtain⟨g1,f1⟩:=aO hl0';obtain⟨g2,_⟩:=aO g1;obtain⟨g3,f2⟩:=aO g2;obtain⟨g4,_⟩:=aO g3;obtain⟨g5,f3⟩:=aO g4;refine⟨_,_,_,_,rfl,by rw[ah (aR e2),ah (aR d1)];exact af,T.cn.cl,T.cn.na,by show 4<1000;decide,?_⟩;refine q ad ld sd th _ (fun H0 k0 h0=>?_) FK M4 Ej hth8 (aR b2) (aR c3) (aR e5) (aR c2) (aR e4) (aR e3) af ?_ ?_ ?_ ?_
 ·refine ao.lp ?_ h0 (by rw[ah (aR e2),ah (aR d1)];exact af) (by exact trivial);refine ao.trans ?_ (ao.new U3);refine ao.trans ?_ (ao.new US);refine ao.lp ?_ h0 (by rw[ah (aR c1)];exact af) (by exact trivial);refine ao.trans ?_ (ao.new (by rw[ah c1,ah c2,ah c1,ah c3,ah c1];exact Ej));refine ao.lp ?_ h0 (by rw[ah (aR b1)];exact af) (by exact trivial);refine ao.trans ?_ (ao.new (by rw[ah b1,ah b2,ah b1];exact M4));refine ao.lp ?_ h0 (by rw[ah (aR a1)];exact af) (by exact trivial);refine ao.trans ?_ (ao.new (by rw[ah a1];exact FK));exact k0.lp h0 ex trivial
 rw[ah a1,ah (aR e5),ah (aR f3),ah a1,ah (aR c3),ah a1,ah (aR b2),ah a1,af];rw[ah b1,ah (aR e4),ah (aR f2),ah b1,ah (aR c2),ah b1,af];grind[ah,af];rw[ah e2,af];rfl
end
section
variable{C:cw}
def Bv (x ad ld sd th:Addr):Tag→Addr
 | .ad=>ad
 | .ld=>ld
 | .sd=>sd
 | .th=>th
 | _=>x
def DN {H:Hp}{x dx ad ld sd th:Addr}(ht:iS C H)(ex:H x=some (.ins C.pH dx [("day",iV 0),("articles",.ref ad),("lots",.ref ld),("sessions",.ref sd),("thrown_for",.ref th)]))(ea:H ad=some (.dK []))(el:H ld=some (.dK []))(es:H sd=some (.dK []))
  (et:H th=some (.lst ((0::Vbdlal.start.reasons).map iV))) (d1:ad≠ld) (d2:ad≠sd) (d4:ld≠sd):Wd C (Bv x ad ld sd th) H Vbdlal.start:=by
 have n1:x≠ad:=fun z=>by rw[z,ea]at ex;cases ex
 have n2:x≠ld:=fun z=>by rw[z,el]at ex;cases ex
 have n3:x≠sd:=fun z=>by rw[z,es]at ex;cases ex
 have n4:x≠th:=fun z=>by rw[z,et]at ex;cases ex
 have n5:ad≠th:=fun z=>by rw[z,et]at ea;cases ea
 have n6:ld≠th:=fun z=>by rw[z,et]at el;cases el
 have n7:sd≠th:=fun z=>by rw[z,et]at es;cases es
 have hl:∀t,bT Vbdlal.start t→t= .st∨t= .ad∨t= .ld∨t= .sd∨t= .th:=fun t h=>by
  cases t with
  | st=>exact .inl rfl
  | ad=>exact .inr (.inl rfl)
  | ld=>exact .inr (.inr (.inl rfl))
  | sd=>exact .inr (.inr (.inr (.inl rfl)))
  | th=>exact .inr (.inr (.inr (.inr rfl)))
  | _=>obtain⟨y,hy,_⟩:=h;exact absurd hy (by simp[Vbdlal.start])
 refine⟨fun t t' h h' e=>?_,fun t h=>?_,ht⟩
 ·rcases hl t h with rfl|rfl|rfl|rfl|rfl<;>rcases hl t' h' with rfl|rfl|rfl|rfl|rfl<;>first|rfl|exact absurd e ‹_› | exact absurd e.symm ‹_›
 rcases hl t h with rfl|rfl|rfl|rfl|rfl;exact⟨dx,ex⟩;exact⟨[],.nil,ea⟩;exact el;exact⟨[],.nil,es⟩;exact et
end
section
variable{P:Program}{w:PySem.World}{K:Frag}{mg:Str→Option Value}{base:Heap}{C:cw}
def Tells (C:cw)(H:Hp)(l:List Int)(Q:VK):Prop:=∀D H',H D=none→ao C H H'→H' D=some (.lst (l.map V.int))→Q (.ref D) H'
def Tells.pC {H H1:Hp}{l:List Int}{Q:VK}{xs:List V}{D:Addr}(h:Tells C H l Q)(k:ao C H H1)(hD:H1 D=none)(e:xs=l.map V.int):Q (.ref D) (upd H1 D (.lst xs)):=
 h D _ (k.back hD) (k.trans (ao.new hD)) (by rw[af,e])
def Tells.at {H H1 H2:Hp}{l:List Int}{Q:VK}{D:Addr}(h:Tells C H l Q)(k:ao C H H1)(hD:H1 D=none)(k2:ao C H1 H2)(e:H2 D=some (.lst (l.map V.int))):Q (.ref D) H2:=h D _ (k.back hD) (k.trans k2) e
def c4.tells {A:Tag→Addr}{s:bE}{H:Hp}{l:List Int}{Q:VK}(h:c4 C A s H (s,l) Q)(W:Wd C A H s):Tells C H l Q:=fun D H' hD k e=>h A H' D (fun o z=>by rw[hD]at z;cases z) (Moved.aF k) (W.aF k) e
def HQ {n:Nat}(h:isFew n=true):n≠0:=by grind -order[isFew,jD]
inductive zB (C:cw)(vs:List V)(H:Hp)(Q:VK)(E:XK):Prop|mk a (ns:List Int):vs=[.ref a]→H a=some (.lst (ns.map V.int))→ns.length+1≤sizeLine→Tells C H ((ns.length:Int)::ns) Q→zB C vs H Q E
def s_ (T:Txt K mg C):Callee P w K mg base 1 "number_row" ["numbers"] (zB C):=by
 refine T.A5.callee pY fun f0 cg A0 aY s0 H vs Q E hr h=>?_;obtain⟨a,ns,rfl,ea,hlen,q⟩:=h;have nd:=pY.nd;refine⟨_,(ai (au (cx og (a0 (aa (aW cJ (by rfl) T.i_ gb (aa (pv 0) ag)) ag)) (pv 0)))),?_⟩;refine⟨_,_,rfl,.inl (bz.of ea),aH,fun D hD=>?_⟩;refine⟨D,a,_,_,rfl,rfl,af,(by rw[ah (aP ea hD)];exact ea),?_,fun D2 lr=>?_⟩;simp;lia;refine q.pC (ao.new hD) lr ?_;simp
inductive BY (C:cw)(vs:List V)(H:Hp)(Q:VK)(E:XK):Prop|mk A s (a n:Nat):vs=[.ref (A .st),iV a,iV n]→Wd C A H s→aM s→(isArt a&&isFew n)=true→Tells C H (needCall s a n) Q→BY C vs H Q E
def DS (T:Txt K mg C):Callee P w K mg base 2 "tell_need" ["store","number","amount"] (BY C):=by
 refine T.ER.callee rT fun f0 cg A0 aY s0 H vs Q E hr h=>?_;obtain⟨A,s,a,n,rfl,W,ok,cD,q⟩:=h;have hu:=bt hr;have nd:=rT.nd;refine⟨_,(ae (aU (dc (cj hu (pv 1) (az (pv 0) rfl))) (ai (au (a0 (aa (aK T.d_ rfl) ag)))) aB)
  (ai (au (aI (qb T) hr (aa (aI (i5 T) hr (aa (bD hu (az (pv 0) rfl) (pv 1)) (aa (pv 2) ag))) ag))))),?_⟩
 unfold needCall at q;rw[ak (by rw[cD];decide)]at q;simp only[cY]at q;have hn:n≠0:=HQ (by simp only[cy]at cD;exact cD.2);have g:=W.fM a;refine(bh T W).go ?_;refine⟨_,_,rfl,g,_,rfl,?_⟩;cases ha:Vbdlal.art s a with
 | none=>
  have hn:¬ ∃x∈s.articles,x.id=a:=fun z=>by rw[←dz,ha]at z;cases z
  rw[ak hn];rw[ha]at q;exact cZ ⟨aH,fun D hD=>q.pC ao.refl hD rfl⟩
 | some x=>
  obtain⟨hx,rfl⟩:=jF ha;rw[aw (show ∃y∈s.articles,y.id=x.id from⟨x,hx,rfl⟩)]at g ⊢;rw[ha]at q;have q:Tells C H (Vbdlal.rowOf (needs s.articles x.id n)) Q:=q;refine dk ?_;refine(bh T W).go ?_;refine⟨_,_,rfl,g,A,Z0,s,x,n,rfl,W,rfl,ok,hx,hn,fun D H1 hD k1 g1=>?_⟩;have O_:=dY ok (a:=x.id) (n:=n) ⟨x,hx,rfl⟩;refine⟨D,_,rfl,lD g1,?_,fun D2 H2 lr k2 e2=>?_⟩;rw[cM,b_];exact aG (show _≤129 by lia) (by decide);rw[cM]at e2;exact q.at k1 lr k2 e2
def jI (s:bE)(b:Bag):(lacking s b).length≤b.length:=by
 unfold lacking;simp_all;grind -order
inductive zq (C:cw)(vs:List V)(H:Hp)(Q:VK)(E:XK):Prop|mk A s (a n:Nat):vs=[.ref (A .st),iV a,iV n]→Wd C A H s→aM s→(isArt a&&isFew n)=true→Tells C H (shortCall s a n) Q→zq C vs H Q E
def CJ (T:Txt K mg C):Callee P w K mg base 5 "tell_short" ["store","number","amount"] (zq C):=by
 refine T.BW.callee ql fun f0 cg A0 aY s0 H vs Q E hr h=>?_;obtain⟨A,s,a,n,rfl,W,ok,cD,q⟩:=h;have hu:=bt hr;have nd:=ql.nd;refine⟨_,(ae (aU (dc (cj hu (pv 1) (az (pv 0) rfl))) (ai (au (a0 (aa (aK T.d_ rfl) ag)))) aB)
  (ai (au (aI (qb T) hr (aa (aI (lZ T) hr (aa (pv 0) (aa (aI (i5 T) hr (aa (bD hu (az (pv 0) rfl) (pv 1)) (aa (pv 2) ag))) ag))) ag))))),?_⟩
 unfold shortCall at q;rw[ak (by rw[cD];decide)]at q;simp only[cY]at q;have hn:n≠0:=HQ (by simp only[cy]at cD;exact cD.2);have g:=W.fM a;refine(bh T W).go ?_;refine⟨_,_,rfl,g,_,rfl,?_⟩;cases ha:Vbdlal.art s a with
 | none=>
  have hn:¬ ∃x∈s.articles,x.id=a:=fun z=>by rw[←dz,ha]at z;cases z
  rw[ak hn];rw[ha]at q;exact cZ ⟨aH,fun D hD=>q.pC ao.refl hD rfl⟩
 | some x=>
  obtain⟨hx,rfl⟩:=jF ha;rw[aw (show ∃y∈s.articles,y.id=x.id from⟨x,hx,rfl⟩)]at g ⊢;rw[ha]at q;have q:Tells C H (Vbdlal.rowOf (lacking s (needs s.articles x.id n))) Q:=q;refine dk ?_;refine(bh T W).go ?_;refine⟨_,_,rfl,g,A,Z0,s,x,n,rfl,W,rfl,ok,hx,hn,fun D H1 hD k1 g1=>?_⟩;have O_:=dY ok (a:=x.id) (n:=n) ⟨x,hx,rfl⟩;refine⟨A,Z0,s,_,D,_,rfl,W.aF k1,rfl,ok,g1,aG O_ (by decide),fun D2 H2 lr k2 g2=>?_⟩;have Pb:=jI s (needs s.articles x.id n);refine⟨D2,_,rfl,lD g2,?_,fun D3 H3 wx k3 e3=>?_⟩;rw[cM,b_];exact aG (show _≤129 by lia) (by decide);rw[cM]at e3;exact q.at (k1.trans k2) wx k3 e3
inductive zL (C:cw)(vs:List V)(H:Hp)(Q:VK)(E:XK):Prop|mk A s (a:Nat):vs=[.ref (A .st),iV a]→Wd C A H s→aM s→isArt a=true→Tells C H (partsCall s a) Q→zL C vs H Q E
def Cu (T:Txt K mg C):Callee P w K mg base 2 "tell_parts" ["store","number"] (zL C):=by
 refine T.B1.callee qa fun f0 cg A0 aY s0 H vs Q E hr h=>?_;have hu:=bt hr;have nd:=qa.nd;refine⟨_,(ae (aU (dc (cj hu (pv 1) (az (pv 0) rfl))) (ai (au (a0 (aa (aK T.d_ rfl) ag)))) aB)
  (ae (aN (i:=2) nd (bD hu (az (pv 0) rfl) (pv 1)))
  (ai (au (cx og (a0 (aa (az (pv 2) rfl) ag)) (aI (qb T) hr (aa (az (pv 2) rfl) ag))))))),w2z ?_⟩;intros;obtain⟨A,s,a,rfl,W,ok,cD,q⟩:=h
 unfold partsCall at q;rw[ak (by rw[cD];decide)]at q;simp only[cY]at q;have g:=W.fM a;refine(bh T W).go ?_;refine⟨_,_,rfl,g,_,rfl,?_⟩;cases ha:Vbdlal.art s a with
 | none=>
  have hn:¬ ∃x∈s.articles,x.id=a:=fun z=>by rw[←dz,ha]at z;cases z
  rw[ak hn];rw[ha]at q;exact cZ ⟨aH,fun D hD=>q.pC ao.refl hD rfl⟩
 | some x=>
  obtain⟨hx,rfl⟩:=jF ha;rw[aw (show ∃y∈s.articles,y.id=x.id from⟨x,hx,rfl⟩)]at g ⊢;rw[ha]at q;have q:Tells C H ((x.least:Int)::Vbdlal.rowOf x.parts) Q:=q;refine dk ?_;refine(bh T W).go ?_;refine⟨_,_,rfl,g,?_⟩;refine(AA T W hx).go ?_;refine⟨aH,fun D hD=>?_⟩;have k1:ao C H (upd H D (.lst [iV x.least])):=ao.new hD;have W1:=W.aF k1;refine(oP T W1 hx).go ?_;obtain⟨as,e1,e2⟩:=W1.at_ (.part x.id) ⟨x,hx,rfl⟩ x hx rfl;have iE:=(ok.fw x hx).len;refine⟨_,_,rfl,lD (kW e1 e2),?_,fun D2 H2 lr k2 e3=>?_⟩;rw[cM,b_];exact aG (show _≤33 by lia) (by decide);rw[cM]at e3;refine⟨D,D2,_,_,rfl,rfl,k2.at_ _ _ af trivial,e3,?_,fun D3 wx=>q.pC (k1.trans k2) wx rfl⟩;rw[ay,b_];exact aG (show 1+_≤34 by lia) (by decide)
inductive CT (C:cw)(vs:List V)(H:Hp)(Q:VK)(E:XK):Prop|mk A s (l:Nat):vs=[.ref (A .st),iV l]→Wd C A H s→aM s→isId l=true→Tells C H (whoCall s l) Q→CT C vs H Q E
def Fn (T:Txt K mg C):Callee P w K mg base 2 "tell_who" ["store","number"] (CT C):=by
 refine T.Gf.callee vb fun f0 cg A0 aY s0 H vs Q E hr h=>?_;obtain⟨A,s,l,rfl,W,ok,cD,q⟩:=h;have hu:=bt hr;have nd:=vb.nd;refine⟨_,(ae (aU (dc (cj hu (pv 1) (az (pv 0) rfl))) (ai (au (a0 (aa (aK T.ku rfl) ag)))) aB)
  (ai (au (aI (qb T) hr (aa (aW (zc rfl) (by rfl) T.gQ nV (aa (zg (az (bD hu (az (pv 0) rfl) (pv 1)) rfl)) ag)) ag))))),?_⟩
 unfold whoCall at q;rw[ak (by rw[cD];decide)]at q;simp only[cY]at q;have g:=W.oe l;refine(eE T W).go ?_;refine⟨_,_,rfl,g,_,rfl,?_⟩;cases hl:lotOf s l with
 | none=>
  rw[hl]at q;exact cZ ⟨aH,fun D hD=>q.pC ao.refl hD rfl⟩
 | some x=>
  obtain⟨hx,rfl⟩:=gK hl;rw[hl]at q g;have q:Tells C H (Vbdlal.rowOf x.uses) Q:=q;refine dk ?_;refine(eE T W).go ?_;refine⟨_,_,rfl,g,?_⟩;obtain⟨kvs,hp,ed⟩:=W.at_ (.used x.id) ⟨_,hx,rfl⟩ _ hx rfl;have ed:H (A (.used x.id))=some (.dK (kvs.map bg)):=ed;refine(eV T W hx).go ?_;refine⟨_,_,rfl,ed,fun v hv=>?_⟩;have kv:ao C H (upd H v (iH "dict_items" v (A (.used x.id)))):=ao.new hv;refine⟨v,A (.used x.id),kvs,rfl,af,kv.at_ _ _ ed trivial,fun H2 D ts qA sm hD Ul zU eD pr=>?_⟩;have k2:=kv.trans (ao.same (C:=C) sm);have Tc:qA=x.uses:=qO (ok.lots x hx).uses (Ul.trans hp) zU;subst Tc;have hb:=(fB ok hx).1;refine⟨D,_,rfl,lD (kW eD pr),?_,fun D2 H3 lr k3 e3=>?_⟩;rw[cM,b_];exact aG (show _≤257 by lia) (by decide);rw[cM]at e3;exact q.at k2 lr k3 e3
theorem HX {s:bE}{k:Nat}{p:Nat×Nat}(h:p∈usesOf s k):∃l∈s.lots,l.id=p.1∧p.2=bagOf l.uses k∧bagOf l.uses k≠0:=by
 rw[←oW]at h;simp_all;grind
inductive A7 (C:cw)(vs:List V)(H:Hp)(Q:VK)(E:XK):Prop|mk A s (k:Nat):vs=[.ref (A .st),iV k]→Wd C A H s→aM s→isId k=true→Tells C H (usesCall s k) Q→A7 C vs H Q E
def ED (T:Txt K mg C):Callee P w K mg base 3 "tell_uses" ["store","number"] (A7 C):=by
 refine T.Er.callee rq fun f0 cg A0 aY s0 H vs Q E hr h=>?_;obtain⟨A,s,k,rfl,W,ok,cD,q⟩:=h;have hu:=bt hr;have nd:=rq.nd;refine⟨_,(ae (aU (dc (cj hu (pv 1) (az (pv 0) rfl))) (ai (au (a0 (aa (aK T.iN rfl) ag)))) aB)
  (ai (au (aI (g8 T) hr (aa (aI (uz T) hr (aa (pv 0) (aa (pv 1) ag))) ag))))),?_⟩
 unfold usesCall at q;rw[ak (by rw[cD];decide)]at q;simp only[cY]at q;have g:=W.lW k;refine(cU T W).go ?_;refine⟨_,_,rfl,g,_,rfl,?_⟩;cases ha:Vbdlal.ses s k with
 | none=>
  have hn:¬ ∃x∈s.sessions,x.id=k:=fun z=>by rw[←fV,ha]at z;cases z
  rw[ak hn];rw[ha]at q;exact cZ ⟨aH,fun D hD=>q.pC ao.refl hD rfl⟩
 | some x=>
  obtain⟨hx,rfl⟩:=iI ha;rw[aw (show ∃y∈s.sessions,y.id=x.id from⟨x,hx,rfl⟩)]at g ⊢;rw[ha]at q;have q:Tells C H (Vbdlal.rowOf (usesOf s x.id)) Q:=q;refine dk ?_;refine⟨A,s,_,x.id,rfl,W,ok,fun D H1 hD k1 g1=>?_⟩;have hl:=lO ok x.id;refine⟨A,Z0,s,_,D,_,rfl,W.aF k1,g1,fun p hp=>?_,?_,fun D2 H2 lr k2 e2=>q.at k1 lr k2 e2⟩;grind[HX];rw[b_];exact aG (show _≤513 by lia) (by decide)
inductive Cg (C:cw)(vs:List V)(H:Hp)(Q:VK)(E:XK):Prop|mk A s (k:Nat):vs=[.ref (A .st),iV k]→Wd C A H s→aM s→isId k=true→Tells C H (heldCall s k) Q→Cg C vs H Q E
def C9 (T:Txt K mg C):Callee P w K mg base 3 "tell_held" ["store","number"] (Cg C):=by
 refine T.EG.callee tK fun f0 cg A0 aY s0 H vs Q E hr h=>?_;have hu:=bt hr;have nd:=tK.nd;refine⟨_,(ae (aU (dc (cj hu (pv 1) (az (pv 0) rfl))) (ai (au (a0 (aa (aK T.iN rfl) ag)))) aB)
  (ae (aN (i:=2) nd (bD hu (az (pv 0) rfl) (pv 1)))
  (ae (aN (i:=3) nd (a0 (aa (ft (bV (az (pv 2) rfl) (fun _=>rfl)) ax ax) (aa (ft (bV (az (pv 2) rfl) (fun _=>rfl)) ax ax) ag))))
  (ai (au (cx og (pv 3) (aI (g8 T) hr (aa (aI (lS T) hr (aa (pv 0) (aa (pv 1) ag))) ag)))))))),w3z ?_⟩;intros;obtain⟨A,s,k,rfl,W,ok,cD,q⟩:=h
 unfold heldCall at q;rw[ak (by rw[cD];decide)]at q;simp only[cY]at q;have g:=W.lW k;refine(cU T W).go ?_;refine⟨_,_,rfl,g,_,rfl,?_⟩;cases ha:Vbdlal.ses s k with
 | none=>
  have hn:¬ ∃x∈s.sessions,x.id=k:=fun z=>by rw[←fV,ha]at z;cases z
  rw[ak hn];rw[ha]at q;exact cZ ⟨aH,fun D hD=>q.pC ao.refl hD rfl⟩
 | some x=>
  obtain⟨hx,rfl⟩:=iI ha;rw[aw (show ∃y∈s.sessions,y.id=x.id from⟨x,hx,rfl⟩)]at g ⊢;rw[ha]at q;have q:Tells C H ([(x.closed.toNat:Int),(x.broken.toNat:Int)]++Vbdlal.rowOf (heldOf s x.id)) Q:=q;refine dk ?_;refine(cU T W).go ?_;refine⟨_,_,rfl,g,?_⟩;refine(yT T W hx).go ?_;refine⟨_,rfl,?_⟩;have hl:=zf ok x.id;have fin:∀D,H D=none→∀(D':Ends) (σ:L2.St),D'.rt=Q→σ=[some (.ref (A .st)),some (iV x.id),some (.ref (A (.ses x.id))),some (.ref D)]→
    GR (ON Tx (iD 3) (vC (yk C) [] E0 (fG (vC (vy C) [] E0 (fG (iD 0) (fG (iD 1) rA))) rA))) D' σ (upd H D (.lst [iV x.closed.toNat,iV x.broken.toNat])):=by
   intro D hD D' σ hQ hσ;subst hσ;have k1:ao C H (upd H D (.lst [iV x.closed.toNat,iV x.broken.toNat])):=ao.new hD;refine⟨A,s,_,x.id,rfl,W.aF k1,ok,fun D1 H1 Ff k2 g1=>?_⟩;refine⟨A,Z0,s,_,D1,_,rfl,(W.aF k1).aF k2,g1,fun p hp=>?_,aG hl (by decide),fun D2 H2 lr k3 e2=>?_⟩;grind[sv];refine⟨D,D2,_,_,rfl,rfl,(k2.trans k3).at_ _ _ af trivial,e2,?_,fun D3 wx=>?_⟩;rw[ay];exact aG (show 2+_≤600 by lia) (by decide);rw[hQ];refine q.pC ((k1.trans k2).trans k3) wx ?_;rfl
  cases hc:x.closed<;>cases hb:x.broken<;>rw[hc,hb]at fin
  ·refine dk ?_;refine(jd T W hx).go ?_;refine⟨_,rfl,?_⟩;rw[hb];exact dk ⟨by show 2≤sizeLine;decide,fun D hD=>fin D hD _ _ rfl rfl⟩
  ·refine dk ?_;refine(jd T W hx).go ?_;refine⟨_,rfl,?_⟩;rw[hb];exact cZ ⟨by show 2≤sizeLine;decide,fun D hD=>fin D hD _ _ rfl rfl⟩
  ·refine cZ ?_;refine(jd T W hx).go ?_;refine⟨_,rfl,?_⟩;rw[hb];exact dk ⟨by show 2≤sizeLine;decide,fun D hD=>fin D hD _ _ rfl rfl⟩
  refine cZ ?_;refine(jd T W hx).go ?_;refine⟨_,rfl,?_⟩;rw[hb];exact cZ ⟨by show 2≤sizeLine;decide,fun D hD=>fin D hD _ _ rfl rfl⟩
inductive we (C:cw)(vs:List V)(H:Hp)(Q:VK)(E:XK):Prop|mk A s:vs=[.ref (A .st)]→Wd C A H s→aM s→Tells C H (Vbdlal.ints s.reasons) Q→we C vs H Q E
def xy (T:Txt K mg C):Callee P w K mg base 1 "tell_reasons" ["store"] (we C):=by
 refine T.yb.callee wa fun f0 cg A0 aY s0 H vs Q E hr h=>?_;obtain⟨A,s,rfl,W,ok,q⟩:=h;refine⟨_,(ai (au (ki oQ (az (pv 0) rfl) (lL ax) rQ))),?_⟩;refine(sr T W).go ?_;have et:H (A .th)=some (.lst ((0::s.reasons).map iV)):=W.at_ .th trivial;refine⟨1,rfl,A .th,_,rfl,bz.of et,fun D hD=>q.pC ao.refl hD ?_⟩;have XG:=ok.sF;obtain⟨a1,a2,a3,a4,a5,a6,a7,a8,a9,e⟩:∃a1 a2 a3 a4 a5 a6 a7 a8 a9,s.reasons=[a1,a2,a3,a4,a5,a6,a7,a8,a9]:=by
  match s.reasons,XG with
  | [a1,a2,a3,a4,a5,a6,a7,a8,a9],_=>exact⟨_,_,_,_,_,_,_,_,_,rfl⟩
 rw[e];rfl
def yP (s:bE)(a:Nat)(R:List Int):(if(Vbdlal.art s a).isNone=true then [-4]else if isKit s a=true then [-9]else R)=if gH s a≠0 then [gH s a]else R:=by
 have h:=congrArg Prod.snd (lP s a (s,R));simp only[apply_ite Prod.snd,Vbdlal.no]at h;exact h
inductive Eu (C:cw)(vs:List V)(H:Hp)(Q:VK)(E:XK):Prop|mk A s (l:Nat):vs=[.ref (A .st),iV l]→Wd C A H s→aM s→isId l=true→Tells C H (lotCall s l) Q→Eu C vs H Q E
def G9 (T:Txt K mg C):Callee P w K mg base 1 "tell_lot" ["store","number"] (Eu C):=by
 refine T.F2.callee u7 fun f0 cg A0 aY s0 H vs Q E hr h=>?_;have hu:=bt hr;have nd:=u7.nd;refine⟨_,(ae (aU (dc (cj hu (pv 1) (az (pv 0) rfl))) (ai (au (a0 (aa (aK T.ku rfl) ag)))) aB)
  (ae (aN (i:=2) nd (bD hu (az (pv 0) rfl) (pv 1)))
  (ae (aN (i:=3) nd (a0 (aa (az (pv 2) rfl) (aa (az (pv 2) rfl) (aa (az (pv 2) rfl) (aa (az (pv 2) rfl) (aa (az (pv 2) rfl) (aa (az (pv 2) rfl) ag))))))))
  (ae (dR (yh nJ q0 yR oC (pv 3) (aa (a0 (aa (aW (tw rfl) (by rfl) T.mC jt (aa (i3 (az (pv 2) rfl)) ag)) (aa (aW (tw rfl) (by rfl) T.mC jt (aa (i3 (az (pv 2) rfl)) ag)) (aa (az (pv 2) rfl) (aa (az (pv 2) rfl) ag))))) ag)))
  (ai (au (cx og (pv 3) (a0 (aa (ft (bV (az (pv 2) rfl) (fun _=>rfl)) ax ax) ag))))))))),w4z ?_⟩;intros;obtain⟨A,s,l,rfl,W,ok,cD,q⟩:=h
 unfold lotCall at q;rw[ak (by rw[cD];decide)]at q;simp only[cY]at q;have g:=W.oe l;refine(eE T W).go ?_;refine⟨_,_,rfl,g,_,rfl,?_⟩;cases hl:lotOf s l with
 | none=>
  rw[hl]at q;exact cZ ⟨aH,fun D hD=>q.pC ao.refl hD rfl⟩
 | some x=>
  obtain⟨hx,rfl⟩:=gK hl;rw[hl]at q g;have q:Tells C H (Vbdlal.ints [x.article,x.expiry,x.day,x.received,x.gained,x.free,bagSum x.held,bagSum x.uses,x.thrown,x.lost,x.called.toNat]) Q:=q;refine dk ?_;refine(eE T W).go ?_;refine⟨_,_,rfl,g,?_⟩;refine(gf T W hx).go ?_;refine(c_ T W hx).go ?_;refine(p7 T W hx).go ?_;refine(iQ T W hx).go ?_;refine(xJ T W hx).go ?_;refine(dF T W hx).go ?_;refine⟨by show 6≤sizeLine;decide,fun D hD=>?_⟩;have k1:ao C H (upd H D (.lst [iV x.article,iV x.expiry,iV x.day,iV x.received,iV x.gained,iV x.free])):=ao.new hD;have W1:=W.aF k1;have eD:upd H D (.lst [iV x.article,iV x.expiry,iV x.day,iV x.received,iV x.gained,iV x.free]) D=some (.lst [iV x.article,iV x.expiry,iV x.day,iV x.received,iV x.gained,iV x.free]):=af;generalize upd H D (.lst [iV x.article,iV x.expiry,iV x.day,iV x.received,iV x.gained,iV x.free])=H1 at *;refine⟨.inl ⟨rfl,_,bz.of eD⟩,?_⟩;obtain⟨kvs,hp,ed⟩:=W1.at_ (.held x.id) ⟨_,hx,rfl⟩ _ hx rfl;have ed:H1 (A (.held x.id))=some (.dK (kvs.map bg)):=ed;refine(gA T W1 hx).go ?_;refine⟨_,_,rfl,ed,fun v hv=>?_⟩;have k2:ao C H1 (upd H1 v (iH "dict_values" v (A (.held x.id)))):=ao.new hv;refine⟨v,A (.held x.id),kvs,rfl,af,k2.at_ _ _ ed trivial,?_⟩;rw[sy hp];have W2:=W1.aF k2;have PL:=k2.at_ _ _ eD trivial;generalize upd H1 v (iH "dict_values" v (A (.held x.id)))=H2 at *;obtain⟨SQ,Fo,GP⟩:=W2.at_ (.used x.id) ⟨_,hx,rfl⟩ _ hx rfl;have GP:H2 (A (.used x.id))=some (.dK (SQ.map bg)):=GP;refine(eV T W2 hx).go ?_;refine⟨_,_,rfl,GP,fun v2 RZ=>?_⟩;have k3:ao C H2 (upd H2 v2 (iH "dict_values" v2 (A (.used x.id)))):=ao.new RZ;refine⟨v2,A (.used x.id),SQ,rfl,af,k3.at_ _ _ GP trivial,?_⟩;rw[sy Fo];have W3:=W2.aF k3;have Pr:=k3.at_ _ _ PL trivial;generalize upd H2 v2 (iH "dict_values" v2 (A (.used x.id)))=H3 at *;refine(GF T W3 hx).go ?_;refine(Ml T W3 hx).go ?_;refine⟨by show 4≤sizeLine;decide,fun D2 lr=>?_⟩;have Sr:D≠D2:=aP Pr lr;refine⟨D,D2,_,_,rfl,rfl,by rw[ah Sr];exact Pr,af,by show 10≤sizeLine;decide,?_⟩;have k4:ao C H3 (upd H3 D2 (.lst [iV (bagSum x.held),iV (bagSum x.uses),iV x.thrown,iV x.lost])):=ao.new lr;have OK:=((k1.trans k2).trans k3).trans k4;have k5:=OK.putL (acc':=[iV x.article,iV x.expiry,iV x.day,iV x.received,iV x.gained,iV x.free]++[iV (bagSum x.held),iV (bagSum x.uses),iV x.thrown,iV x.lost]) hD (by rw[ah Sr];exact Pr);have W5:=W.aF k5;have Rw:upd (upd H3 D2 (.lst [iV (bagSum x.held),iV (bagSum x.uses),iV x.thrown,iV x.lost])) D (.lst ([iV x.article,iV x.expiry,iV x.day,iV x.received,iV x.gained,iV x.free]++[iV (bagSum x.held),iV (bagSum x.uses),iV x.thrown,iV x.lost])) D=_:=af;have fin:∀D',∀H6,ao C H H6→H6 D'=none→Q (.ref D') (upd H6 D' (.lst ([iV x.article,iV x.expiry,iV x.day,iV x.received,iV x.gained,iV x.free]++[iV (bagSum x.held),iV (bagSum x.uses),iV x.thrown,iV x.lost]++[iV x.called.toNat]))):=fun D' H6 k6 pV=>q.pC k6 pV rfl;refine(eQ T W5 hx).go ?_;refine⟨_,rfl,?_⟩;cases hc:x.called with
  | true=>
   rw[hc]at fin;refine cZ ⟨aH,fun D3 wx=>?_⟩;refine⟨D,D3,_,_,rfl,rfl,by rw[ah (aP Rw wx)];exact Rw,af,by show 11≤sizeLine;decide,fun D4 LW=>fin D4 _ (k5.trans (ao.new wx)) LW⟩
  | false=>
   rw[hc]at fin;refine dk ⟨aH,fun D3 wx=>?_⟩;refine⟨D,D3,_,_,rfl,rfl,by rw[ah (aP Rw wx)];exact Rw,af,by show 11≤sizeLine;decide,fun D4 LW=>fin D4 _ (k5.trans (ao.new wx)) LW⟩
def yV {s:bE}(ok:aM s)(p:Lot→Bool):(s.lots.filter p).length≤sizeLine:=aG (fN _ _) (aG ok.gX (by decide))
def sum_nat (L:List Lot)(f:Lot→Nat):(L.map fun l=>(f l:Int)).sum=(total (L.map f):Int):=by
 rw[←nQ,aV];rfl
inductive zN (C:cw)(vs:List V)(H:Hp)(Q:VK)(E:XK):Prop|mk A s (a:Nat):vs=[.ref (A .st),iV a]→Wd C A H s→aM s→isArt a=true→Tells C H (shelfCall s a) Q→zN C vs H Q E
def By (T:Txt K mg C):Callee P w K mg base 4 "tell_shelf" ["store","number"] (zN C):=by
 refine T.Co.callee pJ fun f0 cg A0 aY s0 H vs Q E hr h=>?_;have nd:=pJ.nd;refine⟨_,(ae (aN (i:=2) nd (aI (eW T) hr (aa (pv 0) (aa (pv 1) ag))))
  (ae (aU (aD g0 (pv 2) (aK T.bH rfl) (aJ _)) (ai (au (a0 (aa (pv 2) ag)))) aB)
  (ae (iJ (fm (i:=3) rfl nd rfl rfl (gE rfl rfl rfl rfl) (fb (az (pv 0) rfl)) (ba (own:=[("lot",4)]) (show ef ["store","number","refusal","lots","lot","free","held","used"] (aj fF) _ _=true by decide +kernel)) (fun _ _ _ _ _=>by exact(aC (i:=4) nd)) (fun _ _ _ _ _=>by exact(fC (aD cG (bA K (pv 4) (by rfl)) (pv 1) (aJ _)))) (fun _ _ _ _ _=>by exact(pv 4))))
  (ae (aN (i:=5) nd (aW (uV rfl) (by rfl) T.mC jt (aa (d7 rfl nd (bf (pv 3)) (ba (own:=[("lot",4)]) (show ef ["store","number","refusal","lots","lot","free","held","used"] (aj fF) _ _=true by decide +kernel)) (fun _ _ _ _ _=>by exact(aC (i:=4) nd)) (fun _ _ _ _ _=>by exact cB) (fun _ _ _ _ _=>by exact(bA K (pv 4) (by rfl)))) ag)))
  (ae (aN (i:=6) nd (aW (uV rfl) (by rfl) T.mC jt (aa (d7 rfl nd (bf (pv 3)) (ba (own:=[("lot",4)]) (show ef ["store","number","refusal","lots","lot","free","held","used"] (aj fF) _ _=true by decide +kernel)) (fun _ _ _ _ _=>by exact(aC (i:=4) nd)) (fun _ _ _ _ _=>by exact cB) (fun _ _ _ _ _=>by exact(aW (tw rfl) (by rfl) T.mC jt (aa (i3 (bA K (pv 4) (by rfl))) ag)))) ag)))
  (ae (aN (i:=7) nd (aW (uV rfl) (by rfl) T.mC jt (aa (d7 rfl nd (bf (pv 3)) (ba (own:=[("lot",4)]) (show ef ["store","number","refusal","lots","lot","free","held","used"] (aj fF) _ _=true by decide +kernel)) (fun _ _ _ _ _=>by exact(aC (i:=4) nd)) (fun _ _ _ _ _=>by exact cB) (fun _ _ _ _ _=>by exact(aW (tw rfl) (by rfl) T.mC jt (aa (i3 (bA K (pv 4) (by rfl))) ag)))) ag)))
  (ai (au (a0 (aa (aI (jU T) hr (aa (pv 0) (aa (pv 1) ag))) (aa (pv 5) (aa (pv 6) (aa (pv 7) ag))))))))))))),w6z ?_⟩;intros;obtain⟨A,s,a,rfl,W,ok,cD,q⟩:=h
 unfold shelfCall at q;rw[ak (by rw[cD];decide)]at q;simp only[cY]at q;rw[yP]at q;refine⟨A,Z0,s,_,a,rfl,W,?_⟩;refine⟨rfl,_,rfl,?_⟩;refine b0 (fun h=>?_) fun h=>?_
 ·rw[aw (bS.mp h)]at q;exact⟨aH,fun D hD=>q.pC ao.refl hD rfl⟩
 rw[ak fun z=>h (bS.mpr z)]at q;refine kS (iP T W rfl ok rfl (aQ.eq fun l=>V.ref (A (.lot l.id))) (fun l=>l.article==a) (fun l hl Hc Zc Wc hZ hk Ky Kn hy hn=>?_) fun D H1 hD k1 gt=>?_)
 ·refine⟨rfl,(gf T Wc hl).go ?_⟩;refine⟨rfl,_,rfl,?_⟩;refine b0 (fun h=>?_) fun h=>?_;exact hy (by simpa using nat_eq.mp h) _ _ ao.refl rfl;grind[ao.refl]
 have q:Tells C H (Vbdlal.ints [avail s a,total ((s.lots.filter fun l=>l.article==a).map fun x=>x.free),total ((s.lots.filter fun l=>l.article==a).map fun x=>bagSum x.held),total ((s.lots.filter fun l=>l.article==a).map fun x=>bagSum x.uses)]) Q:=q;have hlen:=yV ok fun l=>l.article==a;have dB:∀l∈(s.lots.filter fun l=>l.article==a),l∈s.lots:=fun l h=>(eC.mp h).1;generalize(s.lots.filter fun l=>l.article==a)=L at *;refine eY (C:=C) (L:=L) (E:=fun l y _=>y=iV l.free) (p:=fun _=>true) (F:=fun l y _=>y=V.ref (A (.lot l.id))) (aQ.eq _) (aQ.eq _) gt hlen
  (fun l hl y Hc kc ey Ky Kn hy jx=>?_) fun D2 H2 lr k2 g2=>?_
 ·subst ey;refine⟨rfl,iR ?_⟩;exact(dF T (W.aF (k1.trans kc)) (dB l hl)).go (hy rfl _ _ ao.refl rfl)
 rw[filter_all]at g2;refine⟨D2,L.map fun l=>(l.free:Int),rfl,bz.of (by rw[g2.eq,aV];rfl),?_⟩;rw[sum_nat L fun l=>l.free];have wu:=k1.trans k2;have X8:=gt.aF (aQ.eq _) k2;refine eY (C:=C) (L:=L) (E:=fun l y _=>y=iV (bagSum l.held)) (p:=fun _=>true) (F:=fun l y _=>y=V.ref (A (.lot l.id))) (aQ.eq _) (aQ.eq _) X8 hlen
  (fun l hl y Hc kc ey Ky Kn hy jx=>?_) fun D3 H3 wx k3 g3=>?_
 ·subst ey;have Wc:=W.aF (wu.trans kc);obtain⟨kvs,hp,ed⟩:=Wc.at_ (.held l.id) ⟨_,dB l hl,rfl⟩ _ (dB l hl) rfl;have ed:Hc (A (.held l.id))=some (.dK (kvs.map bg)):=ed;refine⟨rfl,iR ?_⟩;refine(gA T Wc (dB l hl)).go ?_;refine⟨_,_,rfl,ed,fun v hv=>?_⟩;have kv:ao C Hc (upd Hc v (iH "dict_values" v (A (.held l.id)))):=ao.new hv;refine⟨v,A (.held l.id),kvs,rfl,af,kv.at_ _ _ ed trivial,hy rfl _ _ kv ?_⟩;rw[sy hp]
 rw[filter_all]at g3;refine⟨D3,L.map fun l=>(bagSum l.held:Int),rfl,bz.of (by rw[g3.eq,aV];rfl),?_⟩;rw[sum_nat L fun l=>bagSum l.held];have Sn:=wu.trans k3;have gt3:=X8.aF (aQ.eq _) k3;refine eY (C:=C) (L:=L) (E:=fun l y _=>y=iV (bagSum l.uses)) (p:=fun _=>true) (F:=fun l y _=>y=V.ref (A (.lot l.id))) (aQ.eq _) (aQ.eq _) gt3 hlen
  (fun l hl y Hc kc ey Ky Kn hy jx=>?_) fun D4 H4 LW k4 g4=>?_
 ·subst ey;have Wc:=W.aF (Sn.trans kc);obtain⟨kvs,hp,ed⟩:=Wc.at_ (.used l.id) ⟨_,dB l hl,rfl⟩ _ (dB l hl) rfl;have ed:Hc (A (.used l.id))=some (.dK (kvs.map bg)):=ed;refine⟨rfl,iR ?_⟩;refine(eV T Wc (dB l hl)).go ?_;refine⟨_,_,rfl,ed,fun v hv=>?_⟩;have kv:ao C Hc (upd Hc v (iH "dict_values" v (A (.used l.id)))):=ao.new hv;refine⟨v,A (.used l.id),kvs,rfl,af,kv.at_ _ _ ed trivial,hy rfl _ _ kv ?_⟩;rw[sy hp]
 rw[filter_all]at g4;refine⟨D4,L.map fun l=>(bagSum l.uses:Int),rfl,bz.of (by rw[g4.eq,aV];rfl),?_⟩;rw[sum_nat L fun l=>bagSum l.uses];have OK:=Sn.trans k4;refine⟨A,Z0,s,_,a,rfl,W.aF OK,rfl,ok,fun H5 k5=>?_⟩;exact⟨by show 4≤sizeLine;decide,fun D5 Ow=>q.pC (OK.trans k5) Ow rfl⟩
inductive Cs (C:cw)(vs:List V)(H:Hp)(Q:VK)(E:XK):Prop|mk A s (d:Nat):vs=[.ref (A .st),iV d]→Wd C A H s→aM s→isDay d=true→Tells C H (soonCall s d) Q→Cs C vs H Q E
def C3 (T:Txt K mg C):Callee P w K mg base 2 "tell_soon" ["store","days"] (Cs C):=by
 refine T.Dn.callee rK fun f0 c0 A0 aY s0 H vs Q E wF hr h=>?_;have nd:=rK.nd;refine⟨_,(ae (iJ (fm (i:=2) rfl nd rfl rfl (gE rfl rfl rfl rfl) (fb (az (pv 0) rfl)) (ba (own:=[("lot",3)]) (show ef ["store","days","on_shelf","lot","soon","by_last_day"] (aj ij) _ _=true by decide +kernel)) (fun _ _ _ _ _=>by exact(aC (i:=3) nd)) (fun _ _ _ _ _=>by exact(fC (PW.pt (ua (aD p8 (bA K (pv 3) (by rfl)) ax (aJ _)) (oB (ke K (aI (ue T) hr (aa (pv 3) (aa (bA K (pv 0) (by rfl)) ag))) (fun _=>by rfl))))))) (fun _ _ _ _ _=>by exact(pv 3))))
  (ae (fm (i:=4) rfl nd rfl rfl (gE rfl rfl rfl rfl) (bf (pv 2)) (ba (own:=[("lot",3)]) (show ef ["store","days","on_shelf","lot","soon","by_last_day"] (aj ij) _ _=true by decide +kernel)) (fun _ _ _ _ _=>by exact(aC (i:=3) nd)) (fun _ _ _ _ _=>by exact(fC (aD sg (bA K (pv 3) (by rfl)) (cx fP (bA K (pv 0) (by rfl)) (pv 1)) (aJ _)))) (fun _ _ _ _ _=>by exact(pv 3)))
  (ae (aN (i:=5) nd (wQ hr rfl T.gQ rfl wF T.blt (pv 4)))
  (ai (au (aI (qb T) hr (aa (d7 rfl nd (bf (pv 5)) (ba (own:=[("lot",3)]) (show ef ["store","days","on_shelf","lot","soon","by_last_day"] (aj ij) _ _=true by decide +kernel)) (fun _ _ _ _ _=>by exact(aC (i:=3) nd)) (fun _ _ _ _ _=>by exact cB) (fun _ _ _ _ _=>by exact(jb (aa (bA K (pv 3) (by rfl)) (aa (bA K (pv 3) (by rfl)) (aa (bA K (pv 3) (by rfl)) ag)))))) ag))))))),w3z ?_⟩;intros;obtain⟨A,s,d,rfl,W,ok,cD,q⟩:=h
 unfold soonCall at q;rw[ak (by rw[cD];decide)]at q;simp only[cY]at q;have eL:(s.lots.filter fun l=>good s.today l&&(l.free != 0&&decide (l.expiry≤s.today+d)))=(s.lots.filter fun l=>decide (0<l.free)&&good s.today l).filter fun l=>decide (l.expiry≤s.today+d):=by
  rw[HB];grind -order
 rw[eL]at q;refine kS (iP T W rfl ok rfl (aQ.eq fun l=>V.ref (A (.lot l.id))) (fun l=>decide (0<l.free)&&good s.today l) (fun l hl Hc Zc Wc hZ hk Ky Kn hy hn=>?_) fun D H1 hD k1 gt=>?_)
 ·refine⟨rfl,(dF T Wc hl).go ?_⟩;refine⟨_,_,rfl,rfl,_,rfl,?_⟩;refine b0 (fun h=>?_) fun h=>?_
  ·have h:=bW h;refine(ve T Wc).go ?_;refine⟨A,Zc,s,_,l,s.today,rfl,Wc,hl,_,rfl,?_⟩;have h0:0<l.free:=by lia
   cases hg:good s.today l with
   | true=>exact cZ (hy (by simp[h0,hg]) _ _ ao.refl rfl)
   | false=>exact dk (hn (by simp[hg]) _ ao.refl)
  simp_all[ao.refl]
 have dB:∀l∈(s.lots.filter fun l=>decide (0<l.free)&&good s.today l),l∈s.lots:=fun l h=>(eC.mp h).1;have hlen:=yV ok fun l=>decide (0<l.free)&&good s.today l;have hlen2:(s.lots.filter fun l=>decide (0<l.free)&&good s.today l).length≤256:=aG (fN _ _) ok.gX;generalize(s.lots.filter fun l=>decide (0<l.free)&&good s.today l)=L at *;refine eY (C:=C) (L:=L) (E:=fun l y _=>y=V.ref (A (.lot l.id))) (p:=fun l=>decide (l.expiry≤s.today+d)) (aQ.eq _) (aQ.eq _) gt hlen (fun l hl y Hc kc ey Ky Kn hy hn=>?_) fun D2 H2 lr k2 g2=>?_
 ·subst ey;have Wc:=W.aF (k1.trans kc);refine⟨rfl,(c_ T Wc (dB l hl)).go ?_⟩;refine(ve T Wc).go ?_;refine⟨_,_,rfl,rfl,_,_,rfl,rfl,_,rfl,?_⟩;refine b0 (fun h=>?_) fun h=>?_
  ·have h:=bW h;exact hy (iy (by lia)) _ _ ao.refl rfl
  grind[ao.refl]
 have Pe:∀l∈(L.filter fun l=>decide (l.expiry≤s.today+d)),l∈s.lots:=fun l h=>dB l (eC.mp h).1;have hlen3:(L.filter fun l=>decide (l.expiry≤s.today+d)).length≤256:=aG (fN _ _) hlen2;generalize(L.filter fun l=>decide (l.expiry≤s.today+d))=L2 at *;have e2:=g2.eq;have wu:=k1.trans k2;have W2:=W.aF wu;refine⟨D2,_,L2.map fun l=>(l.expiry:Int),rfl,bz.of (xs:=List.map V.ref (L2.map fun l=>A (.lot l.id))) ?_,?_,?_,?_,?_⟩;simp_all;simp
 ·intro i r kk e1 e2;rw[cO]at e1 e2;cases e3:L2[i]? with
  | none=>rw[e3]at e1;cases e1
  | some l=>
   rw[e3]at e1 e2;cases e1;cases e2;have hl:l∈s.lots:=Pe l (dJ e3);obtain⟨Cc,dx,fs,y1,y2,y3,y4⟩:=(c_ T W2 hl).ex;exact⟨Cc,dx,fs,y1,y2,y3,y4⟩
 exact W2.tabs.d8;intro D' Dh H3 hs sb tb pV;have k3:ao C H2 H3:=by
  obtain⟨Vk,e0⟩:=W2.tabs.d8.ex;obtain⟨Yr,e1⟩:=tb.ex;refine⟨fun b o e n=>sb b o e fun z=>?_,fun b ps e=>?_,fun t=>t.CK sb tb⟩;rw[z,e0]at e;cases e;exact n;by_cases z:b=C.eG;simp_all;exact⟨ps,sb b _ e z⟩
 rw[vw A hs];have k4:ao C H3 (upd H3 D' (.lst (((byExpiry L2).map fun l=>A (.lot l.id)).map V.ref))):=ao.new pV;have OK:=(wu.trans k3).trans k4;have e4:upd H3 D' (.lst (((byExpiry L2).map fun l=>A (.lot l.id)).map V.ref)) D'=some (.lst ((byExpiry L2).map fun l=>V.ref (A (.lot l.id)))):=by rw[af,aV];rfl
 have W4:=W.aF OK;generalize upd H3 D' (.lst (((byExpiry L2).map fun l=>A (.lot l.id)).map V.ref))=H4 at *;have hbl:(byExpiry L2).length≤256:=by rw[(cW _).length_eq];exact hlen3
 have Tt:∀l∈byExpiry L2,l∈s.lots:=fun l h=>Pe l ((cW _).mem_iff.mp h);refine eY (C:=C) (L:=byExpiry L2) (E:=fun(l:Lot) (y:V) (H:Hp)=>jY (NW (l.id,l.expiry,l.free)) y H) (p:=fun _=>true) (F:=fun l y _=>y=V.ref (A (.lot l.id))) (fun _ _ _ _ k h=>jY.mono _ _ _ _ k h) (aQ.eq _) (Got.of e4) (aG hbl (by decide))
  (fun l hl y Hc kc ey Ky Kn hy jx=>?_) fun D5 H5 Ow k5 g5=>?_
 ·subst ey;have Wc:=W4.aF kc;refine⟨rfl,iR ?_⟩;refine(g9 T Wc (Tt l hl)).go ?_;refine(c_ T Wc (Tt l hl)).go ?_;refine(dF T Wc (Tt l hl)).go ?_;exact⟨by show 3≤sizeLine;decide,fun t ht=>hy rfl _ _ (ao.new ht) ⟨t,rfl,af⟩⟩
 rw[filter_all]at g5;have g6:Got jY H5 D5 (((byExpiry L2).map fun l=>(l.id,l.expiry,l.free)).map NW):=by
  rw[aV];exact g5.map (F:=jY) (f:=NW∘fun(l:Lot)=>(l.id,l.expiry,l.free)) fun _ _ h=>h
 refine⟨D5,_,rfl,g6,?_,fun D6 H6 Vg k6 e6=>?_⟩;rw[Hi,ay];exact aG (show _≤769 by lia) (by decide);rw[BO,ay]at e6;exact q.at (OK.trans k5) Vg k6 e6
inductive Dg (C:cw)(vs:List V)(H:Hp)(Q:VK)(E:XK):Prop|mk A s:vs=[.ref (A .st)]→Wd C A H s→aM s→Tells C H (Vbdlal.rowOf (Vbdlal.lowOf s)) Q→Dg C vs H Q E
def GS (T:Txt K mg C):Callee P w K mg base 5 "tell_low" ["store"] (Dg C):=by
 refine T.FY.callee u4 fun f0 cg A0 aY s0 H vs Q E hr h=>?_;obtain⟨A,s,rfl,W,ok,q⟩:=h;have hu:=bt hr;have nd:=u4.nd;refine⟨_,(ae (fm (i:=1) rfl nd rfl rfl (gE rfl rfl rfl rfl) (bf (aW (y8 rfl) (by rfl) T.gQ nV (aa (az (pv 0) rfl) ag))) (ba (own:=[("number",2)]) (show ef ["store","plain","number"] (aj lN) _ _=true by decide +kernel)) (fun _ _ _ _ _=>by exact(aC (i:=2) nd)) (fun _ _ _ _ _=>by exact(fC (jc (ke K (bA K (bD hu (bA K (pv 0) (by rfl)) (pv 2)) (by rfl)) (fun _=>by rfl))))) (fun _ _ _ _ _=>by exact(pv 2)))
  (ai (au (aI (qb T) hr (aa (aI (lZ T) hr (aa (pv 0) (aa (d7 rfl nd (bf (pv 1)) (ba (own:=[("number",2)]) (show ef ["store","plain","number"] (aj lN) _ _=true by decide +kernel)) (fun _ _ _ _ _=>by exact(aC (i:=2) nd)) (fun _ _ _ _ _=>by exact cB) (fun _ _ _ _ _=>by exact(jb (aa (pv 2) (aa (bA K (bD hu (bA K (pv 0) (by rfl)) (pv 2)) (by rfl)) ag))))) ag))) ag))))),?_⟩
 obtain⟨ord,fq,ed⟩:=W.at_ .ad trivial;have ed:H (A .ad)=some (.dK (ord.map fun(a:Nat)=>(Sum.inl (a:Int),V.ref (A (.art a))))):=ed;refine(bh T W).go ?_;refine⟨A .ad,ord,fun a=>V.ref (A (.art a)),rfl,ed,fun ks D hp hs hD=>?_⟩;have P0:ks=s.articles.map (·.id):=Fp ok.Iq (hp.trans fq) hs;subst P0;have k1:ao C H (upd H D (.lst ((s.articles.map (·.id)).map iV))):=ao.new hD;have e1:upd H D (.lst ((s.articles.map (·.id)).map iV)) D=some (.lst (s.articles.map fun x=>iV x.id)):=by rw[af,aV];rfl
 have W1:=W.aF k1;have hl64:s.articles.length≤sizeLine:=aG ok.m6 (by decide);generalize upd H D (.lst ((s.articles.map (·.id)).map iV))=H1 at *;refine eY (C:=C) (L:=s.articles) (E:=fun x y _=>y=iV x.id) (p:=fun x=>x.parts.isEmpty) (F:=fun x y _=>y=iV x.id) (aQ.eq _) (aQ.eq _) (Got.of e1) hl64
  (fun x hx y Hc kc ey Ky Kn hy jx=>?_) fun D2 H2 lr k2 g2=>?_
 ·subst ey;have Wc:=W1.aF kc;have g:=Wc.fM x.id;rw[aw ⟨x,hx,rfl⟩]at g;refine⟨rfl,(bh T Wc).go ?_⟩;refine⟨_,_,rfl,g,?_⟩;refine(oP T Wc hx).go ?_;obtain⟨as,e1,e2⟩:=Wc.at_ (.part x.id) ⟨x,hx,rfl⟩ x hx rfl;refine⟨_,.inl ⟨_,bz.of e1,rfl⟩,?_⟩;have hl:as.length=x.parts.length:=bZ e2;cases S0:x.parts with
  | nil=>
   rw[S0]at hl;cases as with
   | nil=>exact cZ (hy (by rw[S0];rfl) _ _ ao.refl rfl)
   | cons=>cases hl
  | cons a b=>
   rw[S0]at hl;cases as with
   | nil=>cases hl
   | cons=>exact dk (jx (by rw[S0];rfl) _ ao.refl)
 have wu:=k1.trans k2;have W2:=W.aF wu;have dB:∀x∈(s.articles.filter fun x=>x.parts.isEmpty),x∈s.articles:=fun x h=>(eC.mp h).1;have Pb:(s.articles.filter fun x=>x.parts.isEmpty).length≤64:=aG (fN _ _) ok.m6;rw[←QQ]at q;generalize(s.articles.filter fun x=>x.parts.isEmpty)=L at *;refine eY (C:=C) (L:=L) (E:=fun(x:Article) (y:V) (H:Hp)=>bG (x.id,x.least) y H) (p:=fun _=>true) (F:=fun x y _=>y=iV x.id) (fun _ _ _ _ k h=>bG.mono _ _ _ _ k h) (aQ.eq _) g2 (aG Pb (by decide))
  (fun x hx y Hc kc ey Ky Kn hy jx=>?_) fun D3 H3 wx k3 g3=>?_
 ·subst ey;have Wc:=W2.aF kc;have hx:=dB x hx;have g:=Wc.fM x.id;rw[aw ⟨x,hx,rfl⟩]at g;refine⟨rfl,iR ?_⟩;refine(bh T Wc).go ?_;refine⟨_,_,rfl,g,?_⟩;refine(AA T Wc hx).go ?_;exact⟨by show 2≤sizeLine;decide,fun t ht=>hy rfl _ _ (ao.new ht) ⟨t,rfl,af⟩⟩
 rw[filter_all]at g3;have g4:Got bG H3 D3 (L.map fun x=>(x.id,x.least)):=g3.map (F:=bG) fun _ _ h=>h;refine⟨A,Z0,s,_,D3,_,rfl,W2.aF k3,rfl,ok,g4,by rw[ay];exact aG Pb (by decide),fun D4 H4 LW k4 g5=>?_⟩;have hl5:=jI s (L.map fun x=>(x.id,x.least));rw[ay]at hl5;refine⟨D4,_,rfl,lD g5,?_,fun D5 H5 Ow k5 e5=>?_⟩;rw[cM,b_];exact aG (show _≤129 by lia) (by decide);rw[cM]at e5;exact q.at ((wu.trans k3).trans k4) Ow k5 e5
inductive CF (C:cw)(vs:List V)(H:Hp)(Q:VK)(E:XK):Prop|mk A s (a:Nat):vs=[.ref (A .st),iV a]→Wd C A H s→aM s→isArt a=true→Tells C H (ableCall s a) Q→CF C vs H Q E
def Ez (T:Txt K mg C):Callee P w K mg base 4 "tell_able" ["store","number"] (CF C):=by
 refine T.CY.callee rM fun f0 cg A0 aY s0 H vs Q E hr h=>?_;have hu:=bt hr;have nd:=rM.nd;refine⟨_,(ae (aU (dc (cj hu (pv 1) (az (pv 0) rfl))) (ai (au (a0 (aa (aK T.d_ rfl) ag)))) aB)
  (ae (aN (i:=2) nd (aI (i5 T) hr (aa (bD hu (az (pv 0) rfl) (pv 1)) (aa ax ag))))
  (ai (au (a0 (aa (aW (PY rfl) (by rfl) T.Iv boot_min (aa (cx og (a0 (aa (aK T.DA rfl) ag)) (d7 rfl nd (bf (pv 2)) (ba (own:=[("plain",3),("count",4)]) (show ef ["store","number","need_of_one","plain","count"] (aj oj) _ _=true by decide +kernel)) (fun _ _ _ _ _=>by exact(gB K 2 (by rfl) (aT (aC (i:=3) nd) (aT (aC (i:=4) nd) cz)))) (fun _ _ _ _ _=>by exact cB) (fun _ _ _ _ _=>by exact(cx Iz (aI (jU T) hr (aa (pv 0) (aa (pv 3) ag))) (pv 4))))) ag)) ag)))))),w2z ?_⟩;intros;obtain⟨A,s,a,rfl,W,ok,cD,q⟩:=h
 unfold ableCall at q;rw[ak (by rw[cD];decide)]at q;simp only[cY]at q;have g:=W.fM a;refine(bh T W).go ?_;refine⟨_,_,rfl,g,_,rfl,?_⟩;cases ha:Vbdlal.art s a with
 | none=>
  have hn:¬ ∃x∈s.articles,x.id=a:=fun z=>by rw[←dz,ha]at z;cases z
  rw[ak hn];rw[ha]at q;exact cZ ⟨aH,fun D hD=>q.pC ao.refl hD rfl⟩
 | some x=>
  obtain⟨hx,rfl⟩:=jF ha;rw[aw (show ∃y∈s.articles,y.id=x.id from⟨x,hx,rfl⟩)]at g ⊢;rw[ha]at q;have q:Tells C H [(Vbdlal.ableOf s x.id:Int)] Q:=q;refine dk ?_;refine(bh T W).go ?_;refine⟨_,_,rfl,g,A,Z0,s,x,1,rfl,W,rfl,ok,hx,by decide,fun D H1 hD k1 g1=>?_⟩;have O_:=dY ok (a:=x.id) (n:=1) ⟨x,hx,rfl⟩;obtain⟨hb,hc⟩:=hJ (cN ok.c7) x.id 1;have Fo:∀p∈needs s.articles x.id 1,p.2≠0∧p.2≤1000000:=fun p hp=>by grind -order[wK,KQ]
  refine⟨aH,fun D1 Ff=>?_⟩;have k2:ao C H1 (upd H1 D1 (.lst [V.int 1000000])):=ao.new Ff;have e2:upd H1 D1 (.lst [V.int 1000000]) D1=some (.lst [V.int 1000000]):=af;have g2:=g1.aF bG.mono k2;have wu:=k1.trans k2;generalize upd H1 D1 (.lst [V.int 1000000])=H2 at *;refine eY (C:=C) (L:=needs s.articles x.id 1) (E:=fun p y _=>y=iV (avail s p.1/p.2)) (p:=fun _=>true) (F:=bG) (aQ.eq _) bG.mono g2 (aG O_ (by decide))
   (fun p hp y Hc kc ⟨t,ey,et⟩ Ky Kn hy jx=>?_) fun D3 H3 wx k3 g3=>?_
  ·subst ey;obtain⟨hp0,J8⟩:=Fo p hp;refine⟨_,_,rfl,ju.of et,rfl,_,_,rfl,_,_,rfl,rfl,rfl,iR ?_⟩;refine⟨A,Z0,s,_,p.1,rfl,W.aF (wu.trans kc),rfl,ok,fun H3 k3=>?_⟩;exact⟨_,_,rfl,rfl,⟨by lia,by lia⟩,hy rfl _ _ k3 rfl⟩
  rw[filter_all]at g3;have e3:=g3.eq;refine⟨D1,D3,_,_,rfl,rfl,k3.at_ _ _ e2 trivial,e3,?_,fun D4 LW=>?_⟩;rw[ay];exact aG (show 1+_≤65 by lia) (by decide);have k4:=(wu.trans k3).trans (ao.new (C:=C) (o:= .lst ([V.int 1000000]++(needs s.articles x.id 1).map fun p=>iV (avail s p.1/p.2))) LW);refine⟨D4,(1000000:Int)::(needs s.articles x.id 1).map (fun p=>((avail s p.1/p.2:Nat):Int)),rfl,bz.of ?_,by simp,fun m J3 BP=>?_⟩;rw[af,bF,aV];rfl;have em:=LB s x.id J3 BP;subst em;exact⟨aH,fun D5 Ow=>q.pC k4 Ow rfl⟩
inductive zC (C:cw)(vs:List V)(H:Hp)(Q:VK)(E:XK):Prop|mk A s (a n:Nat):vs=[.ref (A .st),iV a,iV n]→Wd C A H s→aM s→(isArt a&&isFew n)=true→Tells C H (lastsCall s a n) Q→zC C vs H Q E
def Ck (T:Txt K mg C):Callee P w K mg base 3 "tell_lasts" ["store","number","wanted"] (zC C):=by
 refine T.CL.callee pR fun f0 cg A0 aY s0 H vs Q E hr h=>?_;have hu:=bt hr;have nd:=pR.nd;refine⟨_,(ae (aN (i:=3) nd (aI (eW T) hr (aa (pv 0) (aa (pv 1) ag))))
  (ae (aU (aD g0 (pv 3) (aK T.bH rfl) (aJ _)) (ai (au (a0 (aa (pv 3) ag)))) aB)
  (ae (aN (i:=4) nd ax)
  (ae (aN (i:=5) nd ax)
  (ae (dM dj rfl (bf (aI (nN T) hr (aa (pv 0) (aa (pv 1) ag)))) (aC (i:=6) nd) (ae (aN (i:=7) nd (aW (uI rfl) (by rfl) T.Iv boot_min (aa (cx fP (cx j4 (az (pv 6) rfl) (az (pv 0) rfl)) ax) (aa (aK T.uY rfl) ag))))
  (ae (aN (i:=8) nd (aW (uI rfl) (by rfl) T.Iv boot_min (aa (az (pv 6) rfl) (aa (cx j4 (cx FI (pv 7) (pv 2)) (pv 4)) ag))))
  (ae (Cr (i:=4) nd rfl (Or.inl rfl) (pv 8) Bh)
  (ai (aU (aD pP (pv 7) (aK T.uY rfl) (aJ _)) (ai (Cr (i:=5) nd rfl (Or.inl rfl) (cx j4 (az (pv 6) rfl) (pv 8)) Bh)) aB))))))
  (ai (au (a0 (aa (cx Iz (pv 4) (pv 2)) (aa (pv 5) ag)))))))))),w5z ?_⟩;intros;obtain⟨A,s,a,n,rfl,W,ok,cD,q⟩:=h
 unfold lastsCall at q;rw[ak (by rw[cD];decide)]at q;simp only[cY]at q;rw[yP]at q;obtain⟨TK,Xm⟩:1≤n∧n≤1000000:=by (clear hu;simp_all[isFew,jD,MILLION]<;>omega)
 rw[DJ _ _ _ (by trivial)]at q;refine⟨A,Z0,s,_,a,rfl,W,?_⟩;refine⟨rfl,_,rfl,?_⟩;refine b0 (fun h=>?_) fun h=>?_
 ·rw[aw (bS.mp h)]at q;exact⟨aH,fun D hD=>q.pC ao.refl hD rfl⟩
 rw[ak fun z=>h (bS.mpr z)]at q;have MZ:gH s a=0:=qj fun z=>h (bS.mpr z);rw[MZ];refine⟨A,Z0,s,_,a,rfl,W,rfl,ok,fun D H1 hD k1 e1=>?_⟩;have q:Tells C H [((c9 3650 s.today n (shelfRow s a) (0,0)).1/n:Nat),((c9 3650 s.today n (shelfRow s a) (0,0)).2:Nat)] Q:=q;have hle:=fun i p h=>Dt (D:=3650) (t:=s.today) (q:=n) (Kv s a) 0 i p h;have WX:∀l∈shelf s a,l∈s.lots∧s.today≤l.expiry:=fun l hl=>by grind -order[k9,good]
 have fR:∀(i:Nat) (l:Lot),(shelf s a)[i]? =some l→(shelfRow s a)[i]? =some (l.expiry,l.free):=fun i l h=>by simp_all[shelfRow]<;>omega
 have UC:(shelfRow s a).length=(shelf s a).length:=by unfold shelfRow;rw[ay]
 generalize shelf s a=sh at *;generalize shelfRow s a=rw_ at *;refine⟨D,rfl,⟨_,bz.of e1⟩,?_⟩;refine dS (xs:=sh.map fun l=>V.ref (A (.lot l.id))) (fun i σ H'=>(∃v6 v7 v8,σ=[some (.ref (A .st)),some (iV a),some (iV n),some (.int 0),some (iV (c9 3650 s.today n (rw_.take i) (0,0)).1),some (iV (c9 3650 s.today n (rw_.take i) (0,0)).2),v6,v7,v8])∧ao C H1 H')
  ⟨⟨_,_,_,rfl⟩,ao.refl⟩ (fun i σ H' hi ⟨_,k⟩=>bz.of (k.at_ _ _ e1 trivial)) (fun i x σ H' hx ⟨⟨v6,v7,v8,es⟩,k⟩=>?_) fun σ H' ⟨⟨v6,v7,v8,es⟩,k⟩=>?_
 ·subst es;have hi:i<sh.length:=by have:=(fu.mp hx).1;rw[ay]at this;exact this
  have ej:sh[i]? =some sh[i]:=by simp[hi]
  have M9:x= .ref (A (.lot sh[i].id)):=by rw[cO,ej]at hx;exact(cV hx).symm
  subst M9;obtain⟨hl,hday⟩:=WX sh[i] (fL hi);have X5:=fR i _ ej;have hz:=hle i _ X5;have gz:=za (D:=3650) (t:=s.today) (q:=n) X5 (0,0);have W':=W.aF (k1.trans k);rw[gz];generalize c9 3650 s.today n (rw_.take i) (0,0)=z at *;generalize sh[i]=l at *;refine(c_ T W' hl).go ?_;refine(ve T W').go ?_;refine⟨_,_,rfl,rfl,_,_,rfl,rfl,_,_,rfl,?_⟩;have ed:(if(3650:Int)<(l.expiry:Int)-(s.today:Int)+1 then(3650:Int)else(l.expiry:Int)-(s.today:Int)+1)=((fW 3650 s.today l.expiry:Nat):Int):=by
   unfold fW;lia
  rw[ed];have hd:fW 3650 s.today l.expiry≤3650:=Nat.min_le_right _ _;have hz:z.1≤fW 3650 s.today l.expiry*n:=hz;have Vw:df 3650 s.today n z (l.expiry,l.free)=(z.1+min l.free (fW 3650 s.today l.expiry*n-z.1),if fW 3650 s.today l.expiry<3650 then z.2+(l.free-min l.free (fW 3650 s.today l.expiry*n-z.1))else z.2):=rfl;rw[Vw];generalize fW 3650 s.today l.expiry=d at *;have emul:((d:Int)*(n:Int))=((d*n:Nat):Int):=(Int.natCast_mul d n).symm;refine(dF T W' hl).go ?_;refine⟨_,_,rfl,rfl,.inl ⟨by (constructor<;>omega),by lia⟩,_,_,rfl,rfl,_,_,rfl,?_⟩;have eg:(if(d:Int)*(n:Int)-(z.1:Int)<(l.free:Int)then(d:Int)*(n:Int)-(z.1:Int)else(l.free:Int))=((min l.free (d*n-z.1):Nat):Int):=by (clear ed hday hu;(split<;>omega))
  rw[eg];have ND:min l.free (d*n-z.1)≤l.free:=Nat.min_le_left _ _;generalize min l.free (d*n-z.1)=gv at *;refine⟨_,rfl,_,_,rfl,rfl,?_⟩;refine⟨_,_,rfl,rfl,_,rfl,?_⟩;refine b0 (fun h=>?_) fun h=>?_
  ·have h:=bW h;have h:d<3650:=by lia
   refine⟨_,rfl,(dF T W' hl).go ?_⟩;refine⟨_,_,rfl,rfl,_,_,rfl,rfl,?_⟩;refine⟨⟨some (.ref (A (.lot l.id))),some (iV d),some (iV gv),?_⟩,k⟩;rw[aw h];have e2:V.int ((z.2:Int)+((l.free:Int)-(gv:Int)))=iV (z.2+(l.free-gv)):=by show V.int _=V.int _;congr 1;clear eg ed hday hi UC MZ hu;simp;grind
   simp_all
  have h:=o6 h;have h:¬d<3650:=by lia
  refine⟨⟨some (.ref (A (.lot l.id))),some (iV d),some (iV gv),?_⟩,k⟩;rw[ak h];rfl
 subst es;rw[ay,←UC,du];exact⟨_,_,rfl,rfl,⟨by lia,by lia⟩,by show 2≤sizeLine;decide,fun D' pV=>q.pC (k1.trans k) pV rfl⟩
def Ex (s:bE)(i:Nat):callBack (fun y=>y.id==i) s=callBack (among [i]) s:=
 mQ (fun l _=>by unfold among;rw[l5];simp) (fun _ _ _=>rfl) (fun _ _ _=>rfl)
def xS (a d e:Nat)(y:Lot):Bool:=y.article==a&&(!y.called&&(decide (d≤y.day)&&decide (y.day≤e)))
def GB (L:List Lot)(a d e:Nat):(L.filter fun l=>l.article==a&&!l.called).filter (fun l=>decide (d≤l.day)&&decide (l.day≤e))=L.filter (xS a d e):=by
 rw[HB];refine Io fun l _=>?_;unfold xS;lia
inductive Cm (C:cw)(vs:List V)(H:Hp)(Q:VK)(E:XK):Prop|mk A s (a d e:Nat):vs=[.ref (A .st),iV a,iV d,iV e]→Wd C A H s→aM s→(isArt a&&(isDay d&&(isDay e&&decide ((d:Int)≤(e:Int)))))=true→c4 C A s H (Vbdlal.recallOfCall s a d e) Q→Cm C vs H Q E
def Dr (T:Txt K mg C):Callee P w K mg base 2 "recall_of" ["store","article","first","last"] (Cm C):=by
 refine T.Ep.callee sE fun f0 cg A0 aY s0 H vs Q E hr h=>?_;have nd:=sE.nd;refine⟨_,(ae (aN (i:=4) nd (aI (eW T) hr (aa (pv 0) (aa (pv 1) ag))))
  (ae (aU (aD g0 (pv 4) (aK T.bH rfl) (aJ _)) (ai (au (a0 (aa (pv 4) ag)))) aB)
  (ae (iJ (fm (i:=5) rfl nd rfl rfl (gE rfl rfl rfl rfl) (fb (az (pv 0) rfl)) (ba (own:=[("lot",6)]) (show ef ["store","article","first","last","refusal","its_lots","lot","called"] (aj ic) _ _=true by decide +kernel)) (fun _ _ _ _ _=>by exact(aC (i:=6) nd)) (fun _ _ _ _ _=>by exact(fC (PW.pt (ua (aD cG (bA K (pv 6) (by rfl)) (pv 1) (aJ _)) (oB (jc (ke K (bA K (pv 6) (by rfl)) (fun _=>by rfl)))))))) (fun _ _ _ _ _=>by exact(pv 6))))
  (ae (fm (i:=7) rfl nd rfl rfl (gE rfl rfl rfl rfl) (bf (pv 5)) (ba (own:=[("lot",6)]) (show ef ["store","article","first","last","refusal","its_lots","lot","called"] (aj ic) _ _=true by decide +kernel)) (fun _ _ _ _ _=>by exact(aC (i:=6) nd)) (fun _ _ _ _ _=>by exact(fC (Mp sg sg (pv 2) (bA K (pv 6) (by rfl)) (pv 3)))) (fun _ _ _ _ _=>by exact(pv 6)))
  (ae (dM dj rfl (bf (pv 7)) (aC (i:=6) nd) (ae (dR (aI (mX T) hr (aa (pv 0) (aa (pv 6) ag))))
  (ai (bO (pv 6) gG rfl))))
  (ai (au (aI (s_ T) hr (aa (d7 rfl nd (bf (pv 7)) (ba (own:=[("lot",6)]) (show ef ["store","article","first","last","refusal","its_lots","lot","called"] (aj ic) _ _=true by decide +kernel)) (fun _ _ _ _ _=>by exact(aC (i:=6) nd)) (fun _ _ _ _ _=>by exact cB) (fun _ _ _ _ _=>by exact(bA K (pv 6) (by rfl)))) ag))))))))),w5z ?_⟩;intros;obtain⟨A,s,a,d,e,rfl,W,ok,cD,q⟩:=h
 unfold Vbdlal.recallOfCall at q;rw[ak (by rw[cD];decide)]at q;simp only[cY]at q;rw[lP]at q;refine⟨A,Z0,s,_,a,rfl,W,?_⟩;refine⟨rfl,_,rfl,?_⟩;refine b0 (fun h=>?_) fun h=>?_
 ·rw[aw (bS.mp h)]at q;exact⟨aH,fun D hD=>q.no W ao.refl hD⟩
 rw[ak fun z=>h (bS.mpr z)]at q;have q:c4 C A s H (callBack (xS a d e) s,(((s.lots.filter (xS a d e)).map fun y=>y.id).length:Int)::Vbdlal.ints ((s.lots.filter (xS a d e)).map fun y=>y.id)) Q:=q;refine kS (iP T W rfl ok rfl (aQ.eq fun l=>V.ref (A (.lot l.id))) (fun l=>l.article==a&&!l.called) (fun l hl Hc Zc Wc hZ hk Ky Kn hy hn=>?_) fun D1 H1 Ff k1 g1=>?_)
 ·refine⟨rfl,(gf T Wc hl).go ?_⟩;refine⟨rfl,_,rfl,?_⟩;refine b0 (fun h=>?_) fun h=>?_
  ·have h:=nat_eq.mp h;refine(eQ T Wc hl).go ?_;refine⟨_,rfl,?_⟩;cases hc:l.called with
   | true=>exact dk (hn (by simp[hc]) _ ao.refl)
   | false=>exact cZ (hy (by simp[hc,h]) _ _ ao.refl rfl)
  (simp[ao.refl];grind[ao.refl])
 have J3:∀l∈(s.lots.filter fun l=>l.article==a&&!l.called),l∈s.lots:=fun l h=>(eC.mp h).1;have hlen1:=yV ok fun l=>l.article==a&&!l.called;have erf:=GB s.lots a d e;generalize(s.lots.filter fun l=>l.article==a&&!l.called)=L1 at *;refine eY (C:=C) (L:=L1) (E:=fun l y _=>y=V.ref (A (.lot l.id))) (p:=fun l=>decide (d≤l.day)&&decide (l.day≤e)) (aQ.eq _) (aQ.eq _) g1 hlen1 (fun l hl y Hc kc ey Ky Kn hy hn=>?_) fun DL H2 SF k2 g2=>?_
 ·subst ey;have Wc:=W.aF (k1.trans kc);refine⟨rfl,(p7 T Wc (J3 l hl)).go ?_⟩;refine⟨_,_,rfl,rfl,_,rfl,?_⟩;refine b0 (fun h=>?_) fun h=>?_
  ·have h:=bW h;refine⟨_,_,rfl,rfl,_,rfl,?_⟩;refine b0 (fun h2=>?_) fun h2=>?_
   ·have h2:=bW h2;exact hy (by rw[iy (show d≤l.day by lia),iy (show l.day≤e by lia)];rfl) _ _ ao.refl rfl
   simp_all[ao.refl]
  exact⟨_,rfl,hn (by lia) _ ao.refl⟩
 rw[erf]at g2;have eL:=g2.eq;have wu:=k1.trans k2;have W2:=W.aF wu;have hDL0:=k1.back SF;have QY:¬cR A s DL:=W.bR hDL0;have dB:∀l∈s.lots.filter (xS a d e),l∈s.lots:=fun l h=>(eC.mp h).1;have OX:(s.lots.filter (xS a d e)).length≤256:=aG (fN _ _) ok.gX;have WH:((s.lots.filter (xS a d e)).map (·.id)).Nodup:=hU ok.iK _;have hcb:callBack (among ((s.lots.filter (xS a d e)).map (·.id))) s=callBack (xS a d e) s:=mQ (tP ok.iK _) (fun _ _ _=>rfl) (fun _ _ _=>rfl);rw[←hcb]at q;generalize s.lots.filter (xS a d e)=L at *;refine⟨DL,rfl,⟨_,bz.of eL⟩,?_⟩;refine dS (xs:=L.map fun l=>V.ref (A (.lot l.id))) (fun i σ H'=>∃A',(∃v4 v5 v6,σ=[some (.ref (A .st)),some (iV a),some (iV d),some (iV e),v4,v5,v6,some (.ref DL)])∧Moved C A s H A' (callBack (among ((L.map (·.id)).take i)) s) H'∧World C A' Z0 H' (callBack (among ((L.map (·.id)).take i)) s) (bC s.articles)∧
   H' DL=some (.lst (L.map fun l=>V.ref (A (.lot l.id))))∧¬cR A' (callBack (among ((L.map (·.id)).take i)) s) DL)
  ?_ (fun i σ H' hi ⟨_,_,_,_,Nb,_⟩=>bz.of Nb) (fun i x σ H' hx ⟨A',⟨v4,v5,v6,es⟩,m,W',Nb,xc⟩=>?_) fun σ H' ⟨A',⟨v4,v5,v6,es⟩,m,W',Nb,xc⟩=>?_
 ·rw[F1,IT];exact⟨A,⟨_,_,_,rfl⟩,Moved.aF wu,W2,eL,QY⟩
 ·subst es;have hi:i<L.length:=by have:=(fu.mp hx).1;rw[ay]at this;exact this
  have ej:L[i]? =some L[i]:=by simp[hi]
  have M9:x= .ref (A (.lot L[i].id)):=by rw[cO,ej]at hx;exact(cV hx).symm
  subst M9;have R3:=dB L[i] (fL hi);have J7:(L.map (·.id))[i]? =some L[i].id:=by rw[cO,ej];rfl
  have fi:=Fh R3 (eX WH J7);have uy:=nA ok (among ((L.map (·.id)).take i));have gz:callBack (among [L[i].id]) (callBack (among ((L.map (·.id)).take i)) s)=callBack (among ((L.map (·.id)).take (i+1))) s:=by (simp only[Ji,eX,take_succ];grind[Ji,eX,take_succ])
  have WL:A' .st=A .st:=(m.fix .st trivial trivial).1;have Tg:A' (.lot L[i].id)=A (.lot L[i].id):=(m.fix (.lot L[i].id) ⟨_,R3,rfl⟩ trivial).1;rw[←gz];generalize callBack (among ((L.map (·.id)).take i)) s=S at *;generalize L[i]=l at *;refine⟨A',S,_,l,by rw[WL,Tg];rfl,W',uy,fi,fun A2 D3 H3 wx QW m3 W3 g3=>?_⟩;have T_:A2 (.lot l.id)=A (.lot l.id):=by rw[(m3.fix (.lot l.id) ⟨_,fi,rfl⟩ trivial).1,Tg]
  have RI:=B7 uy fi;obtain⟨dx,ee⟩:=W3.kq RI;have ee:H3 (A (.lot l.id))=some (.ins C.Lot dx (bQ A2 {l with free:=l.free+bagSum l.held,held:=[]})):=by rw[←T_];exact ee
  refine⟨_,_,_,_,rfl,ee,T.a_.cl,T.a_.na,by show 12<1000;decide,?_⟩;rw[iG,←T_];have V4:=gw uy (among [l.id]);have e':H3 (A2 (.lot l.id))=some (.ins C.Lot dx (bQ A2 {l with free:=l.free+bagSum l.held,held:=[]})):=by rw[T_];exact ee
  have W4:=W3.j9 (l':={l with free:=l.free+bagSum l.held,held:=[],called:=true}) V4.iK RI rfl rfl rfl (dx:=dx);have m4:Moved C A2 (dropWhere (among [l.id]) S) H3 A2 (bY (dropWhere (among [l.id]) S) {l with free:=l.free+bagSum l.held,held:=[],called:=true}) _:=Moved.write (C:=C) (A:=A2) (o:= .ins C.Lot dx (bQ A2 {l with free:=l.free+bagSum l.held,held:=[],called:=true})) (t₀:= .lot l.id) ⟨_,RI,rfl⟩ bu e' trivial;rw[se uy fi,Ex]at W4 m4;have LP:=m3.bR Nb trivial xc;have Ui:=m4.bR LP.1 trivial LP.2;exact⟨A2,⟨_,_,_,rfl⟩,(m.trans m3).trans m4,W4,Ui.1,Ui.2⟩
 subst es;rw[ay,show L.length=(L.map (·.id)).length by rw[ay],du]at m W' xc;refine eY (C:=C) (L:=L) (E:=fun l y _=>y=iV l.id) (p:=fun _=>true) (F:=fun l y _=>y=V.ref (A (.lot l.id))) (aQ.eq _) (aQ.eq _) (Got.of Nb) (aG OX (by decide))
  (fun l hl y Hc kc ey Ky Kn hy jx=>?_) fun D5 H5 Ow k5 g5=>?_
 ·subst ey;obtain⟨eA,l',fi,Yy⟩:=m.fix (.lot l.id) ⟨_,dB l hl,rfl⟩ trivial;refine⟨rfl,iR ?_⟩;rw[←eA,←Yy];refine(g9 T (W'.aF kc) fi).go (hy rfl _ _ ao.refl ?_);rw[Yy]
 rw[filter_all]at g5;refine⟨D5,L.map fun l=>(l.id:Int),rfl,by rw[g5.eq,aV];rfl,by rw[ay];exact aG (show _≤257 by (simp;omega)) (by decide),fun D6 H6 Vg k6 e6=>?_⟩;have mm:=(m.trans (Moved.aF k5)).trans (Moved.aF k6);refine q A' H6 D6 ((m.trans (Moved.aF k5)).fresh Vg) mm ((W'.aF k5).aF k6) ?_;rw[e6];unfold Vbdlal.ints;simp
end
section
variable{C:cw}{α:Type}{E:α→V→Hp→Prop}{L:List α}{p:α→Bool}{g:TG}{tt:TT}{te:TE}{vs:List Nat}{σ:L2.St}
def OT (hE:aQ E){td:TE}{H:Hp}{Q:VK}{d:Addr}{kvs:List (Key×V)}{f:α→V}(Oq:H d=some (.dK kvs))(hk:(kvs.map fun kv=>kV kv.1)=L.map f)(hlen:L.length≤sizeLine)
  (TM:∀od,∀R:VK,R (.ref d) (upd H d (.eS od (.dK kvs)))→td σ (upd H d (.eS od (.dK kvs))) R)
  (ny:∀od,∀a∈L,∀Hc,ao C (upd H d (.eS od (.dK kvs))) Hc→∀(Ky:V→Hp→Prop) (Kn:Hp→Prop),(p a=true→∀y H4,ao C Hc H4→E a y H4→Ky y H4)→(p a=false→∀H3,ao C Hc H3→Kn H3)→
   g (f a) (wipe σ vs) Hc fun σ2 H2=>wipe σ2 vs=wipe σ vs∧tt σ2 H2 fun b H3=>if b=true then te σ2 H3 Ky else Kn H3)
  (hd:∀D H2,H D=none→ao C H H2→Got E H2 D (L.filter p)→Q (.ref D) H2):nM (Pz (Pf td) g tt te vs) σ H Q:=by
 refine⟨d,.dK kvs,Oq,trivial,fun od=>TM od _ ⟨d,od,rfl,.inl ⟨kvs,af,fun D hD=>?_⟩⟩⟩;have hl:kvs.length=L.length:=by have:=congrArg List.length hk;simpa using this
 have O1:D≠d:=fun z=>by rw[z,af]at hD;cases hD
 have K_:H D=none:=by rw[ah O1]at hD;exact hD
 refine GK (C:=C) (p:=p) hE hD hlen (fun H2 k2=>⟨k2.at_ _ _ af trivial,rh hl⟩) (fun i b H2 k2 eb=>?_) (fun i b H2 x H' eb k2 y Ky Kn h1 h2=>?_) fun H2 k2 gt=>?_
 ·refine⟨k2.at_ _ _ af trivial,?_⟩;simp_all;grind
 ·obtain⟨rfl,k,v,ek,ex⟩:=y;have:x=f b:=by
   have h1:(kvs.map fun kv=>kV kv.1)[i]? =some x:=by rw[cO,ek,ex];rfl
   simp_all
  subst this;exact ny od b (dJ eb) _ k2 Ky Kn h1 h2
 have QB:H2 d=some (.eS od (.dK kvs)):=k2.at_ _ _ af trivial;refine⟨QB,hd D _ K_ ⟨fun b o e n=>?_,fun b ps e=>?_,fun t=>?_⟩ ?_⟩
 ·by_cases z:b=d
  ·subst z;rw[af,←e,Oq]
  rw[ah z];exact k2.at_ b o (by rw[ah z];exact e) n
 ·have z:b≠d:=fun z=>by rw[z,Oq]at e;cases e
  rw[ah z];exact k2.tb b ps (by rw[ah z];exact e)
 exact(k2.tabs (t.upd Oq trivial)).upd QB trivial;exact gt.move hE (fun ys e=>by rw[ah O1];exact e) fun b xs e=>by rw[ah fun z=>by rw[z,QB]at e;cases e];exact e
end
section
variable{P:Program}{w:PySem.World}{K:Frag}{mg:Str→Option Value}{base:Heap}{C:cw}
abbrev Aw (R:List Nat):HO:= .dK (R.map fun(n:Nat)=>((Sum.inl (n:Int):Key),V.bl true))
def G1 {H:Hp}{d:Addr}{R:List Nat}(e:H d=some (Aw R))(n:Nat):iM H d (iV n) (if n∈R then some (.bl true)else none):=by
 have:=iM.k (k:=Sum.inl (n:Int)) e;rw[fk fun _=>V.bl true]at this;exact this
def FR {R:List Nat}{n:Nat}(h:n∉R):HO.dK (putK (R.map fun(n:Nat)=>((Sum.inl (n:Int):Key),V.bl true)) (Sum.inl (n:Int)) (V.bl true))=Aw (R++[n]):=by
 rw[mO (by rw[fk fun _=>V.bl true,ak h])];simp
def OB {l:List Nat}(h:l≠[]):∃m x,l=m++[x]:=⟨l.dropLast,l.getLast h,(Pl h).symm⟩
def wZ (a b c:Addr)(H H':Hp):Prop:=∀x o,H x=some o→NT o→x≠a→x≠b→x≠c→H' x=some o
theorem wZ.refl {a b c:Addr}{H:Hp}:wZ a b c H H:=fun _ _ e _ _ _ _=>e
def wZ.aF {a b c:Addr}{H H1 H2:Hp}(h:wZ a b c H H1)(k:ao C H1 H2):wZ a b c H H2:=fun x o e n h1 h2 h3=>k.at_ _ _ (h x o e n h1 h2 h3) n
def wZ.upd {a b c d:Addr}{H H1:Hp}{o:HO}(h:wZ a b c H H1)(hd:d=a∨d=b∨d=c):wZ a b c H (upd H1 d o):=fun x o e n h1 h2 h3=>by
 rw[ah (by rintro rfl;rcases hd with z|z|z;exact h1 z;exact h2 z;exact h3 z)];exact h x o e n h1 h2 h3
structure ik (C:cw)(H0 H:Hp)(a b c:Addr)(R Wt L:List Nat):Prop where
 k:ao C H0 H
 r:H a=some (Aw R)
 w:H b=some (.lst (Wt.map iV))
 l:H c=some (Aw L)
def ik.aF {H0 H H':Hp}{a b c:Addr}{R Wt L:List Nat}(h:ik C H0 H a b c R Wt L)(k:ao C H H'):ik C H0 H' a b c R Wt L:=⟨h.k.trans k,k.at_ _ _ h.r trivial,k.at_ _ _ h.w trivial,k.at_ _ _ h.l trivial⟩
def ik.WD {H0 H:Hp}{a b c:Addr}{R R' Wt L:List Nat}(h:ik C H0 H a b c R Wt L)(h0:H0 a=none)(ab:a≠b)(ac:a≠c):ik C H0 (upd H a (Aw R')) a b c R' Wt L:=
 ⟨h.k.lp h0 h.r trivial,af,by rw[ah (aR ab)];exact h.w,by rw[ah (aR ac)];exact h.l⟩
def ik.Uj {H0 H:Hp}{a b c:Addr}{R Wt Wt' L:List Nat}(h:ik C H0 H a b c R Wt L)(h0:H0 b=none)(ab:a≠b)(bc:b≠c):ik C H0 (upd H b (.lst (Wt'.map iV))) a b c R Wt' L:=
 ⟨h.k.lp h0 h.w trivial,by rw[ah ab];exact h.r,af,by rw[ah (aR bc)];exact h.l⟩
def ik.putL {H0 H:Hp}{a b c:Addr}{R Wt L L':List Nat}(h:ik C H0 H a b c R Wt L)(h0:H0 c=none)(ac:a≠c)(bc:b≠c):ik C H0 (upd H c (Aw L')) a b c R Wt L':=
 ⟨h.k.lp h0 h.l trivial,by rw[ah ac];exact h.r,by rw[ah bc];exact h.w,af⟩
inductive zJ (C:cw)(vs:List V)(H:Hp)(Q:VK)(E:XK):Prop|mk A s M (k:Nat):vs=[.ref (A .st),iV k]→World C A Z0 H s M→aM s→(∃x∈s.sessions,x.id=k)→(∀D H',H D=none→ao C H H'→H' D=some (.lst ((cluster s k).map iV))→Q (.ref D) H')→zJ C vs H Q E
def CI (T:Txt K mg C):Callee P w K mg base 2 "cluster_of" ["store","number"] (zJ C):=by
 refine T.B_.callee pS fun f0 cg A0 aY s0 H vs Q E hr h=>?_;have hu:=bt hr;have nd:=pS.nd;refine⟨_,(ae (aN (i:=2) nd (wy (rL (pv 1) gG wH) rfl rfl (by simp) (by decide)))
  (ae (aN (i:=3) nd (a0 (aa (pv 1) ag)))
  (ae (aN (i:=4) nd gN)
  (ae (CV dj (bV (pv 3) (fun _=>rfl)) (ae (aN (i:=5) nd (PV nJ PySem.F.slot_list_pop PySem.F.type_list_pop Ra (pv 3)))
  (ai (dM dj rfl (bf (aI (uz T) hr (aa (pv 0) (aa (pv 5) ag)))) (gT rfl (aT (aC (i:=6) nd) (aT (aC (i:=7) nd) cz))) (ai (aU (dc (cj hu (az (pv 6) rfl) (pv 4))) (ae (ib hu (pv 4) (az (pv 6) rfl) gG rfl)
  (ae (iJ (fm (i:=8) rfl nd rfl rfl (gE rfl rfl rfl rfl) (OA (az (pv 6) rfl)) (ba (own:=[("other",9)]) (show ef ["store","number","reached","waiting","looked_at","session","lot","count","fresh","other"] (aj lK) _ _=true by decide +kernel)) (fun _ _ _ _ _=>by exact(aC (i:=9) nd)) (fun _ _ _ _ _=>by exact(fC (dc (cj hu (pv 9) (pv 2))))) (fun _ _ _ _ _=>by exact(pv 9))))
  (ae (dR (yh nJ q0 yR oC (pv 3) (aa (pv 8) ag)))
  (ai (dM dj rfl (bf (pv 8)) (aC (i:=9) nd) (ai (ib hu (pv 2) (pv 9) gG rfl))))))) aB))))))
  (ai (au (aW (y8 rfl) (by rfl) T.gQ nV (aa (pv 2) ag)))))))),w4z ?_⟩;intros;obtain⟨A,s,M,k,rfl,W,ok,hk,q⟩:=h
 intro d2 hd2;refine⟨af,[(Sum.inl (k:Int),V.bl true)],rfl,by show 1≤15;decide,?_⟩;rw[cp];have k2:ao C H (upd H d2 (Aw [k])):=ao.new hd2;refine⟨aH,fun d3 Ur=>?_⟩;have Vc:d2≠d3:=aP (show upd H d2 (Aw [k]) d2=some (Aw [k])from af) Ur;intro d4 YC;have Xy:=(aO Ur).1;obtain⟨Xd,YG⟩:=aO YC;obtain⟨Xd,X7⟩:=aO Xd;have w0:ik C H (upd (upd (upd H d2 (Aw [k])) d3 (.lst [iV k])) d4 (.dK [])) d2 d3 d4 [k] [k] []:=
  ⟨(k2.trans (ao.new Ur)).trans (ao.new YC),by rw[ah (aR X7),ah Vc];exact af,by rw[ah (aR YG)];exact af,af⟩
 have Xz:=aR X7;have VM:=aR YG;refine⟨fun m σ H'=>m≤128∧∃R Wt L,(∃v5 v6 v7 v8 v9,σ=[some (.ref (A .st)),some (iV k),some (.ref d2),some (.ref d3),some (.ref d4),v5,v6,v7,v8,v9])∧ik C H H' d2 d3 d4 R Wt L∧Reach s k R Wt L none []∧(L.Nodup∧∀i∈L,∃l∈s.lots,l.id=i)∧Wt.length+s.sessions.length=m+R.length,?_,?_⟩;exact⟨s.sessions.length,ok.o7,[k],[k],[],⟨_,_,_,_,_,rfl⟩,w0,Reach.start hk,⟨lA,fun i hi=>by cases hi⟩,by simp;lia⟩;rintro m σ H1 ⟨hm,R,Wt,L,⟨v5,v6,v7,v8,v9,rfl⟩,w1,UH,hL,M3⟩;refine⟨_,.inl ⟨_,bz.of w1.w,rfl⟩,?_⟩;by_cases hw:Wt=[]
 ·subst hw;refine dk ?_;refine⟨d2,R,fun _=>V.bl true,rfl,w1.r,fun ks D hp hs hD=>?_⟩;have eP:ks.Nodup:=hp.nodup_iff.mpr UH.nd;have lu:ks.Pairwise (· < ·):=(hs.and eP).imp fun h=>Nat.lt_of_le_of_ne h.1 h.2;have hle:=UH.end_;have P0:ks=cluster s k:=Vm.Gy ok hk ⟨hp.mem_iff.mpr hle.one,fun l hl x hx hxc y hy=>hp.mem_iff.mpr (hle.Xg l hl x hx (hp.mem_iff.mp hxc) y hy),fun X hX Xk y hy=>hle.least X hX Xk y (hp.mem_iff.mp hy)⟩ lu;rw[P0];exact q D _ (w1.k.back hD) (w1.k.trans (ao.new hD)) af
 obtain⟨W',x,rfl⟩:=OB hw;have eP:(!((W'++[x]).map iV).isEmpty)=true:=by cases W'<;>rfl
 rw[eP];refine cZ ?_;have hsl:=ok.o7;have Qn:=UH.len;refine⟨fun σ H'=>∃m',m'<m∧(m'≤128∧∃R Wt L,(∃v5 v6 v7 v8 v9,σ=[some (.ref (A .st)),some (iV k),some (.ref d2),some (.ref d3),some (.ref d4),v5,v6,v7,v8,v9])∧ik C H H' d2 d3 d4 R Wt L∧Reach s k R Wt L none []∧(L.Nodup∧∀i∈L,∃l∈s.lots,l.id=i)∧Wt.length+s.sessions.length=m'+R.length),fun σ' H' h=>h,?_⟩;refine⟨.inl ⟨rfl,_,bz.of w1.w⟩,d3,_,iV x,rfl,rfl,w1.w,?_,?_⟩;simp;have UM:((W'++[x]).map iV).dropLast=W'.map iV:=by rw[gS,bF,om,List.dropLast_concat]
 rw[UM];have w2:=w1.Uj (Wt':=W') Xy Vc VM;have rch2:=UH.pop;generalize upd H1 d3 (.lst (W'.map iV))=H2 at *;refine⟨A,s,M,x,rfl,W.aF w2.k,ok,fun DU H3 Sg k3 gU=>?_⟩;have w3:=w2.aF k3;obtain⟨ys,eU,pr⟩:=id gU;have hy:ys.length=(usesOf s x).length:=bZ pr;have nU2:DU≠d2:=fun z=>by rw[z,w2.r]at Sg;cases Sg
 have nU3:DU≠d3:=fun z=>by rw[z,w2.w]at Sg;cases Sg
 have nU4:DU≠d4:=fun z=>by rw[z,w2.l]at Sg;cases Sg
 refine⟨DU,rfl,⟨_,bz.of eU⟩,?_⟩;refine dS (xs:=ys) (fun i σ H'=>∃R Wt L,(∃v6 v7 v8 v9,σ=[some (.ref (A .st)),some (iV k),some (.ref d2),some (.ref d3),some (.ref d4),some (iV x),v6,v7,v8,v9])∧ik C H H' d2 d3 d4 R Wt L∧Reach s k R Wt L (some x) (((usesOf s x).take i).map (·.1))∧(L.Nodup∧∀i∈L,∃l∈s.lots,l.id=i)∧Wt.length+s.sessions.length+1=m+R.length∧wZ d2 d3 d4 H3 H')
  ⟨R,W',L,⟨_,_,_,_,rfl⟩,w3,rch2,hL,by rw[dv]at M3;simp at M3;lia,wZ.refl⟩ (fun i σ H' hi ⟨_,_,_,_,_,_,_,_,kb⟩=>bz.of (kb _ _ eU trivial nU2 nU3 nU4)) (fun i y σ H' hx ⟨R,Wt,L,⟨v6,v7,v8,v9,es⟩,w4,GW,TJ,Ug,kb⟩=>?_) fun σ H' ⟨R,Wt,L,⟨v6,v7,v8,v9,es⟩,w4,GW,TJ,Ug,kb⟩=>?_
 ·subst es;have hi:i<(usesOf s x).length:=by rw[←hy];exact(fu.mp hx).1
  have em:(usesOf s x)[i]? =some (usesOf s x)[i]:=by simp[hi]
  obtain⟨y,ey,t,rfl,et⟩:=cT pr em;rw[hx]at ey;cases ey;obtain⟨l,hl,el,ec,Tv⟩:=HX (dJ em);have hmt:((usesOf s x).take (i+1)).map (·.1)=((usesOf s x).take i).map (·.1)++[l.id]:=by grind[take_succ]
  rw[←el,ec]at et;rw[hmt];have nt:∀d o,H3 d=some o→(∀xs,o≠ .tup xs)→t≠d:=fun d o e n z=>by rw[←z,et]at e;cases e;exact n _ rfl
  have L9:H' t=some (.tup [.ref (A (.lot l.id)),iV (bagOf l.uses x)]):=kb _ _ et trivial (nt _ _ w3.r fun _ z=>by cases z) (nt _ _ w3.w fun _ z=>by cases z) (nt _ _ w3.l fun _ z=>by cases z);have hxk:x∈keys l.uses:=(wz (ok.lots l hl).uses).2 Tv;have W4:=W.aF w4.k;have gL:=G1 w4.l l.id;refine⟨_,_,rfl,ju.of L9,rfl,_,_,rfl,_,_,rfl,rfl,?_⟩;refine(g9 T W4 hl).go ?_;refine⟨_,_,rfl,gL,_,rfl,?_⟩;by_cases Pa:l.id∈L
  ·rw[aw Pa];exact dk ⟨R,Wt,L,⟨_,_,_,_,rfl⟩,w4,GW.skip Pa,TJ,Ug,kb⟩
  rw[ak Pa];refine cZ ?_;have hLl:L.length≤256:=by
   have:=xW (m:=s.lots.map (·.id)) TJ.1 fun y hy=>by obtain⟨z,hz,e⟩:=TJ.2 y hy;exact aZ.2 ⟨z,hz,e⟩
   rw[ay]at this;exact aG this ok.gX
  have hRl4:=GW.len;refine(g9 T W4 hl).go ?_;refine⟨_,_,rfl,tp.k (k:=Sum.inl (l.id:Int)) w4.l (by rw[ay];exact fe hLl (by decide)),?_⟩;rw[FR Pa];have w5:=w4.putL (L':=L++[l.id]) Xd Xz VM;have kb5:=kb.upd (d:=d4) (o:=Aw (L++[l.id])) (.inr (.inr rfl));generalize upd H' d4 (Aw (L++[l.id]))=H5 at *;have W5:=W.aF w5.k;obtain⟨kvs,hp,ed⟩:=W5.at_ (.used l.id) ⟨_,hl,rfl⟩ _ hl rfl;have ed:H5 (A (.used l.id))=some (.dK (kvs.map bg)):=ed;have hul:=(fB ok hl).1;have WQ:kvs.length≤128:=by rw[hp.length_eq];exact hul
  have mx:=lC (ok.lots l hl).uses hp;have lv:bT s (.used l.id):=⟨l,hl,rfl⟩;have hA2:d2≠A (.used l.id):=fun z=>by obtain⟨o,e0,_⟩:=(W.at_ _ lv).some lv;rw[←z,hd2]at e0;cases e0
  refine kS (OT (C:=C) (L:=kvs) (E:=fun p y _=>y=iV p.1) (p:=fun p=>decide (p.1∉R)) (f:=fun p=>iV p.1) (aQ.eq _) ed (by rw[aV];rfl) (aG WQ (by decide)) (fun od R' r=>?_) (fun od p He Hc kc Ky Kn hy hn=>?_) fun DF H6 U2 k6 gF=>?_)
  ·exact((eV T W5 hl).upd ed (fun _ _ _ z=>by cases z)).go r
  ·have gR:=G1 (H:=Hc) (kc.at_ _ _ (by rw[ah hA2];exact w5.r) trivial) p.1;refine⟨rfl,_,_,rfl,gR,_,rfl,?_⟩;by_cases Ym:p.1∈R;grind[ao.refl];rw[ak Ym];exact cZ (hy (iy Ym) _ _ ao.refl rfl)
  have w6:=w5.aF k6;have kb6:=kb5.aF k6;have eF:=gF.eq;have Wq:(keys (kvs.filter fun p=>decide (p.1∉R))).Nodup:=Nodup.sublist (Sublist.map _ Dq) mx;have V9:∀y,y∈keys (kvs.filter fun p=>decide (p.1∉R))↔y∈keys l.uses∧y∉R:=fun y=>by
   constructor;simp;grind;rintro⟨hy,hn⟩;obtain⟨p,Vl,rfl⟩:=aZ.mp hy;grind
  have eF:H6 DF=some (.lst ((keys (kvs.filter fun p=>decide (p.1∉R))).map iV)):=by rw[eF,aV];rfl
  have WT:(keys (kvs.filter fun p=>decide (p.1∉R))).length≤128:=by grind -order -ring -linarith
  generalize keys (kvs.filter fun p=>decide (p.1∉R))=f at *;have rch6:=GW.more ok hl hxk Wq V9;have hWl:Wt.length≤256:=by lia
  have nF2:DF≠d2:=fun z=>by rw[z,w5.r]at U2;cases U2
  have nF3:DF≠d3:=fun z=>by rw[z,w5.w]at U2;cases U2
  refine⟨.inl ⟨rfl,_,bz.of w6.w⟩,d3,DF,_,_,rfl,rfl,w6.w,eF,?_,?_⟩;rw[ay,ay];exact aG (show _≤384 by (clear hRl4;lia)) (by decide);rw[←gS];have w7:=w6.Uj (Wt':=Wt++f) Xy Vc VM;have kb7:=kb6.upd (d:=d3) (o:= .lst ((Wt++f).map iV)) (.inr (.inl rfl));have Ya:upd H6 d3 (.lst ((Wt++f).map iV)) DF=some (.lst (f.map iV)):=by rw[ah nF3];exact eF
  generalize upd H6 d3 (.lst ((Wt++f).map iV))=H7 at *;refine⟨DF,rfl,⟨_,bz.of Ya⟩,?_⟩;refine dS (xs:=f.map iV) (fun j σ H'=>(∃v9,σ=[some (.ref (A .st)),some (iV k),some (.ref d2),some (.ref d3),some (.ref d4),some (iV x),some (.ref (A (.lot l.id))),some (iV (bagOf l.uses x)),some (.ref DF),v9])∧ik C H H' d2 d3 d4 (R++f.take j) (Wt++f) (L++[l.id])∧wZ d2 d3 d4 H3 H'∧H' DF=some (.lst (f.map iV)))
   ⟨⟨_,rfl⟩,by rw[F1,mr];exact w7,kb7,Ya⟩ (fun j σ H' hj ⟨_,_,_,e⟩=>bz.of e) (fun j y σ H' hy ⟨⟨v9,es⟩,w8,Wg,Yg⟩=>?_) fun σ H' ⟨⟨v9,es⟩,w8,Wg,Yg⟩=>?_
  ·subst es;have hj:j<f.length:=by have:=(fu.mp hy).1;rw[ay]at this;exact this
   have ej:f[j]? =some f[j]:=by simp[hj]
   have Po:y=iV f[j]:=by rw[cO,ej]at hy;exact(cV hy).symm
   subst Po;have hnj:f[j]∉R++f.take j:=fun z=>by grind[eX]
   refine⟨_,_,rfl,tp.k (k:=Sum.inl (f[j]:Int)) w8.r ?_,?_⟩;rw[ay,dv,lz];exact fe (show _≤256 by (clear WQ hLl ec el M3 hu hk;(clear Ug;grind))) (by decide);rw[FR hnj];have e9:R++f.take j++[f[j]]=R++f.take (j+1):=by rw[AS,gx,ej];rfl
   rw[e9];refine⟨⟨_,rfl⟩,w8.WD hd2 Vc Xz,Wg.upd (.inl rfl),?_⟩;rw[ah nF2];exact Yg
  subst es;rw[ay,du]at w8;refine⟨R++f,Wt++f,L++[l.id],⟨_,_,_,_,rfl⟩,w8,rch6,⟨?_,fun j hj=>?_⟩,by rw[dv,dv];lia,Wg⟩;grind;grind
 subst es;rw[hy,du]at GW;have hRl4:=GW.len;refine⟨m-1,by (clear hy M3 hm hu hk;(clear Qn;omega)),by (clear Ug hy M3 hu hk;(simp;(constructor<;>omega))),R,Wt,L,⟨_,_,_,_,_,rfl⟩,w4,GW.through fun l hl hx=>?_,TJ,by (clear hy M3 hm hu hk;(clear Qn;omega))⟩;refine aZ.mpr ⟨(l.id,bagOf l.uses x),?_,rfl⟩;rw[←oW];exact aZ.mpr ⟨l,eC.mpr ⟨hl,by simpa using(wz (ok.lots l hl).uses).1 hx⟩,rfl⟩
def Dd {s:bE}(ok:aM s){k:Nat}(hk:∃x∈s.sessions,x.id=k):(cluster s k).length≤128:=by
 obtain⟨h1,h2⟩:=j0 ok hk;have mx:(cluster s k).Nodup:=h2.imp fun h=>cC h;have:=xW (m:=s.sessions.map (·.id)) mx fun y hy=>by
  have:=h1.least (fun y=>∃z∈s.sessions,z.id=y) (fun l hl x hx _ y hy=>?_) hk y hy;simpa;obtain⟨p,hp,rfl⟩:=aZ.mp hy;exact(ok.lots l hl).uk p hp
 rw[ay]at this;exact aG this ok.o7
inductive vO (C:cw)(vs:List V)(H:Hp)(Q:VK)(E:XK):Prop|mk A s (k:Nat):vs=[.ref (A .st),iV k]→Wd C A H s→aM s→isId k=true→Tells C H (clusterCall s k) Q→vO C vs H Q E
def xO (T:Txt K mg C):Callee P w K mg base 3 "tell_cluster" ["store","number"] (vO C):=by
 refine T.yM.callee mh fun f0 cg A0 aY s0 H vs Q E hr h=>?_;obtain⟨A,s,k,rfl,W,ok,cD,q⟩:=h;have hu:=bt hr;have nd:=mh.nd;refine⟨_,(ae (aU (dc (cj hu (pv 1) (az (pv 0) rfl))) (ai (au (a0 (aa (aK T.iN rfl) ag)))) aB)
  (ai (au (aI (s_ T) hr (aa (aI (CI T) hr (aa (pv 0) (aa (pv 1) ag))) ag))))),?_⟩
 unfold clusterCall at q;rw[ak (by rw[cD];decide)]at q;simp only[cY]at q;have g:=W.lW k;refine(cU T W).go ?_;refine⟨_,_,rfl,g,_,rfl,?_⟩;cases ha:Vbdlal.ses s k with
 | none=>
  have hn:¬ ∃x∈s.sessions,x.id=k:=fun z=>by rw[←fV,ha]at z;cases z
  rw[ak hn];rw[ha]at q;exact cZ ⟨aH,fun D hD=>q.pC ao.refl hD rfl⟩
 | some x=>
  obtain⟨hx,rfl⟩:=iI ha;rw[aw (show ∃y∈s.sessions,y.id=x.id from⟨x,hx,rfl⟩)]at g ⊢;rw[ha]at q;have q:Tells C H (((cluster s x.id).length:Int)::Vbdlal.ints (cluster s x.id)) Q:=q;have EW:=Dd ok (k:=x.id) ⟨x,hx,rfl⟩;refine dk ?_;refine⟨A,s,_,x.id,rfl,W,ok,⟨x,hx,rfl⟩,fun D H1 hD k1 e1=>?_⟩;refine⟨D,(cluster s x.id).map fun(n:Nat)=>(n:Int),rfl,by rw[e1,aV];rfl,by rw[ay];exact aG (show _≤129 by (simp;omega)) (by decide),fun D2 H2 lr k2 e2=>q.at k1 lr k2 ?_⟩;rw[e2,ay];rfl
end
section
variable{P:Program}{w:PySem.World}{K:Frag}{mg:Str→Option Value}{base:Heap}{C:cw}
def EV {ord ns:List Nat}{f:Nat→Nat}(h:Bs (ord.map fun n=>(f n:Int)) ord ns):ns.Perm ord∧ns.Pairwise fun x y=>f x≤f y:=by
 obtain⟨ps,h1,h2,h3⟩:=h;have hz:(ord.map fun n=>(f n:Int)).zip ord=ord.map fun n=>((f n:Int),n):=by
  have h:(ord.map fun n=>(f n:Int)).zip (ord.map fun n=>n)=ord.map fun n=>((f n:Int),n):=List.zip_map' ..;simp_all
 rw[hz]at h1;have hp:∀p∈ps,p.1=(f p.2:Int):=fun p hp=>by grind
 subst h2;refine⟨?_,?_⟩
 ·have:=h1.map Prod.snd;rw[aV]at this;refine this.trans (Iw ?_)
  conv=>rhs;rw[←jm ord]
  rfl
 rw[hY];refine h3.imp_of_mem fun{p q} h4 h5 h6=>?_;grind -order
def OL (R:List Nat)(n:Nat):HO.dK (putK (R.map fun(n:Nat)=>((Sum.inl (n:Int):Key),V.bl true)) (Sum.inl (n:Int)) (V.bl true))=Aw (if n∈R then R else R++[n]):=by
 by_cases h:n∈R
 ·rw[aw h];unfold putK;rw[kg,fk (fun _=>V.bl true),aw h,aw (show(some (V.bl true)).isSome=true from rfl)];simp
 rw[ak h];exact FR h
theorem Fv (L:List Article):∀(os R:List Nat),(os.foldl (g_ L) R).length≤R.length+os.length
 | [],R=>bo _
 | o::os,R=>by
  rw[gZ,cH];have:=Fv L os (g_ L R o);have h2:(g_ L R o).length≤R.length+1:=by
   unfold g_;((repeat' split)<;>simp_all)
  lia
def IM (T:Txt K mg C){A:Tag→Addr}{Z:Tag→Option Obj}{H:Hp}{s:bE}{M:Nat→dW}(W:World C A Z H s M){n:Nat}(hn:∃x∈s.articles,x.id=n):RF K H (A (.dw n)) "depth" ((M n).d:Int):=by
 obtain⟨dx,e⟩:=W.at_ (.dw n) hn;exact⟨_,dx,_,e,T.bN.cl,T.bN.na,by rfl⟩
inductive qz (C:cw)(vs:List V)(H:Hp)(Q:VK)(E:XK):Prop|mk A s (a:Nat):vs=[.ref (A .ad),iV a]→Wd C A H s→aM s→(∀D H' R,H D=none→ao C H H'→Above s.articles a (s.articles.map (·.id)) R→R.length≤65→H' D=some (.lst (R.map iV))→Q (.ref D) H')→qz C vs H Q E
def jG (T:Txt K mg C):Callee P w K mg base 2 "with_kits_above" ["articles","number"] (qz C):=by
 refine T.tS.callee jr fun f0 c0 A0 aY s0 H vs Q E wF hr h=>?_;have hu:=bt hr;have nd:=jr.nd;refine⟨_,(ae (aN (i:=2) nd (wy (rL (pv 1) gG wH) rfl rfl (by simp) (by decide)))
  (ae (dM dj rfl (bf (DT hr rfl T.gQ rfl wF T.blt (pv 0))) (aC (i:=3) nd) (ai (aU (bV (aW (FA rfl) (by rfl) T.Mq boot_any (aa (d7 rfl nd (bf (az (bD hu (pv 0) (pv 3)) rfl)) (ba (own:=[("part",4),("count",5)]) (show ef ["articles","number","reached","other","part","count"] (aj gP) _ _=true by decide +kernel)) (fun _ _ _ _ _=>by exact(gB K 2 (by rfl) (aT (aC (i:=4) nd) (aT (aC (i:=5) nd) cz)))) (fun _ _ _ _ _=>by exact cB) (fun _ _ _ _ _=>by exact(Kr (nq hu (pv 4) (pv 2))))) ag)) (fun _=>rfl)) (ai (ib hu (pv 2) (pv 3) gG rfl)) aB)))
  (ai (au (IA (La rfl) (by rfl) T.Ko boot_list (aa (pv 2) ag)))))),w2z ?_⟩;intros;obtain⟨A,s,a,rfl,W,ok,q⟩:=h
 intro d2 hd2;refine⟨af,[(Sum.inl (a:Int),V.bl true)],rfl,by show 1≤15;decide,?_⟩;rw[cp];have k1:ao C H (upd H d2 (Aw [a])):=ao.new hd2;have e1:upd H d2 (Aw [a]) d2=some (Aw [a]):=af;have W1:=W.aF k1;show pb _ _ _ _ (upd H d2 (Aw [a]));generalize upd H d2 (Aw [a])=H1 at *;obtain⟨ord,fq,ed⟩:=W1.at_ .ad trivial;have ed:H1 (A .ad)=some (.dK (ord.map fun(n:Nat)=>(Sum.inl (n:Int),V.ref (A (.art n))))):=ed;have dB:∀n∈ord,∃x∈s.articles,x.id=n:=fun n hn=>by grind
 refine⟨A .ad,ord,fun n=>A (.art n),ord.map fun n=>(dep s.articles n:Int),rfl,ed,by rw[ay],fun j n k hj hk=>?_,W1.tabs.cf,fun D ns H2 Rp sb tb hD=>?_⟩
 ·rw[cO,hj]at hk;cases hk;obtain⟨x,hx,rfl⟩:=dB n (dJ hj);obtain⟨Cc,dx,fs,y1,y2,y3,y4⟩:=(nh T W1 hx).ex;exact⟨A (.dw x.id),⟨Cc,dx,fs,y1,y2,y3,y4⟩,IM T W1 ⟨x,hx,rfl⟩⟩
 obtain⟨z_,zU⟩:=EV Rp;have k2:ao C H1 H2:=by
  obtain⟨Vk,e0⟩:=W1.tabs.cf.ex;obtain⟨Yr,X3⟩:=tb.ex;refine⟨fun b o e n=>sb b o e fun z=>?_,fun b ps e=>?_,fun t=>t.qH sb tb⟩;rw[z,e0]at e;cases e;exact n;by_cases z:b=C.cq;grind;exact⟨ps,sb b _ e z⟩
 have k3:=(k1.trans k2).trans (ao.new (C:=C) (o:= .lst (ns.map iV)) hD);have eD:upd H2 D (.lst (ns.map iV)) D=some (.lst (ns.map iV)):=af;have O1:d2≠D:=aP (k2.at_ _ _ e1 trivial) hD;have e3:upd H2 D (.lst (ns.map iV)) d2=some (Aw [a]):=by rw[ah O1];exact k2.at_ _ _ e1 trivial
 generalize upd H2 D (.lst (ns.map iV))=H3 at *;have zp:ns.length≤64:=by rw[z_.length_eq,fq.length_eq,ay];exact ok.m6
 refine⟨D,rfl,⟨_,bz.of eD⟩,?_⟩;refine dS (xs:=ns.map iV) (fun i σ H'=>(∃v3 v4 v5,σ=[some (.ref (A .ad)),some (iV a),some (.ref d2),v3,v4,v5])∧ao C H H'∧H' d2=some (Aw ((ns.take i).foldl (g_ s.articles) [a]))∧H' D=some (.lst (ns.map iV)))
  ⟨⟨_,_,_,rfl⟩,k3,e3,eD⟩ (fun i σ H' hi ⟨_,_,_,e⟩=>bz.of e) (fun i y σ H' hy ⟨⟨v3,v4,v5,es⟩,k,GP,YJ⟩=>?_) fun σ H' ⟨⟨v3,v4,v5,es⟩,k,GP,YJ⟩=>?_
 ·subst es;have hi:i<ns.length:=by have:=(fu.mp hy).1;rw[ay]at this;exact this
  have ej:ns[i]? =some ns[i]:=by simp[hi]
  have Po:y=iV ns[i]:=by rw[cO,ej]at hy;exact(cV hy).symm
  subst Po;obtain⟨x,hx,ex⟩:=dB ns[i] (z_.mem_iff.mp (fL hi));have gz:(ns.take (i+1)).foldl (g_ s.articles) [a]=g_ s.articles ((ns.take i).foldl (g_ s.articles) [a]) ns[i]:=by grind[take_succ]
  have Qn:=Fv s.articles (ns.take i) [a];rw[lz]at Qn;rw[gz];generalize(ns.take i).foldl (g_ s.articles) [a]=R at *;generalize ns[i]=n at *;subst ex;have W':=W.aF k;have g:=W'.fM x.id;rw[aw ⟨x,hx,rfl⟩]at g;obtain⟨as,p1,p2⟩:=W'.at_ (.part x.id) ⟨x,hx,rfl⟩ x hx rfl;refine⟨_,_,rfl,g,?_⟩;refine(oP T W' hx).go ?_;refine eY (C:=C) (L:=x.parts) (E:=fun p y _=>y=V.bl (decide (p.1∈R))) (p:=fun _=>true) (F:=bG) (aQ.eq _) bG.mono (kW p1 p2) (aG (ok.fw x hx).len (by decide))
   (fun p hp y Hc kc ⟨t,ey,et⟩ Ky Kn Gw jx=>?_) fun D4 H4 LW k4 g4=>?_
  ·subst ey;have gR:=G1 (H:=Hc) (kc.at_ _ _ GP trivial) p.1;refine⟨_,_,rfl,ju.of et,rfl,_,_,rfl,_,_,rfl,rfl,rfl,iR ?_⟩;refine⟨_,_,rfl,gR,Gw rfl _ _ ao.refl ?_⟩;split<;>grind
  rw[filter_all]at g4;have V':=k4.at_ _ _ GP trivial;have Qw:=k4.at_ _ _ YJ trivial;refine⟨D4,x.parts.map fun p=>decide (p.1∈R),rfl,bz.of (by rw[g4.eq,aV];rfl),_,rfl,?_⟩;have KN:(x.parts.map fun p=>decide (p.1∈R)).any id=(partsOf s.articles x.id).any fun p=>decide (p.1∈R):=by
   rw[kG ok hx,List.any_map];rfl
  rw[KN];unfold g_;refine b0 (fun h=>?_) fun h=>?_
  ·rw[aw h];refine⟨_,_,rfl,tp.k (k:=Sum.inl (x.id:Int)) V' ?_,?_⟩;rw[ay];exact fe (show R.length≤65 by simp at Qn;(clear hi hu;grind)) (by decide);rw[OL];refine⟨⟨_,_,_,rfl⟩,(k.trans k4).lp hd2 V' trivial,af,?_⟩;rw[ah (aR O1)];exact Qw
  rw[ak h];exact⟨⟨_,_,_,rfl⟩,k.trans k4,V',Qw⟩
 subst es;rw[ay,du]at GP;have Pd:=K6 (Wf.kQ ok.c7) (a:=a) (F6 ok) ns (z_.trans fq) zU;have Qn:=Fv s.articles ns [a];refine⟨d2,_,fun _=>V.bl true,rfl,GP,fun l hl=>?_⟩;exact q l _ _ (k.back hl) (k.trans (ao.new hl)) Pd (by simp at Qn;lia) af
end
section
variable{C:cw}{H H0 H':Hp}{d:Addr}{od:Obj}{kvs:List (Key×V)}
def Jx {o:HO}(h:H d=some o):upd H d o=H:=funext fun b=>by grind[af,ah]
def ao.eS (k:ao C H0 H)(h:H0 d=some (.dK kvs)):ao C (upd H0 d (.eS od (.dK kvs))) (upd H d (.eS od (.dK kvs))):=by
 refine⟨fun b o e n=>?_,fun b ps e=>?_,fun t=>?_⟩
 ·by_cases z:b=d
  ·rw[z,af]at e ⊢;exact e
  rw[ah z]at e ⊢;exact k.at_ b o e n
 ·by_cases z:b=d
  ·rw[z,af]at e;cases e
  rw[ah z]at e ⊢;exact k.tb b ps e
 have t0:=t.upd (o':= .dK kvs) af trivial;rw[cp,Jx h]at t0;exact(k.tabs t0).upd (k.at_ _ _ h trivial) trivial
def ao.TX (h:H d=some (.dK kvs))(k:ao C (upd H d (.eS od (.dK kvs))) H'):ao C H (upd H' d (.dK kvs)):=by
 have e':H' d=some (.eS od (.dK kvs)):=k.at_ _ _ af trivial;refine⟨fun b o e n=>?_,fun b ps e=>?_,fun t=>?_⟩
 ·by_cases z:b=d
  ·simp_all[af]
  rw[ah z];exact k.at_ b o (by rw[ah z];exact e) n
 ·have z:b≠d:=fun z=>by rw[z,h]at e;cases e
  rw[ah z];exact k.tb b ps (by rw[ah z];exact e)
 exact(k.tabs (t.upd h trivial)).upd e' trivial
end
def uD {td:TE}{g:TG}{tb:TS}{D:Ends}{σ:L2.St}{H:Hp}{d:Addr}{kvs:List (Key×V)}(hd:H d=some (.dK kvs))(Pv:Obj→Nat→L2.St→Hp→Prop)
  (TM:∀od,∀R:VK,R (.ref d) (upd H d (.eS od (.dK kvs)))→td σ (upd H d (.eS od (.dK kvs))) R)
  (h0:∀od,Pv od 0 σ (upd H d (.eS od (.dK kvs)))) (hl:∀od i σ H',Pv od i σ H'→H' d=some (.eS od (.dK kvs)))
  (hs:∀od i k v σ H' T (D':Ends),kvs[i]? =some (k,v)→Pv od i σ H'→H' T=none→D'.nx=Pv od (i+1)→g (.ref T) σ (upd H' T (.tup [kV k,v])) fun σ2 H2=>tb D' σ2 H2)
  (hdn:∀od σ H',Pv od kvs.length σ H'→D.nx σ (upd H' d (.dK kvs))):Kw (NJ (KZ td) g tb) D σ H:=by
 refine⟨d,.dK kvs,hd,trivial,fun od=>TM od _ ⟨d,od,kvs,rfl,af,?_⟩⟩;refine⟨fun i m σ H=>m=kvs.length-i∧i≤kvs.length∧Pv od i σ H,⟨_,rfl,fJ _,h0 od⟩,?_⟩;rintro i m σ H' ⟨rfl,hi,p⟩;have e:=hl od i σ H' p;by_cases lu:i<kvs.length
 ·refine .inr ⟨⟨e,lu⟩,Pv od (i+1),fun σ' jC p'=>⟨kvs.length-(i+1),by omega,rfl,lu,p'⟩,fun x jC y=>?_⟩;obtain⟨T,k,v,ek,rfl,hT,rfl⟩:=y;grind
 have ei:i=kvs.length:=by lia
 subst ei;exact .inl ⟨⟨e,bo _⟩,e,hdn od σ H' p⟩
section
variable{P:Program}{w:PySem.World}{K:Frag}{mg:Str→Option Value}{base:Heap}{C:cw}
def JG (C:cw)(H:Hp)(p nd:Addr)(m:dW):Prop:=mN C H p m.d m.s nd∧gO none H nd m.c
def JG.aF {H H':Hp}{p nd:Addr}{m:dW}(h:JG C H p nd m)(k:ao C H H'):JG C H' p nd m:=⟨h.1.aF k,h.2.aF fun o e=>by
 obtain⟨kvs,_,_,e2⟩:=h.2;rw[e]at e2;cases e2;exact k.at_ _ _ e trivial⟩
noncomputable def Ki (n:Nat)(ps:List (Nat×Nat))(ms:Nat→dW):dW:=
 ⟨if ps=[]then 0 else 1+nF (ps.map fun p=>(ms p.1).d),1+total (ps.map fun p=>(ms p.1).s),fun j=>if ps=[]then(if j=n then 1 else 0)else total (ps.map fun p=>p.2*(ms p.1).c j)⟩
def vh {H Hx:Hp}{nd mo tV:Addr}{kvs:List (Nat×Nat)}{d s:Nat}{c:Nat→Nat}{Q:VK}(k:ao C H Hx)(mx:H nd=none)(e:Hx nd=some (.dK (kvs.map bg)))(t:Tab kvs c)(qd:Hx mo=none)(M6:Hx tV=none)(eP:tV≠mo)
  (q:∀D nd H',H D=none→H nd=none→D≠nd→ao C H H'→JG C H' D nd ⟨d,s,c⟩→Q (.ref D) H'):
  Q (.ref mo) (upd (upd (upd Hx tV (.own mo)) mo (.ins C.dO tV [])) mo (.ins C.dO tV [("depth",iV d),("size",iV s),("need",.ref nd)])):=by
 have h1:H mo=none:=k.back qd;have n1:nd≠mo:=aP e qd;have n2:nd≠tV:=aP e M6;have s1:=k.trans (ao.new (C:=C) (p:=tV) (o:= .own mo) M6);have s2:=s1.trans (ao.new (C:=C) (p:=mo) (o:= .ins C.dO tV []) (by rw[ah (aR eP)];exact qd));have s3:=s2.lp (o':= .ins C.dO tV [("depth",iV d),("size",iV s),("need",.ref nd)]) h1 af trivial;refine q mo nd _ h1 mx (aR n1) s3 ⟨⟨tV,af⟩,kvs,t.1,t.2,?_⟩;rw[ah n1,ah n1,ah n2];exact e
def OI (n:Nat):Tab [(n,1)] fun j=>if j=n then 1 else 0:=by
 refine⟨by simp[keys],fun k=>?_⟩;rw[dg];by_cases e:n=k;subst e;simp;have:¬k=n:=fun z=>e z.symm;simp[e,this];rfl
def OP {kvs:List (Nat×Nat)}{c:Nat→Nat}(t:Tab kvs c){ids:List Nat}(h:∀k,c k≠0→k∈ids):kvs.length≤ids.length:=by
 have:=xW (m:=ids) t.1 fun y hy=>h y fun z=>by
  have h2:=t.2 y;rw[aw z]at h2;exact de.mp h2 hy
 simp_all
def tab_of {z:Option Obj}{H:Hp}{p:Addr}{c:Nat→Nat}(h:gO z H p c):∃kvs,Tab kvs c∧H p=some (fz z (.dK (kvs.map bg))):=by
 obtain⟨kvs,h1,h2,h3⟩:=h;exact⟨kvs,⟨h1,h2⟩,h3⟩
def Bx {H:Hp}{md:Addr}{ord:List Nat}{mo:Nat→Addr}(e:H md=some (.dK (ord.map fun(n:Nat)=>((Sum.inl (n:Int):Key),V.ref (mo n))))){n:Nat}(hn:n∈ord):iM H md (iV n) (some (.ref (mo n))):=by
 have:=iM.k (k:=Sum.inl (n:Int)) e;rw[fk (fun n=>V.ref (mo n)),aw hn]at this;exact this
inductive l4 (C:cw)(vs:List V)(H:Hp)(Q:VK)(E:XK):Prop|mk (n:Nat) (pl md:Addr) (ps:List (Nat×Nat)) (ord:List Nat) (mo gV:Nat→Addr) (ms:Nat→dW) (ids:List Nat):vs=[iV n,.ref pl,.ref md]→Got bG H pl ps→ps.length≤16→(∀p∈ps,p.1∈ord∧p.2≠0∧p.2≤1000)→H md=some (.dK (ord.map fun(n:Nat)=>((Sum.inl (n:Int):Key),V.ref (mo n))))→(∀n∈ord,JG C H (mo n) (gV n) (ms n))→ids.length≤64→((∀p∈ps,∀j,(ms p.1).c j≠0→j∈ids))→(∀D nd H',H D=none→H nd=none→D≠nd→ao C H H'→JG C H' D nd (Ki n ps ms)→Q (.ref D) H')→l4 C vs H Q E
def xK (T:Txt K mg C):Callee P w K mg base 3 "measure_with" ["number","parts","measures"] (l4 C):=by
 refine T.yC.callee my fun f0 cg A0 aY s0 H vs Q E hr h=>?_;have hu:=bt hr;have nd:=my.nd;refine⟨_,(ae (aU (jc (bV (pv 1) (fun _=>rfl))) (ai (au (zj (bN T) hr (by rfl) (aa ax (aa ax (aa (wy (rL (pv 0) ax wH) rfl rfl (by simp) (by decide)) ag)))))) aB)
  (ae (aN (i:=3) nd (cx fP ax (aW (Rb rfl) (by rfl) T.HW boot_max (aa (d7 rfl nd (bf (pv 1)) (ba (own:=[("part",4),("count",5)]) (show ef ["number","parts","measures","depth","part","count","size","need","plain","each"] (aj gI) _ _=true by decide +kernel)) (fun _ _ _ _ _=>by exact(gB K 2 (by rfl) (aT (aC (i:=4) nd) (aT (aC (i:=5) nd) cz)))) (fun _ _ _ _ _=>by exact cB) (fun _ _ _ _ _=>by exact(bA K (bD hu (pv 2) (pv 4)) (by rfl)))) ag))))
  (ae (aN (i:=6) nd (cx fP ax (aW (uV rfl) (by rfl) T.mC jt (aa (d7 rfl nd (bf (pv 1)) (ba (own:=[("part",4),("count",5)]) (show ef ["number","parts","measures","depth","part","count","size","need","plain","each"] (aj gI) _ _=true by decide +kernel)) (fun _ _ _ _ _=>by exact(gB K 2 (by rfl) (aT (aC (i:=4) nd) (aT (aC (i:=5) nd) cz)))) (fun _ _ _ _ _=>by exact cB) (fun _ _ _ _ _=>by exact(bA K (bD hu (pv 2) (pv 4)) (by rfl)))) ag))))
  (ae (aN (i:=7) nd gN)
  (ae (dM dj rfl (bf (pv 1)) (gT rfl (aT (aC (i:=4) nd) (aT (aC (i:=5) nd) cz))) (ai (iJ (dM dj rfl (yX (az (bD hu (pv 2) (pv 4)) rfl)) (gT rfl (aT (aC (i:=8) nd) (aT (aC (i:=9) nd) cz))) (ai (ib hu (pv 7) (pv 8) (cx fP (wO hu (pv 7) (pv 8) ax ⟨rfl,rfl,rfl,rfl⟩) (cx FI (pv 5) (pv 9))) rfl))))))
  (ai (au (zj (bN T) hr (by rfl) (aa (pv 3) (aa (pv 6) (aa (pv 7) ag))))))))))),w5z ?_⟩;intros;obtain⟨n,pl,md,ps,ord,mo,gV,ms,ids,rfl,gp,iE,NS,QC,M3,hids,XU,q⟩:=h;obtain⟨ys,ep,pr⟩:=id gp;have hy:ys.length=ps.length:=bZ pr
 refine⟨_,.inl ⟨_,bz.of ep,rfl⟩,?_⟩;by_cases he:ps=[]
 ·subst he;have:ys=[]:=qt.mp hy;subst this;refine cZ ?_;intro tU mx;refine⟨af,[(Sum.inl (n:Int),iV 1)],rfl,by show 1≤15;decide,?_⟩;rw[cp];intro W6 tV qd Jl eP;refine⟨W6,tV,_,_,_,rfl,af,rfl,?_⟩;exact vh (d:=0) (s:=1) (kvs:=[(n,1)]) (ao.new mx) mx af (OI n) qd Jl eP q
 obtain⟨y0,yt,eys⟩:∃y0 yt,ys=y0::yt:=by
  cases ys with
  | nil=>exact absurd (qt.mp hy.symm) he
  | cons y0 yt=>exact⟨y0,yt,rfl⟩
 subst eys;refine dk ?_;have Sv:ps.length≤sizeLine:=aG iE (by decide);refine eY (C:=C) (L:=ps) (E:=fun p y _=>y=iV (ms p.1).d) (p:=fun _=>true) (F:=bG) (aQ.eq _) bG.mono gp Sv
  (fun p hp y Hc kc ⟨t,ey,et⟩ Ky Kn Gw jx=>?_) fun D1 H1 Ff k1 g1=>?_
 ·subst ey;refine⟨_,_,rfl,ju.of et,rfl,_,_,rfl,_,_,rfl,rfl,rfl,iR ?_⟩;refine⟨_,_,rfl,Bx (kc.at_ _ _ QC trivial) (NS p hp).1,?_⟩;exact(((M3 p.1 (NS p hp).1).aF kc).1.depth T).go (Gw rfl _ _ ao.refl rfl)
 rw[filter_all]at g1;refine⟨D1,ps.map fun p=>((ms p.1).d:Int),rfl,bz.of (by rw[g1.eq,aV];rfl),?_,fun m J3 BP=>?_⟩;grind;have em:m=(nF (ps.map fun p=>(ms p.1).d):Int):=by
  refine KO _ (fun x hx=>?_) ?_
  ·obtain⟨p,hp,rfl⟩:=aZ.mp hx;exact BP _ (aZ.mpr ⟨p,hp,rfl⟩)
  grind
 subst em;refine⟨_,_,rfl,rfl,?_⟩;have R9:=gp.aF bG.mono k1;refine eY (C:=C) (L:=ps) (E:=fun p y _=>y=iV (ms p.1).s) (p:=fun _=>true) (F:=bG) (aQ.eq _) bG.mono R9 Sv
  (fun p hp y Hc kc ⟨t,ey,et⟩ Ky Kn Gw jx=>?_) fun D2 H2 lr k2 g2=>?_
 ·subst ey;have YD:=k1.trans kc;refine⟨_,_,rfl,ju.of et,rfl,_,_,rfl,_,_,rfl,rfl,rfl,iR ?_⟩;refine⟨_,_,rfl,Bx (YD.at_ _ _ QC trivial) (NS p hp).1,?_⟩;exact(((M3 p.1 (NS p hp).1).aF YD).1.size T).go (Gw rfl _ _ ao.refl rfl)
 rw[filter_all]at g2;refine⟨D2,ps.map fun p=>((ms p.1).s:Int),rfl,bz.of (by rw[g2.eq,aV];rfl),?_⟩;have es:(ps.map fun p=>((ms p.1).s:Int)).sum=(total (ps.map fun p=>(ms p.1).s):Int):=by rw[←nQ,aV];rfl
 rw[es];refine⟨_,_,rfl,rfl,?_⟩;have wu:=k1.trans k2;intro nw XT;have Qk:H nw=none:=wu.back XT;have k3:=wu.trans (ao.new (C:=C) (p:=nw) (o:= .dK []) XT);have q:∀D nd H',H D=none→H nd=none→D≠nd→ao C H H'→JG C H' D nd ⟨1+nF (ps.map fun p=>(ms p.1).d),1+total (ps.map fun p=>(ms p.1).s),fun j=>total (ps.map fun p=>p.2*(ms p.1).c j)⟩→Q (.ref D) H':=by grind[Ki]
 refine⟨pl,rfl,⟨_,bz.of (k3.at_ _ _ ep trivial)⟩,?_⟩;refine dS (xs:=y0::yt) (fun i σ H'=>(∃v4 v5 v8 v9,σ=[some (iV n),some (.ref pl),some (.ref md),some (.int (1+(nF (ps.map fun p=>(ms p.1).d):Int))),v4,v5,some (.int (1+(total (ps.map fun p=>(ms p.1).s):Int))),some (.ref nw),v8,v9])∧ao C H H'∧∃Nw,H' nw=some (.dK (Nw.map bg))∧Tab Nw fun j=>total ((ps.map fun p=>p.2*(ms p.1).c j).take i))
  ⟨⟨_,_,_,_,rfl⟩,k3,[],af,Tab.nil⟩ (fun i σ H' hi ⟨_,k,_⟩=>bz.of (k.at_ _ _ ep trivial)) (fun i y σ H' hx ⟨⟨v4,v5,v8,v9,es⟩,k,Nw,en,tn⟩=>?_) fun σ H' ⟨⟨v4,v5,v8,v9,es⟩,k,Nw,en,tn⟩=>?_
 ·subst es;have hi:i<ps.length:=by rw[←hy];exact(fu.mp hx).1
  have em:ps[i]? =some ps[i]:=by simp[hi]
  obtain⟨y,ey,t,rfl,et⟩:=cT pr em;rw[hx]at ey;cases ey;have RW:=NS ps[i] (fL hi);have hci':=XU ps[i] (fL hi);have TC:=M3 ps[i].1 RW.1;have gz:∀j,total ((ps.map fun p=>p.2*(ms p.1).c j).take (i+1))=total ((ps.map fun p=>p.2*(ms p.1).c j).take i)+ps[i].2*(ms ps[i].1).c j:=fun j=>vM (by rw[cO,em];rfl);have Mw:∀j,total ((ps.map fun p=>p.2*(ms p.1).c j).take i)≠0→j∈ids:=fun j hj=>yD fun z=>hj (js fun x hx=>by
   obtain⟨p,hp,rfl⟩:=aZ.mp (Ha hx);have:(ms p.1).c j=0:=yD fun y=>z (XU p hp j y);rw[this,BS])
  have L9:H' t=some (.tup [iV ps[i].1,iV ps[i].2]):=k.at_ _ _ et trivial;obtain⟨l,tl,el⟩:=tab_of TC.2;have el:H (gV ps[i].1)=some (.dK (l.map bg)):=el;generalize hp:ps[i]=p at *;have mx:nw≠gV p.1:=fun z=>by rw[←z,Qk]at el;cases el
  refine⟨_,_,rfl,ju.of L9,rfl,_,_,rfl,_,_,rfl,rfl,?_⟩;have YI:=k.at_ _ _ el trivial;refine uD (d:=gV p.1) (kvs:=l.map bg) YI (fun od j σ jC=>(∃v8 v9,σ=[some (iV n),some (.ref pl),some (.ref md),some (.int (1+(nF (ps.map fun p=>(ms p.1).d):Int))),some (iV p.1),some (iV p.2),some (.int (1+(total (ps.map fun p=>(ms p.1).s):Int))),some (.ref nw),v8,v9])∧ao C (upd H (gV p.1) (.eS od (.dK (l.map bg)))) jC∧∃Nw,jC nw=some (.dK (Nw.map bg))∧Tab Nw fun x=>total ((ps.map fun p=>p.2*(ms p.1).c x).take i)+p.2*(cK (l.take j) x).getD 0)
   (fun od R r=>?_) (fun od=>⟨⟨_,_,rfl⟩,k.eS el,Nw,by rw[ah mx];exact en,tn.congr fun x=>by simp[cK]⟩) (fun od j σ jC ⟨_,k',_⟩=>k'.at_ _ _ af trivial) (fun od j kk vv σ jC T' D' yo ⟨⟨v8,v9,es⟩,k',J0,U7,UD⟩ hT pV=>?_) (fun od σ jC ⟨⟨v8,v9,es⟩,k',J0,U7,UD⟩=>?_)
  ·have hfm:=(TC.aF k).1.need T;have So:md≠gV p.1:=fun z=>by
    have e1:=QC;rw[z,el]at e1;have e2:l.map bg=ord.map fun(n:Nat)=>((Sum.inl (n:Int):Key),V.ref (mo n)):=by lia
    cases ord with
    | nil=>exact absurd RW.1 (by simp)
    | cons a b=>cases l with
     | nil=>cases e2
     | cons c d=>
      have e3:=(List.cons.inj e2).1;cases congrArg Prod.snd e3
   have gmd:=Bx (H:=upd H' (gV p.1) (.eS od (.dK (l.map bg)))) (mo:=mo) (ord:=ord) (by rw[ah So];exact k.at_ _ _ QC trivial) RW.1;refine⟨_,_,rfl,gmd,?_⟩;exact(hfm.upd YI (fun _ _ _ z=>by cases z)).go r
  ·subst es;have hj:j<l.length:=by have:=(fu.mp yo).1;rw[ay]at this;exact this
   have ej:l[j]? =some l[j]:=by simp[hj]
   have Eg:bg l[j]=(kk,vv):=by rw[cO,ej]at yo;exact cV yo
   have ek:kk=Sum.inl (l[j].1:Int):=(congrArg Prod.fst Eg).symm;have ev:vv=iV l[j].2:=(congrArg Prod.snd Eg).symm;subst ek;subst ev;have US:l[j].2≠0:=fun z=>by
    have h1:=oA tl.1 (show(l[j].1,l[j].2)∈l from fL hj);rw[tl.2]at h1;split at h1;cases h1;lia
   have WQ:J0.length≤64:=aG (OP UD (ids:=ids) fun x hx=>yD fun z=>hx (by
    have a1:total ((ps.map fun p=>p.2*(ms p.1).c x).take i)=0:=yD fun y=>z (Mw x y);have a2:cK (l.take j) x=none:=by
     rw[de];intro hm;obtain⟨pp,EI,e⟩:=aZ.mp hm;have h1:=oA tl.1 (show(pp.1,pp.2)∈l from Ha EI);rw[tl.2]at h1;grind
    rw[a1,a2];simp)) hids
   have kT:=k'.trans (ao.new (C:=C) (p:=T') (o:= .tup [kV (Sum.inl (l[j].1:Int)),iV l[j].2]) hT);have nT:nw≠T':=aP U7 hT;have UX:upd jC T' (.tup [kV (Sum.inl (l[j].1:Int)),iV l[j].2]) nw=some (.dK (J0.map bg)):=by rw[ah nT];exact U7
   refine⟨_,_,rfl,ju.of af,rfl,_,_,rfl,_,_,rfl,rfl,?_⟩;refine⟨_,rfl,.inl ⟨_,.inl UX⟩,_,iM.k (k:=Sum.inl (l[j].1:Int)) UX,?_⟩;rw[C1];refine⟨_,_,rfl,rfl,.inl ⟨by have:=RW.2.2;(constructor<;>omega),by have:=RW.2.2;lia⟩,_,_,rfl,rfl,_,_,rfl,tp.k (k:=Sum.inl (l[j].1:Int)) UX (by rw[ay];exact fe WQ (by decide)),?_⟩;have ev:((fun i j:Int=>V.int (i+j)) (((cK J0 l[j].1).getD 0:Nat):Int) ((p.2:Int)*(l[j].2:Int)))=iV ((cK J0 l[j].1).getD 0+p.2*l[j].2):=by rfl
   rw[ev,xo,pV];refine⟨⟨_,_,rfl⟩,kT.lp (by rw[ah mx];exact Qk) UX trivial,_,af,?_⟩;exact Tab.walk (c:=fun x=>total ((ps.map fun p=>p.2*(ms p.1).c x).take i)) tl.1 ej RW.2.1 US UD
  subst es;refine⟨⟨_,_,_,_,rfl⟩,k'.TX el,J0,by rw[ah mx];exact U7,?_⟩;refine UD.congr fun x=>?_;rw[ay,tl.whole x,gz x]
 subst es;rw[hy]at tn;have tn2:Tab Nw fun j=>total (ps.map fun p=>p.2*(ms p.1).c j):=tn.congr fun j=>by grind[List.length_map]
 intro W6 tV qd Jl hne';refine⟨W6,tV,_,_,_,rfl,af,rfl,?_⟩;exact vh (d:=1+nF (ps.map fun p=>(ms p.1).d)) (s:=1+total (ps.map fun p=>(ms p.1).s)) k Qk en tn2 qd Jl hne' q
end
section
variable{P:Program}{w:PySem.World}{K:Frag}{mg:Str→Option Value}{base:Heap}{C:cw}
structure jK (C:cw)(A:Tag→Addr)(H0 H:Hp)(md:Addr)(ord:List Nat)(mo gV:Nat→Addr)(ms:Nat→dW):Prop where
 J4:H md=some (.dK (ord.map fun(n:Nat)=>((Sum.inl (n:Int):Key),V.ref (mo n))))
 at_:∀n∈ord,JG C H (mo n) (gV n) (ms n)
 own:∀n∈ord,(mo n=A (.dw n)∧gV n=A (.need n))∨(H0 (mo n)=none∧H0 (gV n)=none)
 inj:∀n∈ord,∀n'∈ord,(mo n=mo n'→n=n')∧(gV n=gV n'→n=n')
 sep:∀n∈ord,gV n≠md
def JG.upd {H:Hp}{p nd md:Addr}{m:dW}{x:List (Key×V)}{o:HO}(h:JG C H p nd m)(e:H md=some (.dK x))(eP:nd≠md):JG C (upd H md o) p nd m:=by
 obtain⟨⟨dx,e1⟩,h2⟩:=h;refine⟨⟨dx,?_⟩,h2.aF fun o q=>?_⟩;rw[ah fun z=>by rw[z,e]at e1;cases e1];exact e1;rw[ah eP];exact q
def Qp {ord:List Nat}{mo:Nat→Addr}{o:Nat}(ho:o∈ord)(D:Addr):putK (ord.map fun(n:Nat)=>((Sum.inl (n:Int):Key),V.ref (mo n))) (Sum.inl (o:Int)) (V.ref D)=ord.map fun(n:Nat)=>((Sum.inl (n:Int):Key),V.ref (if n=o then D else mo n)):=by
 unfold putK;rw[kg,fk (fun n=>V.ref (mo n)),aw ho,aw (show(some (V.ref (mo o))).isSome=true from rfl),aV];refine cE fun n _=>?_;lia
def C8 {a b:dW}(h1:a.d=b.d)(h2:a.s=b.s)(h3:∀j,a.c j=b.c j):a=b:=by
 cases a;cases b;simp only at h1 h2 h3;rw[h1,h2,funext h3]
def L7 {L:List Article}(Wl:Wf L){o:Nat}{ms:Nat→dW}(h:∀p∈partsOf L o,ms p.1=bC L p.1):Ki o (partsOf L o) ms=bC L o:=by
 refine C8 ?_ ?_ fun j=>?_;exact L8 Wl (d:=fun n=>(ms n).d) fun p hp=>by show(ms p.1).d=_;rw[h p hp];rfl
 exact LI Wl (d:=fun n=>(ms n).s) fun p hp=>by show(ms p.1).s=_;rw[h p hp];rfl
 exact Lv Wl (c:=fun n=>(ms n).c) (fun p hp j=>by show(ms p.1).c j=_;rw[h p hp];rfl) j
theorem E6 {s:bE}(ok:aM s){a:Nat}{ps:List (Nat×Nat)}(F:mR s a ps){x:Nat}(h:cont s.articles x a=false):bC s.articles x=bC (setParts s.articles a ps) x:=by
 obtain⟨h1,h2,h3⟩:=F.off ok h;exact C8 h2 h1 h3
inductive tO (C:cw)(vs:List V)(H:Hp)(Q:VK)(E:XK):Prop|mk (A:Tag→Addr) (s:bE) (a:Nat) (pl:Addr) (ps:List (Nat×Nat)):vs=[.ref (A .ad),iV a,.ref pl]→Wd C A H s→aM s→mR s a ps→Got bG H pl ps→(∀D H' ord mo gV,H D=none→ao C H H'→ord.Perm (s.articles.map (·.id))→jK C A H H' D ord mo gV (bC (setParts s.articles a ps))→Q (.ref D) H')→tO C vs H Q E
def uu (T:Txt K mg C):Callee P w K mg base 4 "measures_after" ["articles","number","parts"] (tO C):=by
 refine T.uB.callee jQ fun f0 cg A0 aY s0 H vs Q E hr h=>?_;have hu:=bt hr;have nd:=jQ.nd;refine⟨_,(ae (aN (i:=3) nd gN)
  (ae (iJ (dM dj rfl (yX (pv 0)) (gT rfl (aT (aC (i:=4) nd) (aT (aC (i:=5) nd) cz))) (ai (ib hu (pv 3) (pv 4) (az (pv 5) rfl) rfl))))
  (ae (dM dj rfl (bf (aI (jG T) hr (aa (pv 0) (aa (pv 1) ag)))) (aC (i:=6) nd) (ae (aN (i:=7) nd (ft (aD cG (pv 6) (pv 1) (aJ _)) (pv 2) (az (bD hu (pv 0) (pv 6)) rfl)))
  (ai (ib hu (pv 3) (pv 6) (aI (xK T) hr (aa (pv 6) (aa (pv 7) (aa (pv 3) ag)))) rfl))))
  (ai (au (pv 3)))))),w3z ?_⟩;intros;obtain⟨A,s,a,pl,ps,rfl,W,ok,F,gp,q⟩:=h
 intro md Py;have k1:ao C H (upd H md (.dK [])):=ao.new Py;have e1:upd H md (.dK []) md=some (.dK []):=af;show pb _ _ _ _ (upd H md (.dK []));generalize upd H md (.dK [])=H1 at *;obtain⟨ord,fq,ed⟩:=W.at_ .ad trivial;have ed:H (A .ad)=some (.dK (ord.map fun(n:Nat)=>(Sum.inl (n:Int),V.ref (A (.art n))))):=ed;have ed1:=k1.at_ _ _ ed trivial;have So:md≠A .ad:=fun z=>by rw[z,ed]at Py;cases Py
 have dB:∀n∈ord,∃x∈s.articles,x.id=n:=fun n hn=>by grind
 have ndo:ord.Nodup:=by
  rw[fq.nodup_iff];refine hY.mpr (ok.Iq.imp fun h=>cC h)
 have Xj:ord.length≤64:=by rw[fq.length_eq,ay];exact ok.m6
 refine uD (d:=A .ad) ed1 (fun od i σ H'=>(∃v4 v5 v6 v7,σ=[some (.ref (A .ad)),some (iV a),some (.ref pl),some (.ref md),v4,v5,v6,v7])∧ao C (upd H (A .ad) (.eS od (.dK (ord.map fun(n:Nat)=>(Sum.inl (n:Int),V.ref (A (.art n))))))) H'∧H' md=some (.dK ((ord.take i).map fun(n:Nat)=>(Sum.inl (n:Int),V.ref (A (.dw n))))))
  (fun od R r=>r) (fun od=>⟨⟨_,_,_,_,rfl⟩,k1.eS ed,by rw[ah So];exact e1⟩) (fun od i σ H' ⟨_,k',_⟩=>k'.at_ _ _ af trivial) (fun od i kk vv σ H' T' D' yo ⟨⟨v4,v5,v6,v7,es⟩,k',em⟩ hT pV=>?_) (fun od σ H' ⟨⟨v4,v5,v6,v7,es⟩,k',em⟩=>?_)
 ·subst es;have hj:i<ord.length:=by have:=(fu.mp yo).1;rw[ay]at this;exact this
  have ej:ord[i]? =some ord[i]:=by simp[hj]
  have Eg:((Sum.inl (ord[i]:Int):Key),V.ref (A (.art ord[i])))=(kk,vv):=by rw[cO,ej]at yo;exact cV yo
  have ek:kk=Sum.inl (ord[i]:Int):=(congrArg Prod.fst Eg).symm;have ev:vv=V.ref (A (.art ord[i])):=(congrArg Prod.snd Eg).symm;subst ek;subst ev;obtain⟨x,hx,ex⟩:=dB ord[i] (fL hj);have UI:ord[i]∉ord.take i:=eX ndo ej;have IW:ord.take (i+1)=ord.take i++[ord[i]]:=by rw[gx,ej];rfl
  have vV:∀(σ:L2.St) (jC:Hp),(∃v4 v5 v6 v7,σ=[some (.ref (A .ad)),some (iV a),some (.ref pl),some (.ref md),v4,v5,v6,v7])→ao C (upd H (A .ad) (.eS od (.dK (ord.map fun(n:Nat)=>(Sum.inl (n:Int),V.ref (A (.art n))))))) jC→jC md=some (.dK ((ord.take i++[ord[i]]).map fun(n:Nat)=>(Sum.inl (n:Int),V.ref (A (.dw n)))))→D'.nx σ jC:=fun σ jC p1 p2 p3=>by lia
  clear pV IW;have Vt:(ord.take i).length≤64:=by rw[lz];clear ex hu;grind
  generalize ord[i]=n at *;subst ex;have nT:md≠T':=aP em hT;have kT:=k'.trans (ao.new (C:=C) (p:=T') (o:= .tup [kV (Sum.inl (x.id:Int)),V.ref (A (.art x.id))]) hT);have Xh:=(show upd H' T' (.tup [kV (Sum.inl (x.id:Int)),V.ref (A (.art x.id))]) md=H' md from ah nT).trans em;refine⟨_,_,rfl,ju.of af,rfl,_,_,rfl,_,_,rfl,rfl,?_⟩;have hf:=jZ.aF (C:=C) ((nh T W hx).upd (o':= .eS od (.dK (ord.map fun(n:Nat)=>(Sum.inl (n:Int),V.ref (A (.art n)))))) ed (fun _ _ _ z=>by cases z)) kT;refine hf.go ?_;refine⟨_,_,rfl,tp.k (k:=Sum.inl (x.id:Int)) Xh (by rw[ay];exact fe Vt (by decide)),?_⟩;refine vV _ _ ⟨_,_,_,_,rfl⟩ (kT.lp (by rw[ah So];exact Py) Xh trivial) ?_;rw[af,mO (by rw[fk (fun n=>V.ref (A (.dw n))),ak UI]),gS];rfl
 subst es;rw[ay,du]at em;have k2:=k'.TX ed;have Ve:=(show upd H' (A .ad) (.dK (ord.map fun(n:Nat)=>(Sum.inl (n:Int),V.ref (A (.art n))))) md=H' md from ah So).trans em;show pb _ _ _ _ (upd H' (A .ad) (.dK (ord.map fun(n:Nat)=>(Sum.inl (n:Int),V.ref (A (.art n))))));generalize upd H' (A .ad) (.dK (ord.map fun(n:Nat)=>(Sum.inl (n:Int),V.ref (A (.art n)))))=H2 at *;have W2:=W.aF k2;have mt:∀n∈ord,JG C H2 (A (.dw n)) (A (.need n)) (bC s.articles n):=fun n hn=>⟨⟨(W2.at_ (.dw n) (dB n hn))⟩,W2.at_ (.need n) (dB n hn)⟩;have m0:jK C A H H2 md ord (fun n=>A (.dw n)) (fun n=>A (.need n)) (bC s.articles):=by
  refine⟨Ve,mt,fun n hn=> .inl ⟨rfl,rfl⟩,fun n hn n' jx=>⟨fun z=>?_,fun z=>?_⟩,fun n hn z=>?_⟩;exact Tag.dw.inj (W.inj (.dw n) (.dw n') (dB n hn) (dB n' jx) z);exact Tag.need.inj (W.inj (.need n) (.need n') (dB n hn) (dB n' jx) z);have lv:bT s (.need n):=dB n hn;obtain⟨o,e0,_⟩:=(W.at_ _ lv).some lv;lia
 refine⟨A,s,a,rfl,W2,ok,fun DR H3 R Xq k3 Pd Qn eR=>?_⟩;have RX:=k2.trans k3;have hDRm:DR≠md:=fun z=>by rw[z,Ve]at Xq;cases Xq
 have m3:jK C A H H3 md ord (fun n=>A (.dw n)) (fun n=>A (.need n)) (bC s.articles):=⟨k3.at_ _ _ m0.J4 trivial,fun n hn=>(m0.at_ n hn).aF k3,m0.own,m0.inj,m0.sep⟩;have hRo:∀n∈R,n∈ord:=fun n hn=>by
  rw[fq.mem_iff];rcases(Pd.mem n).mp hn with e|⟨e,_⟩
  ·obtain⟨x,hx,ex⟩:=F.ha;simp;grind
  exact e
 have Wl:=F.wf ok;refine⟨DR,rfl,⟨_,bz.of eR⟩,?_⟩;refine dS (xs:=R.map iV) (fun i σ H'=>∃mo gV,(∃v4 v5 v6 v7,σ=[some (.ref (A .ad)),some (iV a),some (.ref pl),some (.ref md),v4,v5,v6,v7])∧ao C H H'∧jK C A H H' md ord mo gV (fun n=>if n∈R.take i then bC (setParts s.articles a ps) n else bC s.articles n)∧H' DR=some (.lst (R.map iV)))
  ⟨_,_,⟨_,_,_,_,rfl⟩,RX,by simpa using m3,eR⟩ (fun i σ H' hi ⟨_,_,_,_,_,e⟩=>bz.of e) (fun i y σ H' hy ⟨mo,gV,⟨v4,v5,v6,v7,es⟩,k,mD,XC⟩=>?_) fun σ H' ⟨mo,gV,⟨v4,v5,v6,v7,es⟩,k,mD,XC⟩=>?_
 ·subst es;have hi:i<R.length:=by have:=(fu.mp hy).1;rw[ay]at this;exact this
  have ej:R[i]? =some R[i]:=by simp[hi]
  have Po:y=iV R[i]:=by rw[cO,ej]at hy;exact(cV hy).symm
  subst Po;have OY:=hRo R[i] (fL hi);have UI:R[i]∉R.take i:=eX Pd.nd ej;have hspl:R=R.take i++R[i]::R.drop (i+1):=by simp
  have hpa:=Eo (ps:=ps) Pd F.ha F.ring (F6 ok) hspl;have IW:R.take (i+1)=R.take i++[R[i]]:=by rw[gx,ej];rfl
  rw[IW];generalize R.take i=R1 at *;generalize R[i]=o at *;have hoid:o∈s.articles.map (·.id):=fq.mem_iff.mp OY;obtain⟨U9,hpl16⟩:=F.Hu ok hoid;have SR:∀p∈partsOf (setParts s.articles a ps) o,(if p.1∈R1 then bC (setParts s.articles a ps) p.1 else bC s.articles p.1)=bC (setParts s.articles a ps) p.1:=fun p hp=>by (simp[E6];grind[E6])
  have W':=W.aF k;have fin:∀UR,Got bG H' UR (partsOf (setParts s.articles a ps) o)→∀(D':Ends) (σ:L2.St),σ=[some (.ref (A .ad)),some (iV a),some (.ref pl),some (.ref md),v4,v5,some (iV o),some (.ref UR)]→
    D'.nx=(fun σ H'=>∃mo gV,(∃v4 v5 v6 v7,σ=[some (.ref (A .ad)),some (iV a),some (.ref pl),some (.ref md),v4,v5,v6,v7])∧ao C H H'∧jK C A H H' md ord mo gV (fun n=>if n∈R1++[o]then bC (setParts s.articles a ps) n else bC s.articles n)∧H' DR=some (.lst (R.map iV)))→
    Ph (iD 3) (iD 6) (vC (l4 C) [] E0 (fG (iD 6) (fG (iD 7) (fG (iD 3) rA)))) D' σ H':=by
   intro UR gi D' σ hσ pV;subst hσ;refine⟨o,UR,md,_,ord,mo,gV,_,s.articles.map (·.id),rfl,gi,hpl16,fun p hp=>?_,mD.J4,mD.at_,by rw[ay];exact ok.m6,fun p hp j hj=>?_,fun D tU H4 hD mx eP k4 ma=>?_⟩;grind
   ·rw[SR p hp]at hj;exact F.wN ok _ p.1 j (bo _) (U9 p hp).1 hj
   rw[L7 Wl SR]at ma;have NQ:=k4.at_ _ _ mD.J4 trivial;refine⟨_,_,rfl,tp.k (k:=Sum.inl (o:Int)) NQ (by rw[ay];exact fe Xj (by decide)),?_⟩;rw[Qp OY,pV];have hndm:tU≠md:=fun z=>by rw[z,mD.J4]at mx;cases mx
   refine⟨fun n=>if n=o then D else mo n,fun n=>if n=o then tU else gV n,⟨_,_,_,_,rfl⟩,(k.trans k4).lp Py NQ trivial,⟨af,fun n hn=>?_,fun n hn=>?_,fun n hn n' jx=>?_,fun n hn=>?_⟩,?_⟩
   ·by_cases z:n=o
    ·rw[aw z,aw z,aw (lJ _ (by simp[z])),z];exact ma.upd NQ hndm
    rw[ak z,ak z];have e5:(if n∈R1++[o]then bC (setParts s.articles a ps) n else bC s.articles n)=if n∈R1 then bC (setParts s.articles a ps) n else bC s.articles n:=by grind
    rw[e5];exact((mD.at_ n hn).aF k4).upd NQ (mD.sep n hn)
   ·by_cases z:n=o
    ·rw[aw z,aw z];exact .inr ⟨k.back hD,k.back mx⟩
    rw[ak z,ak z];exact mD.own n hn
   ·have qd:∀n∈ord,mo n≠D∧gV n≠tU:=fun n hn=>by
     obtain⟨⟨dx,e6⟩,kv,_,_,e7⟩:=mD.at_ n hn;constructor<;>grind
    by_cases z:n=o;grind;by_cases z':n'=o;grind;rw[ak z,ak z',ak z,ak z'];exact mD.inj n hn n' jx
   ·by_cases z:n=o
    ·(split<;>omega)
    rw[ak z];exact mD.sep n hn
   rw[ah hDRm];exact k4.at_ _ _ XC trivial
  refine⟨rfl,_,rfl,?_⟩;refine b0 (fun h=>?_) fun h=>?_
  ·have h:=nat_eq.mp h;refine fin pl ?_ _ _ rfl rfl;rw[F.parts ok,aw h];exact gp.aF bG.mono k
  have h:o≠a:=fun z=>h (nat_eq.mpr z);obtain⟨x,hx,ex⟩:=dB o OY;subst ex;have g:=W'.fM x.id;rw[aw (show ∃y∈s.articles,y.id=x.id from⟨x,hx,rfl⟩)]at g;refine⟨_,_,rfl,g,?_⟩;refine(oP T W' hx).go ?_;refine fin (A (.part x.id)) ?_ _ _ rfl rfl;rw[F.parts ok,ak h,kG ok hx];obtain⟨as,p1,p2⟩:=W'.at_ (.part x.id) ⟨x,hx,rfl⟩ x hx rfl;exact kW p1 p2
 subst es;rw[ay,du]at mD;have ems:∀n∈ord,(if n∈R then bC (setParts s.articles a ps) n else bC s.articles n)=bC (setParts s.articles a ps) n:=fun n hn=>by (simp[E6,Ju];grind[E6,Ju])
 refine q md H' ord mo gV Py k fq ⟨mD.J4,fun n hn=>?_,mD.own,mD.inj,mD.sep⟩;have:=mD.at_ n hn;grind
end
def Li {a b:TS}{D:Ends}{rt:VK}{bk ct:L2.St→Hp→Prop}{σ:L2.St}{H:Hp}(h:pb a b D σ H):CS {nx:=pb a b D,rt:=rt,bk:=bk,ct:=ct} σ H:=h
def TQ {K:Frag}{r:List V→Hp→VK→Prop}{t:TE}{th el rest:TS}{D:Ends}{σ:L2.St}{H:Hp}(h:t σ H fun v H1=>r [v] H1 fun x H'=>∃k,GO K x H' k∧if k=true then th {D with nx:=rest D} σ H' else el {D with nx:=rest D} σ H'):
  pb (JT (fun σ H Q=>Vd r (fG t rA) σ H fun x H'=>∃k,GO K x H' k∧Q k H') th el) rest D σ H:=h
def QF {K:Frag}{r:List V→Hp→VK→Prop}{t:TE}{th el rest:TS}{D:Ends}{σ:L2.St}{H:Hp}(h:t σ H fun v H1=>r [v] H1 fun x H'=>∃k,GO K x H' k∧if(!k)=true then th {D with nx:=rest D} σ H' else el {D with nx:=rest D} σ H'):
  pb (JT (Sj (fun σ H Q=>Vd r (fG t rA) σ H fun x H'=>∃k,GO K x H' k∧Q k H')) th el) rest D σ H:=h
section
variable{P:Program}{w:PySem.World}{K:Frag}{mg:Str→Option Value}{base:Heap}{C:cw}
def EY (s:bE)(a:Nat)(ps:List (Nat×Nat)):Int:=
 if((Vbdlal.art s a).isSome&&ps.all fun q=>(Vbdlal.art s q.1).isSome)=false then -4
 else if(s.lots.any fun l=>l.article==a)=true then -9
 else if(ps.any fun q=>Vbdlal.contains s.articles (DEEP+1) q.1 a)=true then -10 else 0
def Qz (s:bE)(n:Nat)(v:V):((if(∃x∈s.articles,x.id=n)then some v else none:Option V)).isSome=(Vbdlal.art s n).isSome:=by (split<;>grind[Vbdlal.art])
theorem MU {s:bE}(ok:aM s){a n:Nat}{R:List Nat}(Pd:Above s.articles a (s.articles.map (·.id)) R)(hn:∃x∈s.articles,x.id=n):decide (n∈R)=Vbdlal.contains s.articles (DEEP+1) n a:=by
 rw[pK (cN ok.c7),l5,iw,Pd.mem];constructor
 ·rintro(e|⟨_,e⟩)
  ·rw[e,tF (Wf.kQ ok.c7)];simp
  exact e
 simp_all
theorem HH (n:Nat):∀R:List Nat,R0 (iV n) (R.map iV)=decide (n∈R)
 | []=>by rfl
 | m::R=>by
  have ih:=HH n R;unfold R0 at ih ⊢;rw[bF,tD,ih];have h:Nv (iV m) (iV n)=decide (n=m):=by
   show((m:Int)==(n:Int))=_;lia
  simp_all
inductive tT (C:cw)(vs:List V)(H:Hp)(Q:VK)(E:XK):Prop|mk (A:Tag→Addr) (s:bE) (a:Nat) (pl:Addr) (ps:List (Nat×Nat)):vs=[.ref (A .st),iV a,.ref pl]→Wd C A H s→aM s→Got bG H pl ps→ps.length≤16→(∀H',ao C H H'→Q (.int (EY s a ps)) H')→tT C vs H Q E
def uL (T:Txt K mg C):Callee P w K mg base 3 "recipe_refusal" ["store","number","parts"] (tT C):=by
 refine T.uT.callee jM fun f0 cg A0 aY s0 H vs Q E hr h=>?_;have hu:=bt hr;have nd:=jM.nd;refine⟨_,(ae (aN (i:=3) nd (cx og (a0 (aa (pv 1) ag)) (d7 rfl nd (bf (pv 2)) (ba (own:=[("part",4),("count",5)]) (show ef ["store","number","parts","named","part","count","each","lot","above"] (aj dh) _ _=true by decide +kernel)) (fun _ _ _ _ _=>by exact(gB K 2 (by rfl) (aT (aC (i:=4) nd) (aT (aC (i:=5) nd) cz)))) (fun _ _ _ _ _=>by exact cB) (fun _ _ _ _ _=>by exact(pv 4)))))
  (ae (aU (jc (bV (aW (BD rfl) (by rfl) T.Hl boot_all (aa (d7 rfl nd (bf (pv 3)) (ba (own:=[("each",6)]) (show ef ["store","number","parts","named","part","count","each","lot","above"] (aj dh) _ _=true by decide +kernel)) (fun _ _ _ _ _=>by exact(aC (i:=6) nd)) (fun _ _ _ _ _=>by exact cB) (fun _ _ _ _ _=>by exact(Kr (nq hu (pv 6) (bA K (pv 0) (by rfl)))))) ag)) (fun _=>rfl))) (ai (au (aK T.d_ rfl))) aB)
  (ae (aU (bV (aW (FA rfl) (by rfl) T.Mq boot_any (aa (sf (d7 rfl nd (fb (az (pv 0) rfl)) (ba (own:=[("lot",7)]) (show ef ["store","number","parts","named","part","count","each","lot","above"] (aj dh) _ _=true by decide +kernel)) (fun _ _ _ _ _=>by exact(aC (i:=7) nd)) (fun _ _ _ _ _=>by exact cB) (fun _ _ _ _ _=>by exact(lF cG (bA K (pv 7) (by rfl)) (pv 1) (aJ _))))) ag)) (fun _=>rfl)) (ai (au (aK T.sG rfl))) aB)
  (ae (aN (i:=8) nd (aI (jG T) hr (aa (az (pv 0) rfl) (aa (pv 1) ag))))
  (ae (aU (bV (aW (FA rfl) (by rfl) T.Mq boot_any (aa (d7 rfl nd (bf (pv 2)) (ba (own:=[("part",4),("count",5)]) (show ef ["store","number","parts","named","part","count","each","lot","above"] (aj dh) _ _=true by decide +kernel)) (fun _ _ _ _ _=>by exact(gB K 2 (by rfl) (aT (aC (i:=4) nd) (aT (aC (i:=5) nd) cz)))) (fun _ _ _ _ _=>by exact cB) (fun _ _ _ _ _=>by exact(lF (RN K) (pv 4) (pv 8) rfl))) ag)) (fun _=>rfl)) (ai (au (aK T.Ql rfl))) aB)
  (ai (au (aK T.bH rfl)))))))),w5z ?_⟩;intros;obtain⟨A,s,a,pl,ps,rfl,W,ok,gp,hl,q⟩:=h
 have fi:ps.length≤sizeLine:=aG hl (by decide);refine⟨aH,fun D1 Ff=>?_⟩;have k1:ao C H (upd H D1 (.lst [iV a])):=ao.new Ff;have e1:upd H D1 (.lst [iV a]) D1=some (.lst [iV a]):=af;have R9:=gp.aF bG.mono k1;generalize upd H D1 (.lst [iV a])=H1 at *;refine eY (C:=C) (L:=ps) (E:=fun p y _=>y=iV p.1) (p:=fun _=>true) (F:=bG) (aQ.eq _) bG.mono R9 fi
  (fun p hp y Hc kc ⟨t,ey,et⟩ Ky Kn Gw jx=>?_) fun D2 H2 lr k2 g2=>?_
 ·subst ey;refine⟨_,_,rfl,ju.of et,rfl,_,_,rfl,_,_,rfl,rfl,rfl,iR ?_⟩;exact Gw rfl _ _ ao.refl rfl
 rw[filter_all]at g2;have e2:=g2.eq;refine⟨D1,D2,_,_,rfl,rfl,k2.at_ _ _ e1 trivial,e2,?_,fun D3 wx=>?_⟩;rw[ay];exact aG (show 1+_≤17 by lia) (by decide);have k3:=(k1.trans k2).trans (ao.new (C:=C) (o:= .lst ([iV a]++ps.map fun p=>iV p.1)) wx);have e3:upd H2 D3 (.lst ([iV a]++ps.map fun p=>iV p.1)) D3=some (.lst ((a::ps.map (·.1)).map iV)):=by rw[af,bF,aV];rfl
 have W3:=W.aF k3;generalize upd H2 D3 (.lst ([iV a]++ps.map fun p=>iV p.1))=H3 at *;refine eY (C:=C) (L:=a::ps.map (·.1)) (E:=fun n y _=>y=V.bl (Vbdlal.art s n).isSome) (p:=fun _=>true) (F:=fun n y _=>y=iV n) (aQ.eq _) (aQ.eq _) (Got.of e3) (by rw[cH,ay];exact aG (show _≤17 by (simp;omega)) (by decide))
  (fun n hn y Hc kc ey Ky Kn Gw jx=>?_) fun D4 H4 LW k4 g4=>?_
 ·subst ey;have Wc:=W3.aF kc;refine⟨rfl,iR ((bh T Wc).go ?_)⟩;refine⟨_,_,rfl,Wc.fM n,Gw rfl _ _ ao.refl ?_⟩;rw[Qz]
 rw[filter_all]at g4;refine⟨D4,(a::ps.map (·.1)).map fun n=>(Vbdlal.art s n).isSome,rfl,bz.of (by rw[g4.eq,aV];rfl),_,rfl,?_⟩;have lI:((a::ps.map (·.1)).map fun n=>(Vbdlal.art s n).isSome).all id=((Vbdlal.art s a).isSome&&ps.all fun q=>(Vbdlal.art s q.1).isSome):=by (simp[List.all_map];rfl)
 rw[lI];unfold EY at q;have Vq:=k3.trans k4;cases hk:((Vbdlal.art s a).isSome&&ps.all fun q=>(Vbdlal.art s q.1).isSome)with
 | false=>
  rw[hk]at q;exact cZ (q _ Vq)
 | true=>
  rw[hk]at q;simp only[Bool.true_eq_false,jW]at q;refine dk ?_;have W4:=W.aF Vq;have hkn:∀p∈ps,∃x∈s.articles,x.id=p.1:=fun p hp=>by grind[dz]
  refine Li (TQ ?_);refine iP T W4 rfl ok rfl (E:=fun l y _=>y=V.bl (l.article==a)) (aQ.eq _) (fun _=>true) (fun l hl Hc Zc Wc hZ hkk Ky Kn hy hn=>?_) fun D5 H5 Ow k5 g5=>?_
  ·refine⟨rfl,iR ?_⟩;refine(gf T Wc hl).go ?_;refine⟨rfl,hy rfl _ _ ao.refl ?_⟩;by_cases e:l.article=a;rw[e];simp;have h1:(l.article==a)=false:=by simpa using e
   rw[h1,qu fun z=>e (by have:=V.int.inj z;lia)]
  rw[filter_all]at g5;refine⟨D5,s.lots.map fun l=>l.article==a,rfl,bz.of (by rw[g5.eq,aV];rfl),_,rfl,?_⟩;have KN:(s.lots.map fun l=>l.article==a).any id=s.lots.any fun l=>l.article==a:=by rw[List.any_map];rfl
  rw[KN];have Xb:=Vq.trans k5;refine b0 (fun h=>?_) fun h=>?_
  ·rw[aw h]at q;exact q _ Xb
  rw[ak h]at q;have W5:=W.aF Xb;refine(bh T W5).go ?_;refine⟨A,s,a,rfl,W5,ok,fun DR H6 R Xq k6 Pd Qn eR=>?_⟩;have Wo:=Xb.trans k6;have gp6:=gp.aF bG.mono Wo;refine eY (C:=C) (L:=ps) (E:=fun p y _=>y=V.bl (decide (p.1∈R))) (p:=fun _=>true) (F:=bG) (aQ.eq _) bG.mono gp6 fi
   (fun p hp y Hc kc ⟨t,ey,et⟩ Ky Kn Gw jx=>?_) fun D7 H7 XS k7 g7=>?_
  ·subst ey;refine⟨_,_,rfl,ju.of et,rfl,_,_,rfl,_,_,rfl,rfl,rfl,iR ?_⟩;refine⟨_,_,rfl,.inl (bz.of (kc.at_ _ _ eR trivial)),rfl,?_,Gw rfl _ _ ao.refl ?_⟩;rw[Ih];exact dr.mpr fun _ _=>rfl;show V.bl (R0 _ _)=_;rw[HH]
  rw[filter_all]at g7;refine⟨D7,ps.map fun p=>decide (p.1∈R),rfl,bz.of (by rw[g7.eq,aV];rfl),_,rfl,?_⟩;have hany2:(ps.map fun p=>decide (p.1∈R)).any id=ps.any fun q=>Vbdlal.contains s.articles (DEEP+1) q.1 a:=by grind[MU]
  rw[hany2];refine b0 (fun h=>?_) fun h=>?_
  ·rw[aw h]at q;exact q _ (Wo.trans k7)
  rw[ak h]at q;exact q _ (Wo.trans k7)
end
section
variable{P:Program}{w:PySem.World}{K:Frag}{mg:Str→Option Value}{base:Heap}{C:cw}
def qI (A:Tag→Addr)(a:Nat)(pl:Addr)(mo gV:Nat→Addr):Tag→Addr
 | .part n=>if n=a then pl else A (.part n)
 | .dw n=>mo n
 | .need n=>gV n
 | t=>A t
def Dk (s:bE)(a:Nat)(ps:List (Nat×Nat)):bE:={s with articles:=setParts s.articles a ps}
def mU (A:Tag→Addr)(a:Nat)(pl:Addr)(mo:Nat→Addr)(dn:List Nat)(x:Article):List (Str×V):=
 [("least",iV x.least),("parts",.ref (if x.id=a then pl else A (.part x.id))),("measure",.ref (if x.id∈dn then mo x.id else A (.dw x.id)))]
theorem Dy {H:Hp}:∀{ys:List V} {ps:List (Nat×Nat)},Paired (fun y a=>bG a y H) ys ps→∃as:List Addr,ys=as.map V.ref∧Paired (fun t (q:Nat×Nat)=>H t=some (.tup [iV q.1,iV q.2])) as ps
 | _,_,.nil=>⟨[],rfl,.nil⟩
 | _,_,.cons ⟨t0,e,et⟩ t=>by
  obtain⟨as,e1,e2⟩:=Dy t;exact⟨t0::as,by rw[e,e1];rfl,.cons et e2⟩
section
variable{A:Tag→Addr}{s:bE}{a:Nat}{pl:Addr}{ps:List (Nat×Nat)}{mo gV:Nat→Addr}
def kI (t:Tag):bT (Dk s a ps) t↔bT s t:=by
 have h:∀n,(∃x∈(Dk s a ps).articles,x.id=n)↔∃x∈s.articles,x.id=n:=fun n=>by
  have e:=wB s.articles a ps;have e2:n∈(Dk s a ps).articles.map (·.id)↔n∈s.articles.map (·.id):=by
   show n∈(setParts s.articles a ps).map (·.id)↔_;rw[e]
  simp_all
 cases t<;>first|exact Iff.rfl|exact h _
def Ir {y:Article}(h:y∈(Dk s a ps).articles):∃x∈s.articles,y=if(x.id==a)=true then{x with parts:=ps}else x:=by
 obtain⟨x,hx,e⟩:=aZ.mp (show y∈s.articles.map _ from h);grind
def qN {H0:Hp}{Hf:Hp}{md:Addr}{ord:List Nat}{ms:Nat→dW}(fq:ord.Perm (s.articles.map (·.id)))(mD:jK C A H0 Hf md ord mo gV ms)(iE:H0 pl=none){t:Tag}(ht:bT s t):(qI A a pl mo gV t=A t)∨H0 (qI A a pl mo gV t)=none:=by
 have ho:∀n,(∃x∈s.articles,x.id=n)→n∈ord:=fun n ⟨x,hx,e⟩=>fq.mem_iff.mpr (aZ.mpr ⟨x,hx,e⟩);cases t with
 | part n=>
  show(if n=a then pl else A (.part n))=_∨H0 (if n=a then pl else A (.part n))=none;lia
 | dw n=>exact(mD.own n (ho n ht)).elim (fun h=> .inl h.1) fun h=> .inr h.1
 | need n=>exact(mD.own n (ho n ht)).elim (fun h=> .inl h.2) fun h=> .inr h.2
 | _=>exact .inl rfl
theorem World.recipe {H0 H4 Hf:Hp}{M:Nat→dW}{md:Addr}{ord:List Nat}(W:World C A Z0 H0 s M)(ok:aM s)(k:ao C H0 H4)(fq:ord.Perm (s.articles.map (·.id)))(mD:jK C A H0 H4 md ord mo gV (bC (setParts s.articles a ps)))(iE:H0 pl=none)(gp:Got bG H4 pl ps)
  (keep:∀b o,H4 b=some o→NT o→(∀x∈s.articles,b≠A (.art x.id))→Hf b=some o) (Ea:∀x∈s.articles,∃dx,Hf (A (.art x.id))=some (.ins C.Article dx (mU A a pl mo ord x))) (tabs:iS C Hf):
  Wd C (qI A a pl mo gV) Hf (Dk s a ps):=by
 have W4:=W.aF k;have ho:∀n,(∃x∈s.articles,x.id=n)→n∈ord:=fun n ⟨x,hx,e⟩=>fq.mem_iff.mpr (aZ.mpr ⟨x,hx,e⟩);have tup:∀b xs,H4 b=some (.tup xs)→Hf b=some (.tup xs):=fun b xs e=>keep b _ e trivial fun x hx z=>by
  obtain⟨dx,q⟩:=W4.at_ (.art x.id) ⟨x,hx,rfl⟩ x hx rfl;simp_all
 have kept:∀t,bT s t→(∀n,t≠ .art n)→∀o,H4 (A t)=some o→Hf (A t)=some o:=fun t ht hn o e=>by
  obtain⟨o',e',p⟩:=(W4.at_ t ht).some ht;rw[e]at e';cases e';exact keep _ _ e (Dv p) fun x hx z=>hn x.id (W.inj t (.art x.id) ht ⟨x,hx,rfl⟩ z)
 have old:∀t,bT s t→(∀n,t≠ .art n)→At C A Z0 Hf s M t:=fun t ht hn=>(W4.at_ t ht).aF (kept t ht hn) tup;have YK:∀n,(∃x∈s.articles,x.id=n)→JG C Hf (mo n) (gV n) (bC (setParts s.articles a ps) n):=fun n hn=>by
  obtain⟨⟨dx,e1⟩,h2⟩:=mD.at_ n (ho n hn);obtain⟨kvs,h3,h4,e5⟩:=id h2;refine⟨⟨dx,keep _ _ e1 trivial fun x hx z=>?_⟩,h2.aF fun o e=>keep _ _ e ?_ fun x hx z=>?_⟩
  ·rcases mD.own n (ho n hn)with h|h
   ·rw[h.1]at z;have:=W.inj (.dw n) (.art x.id) hn ⟨x,hx,rfl⟩ z;cases this
   have lv:bT s (.art x.id):=⟨x,hx,rfl⟩;obtain⟨o,q,_⟩:=(W.at_ _ lv).some lv;simp_all
  rw[e5]at e;cases e;exact trivial;obtain⟨dx,q⟩:=W4.at_ (.art x.id) ⟨x,hx,rfl⟩ x hx rfl;rw[←z,e5]at q;cases q
 refine⟨fun t t' h h' e=>?_,fun t ht=>?_,tabs⟩
 ·have h:=(kI t).mp h;have h':=(kI t').mp h';have here:∀t,bT s t→∃o,H0 (A t)=some o:=fun t ht=>by
   obtain⟨o,q,_⟩:=(W.at_ t ht).some ht;exact⟨o,q⟩
  have c1:=qN (a:=a) (pl:=pl) fq mD iE h;have c2:=qN (a:=a) (pl:=pl) fq mD iE h';rcases c1 with c1|c1<;>rcases c2 with c2|c2;rw[c1,c2]at e;exact W.inj t t' h h' e;grind;grind
  ·
   have no:∀t,bT s t→qI A a pl mo gV t=A t→H0 (qI A a pl mo gV t)=none→False:=fun t ht z y=>by grind
   obtain⟨ys,ey,_⟩:=id gp;have sort:∀t,bT s t→H0 (qI A a pl mo gV t)=none→(t= .part a∧qI A a pl mo gV t=pl)∨(∃n,t= .dw n∧n∈ord∧∃dx,H4 (qI A a pl mo gV t)=some (.ins C.dO dx (P7 (bC (setParts s.articles a ps) n).d (bC (setParts s.articles a ps) n).s (gV n))))∨∃n,t= .need n∧n∈ord∧∃kvs,H4 (qI A a pl mo gV t)=some (.dK kvs):=fun t ht y=>by
    cases t with
    | part n=>
     by_cases z:n=a;rw[z];exact .inl ⟨rfl,aw rfl⟩;exact(no (.part n) ht (ak z) y).elim
    | dw n=>
     obtain⟨⟨dx,e1⟩,_⟩:=mD.at_ n (ho n ht);exact .inr (.inl ⟨n,rfl,ho n ht,dx,e1⟩)
    | need n=>
     obtain⟨_,kvs,_,_,e1⟩:=mD.at_ n (ho n ht);exact .inr (.inr ⟨n,rfl,ho n ht,_,e1⟩)
    | _=>exact(no _ ht rfl y).elim
   rcases sort t h c1 with⟨rfl,x1⟩|⟨n,rfl,hn,dx,x1⟩|⟨n,rfl,hn,kv,x1⟩<;>rcases sort t' h' c2 with⟨rfl,x2⟩|⟨n',rfl,jx,R8,x2⟩|⟨n',rfl,jx,kv',x2⟩;rfl;simp_all;simp_all;simp_all;rw[(mD.inj n hn n' jx).1 e];simp_all;simp_all;simp_all;rw[(mD.inj n hn n' jx).2 e]
 have oZ:=(kI t).mp ht;cases t with
 | st=>exact old .st trivial (fun _ z=>by cases z)
 | ad=>
  obtain⟨o2,p2,q2⟩:=old .ad trivial (fun _ z=>by cases z);exact⟨o2,by show o2.Perm ((setParts s.articles a ps).map (·.id));rw[wB];exact p2,q2⟩
 | ld=>exact old .ld trivial (fun _ z=>by cases z)
 | sd=>exact old .sd trivial (fun _ z=>by cases z)
 | th=>exact old .th trivial (fun _ z=>by cases z)
 | lot n=>exact old (.lot n) oZ (fun _ z=>by cases z)
 | held n=>exact old (.held n) oZ (fun _ z=>by cases z)
 | used n=>exact old (.used n) oZ (fun _ z=>by cases z)
 | ses n=>exact old (.ses n) oZ (fun _ z=>by cases z)
 | dw n=>exact(YK n oZ).1.ex
 | need n=>exact(YK n oZ).2
 | art n=>
  intro y hy e;obtain⟨x,hx,rfl⟩:=Ir hy;have hxn:x.id=n:=by lia
  obtain⟨dx,q⟩:=Ea x hx;refine⟨dx,?_⟩;show Hf (A (.art n))=_;rw[←hxn,q];have Pa:x.id∈ord:=ho x.id ⟨x,hx,rfl⟩;unfold mU jA;rw[aw Pa];by_cases z:x.id=a;simp_all[qI];simp_all[qI]
 | part n=>
  intro y hy e;obtain⟨x,hx,rfl⟩:=Ir hy;by_cases z:x.id=a
  ·rw[aw (show(x.id==a)=true by simpa using z)]at e ⊢;have VW:n=a:=by rw[←e];exact z
   have:qI A a pl mo gV (.part n)=pl:=aw VW;rw[this];obtain⟨ys,ey,pr⟩:=gp;have hys:=Dy pr;obtain⟨as,rfl,pr2⟩:=hys;refine⟨as,keep _ _ ey trivial fun x hx z=>?_,ym pr2 fun t q e=>tup t _ e⟩;obtain⟨dx,q⟩:=W4.at_ (.art x.id) ⟨x,hx,rfl⟩ x hx rfl;simp_all
  rw[ak (show ¬(x.id==a)=true by simpa using z)]at e ⊢;have VW:¬n=a:=by rw[←e];exact z
  have:qI A a pl mo gV (.part n)=A (.part n):=ak VW;rw[this];exact old (.part n) ⟨x,hx,e⟩ (fun _ z=>by cases z) x hx e
theorem Moved.recipe {H0 H4 Hf:Hp}{M:Nat→dW}{md:Addr}{ord:List Nat}{ms:Nat→dW}(W:World C A Z0 H0 s M)(k:ao C H0 H4)(fq:ord.Perm (s.articles.map (·.id)))(mD:jK C A H0 H4 md ord mo gV ms)(iE:H0 pl=none)
  (keep:∀b o,H4 b=some o→NT o→(∀x∈s.articles,b≠A (.art x.id))→Hf b=some o) (tb:∀b qs,H4 b=some (.lQ qs)→∃Ll,Hf b=some (.lQ Ll)):
  Moved C A s H0 (qI A a pl mo gV) (Dk s a ps) Hf:=by
 refine⟨fun b o e n hb=>?_,fun b qs e=>?_,fun t ht=>?_,fun t ht hf=>⟨?_,(kI t).mpr ht⟩⟩;exact keep b o (k.at_ b o e n) n fun x hx z=>hb ⟨.art x.id,⟨x,hx,rfl⟩,z⟩
 ·obtain⟨Ll,e'⟩:=k.tb b qs e;exact tb b Ll e'
 ·have ht:=(kI t).mp ht;rcases qN (a:=a) (pl:=pl) fq mD iE ht with z|z;exact .inl ⟨t,ht,z⟩;exact .inr z
 cases t with
 | part n=>exact hf.elim
 | dw n=>exact hf.elim
 | need n=>exact hf.elim
 | _=>rfl
end
end
section
variable{P:Program}{w:PySem.World}{K:Frag}{mg:Str→Option Value}{base:Heap}{C:cw}
def I_ {a b:TS}{D:Ends}{rt:VK}{bk ct:L2.St→Hp→Prop}{i:Nat}{x:V}{σ:L2.St}{H:Hp}(h:pb a b D (σ.set i (some x)) H):pB i x σ H ({nx:=pb a b D,rt:=rt,bk:=bk,ct:=ct}:Ends).nx:=h
def MH (s:bE)(a:Nat)(ps:List (Nat×Nat))(R:bE×List Int):(if((Vbdlal.art s a).isSome&&ps.all fun q=>(Vbdlal.art s q.1).isSome)=false then Vbdlal.no s 4
  else if(s.lots.any fun l=>l.article==a)=true then Vbdlal.no s 9
  else if(ps.any fun q=>Vbdlal.contains s.articles (DEEP+1) q.1 a)=true then Vbdlal.no s 10 else R)=if EY s a ps≠0 then(s,[EY s a ps])else R:=by
 unfold EY;split;rfl;split;rfl;split;rfl;rfl
def Ls {s:bE}(ok:aM s){a:Nat}{raw:List Int}(hg:goodParts raw=true)(h:EY s a (pairs raw)=0):mR s a (pairs raw):=by
 unfold EY at h;split at h;cases h;rename_i h1;split at h;cases h;split at h;cases h;rename_i h3;have h1:=eq_true_of_ne_false h1;rw[cy]at h1;have po:=rB hg (nE h1.2);refine⟨dz.mp h1.1,po.known,po.pos,po.nd,po.len,fun p hp=>?_⟩;rw[←pK (cN ok.c7)];grind
def jK.aF {A:Tag→Addr}{H0 H H':Hp}{md:Addr}{ord:List Nat}{mo gV:Nat→Addr}{ms:Nat→dW}(h:jK C A H0 H md ord mo gV ms)(k:ao C H H'):jK C A H0 H' md ord mo gV ms:=
 ⟨k.at_ _ _ h.J4 trivial,fun n hn=>(h.at_ n hn).aF k,h.own,h.inj,h.sep⟩
def jK.Sx {A:Tag→Addr}{H0 H1 H:Hp}{md:Addr}{ord:List Nat}{mo gV:Nat→Addr}{ms:Nat→dW}(h:jK C A H1 H md ord mo gV ms)(k:ao C H0 H1):jK C A H0 H md ord mo gV ms:=
 ⟨h.J4,h.at_,fun n hn=>(h.own n hn).imp id fun z=>⟨k.back z.1,k.back z.2⟩,h.inj,h.sep⟩
def Mr (L:List Article)(n:Nat):Bool:=decide ((dep L n≤8∧CB L n≤256)∧∀j∈L.map (fun x:Article=>x.id),cnt L n j≤1000000)
def Nd {L:List Article}{n:Nat}{kvs:List (Nat×Nat)}(t:Tab kvs (cnt L n))(iA:∀j,cnt L n j≠0→j∈L.map (·.id)):(decide (dep L n≤8∧CB L n≤256)&&kvs.all fun q=>decide (q.2≤1000000))=Mr L n:=by
 unfold Mr;rw[l5,cy,iw,iw,dr];refine and_congr_right fun _=>⟨fun h j _=>?_,fun h q hq=>?_⟩
 ·by_cases z:cnt L n j=0
  ·lia
  have h2:=t.2 j;rw[ak z]at h2;exact bW (h _ (r_ h2))
 have h2:=oA t.1 (show(q.1,q.2)∈kvs from hq);rw[t.2]at h2;grind -order
def OH {s:bE}(ok:aM s){a:Nat}{ps:List (Nat×Nat)}(F:mR s a ps){ord:List Nat}(fq:ord.Perm (s.articles.map (·.id))):((ord.map (Mr (setParts s.articles a ps))).all id)=sound (setParts s.articles a ps):=by
 have e:=wB s.articles a ps;rw[l5,Ih,dr,oG (F.wf ok)];constructor
 ·intro h x hx;have hi:x.id∈s.articles.map (·.id):=by rw[←e];exact aZ.mpr ⟨x,hx,rfl⟩
  have:=bW (h x.id (fq.mem_iff.mpr hi));refine⟨this.1,fun j=>?_⟩;by_cases z:cnt (setParts s.articles a ps) x.id j=0;lia;exact this.2 j (by rw[e];exact F.wN ok _ x.id j (bo _) hi z)
 intro h n hn;have hi:=fq.mem_iff.mp hn;rw[←e]at hi;obtain⟨x,hx,rfl⟩:=aZ.mp hi;have:=h x hx;exact iy ⟨this.1,fun j _=>this.2 j⟩
def GN {s:bE}(ok:aM s){a:Nat}{ps:List (Nat×Nat)}(F:mR s a ps)(n:Nat):∃j,cnt (setParts s.articles a ps) n j≠0:=by
 refine CW (F.wf ok) (fun x p hp=>?_) _ n (bo _);rw[F.parts ok]at hp;by_cases e:x=a
 ·rw[aw e]at hp;have:=F.pos p hp;lia
 rw[ak e]at hp;by_cases h:∃y∈s.articles,y.id=x
 ·obtain⟨y,hy,rfl⟩:=h;rw[kG ok hy]at hp;have:=(ok.fw y hy).pos p hp;lia
 simp_all[iO]
structure wc (C:cw)(A:Tag→Addr)(s:bE)(a:Nat)(pl:Addr)(mo:Nat→Addr)(H4:Hp)(md:Addr)(dn:List Nat)(H':Hp):Prop where
 keep:∀b o,H4 b=some o→NT o→b≠md→(∀x∈s.articles,b≠A (.art x.id))→H' b=some o
 tb:∀b qs,H4 b=some (.lQ qs)→∃Ll,H' b=some (.lQ Ll)
 Ea:∀x∈s.articles,∃dx,H' (A (.art x.id))=some (.ins C.Article dx (mU A a pl mo dn x))
 tabs:iS C H'
section
variable{A:Tag→Addr}{s:bE}{a:Nat}{pl:Addr}{mo:Nat→Addr}{H4:Hp}{md:Addr}{dn VL:List Nat}{H':Hp}
theorem wc.art (h:wc C A s a pl mo H4 md dn H')(inj:∀x∈s.articles,∀y∈s.articles,A (.art x.id)=A (.art y.id)→x.id=y.id)(nd:∀x∈s.articles,∀y∈s.articles,x.id=y.id→x=y){x:Article}(hx:x∈s.articles){dx:Addr}(hot:∀y∈s.articles,y.id≠x.id→mU A a pl mo VL y=mU A a pl mo dn y):
  wc C A s a pl mo H4 md VL (upd H' (A (.art x.id)) (.ins C.Article dx (mU A a pl mo VL x))):=by
 obtain⟨XJ,e0⟩:=h.Ea x hx;refine⟨fun b o e n h1 h2=>?_,fun b qs e=>?_,fun y hy=>?_,h.tabs.upd e0 trivial⟩;rw[ah (h2 x hx)];exact h.keep b o e n h1 h2
 ·obtain⟨Ll,e'⟩:=h.tb b qs e;exact⟨Ll,by rw[ah fun z=>by rw[z,e0]at e';cases e'];exact e'⟩
 by_cases z:y.id=x.id;rw[nd y hy x hx z];exact⟨dx,af⟩;obtain⟨dx1,e1⟩:=h.Ea y hy;rw[ah fun y'=>z (inj y hy x hx y'),hot y hy z];exact⟨dx1,e1⟩
def wc.tup (h:wc C A s a pl mo H4 md dn H'){T:Addr}{o:HO}(hT:H' T=none):wc C A s a pl mo H4 md dn (upd H' T o):=
 ⟨fun b o e n h1 h2=>by have:=h.keep b o e n h1 h2;rw[ah (aP this hT)];exact this,fun b qs e=>by obtain⟨Ll,e'⟩:=h.tb b qs e;exact⟨Ll,by rw[ah (aP e' hT)];exact e'⟩,
  fun x hx=>by obtain⟨dx,e⟩:=h.Ea x hx;exact⟨dx,by rw[ah (aP e hT)];exact e⟩,h.tabs.same (qW.new hT)⟩
def wc.dict (h:wc C A s a pl mo H4 md dn H'){o o':HO}(e0:H' md=some o)(p:Plain o)(ni:∀C dx fs,o≠ .ins C dx fs):wc C A s a pl mo H4 md dn (upd H' md o'):=
 ⟨fun b o e n h1 h2=>by rw[ah h1];exact h.keep b o e n h1 h2,fun b qs e=>by obtain⟨Ll,e'⟩:=h.tb b qs e;exact⟨Ll,by rw[ah fun z=>by rw[z,e0]at e';cases e';exact p];exact e'⟩,
  fun x hx=>by obtain⟨dx,e⟩:=h.Ea x hx;exact⟨dx,by rw[ah fun z=>by rw[z,e0]at e;cases e;exact ni _ _ _ rfl];exact e⟩,h.tabs.upd e0 p⟩
end
def jZ.move {H H':Hp}{a:Addr}{f:Str}{v:V}(h:jZ K H a f v)(k:∀o,H a=some o→NT o→H' a=some o):jZ K H' a f v:=by
 obtain⟨C,dx,fs,h1,h2⟩:=h.ex;exact⟨C,dx,fs,k _ h1 trivial,h2⟩
inductive zO (C:cw)(vs:List V)(H:Hp)(Q:VK)(E:XK):Prop|mk (A:Tag→Addr) (s:bE) (a:Nat) (pl:Addr) (raw:List Int) (H0:Hp):vs=[.ref (A .st),iV a,.ref pl]→Wd C A H0 s→aM s→ao C H0 H→H0 pl=none→(isArt a&&goodParts raw)=true→Got bG H pl (pairs raw)→c4 C A s H0 (recipeCall s a raw) Q→zO C vs H Q E
def B5 (T:Txt K mg C):Callee P w K mg base 5 "set_recipe" ["store","number","parts"] (zO C):=by
 refine T.BM.callee p9 fun f0 cg A0 aY s0 H vs Q E hr h=>?_;have hu:=bt hr;have nd:=p9.nd;refine⟨_,(ae (aN (i:=3) nd (aI (uL T) hr (aa (pv 0) (aa (pv 1) (aa (pv 2) ag)))))
  (ae (aU (aD g0 (pv 3) (aK T.bH rfl) (aJ _)) (ai (au (a0 (aa (pv 3) ag)))) aB)
  (ae (aN (i:=4) nd (aI (uu T) hr (aa (az (pv 0) rfl) (aa (pv 1) (aa (pv 2) ag)))))
  (ae (aU (jc (bV (aW (BD rfl) (by rfl) T.Hl boot_all (aa (sf (d7 rfl nd (fb (pv 4)) (ba (own:=[("measure",5)]) (show ef ["store","number","parts","refusal","measures","measure","changed","each","article"] (aj lV) _ _=true by decide +kernel)) (fun _ _ _ _ _=>by exact(aC (i:=5) nd)) (fun _ _ _ _ _=>by exact cB) (fun _ _ _ _ _=>by exact(aI (wj T) hr (aa (pv 5) ag))))) ag)) (fun _=>rfl))) (ai (au (a0 (aa (aK T.ES rfl) ag)))) aB)
  (ae (aN (i:=6) nd (bD hu (az (pv 0) rfl) (pv 1)))
  (ae (bO (pv 6) (pv 2) rfl)
  (ae (iJ (dM dj rfl (yX (pv 4)) (gT rfl (aT (aC (i:=7) nd) (aT (aC (i:=5) nd) cz))) (ae (aN (i:=8) nd (bD hu (az (pv 0) rfl) (pv 7)))
  (ai (bO (pv 8) (pv 5) rfl)))))
  (ai (au (a0 (aa ax ag))))))))))),w7z ?_⟩;intros;obtain⟨A,s,a,pl,raw,H0,rfl,W,ok,k0,Si,cD,gp,q⟩:=h
 unfold recipeCall at q;rw[ak (by rw[cD];decide)]at q;simp only[cY]at q;rw[MH]at q;have hg:goodParts raw=true:=by rw[cy]at cD;exact cD.2
 have O_:(pairs raw).length≤16:=by (clear cD;grind[Vm.pairs_len,goodParts])
 refine⟨A,s,a,pl,pairs raw,rfl,W.aF k0,ok,gp,O_,fun H1 k1=>?_⟩;have SM:=k0.trans k1;refine⟨rfl,_,rfl,?_⟩;refine b0 (fun h=>?_) fun h=>?_
 ·rw[aw (bS.mp h)]at q;exact⟨aH,fun D hD=>q.no W SM hD⟩
 rw[ak fun z=>h (bS.mpr z)]at q;have MZ:EY s a (pairs raw)=0:=qj fun z=>h (bS.mpr z);have F:=Ls ok hg MZ;rw[MZ];generalize pairs raw=ps at *;have W1:=W.aF SM;have R9:=gp.aF bG.mono k1;refine(bh T W1).go ?_;refine⟨A,s,a,pl,ps,rfl,W1,ok,F,R9,fun md H2 ord mo gV Py k2 fq mD=>?_⟩;have mD:=mD.Sx SM;have VC:=SM.trans k2;have Ti:=SM.back Py;have Xj:ord.length≤64:=by rw[fq.length_eq,ay];exact ok.m6
 have dB:∀n∈ord,∃x∈s.articles,x.id=n:=fun n hn=>by grind
 refine I_ (QF ?_);refine Hv (C:=C) (L:=ord) (d:=md) (E:=fun n y _=>y=V.bl (Mr (setParts s.articles a ps) n)) (p:=fun _=>true) (f:=fun n=>V.ref (mo n)) (aQ.eq _) mD.J4 (by rw[aV];rfl) (aG Xj (by decide))
  (fun od R r=>r) (fun od n hn Hc kc Ky Kn hy jx=>?_) fun D3 H3 wx k3 g3=>?_
 ·obtain⟨m1,m2⟩:=(mD.at_ n hn).upd (o:= .eS od (.dK (ord.map fun(n:Nat)=>((Sum.inl (n:Int):Key),V.ref (mo n))))) mD.J4 (mD.sep n hn);obtain⟨kvs,tk,ek⟩:=tab_of m2;have ek:upd H2 md (.eS od (.dK (ord.map fun(n:Nat)=>((Sum.inl (n:Int):Key),V.ref (mo n))))) (gV n)=some (.dK (kvs.map bg)):=ek;obtain⟨j,hj⟩:=GN ok F n;refine⟨rfl,iR ⟨mo n,_,_,gV n,kvs,rfl,m1.aF kc,kc.at_ _ _ ek trivial,tk.some hj,fun H' k'=>hy rfl _ _ k' ?_⟩⟩
  congr 1
  refine Nd tk fun j hj=>?_;rw[wB];exact F.wN ok _ n j (bo _) (fq.mem_iff.mp hn) hj
 rw[filter_all]at g3;refine⟨D3,ord.map (Mr (setParts s.articles a ps)),rfl,bz.of (by rw[g3.eq,aV];rfl),_,rfl,?_⟩;rw[OH ok F fq];have RX:=VC.trans k3;cases Ej:sound (setParts s.articles a ps)with
 | false=>
  rw[Ej]at q;exact cZ ⟨aH,fun D hD=>q.no W RX hD⟩
 | true=>
 rw[Ej]at q;have q:c4 C A s H0 (Dk s a ps,[0]) Q:=q;refine dk ?_;have SH:=mD.aF k3;have W3:=W.aF RX;have gp3:=R9.aF bG.mono (k2.trans k3);obtain⟨x,hx,ex⟩:=F.ha;have g:=W3.fM a;rw[aw ⟨x,hx,ex⟩]at g;refine(bh T W3).go ?_;refine⟨_,_,rfl,g,?_⟩;have Uo:∀x∈s.articles,∀y∈s.articles,A (.art x.id)=A (.art y.id)→x.id=y.id:=fun x hx y hy z=>Tag.art.inj (W.inj (.art x.id) (.art y.id) ⟨x,hx,rfl⟩ ⟨y,hy,rfl⟩ z);have XR:∀x∈s.articles,∀y∈s.articles,x.id=y.id→x=y:=fun x hx y hy z=>zW ok.Iq hx hy z;obtain⟨dx,e⟩:=W3.at_ (.art x.id) ⟨x,hx,rfl⟩ x hx rfl;have nmdA:∀y∈s.articles,A (.art y.id)≠md:=fun y hy z=>by
  obtain⟨dx,q⟩:=W3.at_ (.art y.id) ⟨y,hy,rfl⟩ y hy rfl;rw[z,SH.J4]at q;cases q
 rw[←ex];refine⟨_,_,_,_,rfl,e,T.bI.cl,T.bI.na,by show 3<1000;decide,?_⟩;have ep:dZ "parts" (V.ref pl) (jA A x)=mU A a pl mo [] x:=by
  unfold mU;rw[aw ex,ak (by simp)];rfl
 rw[ep];have r0:wc C A s a pl mo H3 md [] (upd H3 (A (.art x.id)) (.ins C.Article dx (mU A a pl mo [] x))):=by
  refine⟨fun b o e n h1 h2=>by rw[ah (h2 x hx)];exact e,fun b qs e'=>⟨qs,by rw[ah fun z=>by rw[z,e]at e';cases e'];exact e'⟩,fun y hy=>?_,W3.tabs.upd e trivial⟩;by_cases z:y.id=x.id;rw[XR y hy x hx z];exact⟨dx,af⟩;obtain⟨dy,ey⟩:=W3.at_ (.art y.id) ⟨y,hy,rfl⟩ y hy rfl;refine⟨dy,?_⟩;rw[ah fun y'=>z (Uo y hy x hx y'),ey];unfold mU jA;grind
 have QC:upd H3 (A (.art x.id)) (.ins C.Article dx (mU A a pl mo [] x)) md=some (.dK (ord.map fun(n:Nat)=>((Sum.inl (n:Int):Key),V.ref (mo n)))):=by rw[ah (aR (nmdA x hx))];exact SH.J4
 show pb _ _ _ _ (upd H3 (A (.art x.id)) (.ins C.Article dx (mU A a pl mo [] x)));generalize upd H3 (A (.art x.id)) (.ins C.Article dx (mU A a pl mo [] x))=H5 at *;refine uD (d:=md) QC (fun od i σ H'=>(∃v5 v7 v8,σ=[some (.ref (A .st)),some (iV x.id),some (.ref pl),some (.int 0),some (.ref md),v5,some (.ref (A (.art x.id))),v7,v8])∧wc C A s a pl mo H3 md (ord.take i) H'∧H' md=some (.eS od (.dK (ord.map fun(n:Nat)=>((Sum.inl (n:Int):Key),V.ref (mo n))))))
  (fun od R r=>r) (fun od=>⟨⟨_,_,_,rfl⟩,r0.dict QC trivial (fun _ _ _ z=>by cases z),af⟩) (fun od i σ H' ⟨_,_,e⟩=>e) (fun od i kk vv σ H' T' D' yo ⟨⟨v5,v7,v8,es⟩,ri,Vi⟩ hT pV=>?_) (fun od σ H' ⟨⟨v5,v7,v8,es⟩,ri,Vi⟩=>?_)
 ·subst es;have hj:i<ord.length:=by have:=(fu.mp yo).1;rw[ay]at this;exact this
  have ej:ord[i]? =some ord[i]:=by simp[hj]
  have Eg:((Sum.inl (ord[i]:Int):Key),V.ref (mo ord[i]))=(kk,vv):=by rw[cO,ej]at yo;exact cV yo
  have ek:kk=Sum.inl (ord[i]:Int):=(congrArg Prod.fst Eg).symm;have ev:vv=V.ref (mo ord[i]):=(congrArg Prod.snd Eg).symm;subst ek;subst ev;obtain⟨y,hy,ey⟩:=dB ord[i] (fL hj);have IW:ord.take (i+1)=ord.take i++[ord[i]]:=by rw[gx,ej];rfl
  have vV:∀(σ:L2.St) (jC:Hp),(∃v5 v7 v8,σ=[some (.ref (A .st)),some (iV x.id),some (.ref pl),some (.int 0),some (.ref md),v5,some (.ref (A (.art x.id))),v7,v8])→wc C A s a pl mo H3 md (ord.take i++[ord[i]]) jC→jC md=some (.eS od (.dK (ord.map fun(n:Nat)=>((Sum.inl (n:Int):Key),V.ref (mo n)))))→D'.nx σ jC:=fun σ jC p1 p2 p3=>by lia
  clear pV IW;generalize ord.take i=dn at *;generalize ord[i]=n at *;subst ey;have rt:=ri.tup (T:=T') (o:= .tup [kV (Sum.inl (y.id:Int)),V.ref (mo y.id)]) hT;have Xh:upd H' T' (.tup [kV (Sum.inl (y.id:Int)),V.ref (mo y.id)]) md=some (.eS od (.dK (ord.map fun(n:Nat)=>((Sum.inl (n:Int):Key),V.ref (mo n))))):=by rw[ah (aP Vi hT)];exact Vi
  refine⟨_,_,rfl,ju.of af,rfl,_,_,rfl,_,_,rfl,rfl,?_⟩;generalize upd H' T' (.tup [kV (Sum.inl (y.id:Int)),V.ref (mo y.id)])=H6 at *;have Yj:∀t,bT s t→(∀n,t≠ .art n)→A t≠md→∀o,H3 (A t)=some o→NT o→H6 (A t)=some o:=fun t ht hn hm o e n=>rt.keep _ _ e n hm fun z hz y'=>hn z.id (W.inj t (.art z.id) ht ⟨z,hz,rfl⟩ y');have nst:A .st≠md:=fun z=>by obtain⟨o,e0,_⟩:=(W.at_ .st trivial).some (show bT s .st from trivial);rw[z,Ti]at e0;cases e0
  have nad:A .ad≠md:=fun z=>by obtain⟨o,e0,_⟩:=(W.at_ .ad trivial).some (show bT s .ad from trivial);rw[z,Ti]at e0;cases e0
  obtain⟨o3,p3,e3⟩:=W3.at_ .ad trivial;have e3:H3 (A .ad)=some (.dK (o3.map fun(a:Nat)=>(Sum.inl (a:Int),V.ref (A (.art a))))):=e3;have e6:=Yj .ad trivial (fun _ z=>by cases z) nad _ e3 trivial;have g6:=Bx (mo:=fun n=>A (.art n)) e6 (n:=y.id) (p3.mem_iff.mpr (aZ.mpr ⟨y,hy,rfl⟩));obtain⟨dy,ey⟩:=rt.Ea y hy;refine(jZ.move (bh T W3) (Yj .st trivial (fun _ z=>by cases z) nst)).go ?_;refine⟨_,_,rfl,g6,?_⟩;refine⟨_,_,_,_,rfl,ey,T.bI.cl,T.bI.na,by show 3<1000;decide,?_⟩;have ep:dZ "measure" (V.ref (mo y.id)) (mU A a pl mo dn y)=mU A a pl mo (dn++[y.id]) y:=by
   unfold mU;rw[aw (show y.id∈dn++[y.id] by simp)];rfl
  rw[ep];refine vV _ _ ⟨_,_,_,rfl⟩ (rt.art Uo XR hy (fun z hz eP=>?_)) ?_
  ·unfold mU;grind
  grind[ah]
 subst es;rw[ay,du]at ri;have rf:=ri.dict (o':= .dK (ord.map fun(n:Nat)=>((Sum.inl (n:Int):Key),V.ref (mo n)))) Vi trivial (fun _ _ _ z=>by cases z);have PB:∀b o,H3 b=some o→NT o→(∀x∈s.articles,b≠A (.art x.id))→upd H' md (.dK (ord.map fun(n:Nat)=>((Sum.inl (n:Int):Key),V.ref (mo n)))) b=some o:=fun b o e n h=>by
  by_cases z:b=md;rw[z,af];rw[z,SH.J4]at e;exact e;exact rf.keep b o e n z h
 have Wf:=W.recipe ok RX fq SH Si gp3 PB rf.Ea rf.tabs;have mv:Moved C A s H0 (qI A a pl mo gV) (Dk s a ps) _:=Moved.recipe (pl:=pl) (a:=a) (ps:=ps) W RX fq SH Si PB rf.tb;exact⟨aH,fun D hD=>c4.pC q mv Wf hD rfl⟩
end
abbrev jy:=Str×Nat×Nat
def Ei:jy:=("day",0,1000000)
def iB:jy:=("article",1,1000000)
def Q9:jy:=("least stock",0,1000000)
def C5:jy:=("count of a part",1,1000)
def D_:jy:=("lot",1,1000000000)
def zo:jy:=("session",1,1000000000)
def F4:jy:=("amount",1,1000000)
def RA:jy:=("pieces",1,1000000000000000)
def Up:jy:=("stock",0,1000000000)
def QR:jy:=("reason",1,9)
def E7:List jy:=[Ei,iB,Q9,C5,D_,zo,F4,RA,Up,QR]
noncomputable def sU:List (List jy):=[[Ei],[iB,Q9],[iB,Q9],[iB],[D_,iB,F4,Ei],[zo],[zo],[zo,iB,F4],[zo,iB,F4],[zo],[zo],[zo,D_,RA],[D_,RA,QR],[QR],[D_,Up],[D_],[iB,Ei,Ei],
 [iB,F4],[iB],[iB,F4],[iB],[D_],[D_],[zo],[zo],[iB],[],[Ei],[iB,F4],[],[zo]]
def GZ:∀ms∈sU,∀m∈ms,m∈E7:=by decide +kernel
structure C_ (P:Program)(w:PySem.World)(K:Frag)(mg:Str→Option Value)(tR:List (Str×Addr))(aA:Addr)(as:List Addr):Prop where
 QE:wA P w K mg "RANGES" tR
 rat:∀m∈E7,∃t,(m.1,t)∈tR∧∀H,ju K H t [iV m.2.1,iV m.2.2]
 arg:mq mg "ARGUMENTS" (.ref aA)
 arr:∀H,ju K H aA (as.map V.ref)
 len:as.length=31
 XO:∀(i:Nat) (a:Addr) (ms:List jy),as[i]? =some a→sU[i]? =some ms→∀H,ju K H a (ms.map fun m=>V.str m.1)
section
variable{P:Program}{w:PySem.World}{K:Frag}{mg:Str→Option Value}{base:Heap}{C:cw}{tR:List (Str×Addr)}{aA:Addr}{as:List Addr}
def jv (m:jy)(n:Int):Bool:=Vbdlal.inR n m.2.1 m.2.2
inductive zH (C:cw)(vs:List V)(H:Hp)(Q:VK)(E:XK):Prop|mk (n:Int) (m:jy):vs=[.int n,.str m.1]→m∈E7→Q (.bl (jv m n)) H→zH C vs H Q E
def lT (T:Txt K mg C)(S:C_ P w K mg tR aA as):Callee P w K mg base 1 "is_granted" ["number","meaning"] (zH C):=by
 refine T.BU.callee qc fun f0 cg A0 aY s0 H vs Q E hr h=>?_;obtain⟨n,m,rfl,hm,q⟩:=h;have nd:=qc.nd;refine⟨_,(ae (aN (i:=2) nd (Rl S.QE rfl (pv 1) (fun _ _=>rfl)))
  (ai (au (Ld sg sg (bx BN (pv 2) ax) (pv 0) (bx BN (pv 2) ax))))),?_⟩
 obtain⟨t,ht,hq⟩:=S.rat m hm;refine⟨m.1,t,rfl,ht,?_⟩;refine⟨t,_,_,iV m.2.1,rfl,rfl,hq _,rfl,?_⟩;refine⟨_,_,rfl,rfl,_,rfl,?_⟩;unfold jv Vbdlal.inR at q;refine b0 (fun h=>?_) fun h=>?_
 ·have h:=bW h;refine⟨t,_,_,iV m.2.2,rfl,rfl,hq _,rfl,?_⟩;refine⟨_,_,rfl,rfl,?_⟩;simp_all
 simp_all
def Kd (m:jy)(ns:List Int):(ns.map (jv m)).all id=ns.all (jv m):=by rw[Ih];rfl
def yO (ns:List Int):(bj ns).length≤ns.length:=by rw[fE];lia
theorem kL {α β:Type}(f:α→β):∀l:List α,bj (l.map f)=(bj l).map f
 | []=>rfl
 | [x]=>rfl
 | x::y::l=>by
  have:=kL f l;simp only[bF,bj,this]
theorem qo:∀ns:List Int,ns.length%2=0→goodParts.pairsOk ns=((bj ns).all (jv iB)&&(bj (ns.drop 1)).all (jv C5))
 | [],_=>rfl
 | [x],h=>by simp at h
 | b::c::r,h=>by
  have ih:=qo r (by simp at h;lia);unfold goodParts.pairsOk;rw[ih];have e1:bj (b::c::r)=b::bj r:=rfl;have e2:bj ((b::c::r).drop 1)=c::bj (r.drop 1):=by
   cases r with
   | nil=>rfl
   | cons x r=>rfl
  rw[e1,e2,AM,AM];show(jv iB b&&(jv C5 c&&_))=_;lia
theorem rm:∀l:List Nat,distinct l=decide l.Nodup
 | []=>by rfl
 | x::l=>by
  unfold distinct;rw[rm l,l5];simp
theorem mZ:∀ns:List Int,ns.length%2=0→(pairs ns).map (·.1)=(bj ns).map Int.toNat
 | [],_=>rfl
 | [x],h=>by simp at h
 | b::c::r,h=>by
  have ih:=mZ r (by simp at h;lia);show b.toNat::(pairs r).map (·.1)=b.toNat::(bj r).map Int.toNat;rw[ih]
def IH {l:List Int}(h:∀x∈l,0≤x):(l.map Int.toNat).Nodup↔l.Nodup:=by
 constructor
 ·intro hn
  induction l with
  | nil=>exact lA
  | cons x l ih=>(simp_all;lia)
 intro hn
 induction l with
 | nil=>exact lA
 | cons x l ih=>(simp_all;grind -order[mem_cons_self])
def lY (ns:List Int)(h1:ns.length≤32)(h2:ns.length%2=0):goodParts ns=((bj ns).all (jv iB)&&((bj (ns.drop 1)).all (jv C5)&&decide (vE (bj ns)=(bj ns).length))):=by
 unfold goodParts;rw[show(ns.length%2==0)=true by simp[h2],iy h1,Me,Me,qo ns h2,Lk,mZ ns h2,rm];cases hp:(bj ns).all (jv iB)with
 | false=>rfl
 | true=>
  congr 2
  rw[decide_eq_decide,De];refine IH fun x hx=>?_;have:=dr.mp hp x hx;have:=bW this;lia
inductive nv (C:cw)(vs:List V)(H:Hp)(Q:VK)(E:XK):Prop|mk (a:Addr) (ns:List Int):vs=[.ref a]→H a=some (.lst (ns.map V.int))→(∀H',ao C H H'→Q (.bl (goodParts ns)) H')→nv C vs H Q E
def o8 (T:Txt K mg C)(S:C_ P w K mg tR aA as):Callee P w K mg base 2 "are_parts_granted" ["numbers"] (nv C):=by
 refine T.pf.callee il fun f0 cg A0 aY s0 H vs Q E hr h=>?_;have hu:=bt hr;have nd:=il.nd;refine⟨_,(ae (aU (PW.pt (Aa (aD p8 (aW cJ (by rfl) T.i_ gb (aa (pv 0) ag)) (aK T.ph rfl) (aJ _)) (uE (aD g0 (cx Qb (aW cJ (by rfl) T.i_ gb (aa (pv 0) ag)) ax) ax (aJ _))))) (ai (au gG)) aB)
  (ae (aN (i:=1) nd (oN 0 rfl (pv 0)))
  (ae (aN (i:=2) nd (oN 1 rfl (pv 0)))
  (ae (aU (jc (bV (aW (BD rfl) (by rfl) T.Hl boot_all (aa (d7 rfl nd (bf (pv 1)) (ba (own:=[("part",3)]) (show ef ["numbers","parts","counts","part","count"] (aj dQ) _ _=true by decide +kernel)) (fun _ _ _ _ _=>by exact(aC (i:=3) nd)) (fun _ _ _ _ _=>by exact cB) (fun _ _ _ _ _=>by exact(aI (lT T S) hr (aa (pv 3) (aa L_ ag))))) ag)) (fun _=>rfl))) (ai (au gG)) aB)
  (ae (aU (jc (bV (aW (BD rfl) (by rfl) T.Hl boot_all (aa (d7 rfl nd (bf (pv 2)) (ba (own:=[("count",4)]) (show ef ["numbers","parts","counts","part","count"] (aj dQ) _ _=true by decide +kernel)) (fun _ _ _ _ _=>by exact(aC (i:=4) nd)) (fun _ _ _ _ _=>by exact cB) (fun _ _ _ _ _=>by exact(aI (lT T S) hr (aa (pv 4) (aa L_ ag))))) ag)) (fun _=>rfl))) (ai (au gG)) aB)
  (ai (au (lF cG (Jn T.i_ T.UB (pv 1)) (aW cJ (by rfl) T.i_ gb (aa (pv 1) ag)) (aJ _))))))))),w5z ?_⟩;intros;obtain⟨a,ns,rfl,ea,q⟩:=h
 refine⟨a,_,rfl,.inl (bz.of ea),_,_,rfl,rfl,_,rfl,?_⟩;rw[ay];refine b0 (fun h=>?_) fun h=>?_
 ·have h:=bW h;have hf:goodParts ns=false:=by
   unfold goodParts;simp_all;grind
  rw[hf]at q;exact cZ (q _ ao.refl)
 have h:=o6 h;refine⟨a,_,rfl,.inl (bz.of ea),_,_,rfl,rfl,(by show(0:Int)<2;decide),rfl,_,rfl,?_⟩;rw[ay];refine b0 (fun h2=>?_) fun h2=>?_
 ·have h2:=bS.mp h2;have hf:goodParts ns=false:=by
   unfold goodParts;simp_all;lia
  rw[hf]at q;exact q _ ao.refl
 have h2:ns.length%2=0:=by lia
 rw[lY ns (by lia) h2]at q;refine⟨a,_,rfl,bz.of ea,fun D1 Ff=>?_⟩;have k1:ao C H (upd H D1 (.lst (bj ((ns.map V.int).drop 0)))):=ao.new Ff;have e1:upd H D1 (.lst (bj ((ns.map V.int).drop 0))) D1=some (.lst ((bj ns).map V.int)):=by rw[af,List.drop_zero,kL]
 have ea1:=k1.at_ _ _ ea trivial;generalize upd H D1 (.lst (bj ((ns.map V.int).drop 0)))=H1 at *;refine⟨a,_,rfl,bz.of ea1,fun D2 lr=>?_⟩;have k2:ao C H1 (upd H1 D2 (.lst (bj ((ns.map V.int).drop 1)))):=ao.new lr;have e2:upd H1 D2 (.lst (bj ((ns.map V.int).drop 1))) D2=some (.lst ((bj (ns.drop 1)).map V.int)):=by rw[af,←List.map_drop,kL]
 have XH:=k2.at_ _ _ e1 trivial;generalize upd H1 D2 (.lst (bj ((ns.map V.int).drop 1)))=H2 at *;have Uc:(bj ns).length≤32:=aG (yO ns) (by lia);have hle2:(bj (ns.drop 1)).length≤32:=aG (yO _) (by rw[Gq];(clear h2 hu;(simp;omega)));have wu:=k1.trans k2;refine eY (C:=C) (L:=bj ns) (E:=fun n y _=>y=V.bl (jv iB n)) (p:=fun _=>true) (F:=fun n y _=>y=V.int n) (aQ.eq _) (aQ.eq _) (Got.of XH) (aG Uc (by decide))
  (fun n hn y Hc kc ey Ky Kn Gw jx=>?_) fun D3 H3 wx k3 g3=>?_
 ·subst ey;exact⟨rfl,iR ⟨n,iB,rfl,by decide,Gw rfl _ _ ao.refl rfl⟩⟩
 rw[filter_all]at g3;refine⟨D3,(bj ns).map (jv iB),rfl,bz.of (by rw[g3.eq,aV];rfl),_,rfl,?_⟩;rw[Kd];have Sn:=wu.trans k3;cases hp:(bj ns).all (jv iB)with
 | false=>
  rw[hp]at q;exact cZ (q _ Sn)
 | true=>
 rw[hp]at q;refine dk ?_;have e23:=k3.at_ _ _ e2 trivial;refine eY (C:=C) (L:=bj (ns.drop 1)) (E:=fun n y _=>y=V.bl (jv C5 n)) (p:=fun _=>true) (F:=fun n y _=>y=V.int n) (aQ.eq _) (aQ.eq _) (Got.of e23) (aG hle2 (by decide))
  (fun n hn y Hc kc ey Ky Kn Gw jx=>?_) fun D4 H4 LW k4 g4=>?_
 ·subst ey;exact⟨rfl,iR ⟨n,C5,rfl,by decide,Gw rfl _ _ ao.refl rfl⟩⟩
 rw[filter_all]at g4;refine⟨D4,(bj (ns.drop 1)).map (jv C5),rfl,bz.of (by rw[g4.eq,aV];rfl),_,rfl,?_⟩;rw[Kd];have OK:=Sn.trans k4;cases hc:(bj (ns.drop 1)).all (jv C5)with
 | false=>
  rw[hc]at q;exact cZ (q _ OK)
 | true=>
 rw[hc]at q;refine dk ?_;have Yd:=(k3.trans k4).at_ _ _ XH trivial;refine⟨D1,bj ns,rfl,bz.of Yd,fe Uc (by decide),D1,_,rfl,.inl (bz.of Yd),rfl,?_⟩;rw[ay];have e9:decide (V.int (vE (bj ns):Int)=V.int ((bj ns).length:Int))=decide (vE (bj ns)=(bj ns).length):=by lia
 simp_all
end
def JQ {K:Frag}{a b:Addr}{xs ys:List V}{g:TG}{tb:TS}{D:Ends}{σ:L2.St}{H:Hp}(Pv:Nat→L2.St→Hp→Prop)(h0:Pv 0 σ H)(hl:∀i σ H,Pv i σ H→bz K H a xs∧ju K H b ys)
  (hs:∀i x y σ H T,xs[i]? =some x→ys[i]? =some y→Pv i σ H→H T=none→g (.ref T) σ (upd H T (.tup [x,y])) fun σ2 H2=>tb {D with nx:=Pv (i+1),ct:=Pv (i+1),bk:=D.nx} σ2 H2) (hd:∀σ H,Pv (min xs.length ys.length) σ H→D.nx σ H):
  ∃W:Nat→Nat→L2.St→Hp→Prop,(∃m,W 0 m σ H)∧∀i m σ H,W i m σ H→
   ((MY K a b).stop i H∧D.nx σ H)∨((MY K a b).go i H∧∃N:L2.St→Hp→Prop,(∀σ' H',N σ' H'→∃m',m'<m∧W (i+1) m' σ' H')∧∀x H',(MY K a b).M_ i H x H'→g x σ H' fun σ2 H2=>tb {D with nx:=N,ct:=N,bk:=D.nx} σ2 H2):=by
 refine⟨fun i m σ H=>m=min xs.length ys.length-i∧i≤min xs.length ys.length∧Pv i σ H,⟨_,rfl,fJ _,h0⟩,?_⟩;rintro i m σ H ⟨rfl,hi,p⟩;obtain⟨q1,q2⟩:=hl i σ H p;by_cases lu:i<min xs.length ys.length
 ·have ex:xs[i]? =some xs[i]:=by simp[show i<xs.length by omega]
  have ey:ys[i]? =some ys[i]:=by simp[show i<ys.length by omega]
  refine .inr ⟨⟨xs,ys,_,_,q1,q2,ex,ey⟩,Pv (i+1),fun σ' H' p'=>⟨_,by grind,rfl,lu,p'⟩,fun v H' y=>?_⟩;obtain⟨T,x,y,rfl,hT,rfl,r1,r2⟩:=y;clear ey ex;simp_all
 have e:i=min xs.length ys.length:=by lia
 subst e;exact .inl ⟨⟨xs,ys,q1,q2,by lia⟩,hd σ H p⟩
def xi (xs:List V)(k:Nat):ur xs (some (k:Int)) none=xs.drop k:=by
 unfold ur;rw[HT.Hy,HT.Lo];have h:(xs.drop (min k xs.length)).length≤xs.length-min k xs.length:=by rw[Gq];exact bo _
 rw[List.take_of_length_le h];simp
def yj (ms:List jy)(r:List Int):Bool:=(r.zip ms).all fun q=>jv q.2 q.1
def pF (p:Nat)(r:List Int):Bool:=yj (sU.getD p []) r&&(if p=16 then decide (r.getD 1 0≤r.getD 2 0)else if p=3 then goodParts (r.drop 2)else true)
section
variable{P:Program}{w:PySem.World}{K:Frag}{mg:Str→Option Value}{base:Heap}{C:cw}{tR:List (Str×Addr)}{aA:Addr}{as:List Addr}
def HD (S:C_ P w K mg tR aA as){p:Nat}(hp:p<31):∃a ms,as[p]? =some a∧sU[p]? =some ms∧sU.getD p []=ms∧(∀H,ju K H a (ms.map fun m=>V.str m.1))∧∀m∈ms,m∈E7:=by
 have h1:as[p]? =some (as[p]'(by rw[S.len];exact hp)):=by simp[show p<as.length by rw[S.len];exact hp]
 have hl:sU.length=31:=rfl;have h2:sU[p]? =some (sU[p]'(by rw[hl];exact hp)):=by simp[show p<sU.length by rw[hl];exact hp]
 exact⟨_,_,h1,h2,by rw[MG,h2];rfl,S.XO p _ _ h1 h2,GZ _ (fL _)⟩
def R6 {x:V}{l:List V}:KD (x::l) 0=some x:=aX (j:=0) rfl
inductive kd (C:cw)(vs:List V)(H:Hp)(Q:VK)(E:XK):Prop|mk (b:Addr) (p:Nat) (r:List Int):vs=[.ref b]→H b=some (.lst (((p:Int)::r).map V.int))→p<31→((p=16→r.length=3))→(∀H',ao C H H'→Q (.bl (pF p r)) H')→kd C vs H Q E
def lh (T:Txt K mg C)(S:C_ P w K mg tR aA as):Callee P w K mg base 3 "are_arguments_granted" ["call"] (kd C):=by
 refine T.kX.callee fQ fun f0 cg A0 aY s0 H vs Q E hr h=>?_;have nd:=fQ.nd;refine⟨_,(ae (aN (i:=1) nd (bx BN (aK S.arg rfl) (bx aS (pv 0) ax)))
  (ae (dM dj rfl (Kj rfl T.O3 (aa (ki oQ (pv 0) (lL ax) rQ) (aa (pv 1) ag))) (gT rfl (aT (aC (i:=2) nd) (aT (aC (i:=3) nd) cz))) (ai (aU (jc (bV (aI (lT T S) hr (aa (pv 2) (aa (pv 3) ag))) (fun _=>rfl))) (ai (au gG)) aB)))
  (ae (aU (aD cG (bx aS (pv 0) ax) (aK T.vF rfl) (aJ _)) (ai (au (lF sg (bx aS (pv 0) ax) (bx aS (pv 0) ax) (aJ _)))) aB)
  (ai (au (Tn (lF g0 (bx aS (pv 0) ax) (aK T.xC rfl) (aJ _)) (yc (aI (o8 T S) hr (aa (ki oQ (pv 0) (lL ax) rQ) ag))))))))),w3z ?_⟩;intros;obtain⟨b,p,r,rfl,eb,hp,h16,q⟩:=h
 obtain⟨a,ms,ea,em,eg,hT,hM⟩:=HD S hp;refine⟨b,_,_,_,rfl,rfl,bz.of eb,R6,aA,_,_,.ref a,rfl,rfl,S.arr _,aX (by rw[cO,ea];rfl),?_⟩;refine⟨1,rfl,b,_,rfl,bz.of eb,fun D1 Ff=>?_⟩;have ec:ur (((p:Int)::r).map V.int) (some 1) none=r.map V.int:=xi _ 1;rw[ec];have k1:ao C H (upd H D1 (.lst (r.map V.int))):=ao.new Ff;have e1:upd H D1 (.lst (r.map V.int)) D1=some (.lst (r.map V.int)):=af;generalize upd H D1 (.lst (r.map V.int))=H1 at *;unfold pF at q;rw[eg]at q;refine⟨D1,a,_,_,rfl,bz.of e1,hT _,?_⟩;refine JQ (fun i σ H'=>(∃v2 v3,σ=[some (.ref b),some (.ref a),v2,v3])∧ao C H1 H'∧((r.zip ms).take i).all (fun q=>jv q.2 q.1)=true)
  ⟨⟨_,_,rfl⟩,ao.refl,rfl⟩ (fun i σ H' ⟨_,k,_⟩=>⟨bz.of (k.at_ _ _ e1 trivial),hT _⟩) (fun i x y σ H' T' ex ey ⟨⟨v2,v3,es⟩,k,Gk⟩ hT'=>?_) fun σ H' ⟨⟨v2,v3,es⟩,k,Gk⟩=>?_
 ·subst es;have hi:i<r.length:=by have:=(fu.mp ex).1;rw[ay]at this;exact this
  have hj:i<ms.length:=by have:=(fu.mp ey).1;rw[ay]at this;exact this
  have er:r[i]? =some r[i]:=by simp[hi]
  have XM:ms[i]? =some ms[i]:=by simp[hj]
  have ex1:x=V.int r[i]:=by rw[cO,er]at ex;exact(cV ex).symm
  have ey1:y=V.str ms[i].1:=by rw[cO,XM]at ey;exact(cV ey).symm
  subst ex1;subst ey1;have ez:(r.zip ms)[i]? =some (r[i],ms[i]):=Fj.mpr ⟨er,XM⟩;have hmm:=hM ms[i] (fL hj);have kT:=k.trans (ao.new (C:=C) (p:=T') (o:= .tup [V.int r[i],V.str ms[i].1]) hT');refine⟨_,_,rfl,ju.of af,rfl,_,_,rfl,_,_,rfl,rfl,?_⟩;refine⟨r[i],ms[i],rfl,hmm,_,rfl,?_⟩;cases hg:jv ms[i] r[i]with
  | false=>
   have hf:yj ms r=false:=by
    unfold yj;grind
   rw[hf]at q;exact cZ (q _ (k1.trans kT))
  | true=>
   refine dk ⟨⟨_,_,rfl⟩,kT,?_⟩;rw[gx,ez,List.all_append,Gk];simp[hg]
 subst es;have hfull:yj ms r=true:=by grind[yj,List.length_zip]
 rw[hfull,Me]at q;have k0:=k1.trans k;have Te:=k0.at_ _ _ eb trivial;refine⟨b,_,_,_,rfl,rfl,bz.of Te,R6,rfl,_,rfl,?_⟩;refine b0 (fun h=>?_) fun h=>?_
 ·have h:p=16:=by have:=lG.mp h;lia
  rw[aw h]at q;obtain⟨x0,x1,x2,rfl⟩:∃x0 x1 x2,r=[x0,x1,x2]:=by
   match r,h16 h with
   | [x0,x1,x2],_=>exact⟨_,_,_,rfl⟩
  exact⟨b,_,_,_,rfl,rfl,bz.of Te,aX (j:=2) rfl,b,_,_,_,rfl,rfl,bz.of Te,aX (j:=3) rfl,_,_,rfl,rfl,q _ k0⟩
 have h:¬p=16:=fun z=>h (lG.mpr (by lia));rw[ak h]at q;refine⟨b,_,_,_,rfl,rfl,bz.of Te,R6,rfl,_,rfl,?_⟩;refine b0 (fun h2=>?_) fun h2=>?_;grind;have h2:p=3:=qj fun z=>h2 (bS.mpr (by lia));rw[aw h2]at q;refine⟨3,rfl,b,_,rfl,bz.of Te,fun D2 lr=>?_⟩;have ec3:ur (((p:Int)::r).map V.int) (some 3) none=(r.drop 2).map V.int:=by
  have:=xi (((p:Int)::r).map V.int) 3;simp_all
 rw[ec3];exact⟨D2,r.drop 2,rfl,af,fun jC k''=>q _ ((k0.trans (ao.new lr)).trans k'')⟩
def xk:∀p,p<31→(sU.getD p []).length=arity p:=by decide +kernel
def Nu (as:List Addr):(as.map V.ref).length=as.length:=ay ..
inductive xP (K:Frag)(C:cw)(vs:List V)(H:Hp)(Q:VK)(E:XK):Prop|mk (c:Addr) (pre ch post:List Int):vs=[.ref c,iV pre.length]→bz K H c ((pre++ch++post).map V.int)→Chunk ch→Q (iV ch.length) H→xP K C vs H Q E
def zw (T:Txt K mg C)(S:C_ P w K mg tR aA as):Callee P w K mg base 1 "call_length" ["calls","start"] (xP K C):=by
 refine T.zr.callee ou fun f0 cg A0 aY s0 H vs Q E hr h=>?_;have nd:=ou.nd;refine⟨_,(ae (aN (i:=2) nd (bx aS (pv 0) (pv 1)))
  (ae (aU (PW.pt (Aa (aD pP (pv 2) ax (aJ _)) (uE (aD DW (pv 2) (aW cJ (by rfl) T.i_ gb (aa (aK S.arg rfl) ag)) (aJ _))))) (ai (au ax)) aB)
  (ae (aN (i:=3) nd (cx fP ax (aW cJ (by rfl) T.i_ gb (aa (bx BN (aK S.arg rfl) (pv 2)) ag))))
  (ae (aU (aD g0 (pv 2) (aK T.xC rfl) (aJ _)) (ai (au (pv 3))) aB)
  (ae (aU (PW.pt (Aa (aD DW (cx fP (pv 1) (pv 3)) (aW cJ (by rfl) T.i_ gb (aa (pv 0) ag)) (aJ _)) (uE (aD pP (bx aS (pv 0) (cx fP (pv 1) (pv 3))) ax (aJ _))))) (ai (au ax)) aB)
  (ai (au (cx fP (cx fP (pv 3) ax) (bx aS (pv 0) (cx fP (pv 1) (pv 3))))))))))),w5z ?_⟩;intros;obtain⟨c,pre,ch,post,rfl,ec,CO,q⟩:=h
 obtain⟨p,args,rfl,hp,ha,h3⟩:=CO.QV;have Tp:p<31:=by lia
 obtain⟨a,ms,ea,em,eg,hT,hM⟩:=HD S Tp;have Ua:ms.length=arity p:=by rw[←eg];exact xk p Tp
 have ix:∀(j:Nat) (x:Int),((p:Int)::args)[j]? =some x→KD ((pre++(p:Int)::args++post).map V.int) ((pre.length+j:Nat):Int)=some (V.int x):=fun j x hx=>by
  refine aX ?_;rw[cO,List.append_assoc,List.getElem?_append_right (by lia),Nat.add_sub_cancel_left,List.getElem?_append_left (List.getElem?_eq_some_iff.mp hx).1,hx];rfl
 refine⟨c,_,_,_,rfl,rfl,ec,ix 0 _ rfl,?_⟩;refine⟨_,_,rfl,rfl,_,rfl,?_⟩;refine b0 (fun h=>?_) fun h=>?_;trivial;refine⟨aA,_,rfl,.inr (S.arr _),_,_,rfl,rfl,_,rfl,?_⟩;rw[Nu,S.len];refine b0 (fun h=>?_) fun h=>?_;exfalso;lia;refine⟨aA,_,_,.ref a,rfl,rfl,S.arr _,aX (by rw[cO,ea];rfl),a,_,rfl,.inr (hT _),_,_,rfl,rfl,?_⟩;rw[ay,Ua];refine⟨rfl,_,rfl,?_⟩;refine b0 (fun h=>?_) fun h=>?_
 ·have h:=bS.mp h;have e:V.int (1+(arity p:Int))=iV ((p:Int)::args).length:=by (clear q;(simp;grind))
  show Q (V.int (1+(arity p:Int))) H;rw[e];exact q
 have h:p=3:=qj fun z=>h (bS.mpr (by subst_vars;lia));obtain⟨x,ps,rfl,NS⟩:=h3 h;subst h;have hl:(((pre++((3:Nat):Int)::x::(ps.length:Int)::ps++post).map V.int).length:Int)=(pre.length:Int)+3+ps.length+post.length:=by (simp;lia)
 refine⟨_,_,rfl,rfl,c,_,rfl,.inl ec,_,_,rfl,rfl,_,rfl,?_⟩;refine b0 (fun h=>?_) fun h=>?_;exfalso;grind[F5];have ei:((pre.length:Int)+(1+((arity 3:Nat):Int)))=((pre.length+2:Nat):Int):=by rw[F5];rfl
 refine⟨_,_,rfl,rfl,c,_,_,_,rfl,rfl,ec,by show KD _ ((pre.length:Int)+(1+((arity 3:Nat):Int)))=_;rw[ei];exact ix 2 _ rfl,_,_,rfl,rfl,_,rfl,?_⟩;refine b0 (fun h=>?_) fun h=>?_;trivial;refine⟨_,_,rfl,rfl,_,_,rfl,rfl,c,_,_,_,rfl,rfl,ec,by show KD _ ((pre.length:Int)+(1+((arity 3:Nat):Int)))=_;rw[ei];exact ix 2 _ rfl,_,_,rfl,rfl,?_⟩;clear h3;grind
end
section
variable{th rest:TS}{D:Ends}{σ:L2.St}{H:Hp}{j:Nat}{p k:Int}
def dG (hσ:σ[j]? =some (some (.int p)))(eP:p≠k)(h:rest D σ H):pb (JT (Ae (ON UU (iD j) (tC (.int k)))) th CS) rest D σ H:=by
 unfold pb JT Ae ON iD;refine iM_ hσ ?_;refine⟨rfl,_,rfl,?_⟩;refine b0 (fun z=>absurd (lG.mp z) eP) fun _=>h
def cI (hσ:σ[j]? =some (some (.int p)))(he:p=k)(h:th {D with nx:=rest D} σ H):pb (JT (Ae (ON UU (iD j) (tC (.int k)))) th CS) rest D σ H:=by
 unfold pb JT Ae ON iD;refine iM_ hσ ?_;refine⟨rfl,_,rfl,?_⟩;simp_all
end
def je {m:jy}{x:Int}(h:jv m x=true):∃n:Nat,x=(n:Int):=by
 have:=bW h;exact⟨x.toNat,by lia⟩
def o9 {m0:jy}{r:List Int}(h:yj [m0] r=true)(hl:r.length=1):∃n0:Nat,r=[(n0:Int)]∧jv m0 n0=true:=by
 match r,hl with
 | [x0],_=>
  have h:(jv m0 x0&&true)=true:=h;rw[gY]at h;obtain⟨n0,rfl⟩:=je h;lia
def IX {m0 m1:jy}{r:List Int}(h:yj [m0,m1] r=true)(hl:r.length=2):∃n0 n1:Nat,r=[(n0:Int),(n1:Int)]∧(jv m0 n0&&jv m1 n1)=true:=by
 match r,hl with
 | [x0,x1],_=>
  have h:(jv m0 x0&&(jv m1 x1&&true))=true:=h;rw[gY]at h;have h':=h;rw[cy]at h';obtain⟨n0,rfl⟩:=je h'.1;obtain⟨n1,rfl⟩:=je h'.2;lia
def K2 {m0 m1 m2:jy}{r:List Int}(h:yj [m0,m1,m2] r=true)(hl:r.length=3):∃n0 n1 n2:Nat,r=[(n0:Int),(n1:Int),(n2:Int)]∧(jv m0 n0&&(jv m1 n1&&jv m2 n2))=true:=by
 match r,hl with
 | [x0,x1,x2],_=>
  have h:(jv m0 x0&&(jv m1 x1&&(jv m2 x2&&true)))=true:=h;rw[gY]at h;have h':=h;rw[cy,cy]at h';obtain⟨n0,rfl⟩:=je h'.1;obtain⟨n1,rfl⟩:=je h'.2.1;obtain⟨n2,rfl⟩:=je h'.2.2;clear h;lia
def WY {m0 m1 m2 m3:jy}{r:List Int}(h:yj [m0,m1,m2,m3] r=true)(hl:r.length=4):∃n0 n1 n2 n3:Nat,r=[(n0:Int),(n1:Int),(n2:Int),(n3:Int)]∧(jv m0 n0&&(jv m1 n1&&(jv m2 n2&&jv m3 n3)))=true:=by
 match r,hl with
 | [x0,x1,x2,x3],_=>
  have h:(jv m0 x0&&(jv m1 x1&&(jv m2 x2&&(jv m3 x3&&true))))=true:=h;rw[gY]at h;have h':=h;rw[cy,cy,cy]at h';obtain⟨n0,rfl⟩:=je h'.1;obtain⟨n1,rfl⟩:=je h'.2.1;obtain⟨n2,rfl⟩:=je h'.2.2.1;obtain⟨n3,rfl⟩:=je h'.2.2.2;clear h;lia
theorem z4:∀(l:List Int) (j:Nat) (q:Nat×Nat),(pairs l)[j]? =some q→∃x y,(bj l)[j]? =some x∧(bj (l.drop 1))[j]? =some y∧q=(x.toNat,y.toNat)
 | [],j,q,h=>by simp[pairs]at h
 | [x],j,q,h=>by simp[pairs]at h
 | b::c::r,0,q,h=>by
  have e:(b.toNat,c.toNat)=q:=cV h;refine⟨b,c,rfl,?_,e.symm⟩;cases r<;>rfl
 | b::c::r,j+1,q,h=>by
  obtain⟨x,y,h1,h2,h3⟩:=z4 r j q (by simpa [pairs]using h);refine⟨x,y,h1,?_,h3⟩;have e2:bj ((b::c::r).drop 1)=c::bj (r.drop 1):=by
   cases r with
   | nil=>rfl
   | cons x r=>rfl
  rw[e2];exact h2
section
variable{P:Program}{w:PySem.World}{K:Frag}{mg:Str→Option Value}{base:Heap}{C:cw}{tR:List (Str×Addr)}{aA:Addr}{as:List Addr}
structure Shaped (p:Nat)(r:List Int):Prop where
 len:p≠3→r.length=(sU.getD p []).length
 WR:p=3→∃a ps,r=a::(ps.length:Int)::ps
inductive NL (C:cw)(vs:List V)(H:Hp)(Q:VK)(E:XK):Prop|mk (A:Tag→Addr) (s:bE) (p:Nat) (r:List Int) (b:Addr) (c:Vbdlal.Call):vs=[.ref (A .st),.int p,.ref b]→Wd C A H s→aM s→H b=some (.lst (r.map V.int))→17≤p→p<31→Shaped p r→pF p r=true→decodeAt p r=some c→Tells C H (Vbdlal.step s c).2 Q→NL C vs H Q E
def Q4 (T:Txt K mg C):Callee P w K mg base 6 "look" ["store","place","given"] (NL C):=by
 refine T.QK.callee NX fun f0 cg A0 aY s0 H vs Q E hr h=>?_;refine⟨_,(ae (aU (aD cG (pv 1) ax (aJ _)) (ai (au (aI (DS T) hr (aa (pv 0) (aa (bx aS (pv 2) ax) (aa (bx aS (pv 2) ax) ag)))))) aB)
  (ae (aU (aD cG (pv 1) ax (aJ _)) (ai (au (aI (Ez T) hr (aa (pv 0) (aa (bx aS (pv 2) ax) ag))))) aB)
  (ae (aU (aD cG (pv 1) ax (aJ _)) (ai (au (aI (CJ T) hr (aa (pv 0) (aa (bx aS (pv 2) ax) (aa (bx aS (pv 2) ax) ag)))))) aB)
  (ae (aU (aD cG (pv 1) ax (aJ _)) (ai (au (aI (By T) hr (aa (pv 0) (aa (bx aS (pv 2) ax) ag))))) aB)
  (ae (aU (aD cG (pv 1) ax (aJ _)) (ai (au (aI (G9 T) hr (aa (pv 0) (aa (bx aS (pv 2) ax) ag))))) aB)
  (ae (aU (aD cG (pv 1) ax (aJ _)) (ai (au (aI (Fn T) hr (aa (pv 0) (aa (bx aS (pv 2) ax) ag))))) aB)
  (ae (aU (aD cG (pv 1) ax (aJ _)) (ai (au (aI (ED T) hr (aa (pv 0) (aa (bx aS (pv 2) ax) ag))))) aB)
  (ae (aU (aD cG (pv 1) ax (aJ _)) (ai (au (aI (C9 T) hr (aa (pv 0) (aa (bx aS (pv 2) ax) ag))))) aB)
  (ae (aU (aD cG (pv 1) ax (aJ _)) (ai (au (aI (Cu T) hr (aa (pv 0) (aa (bx aS (pv 2) ax) ag))))) aB)
  (ae (aU (aD cG (pv 1) ax (aJ _)) (ai (au (aI (GS T) hr (aa (pv 0) ag)))) aB)
  (ae (aU (aD cG (pv 1) ax (aJ _)) (ai (au (aI (C3 T) hr (aa (pv 0) (aa (bx aS (pv 2) ax) ag))))) aB)
  (ae (aU (aD cG (pv 1) ax (aJ _)) (ai (au (aI (Ck T) hr (aa (pv 0) (aa (bx aS (pv 2) ax) (aa (bx aS (pv 2) ax) ag)))))) aB)
  (ae (aU (aD cG (pv 1) ax (aJ _)) (ai (au (aI (xy T) hr (aa (pv 0) ag)))) aB)
  (ai (au (aI (xO T) hr (aa (pv 0) (aa (bx aS (pv 2) ax) ag)))))))))))))))))),w13z ?_⟩;intros;obtain⟨A,s,p,r,b,c,rfl,W,ok,eb,Vl,Fo,gr,hg,hd,q⟩:=h
 have fR:yj (sU.getD p []) r=true:=by unfold pF at hg;rw[cy]at hg;exact hg.1
 match p,Vl,Fo with
 | 17,_,_=>
  have hlen:=gr.len (by decide);obtain⟨n0,n1,rfl,cD⟩:=IX fR hlen;cases hd;refine cI rfl rfl ?_;exact⟨b,_,_,_,rfl,rfl,bz.of eb,aX (j:=0) rfl,b,_,_,_,rfl,rfl,bz.of eb,aX (j:=1) rfl,A,s,n0,n1,rfl,W,ok,cD,q⟩
 | 18,_,_=>
  have hlen:=gr.len (by decide);obtain⟨n0,rfl,cD⟩:=o9 fR hlen;cases hd;refine dG rfl (by decide) ?_;refine cI rfl rfl ?_;exact⟨b,_,_,_,rfl,rfl,bz.of eb,aX (j:=0) rfl,A,s,n0,rfl,W,ok,cD,q⟩
 | 19,_,_=>
  have hlen:=gr.len (by decide);obtain⟨n0,n1,rfl,cD⟩:=IX fR hlen;cases hd
  iterate 2 refine dG rfl (by decide) ?_
  refine cI rfl rfl ?_;exact⟨b,_,_,_,rfl,rfl,bz.of eb,aX (j:=0) rfl,b,_,_,_,rfl,rfl,bz.of eb,aX (j:=1) rfl,A,s,n0,n1,rfl,W,ok,cD,q⟩
 | 20,_,_=>
  have hlen:=gr.len (by decide);obtain⟨n0,rfl,cD⟩:=o9 fR hlen;cases hd
  iterate 3 refine dG rfl (by decide) ?_
  refine cI rfl rfl ?_;exact⟨b,_,_,_,rfl,rfl,bz.of eb,aX (j:=0) rfl,A,s,n0,rfl,W,ok,cD,q⟩
 | 21,_,_=>
  have hlen:=gr.len (by decide);obtain⟨n0,rfl,cD⟩:=o9 fR hlen;cases hd
  iterate 4 refine dG rfl (by decide) ?_
  refine cI rfl rfl ?_;exact⟨b,_,_,_,rfl,rfl,bz.of eb,aX (j:=0) rfl,A,s,n0,rfl,W,ok,cD,q⟩
 | 22,_,_=>
  have hlen:=gr.len (by decide);obtain⟨n0,rfl,cD⟩:=o9 fR hlen;cases hd
  iterate 5 refine dG rfl (by decide) ?_
  refine cI rfl rfl ?_;exact⟨b,_,_,_,rfl,rfl,bz.of eb,aX (j:=0) rfl,A,s,n0,rfl,W,ok,cD,q⟩
 | 23,_,_=>
  have hlen:=gr.len (by decide);obtain⟨n0,rfl,cD⟩:=o9 fR hlen;cases hd
  iterate 6 refine dG rfl (by decide) ?_
  refine cI rfl rfl ?_;exact⟨b,_,_,_,rfl,rfl,bz.of eb,aX (j:=0) rfl,A,s,n0,rfl,W,ok,cD,q⟩
 | 24,_,_=>
  have hlen:=gr.len (by decide);obtain⟨n0,rfl,cD⟩:=o9 fR hlen;cases hd
  iterate 7 refine dG rfl (by decide) ?_
  refine cI rfl rfl ?_;exact⟨b,_,_,_,rfl,rfl,bz.of eb,aX (j:=0) rfl,A,s,n0,rfl,W,ok,cD,q⟩
 | 25,_,_=>
  have hlen:=gr.len (by decide);obtain⟨n0,rfl,cD⟩:=o9 fR hlen;cases hd
  iterate 8 refine dG rfl (by decide) ?_
  refine cI rfl rfl ?_;exact⟨b,_,_,_,rfl,rfl,bz.of eb,aX (j:=0) rfl,A,s,n0,rfl,W,ok,cD,q⟩
 | 26,_,_=>
  have hlen:=gr.len (by decide);have MZ:r=[]:=qt.mp hlen;subst MZ;cases hd
  iterate 9 refine dG rfl (by decide) ?_
  refine cI rfl rfl ?_;exact⟨A,s,rfl,W,ok,q⟩
 | 27,_,_=>
  have hlen:=gr.len (by decide);obtain⟨n0,rfl,cD⟩:=o9 fR hlen;cases hd
  iterate 10 refine dG rfl (by decide) ?_
  refine cI rfl rfl ?_;exact⟨b,_,_,_,rfl,rfl,bz.of eb,aX (j:=0) rfl,A,s,n0,rfl,W,ok,cD,q⟩
 | 28,_,_=>
  have hlen:=gr.len (by decide);obtain⟨n0,n1,rfl,cD⟩:=IX fR hlen;cases hd
  iterate 11 refine dG rfl (by decide) ?_
  refine cI rfl rfl ?_;exact⟨b,_,_,_,rfl,rfl,bz.of eb,aX (j:=0) rfl,b,_,_,_,rfl,rfl,bz.of eb,aX (j:=1) rfl,A,s,n0,n1,rfl,W,ok,cD,q⟩
 | 29,_,_=>
  have hlen:=gr.len (by decide);have MZ:r=[]:=qt.mp hlen;subst MZ;cases hd
  iterate 12 refine dG rfl (by decide) ?_
  refine cI rfl rfl ?_;exact⟨A,s,rfl,W,ok,q⟩
 | 30,_,_=>
  have hlen:=gr.len (by decide);obtain⟨n0,rfl,cD⟩:=o9 fR hlen;cases hd
  iterate 13 refine dG rfl (by decide) ?_
  exact⟨b,_,_,_,rfl,rfl,bz.of eb,aX (j:=0) rfl,A,s,n0,rfl,W,ok,cD,q⟩
inductive Jo (C:cw)(vs:List V)(H:Hp)(Q:VK)(E:XK):Prop|mk (A:Tag→Addr) (s:bE) (p:Nat) (r:List Int) (b:Addr) (c:Vbdlal.Call):vs=[.ref (A .st),.int p,.ref b]→Wd C A H s→aM s→H b=some (.lst (r.map V.int))→p<17→Shaped p r→pF p r=true→decodeAt p r=some c→c4 C A s H (Vbdlal.step s c) Q→Jo C vs H Q E
def LL (T:Txt K mg C):Callee P w K mg base 7 "change" ["store","place","given"] (Jo C):=by
 refine T.Lg.callee AB fun f0 cg A0 aY s0 H vs Q E hr h=>?_;have nd:=AB.nd;refine⟨_,(ae (aU (aD cG (pv 1) ax (aJ _)) (ai (au (aI (JR T) hr (aa (pv 0) (aa (bx aS (pv 2) ax) ag))))) aB)
  (ae (aU (aD cG (pv 1) ax (aJ _)) (ai (au (aI (zF T) hr (aa (pv 0) (aa (bx aS (pv 2) ax) (aa (bx aS (pv 2) ax) ag)))))) aB)
  (ae (aU (aD cG (pv 1) ax (aJ _)) (ai (au (aI (Di T) hr (aa (pv 0) (aa (bx aS (pv 2) ax) (aa (bx aS (pv 2) ax) ag)))))) aB)
  (ae (aU (aD cG (pv 1) (aK T.xC rfl) (aJ _)) (ai (au (aI (B5 T) hr (aa (pv 0) (aa (bx aS (pv 2) ax) (aa (ME T.Ko T.O3 (oN 2 rfl (pv 2)) (oN 3 rfl (pv 2))) ag)))))) aB)
  (ae (aU (aD cG (pv 1) ax (aJ _)) (ai (au (aI (Jq T) hr (aa (pv 0) (aa (bx aS (pv 2) ax) (aa (bx aS (pv 2) ax) (aa (bx aS (pv 2) ax) (aa (bx aS (pv 2) ax) ag)))))))) aB)
  (ae (aU (aD cG (pv 1) ax (aJ _)) (ai (au (aI (yp T) hr (aa (pv 0) (aa (bx aS (pv 2) ax) ag))))) aB)
  (ae (aU (aD cG (pv 1) ax (aJ _)) (ai (au (aI (vR T) hr (aa (pv 0) (aa (bx aS (pv 2) ax) ag))))) aB)
  (ae (aU (aD cG (pv 1) ax (aJ _)) (ai (au (aI (Oi T) hr (aa (pv 0) (aa (bx aS (pv 2) ax) (aa (bx aS (pv 2) ax) (aa (bx aS (pv 2) ax) ag))))))) aB)
  (ae (aU (aD cG (pv 1) ax (aJ _)) (ai (au (aI (JV T) hr (aa (pv 0) (aa (bx aS (pv 2) ax) (aa (bx aS (pv 2) ax) (aa (bx aS (pv 2) ax) ag))))))) aB)
  (ae (aU (aD cG (pv 1) ax (aJ _)) (ai (au (aI (Ru T) hr (aa (pv 0) (aa (bx aS (pv 2) ax) ag))))) aB)
  (ae (aU (aD cG (pv 1) ax (aJ _)) (ai (au (aI (Ja T) hr (aa (pv 0) (aa (bx aS (pv 2) ax) ag))))) aB)
  (ae (aU (aD cG (pv 1) ax (aJ _)) (ai (au (aI (Cy T) hr (aa (pv 0) (aa (bx aS (pv 2) ax) (aa (bx aS (pv 2) ax) (aa (bx aS (pv 2) ax) ag))))))) aB)
  (ae (aU (aD cG (pv 1) ax (aJ _)) (ai (au (aI (NF T) hr (aa (pv 0) (aa (bx aS (pv 2) ax) (aa (bx aS (pv 2) ax) (aa (bx aS (pv 2) ax) ag))))))) aB)
  (ae (aU (aD cG (pv 1) ax (aJ _)) (ai (au (aI (Og T) hr (aa (pv 0) (aa (bx aS (pv 2) ax) ag))))) aB)
  (ae (aU (aD cG (pv 1) ax (aJ _)) (ai (au (aI (Bw T) hr (aa (pv 0) (aa (bx aS (pv 2) ax) (aa (bx aS (pv 2) ax) ag)))))) aB)
  (ae (aU (aD cG (pv 1) ax (aJ _)) (ai (au (aI (Lr T) hr (aa (pv 0) (aa (bx aS (pv 2) ax) ag))))) aB)
  (ai (au (aI (Dr T) hr (aa (pv 0) (aa (bx aS (pv 2) ax) (aa (bx aS (pv 2) ax) (aa (bx aS (pv 2) ax) ag))))))))))))))))))))))),w16z ?_⟩;intros;obtain⟨A,s,p,r,b,c,rfl,W,ok,eb,Fo,gr,hg,hd,q⟩:=h
 have fR:yj (sU.getD p []) r=true:=by unfold pF at hg;rw[cy]at hg;exact hg.1
 match p,Fo with
 | 0,_=>
  have hlen:=gr.len (by decide);obtain⟨n0,rfl,cD⟩:=o9 fR hlen;cases hd;refine cI rfl rfl ?_;exact⟨b,_,_,_,rfl,rfl,bz.of eb,aX (j:=0) rfl,A,s,n0,rfl,W,ok,cD,q⟩
 | 1,_=>
  have hlen:=gr.len (by decide);obtain⟨n0,n1,rfl,cD⟩:=IX fR hlen;cases hd;refine dG rfl (by decide) ?_;refine cI rfl rfl ?_;exact⟨b,_,_,_,rfl,rfl,bz.of eb,aX (j:=0) rfl,b,_,_,_,rfl,rfl,bz.of eb,aX (j:=1) rfl,A,s,n0,n1,rfl,W,ok,cD,q⟩
 | 2,_=>
  have hlen:=gr.len (by decide);obtain⟨n0,n1,rfl,cD⟩:=IX fR hlen;cases hd
  iterate 2 refine dG rfl (by decide) ?_
  refine cI rfl rfl ?_;exact⟨b,_,_,_,rfl,rfl,bz.of eb,aX (j:=0) rfl,b,_,_,_,rfl,rfl,bz.of eb,aX (j:=1) rfl,A,s,n0,n1,rfl,W,ok,cD,q⟩
 | 3,_=>
  obtain⟨x,ps,rfl⟩:=gr.WR rfl;have hx:jv iB x=true:=by
   have h:(jv iB x&&true)=true:=fR;simp_all
  obtain⟨n0,rfl⟩:=je hx;have RH:goodParts ps=true:=by unfold pF at hg;rw[cy]at hg;exact hg.2
  have hd:(if(ps.length:Int)=(ps.length:Int)then some (recipe (n0:Int) ps)else none)=some c:=hd;rw[aw rfl]at hd;cases hd
  iterate 3 refine dG rfl (by decide) ?_
  refine cI rfl rfl ?_;refine⟨b,_,_,_,rfl,rfl,bz.of eb,aX (j:=0) rfl,?_⟩;refine⟨b,_,rfl,bz.of eb,fun D1 Ff=>?_⟩;have e1:bj ((((n0:Int)::(ps.length:Int)::ps).map V.int).drop 2)=(bj ps).map V.int:=kL V.int ps;have e2:bj ((((n0:Int)::(ps.length:Int)::ps).map V.int).drop 3)=(bj (ps.drop 1)).map V.int:=by
   rw[←kL,List.map_drop];rfl
  rw[e1];have k1:ao C H (upd H D1 (.lst ((bj ps).map V.int))):=ao.new Ff;have w1:upd H D1 (.lst ((bj ps).map V.int)) D1=some (.lst ((bj ps).map V.int)):=af;have Qm:=k1.at_ _ _ eb trivial;generalize upd H D1 (.lst ((bj ps).map V.int))=H1 at *;refine⟨b,_,rfl,bz.of Qm,fun D2 lr=>?_⟩;rw[e2];have k2:ao C H1 (upd H1 D2 (.lst ((bj (ps.drop 1)).map V.int))):=ao.new lr;have w2:upd H1 D2 (.lst ((bj (ps.drop 1)).map V.int)) D2=some (.lst ((bj (ps.drop 1)).map V.int)):=af;have w12:=k2.at_ _ _ w1 trivial;generalize upd H1 D2 (.lst ((bj (ps.drop 1)).map V.int))=H2 at *;refine⟨D1,D2,_,_,rfl,bz.of w12,bz.of w2,fun D3 Ts H3 wx sm eD hl hp=>?_⟩;have k3:ao C H H3:=(k1.trans k2).trans (ao.same sm);have Xp:ps.length%2=0:=by
   unfold goodParts at RH;lia
  have Yi:ps.length≤32:=by
   unfold goodParts at RH;grind
  have hlp:(pairs ps).length=(bj ps).length:=by
   have:=congrArg List.length (mZ ps Xp);simpa
  have QJ:∀x∈bj ps,0≤x:=fun x hx=>by
   rw[lY ps Yi Xp,cy]at RH;have:=bW (dr.mp RH.1 x hx);lia
  have hge2:∀x∈bj (ps.drop 1),0≤x:=fun x hx=>by
   rw[lY ps Yi Xp,cy,cy]at RH;have:=bW (dr.mp RH.2.1 x hx);lia
  have hTl:Ts.length=(pairs ps).length:=by (clear e2 e1;grind[fE])
  refine⟨A,s,n0,D3,ps,H,rfl,W,ok,k3,(k1.trans k2).back wx,?_,⟨Ts.map V.ref,eD,kN (by rw[ay,hTl]) fun i y q hy hq=>?_⟩,q⟩;rw[cy];exact⟨hx,RH⟩;rw[cO]at hy;cases eT:Ts[i]? with
  | none=>rw[eT]at hy;cases hy
  | some T0=>
   rw[eT]at hy;have hy:V.ref T0=y:=cV hy;subst hy;obtain⟨u,v,XE,Yq,ht⟩:=hp i T0 eT;obtain⟨x,y,M9,Po,rfl⟩:=z4 ps i q hq;rw[cO,M9]at XE;rw[cO,Po]at Yq;cases XE;cases Yq;refine⟨T0,rfl,?_⟩;rw[ht];have a1:=QJ x (dJ M9);have a2:=hge2 y (dJ Po);grind
 | 4,_=>
  have hlen:=gr.len (by decide);obtain⟨n0,n1,n2,n3,rfl,cD⟩:=WY fR hlen;cases hd
  iterate 4 refine dG rfl (by decide) ?_
  refine cI rfl rfl ?_;exact⟨b,_,_,_,rfl,rfl,bz.of eb,aX (j:=0) rfl,b,_,_,_,rfl,rfl,bz.of eb,aX (j:=1) rfl,b,_,_,_,rfl,rfl,bz.of eb,aX (j:=2) rfl,b,_,_,_,rfl,rfl,bz.of eb,aX (j:=3) rfl,A,s,n0,n1,n2,n3,rfl,W,ok,cD,q⟩
 | 5,_=>
  have hlen:=gr.len (by decide);obtain⟨n0,rfl,cD⟩:=o9 fR hlen;cases hd
  iterate 5 refine dG rfl (by decide) ?_
  refine cI rfl rfl ?_;exact⟨b,_,_,_,rfl,rfl,bz.of eb,aX (j:=0) rfl,A,s,n0,rfl,W,ok,cD,q⟩
 | 6,_=>
  have hlen:=gr.len (by decide);obtain⟨n0,rfl,cD⟩:=o9 fR hlen;cases hd
  iterate 6 refine dG rfl (by decide) ?_
  refine cI rfl rfl ?_;exact⟨b,_,_,_,rfl,rfl,bz.of eb,aX (j:=0) rfl,A,s,n0,rfl,W,ok,cD,q⟩
 | 7,_=>
  have hlen:=gr.len (by decide);obtain⟨n0,n1,n2,rfl,cD⟩:=K2 fR hlen;cases hd
  iterate 7 refine dG rfl (by decide) ?_
  refine cI rfl rfl ?_;exact⟨b,_,_,_,rfl,rfl,bz.of eb,aX (j:=0) rfl,b,_,_,_,rfl,rfl,bz.of eb,aX (j:=1) rfl,b,_,_,_,rfl,rfl,bz.of eb,aX (j:=2) rfl,A,s,n0,n1,n2,rfl,W,ok,cD,q⟩
 | 8,_=>
  have hlen:=gr.len (by decide);obtain⟨n0,n1,n2,rfl,cD⟩:=K2 fR hlen;cases hd
  iterate 8 refine dG rfl (by decide) ?_
  refine cI rfl rfl ?_;exact⟨b,_,_,_,rfl,rfl,bz.of eb,aX (j:=0) rfl,b,_,_,_,rfl,rfl,bz.of eb,aX (j:=1) rfl,b,_,_,_,rfl,rfl,bz.of eb,aX (j:=2) rfl,A,s,n0,n1,n2,rfl,W,ok,cD,q⟩
 | 9,_=>
  have hlen:=gr.len (by decide);obtain⟨n0,rfl,cD⟩:=o9 fR hlen;cases hd
  iterate 9 refine dG rfl (by decide) ?_
  refine cI rfl rfl ?_;exact⟨b,_,_,_,rfl,rfl,bz.of eb,aX (j:=0) rfl,A,s,n0,rfl,W,ok,cD,q⟩
 | 10,_=>
  have hlen:=gr.len (by decide);obtain⟨n0,rfl,cD⟩:=o9 fR hlen;cases hd
  iterate 10 refine dG rfl (by decide) ?_
  refine cI rfl rfl ?_;exact⟨b,_,_,_,rfl,rfl,bz.of eb,aX (j:=0) rfl,A,s,n0,rfl,W,ok,cD,q⟩
 | 11,_=>
  have hlen:=gr.len (by decide);obtain⟨n0,n1,n2,rfl,cD⟩:=K2 fR hlen;cases hd
  iterate 11 refine dG rfl (by decide) ?_
  refine cI rfl rfl ?_;exact⟨b,_,_,_,rfl,rfl,bz.of eb,aX (j:=0) rfl,b,_,_,_,rfl,rfl,bz.of eb,aX (j:=1) rfl,b,_,_,_,rfl,rfl,bz.of eb,aX (j:=2) rfl,A,s,n0,n1,n2,rfl,W,ok,cD,q⟩
 | 12,_=>
  have hlen:=gr.len (by decide);obtain⟨n0,n1,n2,rfl,cD⟩:=K2 fR hlen;cases hd
  iterate 12 refine dG rfl (by decide) ?_
  refine cI rfl rfl ?_;exact⟨b,_,_,_,rfl,rfl,bz.of eb,aX (j:=0) rfl,b,_,_,_,rfl,rfl,bz.of eb,aX (j:=1) rfl,b,_,_,_,rfl,rfl,bz.of eb,aX (j:=2) rfl,A,s,n0,n1,n2,rfl,W,ok,cD,q⟩
 | 13,_=>
  have hlen:=gr.len (by decide);obtain⟨n0,rfl,cD⟩:=o9 fR hlen;cases hd
  iterate 13 refine dG rfl (by decide) ?_
  refine cI rfl rfl ?_;exact⟨b,_,_,_,rfl,rfl,bz.of eb,aX (j:=0) rfl,A,s,n0,rfl,W,ok,cD,q⟩
 | 14,_=>
  have hlen:=gr.len (by decide);obtain⟨n0,n1,rfl,cD⟩:=IX fR hlen;cases hd
  iterate 14 refine dG rfl (by decide) ?_
  refine cI rfl rfl ?_;exact⟨b,_,_,_,rfl,rfl,bz.of eb,aX (j:=0) rfl,b,_,_,_,rfl,rfl,bz.of eb,aX (j:=1) rfl,A,s,n0,n1,rfl,W,ok,cD,q⟩
 | 15,_=>
  have hlen:=gr.len (by decide);obtain⟨n0,rfl,cD⟩:=o9 fR hlen;cases hd
  iterate 15 refine dG rfl (by decide) ?_
  refine cI rfl rfl ?_;exact⟨b,_,_,_,rfl,rfl,bz.of eb,aX (j:=0) rfl,A,s,n0,rfl,W,ok,cD,q⟩
 | 16,_=>
  have hlen:=gr.len (by decide);obtain⟨n0,n1,n2,rfl,cD⟩:=K2 fR hlen;cases hd;have hde:decide ((n1:Int)≤(n2:Int))=true:=by unfold pF at hg;rw[cy]at hg;exact hg.2
  have cD:(jv iB n0&&(jv Ei n1&&(jv Ei n2&&decide ((n1:Int)≤(n2:Int)))))=true:=by simp_all
  iterate 16 refine dG rfl (by decide) ?_
  exact⟨b,_,_,_,rfl,rfl,bz.of eb,aX (j:=0) rfl,b,_,_,_,rfl,rfl,bz.of eb,aX (j:=1) rfl,b,_,_,_,rfl,rfl,bz.of eb,aX (j:=2) rfl,A,s,n0,n1,n2,rfl,W,ok,cD,q⟩
 | n+17,h=>exact absurd h (by lia)
end
section
variable{s:bE}{p:Nat}{r:List Int}{c:Vbdlal.Call}
def Wr (s:bE)(p:Nat):Prop:=∀r,Shaped p r→∃c,decodeAt p r=some c∧(pF p r=false→Vbdlal.step s c=(s,[-1]))∧(17≤p→(Vbdlal.step s c).1=s)
def Y1 {f:Int→Vbdlal.Call}{A:Int→Bool}(a:∀x,decodeAt p [x]=some (f x))(b:∀x,pF p [x]=((A x&&true)&&true))(c:∀x,A x=false→Vbdlal.step s (f x)=(s,[-1]))(e:∀x,17≤p→(Vbdlal.step s (f x)).1=s)(d:p≠3∧(sU.getD p []).length=1:=by decide):Wr s p:=fun r gr=>
 match r,(gr.len d.1).trans d.2 with
 | [x],_=>⟨_,a x,fun h=>c x (by rwa[b,gY,gY]at h),e x⟩
def Y2 {f:Int→Int→Vbdlal.Call}{A B:Int→Bool}(a:∀x y,decodeAt p [x,y]=some (f x y))(b:∀x y,pF p [x,y]=((A x&&(B y&&true))&&true))(c:∀x y,(A x&&B y)=false→Vbdlal.step s (f x y)=(s,[-1]))(e:∀x y,17≤p→(Vbdlal.step s (f x y)).1=s)(d:p≠3∧(sU.getD p []).length=2:=by decide):Wr s p:=fun r gr=>
 match r,(gr.len d.1).trans d.2 with
 | [x,y],_=>⟨_,a x y,fun h=>c x y (by rwa[b,gY,gY]at h),e x y⟩
def Y3 {f:Int→Int→Int→Vbdlal.Call}{A B C:Int→Bool}{D:Int→Int→Bool}(a:∀x y z,decodeAt p [x,y,z]=some (f x y z))(b:∀x y z,pF p [x,y,z]=((A x&&(B y&&(C z&&true)))&&D y z))(c:∀x y z,((A x&&(B y&&C z))&&D y z)=false→Vbdlal.step s (f x y z)=(s,[-1]))(d:p≠3∧(sU.getD p []).length=3∧p<17:=by decide):Wr s p:=fun r gr=>
 match r,(gr.len d.1).trans d.2.1 with
 | [x,y,z],_=>⟨_,a x y z,fun h=>c x y z (by rwa[b,gY]at h),fun h=>by lia⟩
def Wu:∀p<31,Wr s p
 | 0,_|5,_|6,_|9,_|10,_|13,_|15,_=>Y1 (fun _=>rfl) (fun _=>rfl) (fun _ h=>aw (by exact h)) fun _ h=>absurd h (by decide)
 | 1,_|2,_|14,_=>Y2 (fun _ _=>rfl) (fun _ _=>rfl) (fun _ _ h=>aw (by exact h)) fun _ _ h=>absurd h (by decide)
 | 7,_|8,_|11,_|12,_=>Y3 (D:=fun _ _=>true) (fun _ _ _=>rfl) (fun _ _ _=>rfl) fun _ _ _ h=>aw (by rw[gY]at h;exact h)
 | 4,_=>fun r gr=>
  match r,gr.len (by decide)with
  | [x0,x1,x2,x3],_=>⟨_,rfl,fun h=>by
   have h:((_&&(_&&(_&&(_&&true))))&&true)=false:=h;rw[gY,gY]at h;exact aw (by exact h),fun h=>absurd h (by decide)⟩
 | 18,_|20,_|21,_|22,_|23,_|24,_|25,_|27,_|30,_=>Y1 (fun _=>rfl) (fun _=>rfl) (fun _ h=>congrArg (Prod.mk s) (aw (by exact h))) fun _ _=>rfl
 | 17,_|19,_|28,_=>Y2 (fun _ _=>rfl) (fun _ _=>rfl) (fun _ _ h=>congrArg (Prod.mk s) (aw (by exact h))) fun _ _ _=>rfl
 | 3,_=>fun r gr=>by
  obtain⟨x,ps,rfl⟩:=gr.WR rfl;refine⟨.recipe x ps,aw rfl,fun h=>?_,fun h=>absurd h (by decide)⟩;have h:((_&&true)&&goodParts ps)=false:=h;rw[gY]at h;exact aw h
 | 16,_=>Y3 (fun _ _ _=>rfl) (D:=fun y z=>decide (y≤z)) (fun _ _ _=>rfl) fun _ _ _ h=>by rw[Lk,Lk]at h;exact aw (by exact h)
 | 26,_|29,_=>fun r gr=>by
  cases qt.mp (gr.len (by decide));exact⟨_,rfl,nofun,fun _=>rfl⟩
 | n+31,h=>by lia
def LS (gr:Shaped p r)(hp:p<31)(hg:pF p r=false)(hd:decodeAt p r=some c):Vbdlal.step s c=(s,[-1]):=by
 obtain⟨d,h,a,_⟩:=Wu (s:=s) p hp r gr;cases h.symm.trans hd;exact a hg
def look_same (gr:Shaped p r)(Vl:17≤p)(hp:p<31)(hd:decodeAt p r=some c):Vbdlal.step s c=(s,(Vbdlal.step s c).2):=by
 obtain⟨d,h,_,a⟩:=Wu (s:=s) p hp r gr;cases h.symm.trans hd;exact Prod.ext (a Vl) rfl
def IL (gr:Shaped p r)(hp:p<31):∃c,decodeAt p r=some c:=(Wu (s:=Vbdlal.start) p hp r gr).imp fun _ h=>h.1
def D8 {ch:List Int}(h:Chunk ch):∃(p:Nat) (r:List Int),ch=(p:Int)::r∧p<31∧Shaped p r:=by
 obtain⟨p,args,e,hp,ha,h3⟩:=h.QV;refine⟨p,args,e,by lia,⟨fun hn=>?_,fun h=>?_⟩⟩;rw[ha hn,xk p (by lia)];grind
def KU {ch:List Int}(h:Chunk ch){p:Nat}{r:List Int}(e:ch=(p:Int)::r){c:Vbdlal.Call}(hd:decodeAt p r=some c):stepRaw s ch=Vbdlal.step s c:=by
 unfold stepRaw Vbdlal.decode;have hb:(ch.all fun x=>decide (-BOUND≤x∧x<BOUND))=true:=dr.mpr fun x hx=>iy (by
  have:=h.bound x hx;unfold BOUND;(simp_all;omega))
 (split<;>simp_all)
end
section
variable{P:Program}{w:PySem.World}{K:Frag}{mg:Str→Option Value}{base:Heap}{C:cw}{tR:List (Str×Addr)}{aA:Addr}{as:List Addr}
def c4.later {A:Tag→Addr}{s:bE}{H H2:Hp}{r:bE×List Int}{Q:VK}(h:c4 C A s H r Q)(k:ao C H H2):c4 C A s H2 r Q:=fun A' H' D hf m W' e=>
 h A' H' D (fun o eo=>by obtain⟨o',e'⟩:=k.obj eo;exact hf o' e') ((Moved.aF k).trans m) W' e
inductive xr (C:cw)(vs:List V)(H:Hp)(Q:VK)(E:XK):Prop|mk (A:Tag→Addr) (s:bE) (ch:List Int) (b:Addr):vs=[.ref (A .st),.ref b]→Wd C A H s→aM s→Chunk ch→H b=some (.lst (ch.map V.int))→c4 C A s H (stepRaw s ch) Q→xr C vs H Q E
def zR (T:Txt K mg C)(S:C_ P w K mg tR aA as):Callee P w K mg base 8 "answer_call" ["store","call"] (xr C):=by
 refine T.zy.callee nj fun f0 cg A0 aY s0 H vs Q E hr h=>?_;have nd:=nj.nd;refine⟨_,(ae (aU (jc (bV (aI (lh T S) hr (aa (pv 1) ag)) (fun _=>rfl))) (ai (au (a0 (aa (aK T.yu rfl) ag)))) aB)
  (ae (aU (aD sg (bx aS (pv 1) ax) (aK T.vF rfl) (aJ _)) (ai (au (aI (LL T) hr (aa (pv 0) (aa (bx aS (pv 1) ax) (aa (ki oQ (pv 1) (lL ax) rQ) ag)))))) aB)
  (ai (au (aI (Q4 T) hr (aa (pv 0) (aa (bx aS (pv 1) ax) (aa (ki oQ (pv 1) (lL ax) rQ) ag)))))))),w2z ?_⟩;intros;obtain⟨A,s,ch,b,rfl,W,ok,CO,eb,q⟩:=h
 obtain⟨p,r,e,hp,gr⟩:=D8 CO;obtain⟨c,hd⟩:=IL gr hp;rw[KU CO e hd]at q;subst e;refine⟨b,p,r,rfl,eb,hp,fun h=>by rw[gr.len (by lia),h];rfl,fun H1 k1=>?_⟩;refine⟨_,rfl,?_⟩;cases hg:pF p r with
 | false=>
  rw[LS gr hp hg hd]at q;exact cZ ⟨aH,fun D hD=>q.no W k1 hD⟩
 | true=>
  refine dk ?_;have Qm:=k1.at_ _ _ eb trivial;have ec:ur (((p:Int)::r).map V.int) (some 1) none=r.map V.int:=xi _ 1;refine⟨b,_,_,_,rfl,rfl,bz.of Qm,R6,_,_,rfl,rfl,_,rfl,?_⟩;refine b0 (fun h=>?_) fun h=>?_
  ·have h:=bW h;refine⟨b,_,_,_,rfl,rfl,bz.of Qm,R6,1,rfl,b,_,rfl,bz.of Qm,fun D2 lr=>?_⟩;rw[ec];have k2:=k1.trans (ao.new (C:=C) (p:=D2) (o:= .lst (r.map V.int)) lr);exact⟨A,s,p,r,D2,c,rfl,W.aF k2,ok,af,by lia,gr,hg,hd,q.later k2⟩
  have h:=o6 h;rw[look_same gr (by lia) hp hd]at q;refine⟨b,_,_,_,rfl,rfl,bz.of Qm,R6,1,rfl,b,_,rfl,bz.of Qm,fun D2 lr=>?_⟩;rw[ec];have k2:=k1.trans (ao.new (C:=C) (p:=D2) (o:= .lst (r.map V.int)) lr);exact⟨A,s,p,r,D2,c,rfl,W.aF k2,ok,af,by lia,hp,gr,hg,hd,(q.later k2).tells (W.aF k2)⟩
end
def pd (s:bE)(l:List (List Int)):bE:=l.foldl (fun s ch=>(stepRaw s ch).1) s
theorem ya:∀(l:List (List Int)) (s:bE) (ch:List Int),answersFrom s (l++[ch])=answersFrom s l++[(stepRaw (pd s l) ch).2]
 | [],s,ch=>rfl
 | a::l,s,ch=>by
  show(stepRaw s a).2::answersFrom (stepRaw s a).1 (l++[ch])=_;rw[ya l _ ch];rfl
def rG (l:List (List Int))(s:bE)(ch:List Int):pd s (l++[ch])=(stepRaw (pd s l) ch).1:=by simp[pd]
def Rt {s:bE}(ok:aM s)(ch:List Int):aM (stepRaw s ch).1:=by (simp[stepRaw,Ny];(split<;>grind[stepRaw,Ny]))
def Il {s:bE}(ok:aM s)(ch:List Int):(stepRaw s ch).2.length+3*dq (stepRaw s ch).1≤3*dq s+2000:=by
 unfold stepRaw;cases Vbdlal.decode ch with
 | none=>show 1+3*dq s≤_;lia
 | some c=>exact LF ok c
theorem Ao (l:List (List Int))(a:List Int):PyFlat.told (l++[a])=PyFlat.told l++(a.length:Int)::a:=by
 unfold PyFlat.told;simp
def Gv (l:List (List Int)):aM (pd Vbdlal.start l):=by
 have:∀(l:List (List Int)) (s:bE),aM s→aM (pd s l):=fun l=>by
  induction l with
  | nil=>intro s h;exact h
  | cons a l ih=>intro s h;exact ih _ (Rt h a)
 exact this l _ Mt
theorem HC:∀(n:Nat) (l:List (List Int)),l.length=n→(PyFlat.told (answersFrom Vbdlal.start l)).length+3*dq (pd Vbdlal.start l)≤2001*n
 | 0,l,h=>by
  have:l=[]:=qt.mp h;subst this;show 0+3*dq Vbdlal.start≤_;have:dq Vbdlal.start=0:=rfl;exact Nat.le_refl _
 | n+1,l,h=>by
  have eP:l≠[]:=fun z=>by rw[z]at h;cases h
  obtain⟨m,a,rfl⟩:∃m a,l=m++[a]:=⟨l.dropLast,l.getLast eP,(Pl eP).symm⟩;rw[dv]at h;have ih:=HC n m (by simp at h;exact h);have h2:=Il (Gv m) a;rw[ya,Ao,rG,dv,cH];clear h;lia
def HF (pre ch post:List Int):ur ((pre++ch++post).map V.int) (some (pre.length:Int)) (some ((pre.length:Int)+(ch.length:Int)))=ch.map V.int:=by
 show ur _ _ (some ((pre.length+ch.length:Nat):Int))=_;unfold ur;rw[HT.Hy,HT.Hy];simp
section
variable{P:Program}{w:PySem.World}{K:Frag}{mg:Str→Option Value}{base:Heap}{C:cw}{tR:List (Str×Addr)}{aA:Addr}{as:List Addr}
def MM {H H':Hp}{c:Addr}{xs:List V}(h:bz K H c xs)(k:ao C H H'):bz K H' c xs:=by
 rcases h with(e|⟨o,e⟩)|e;exact .inl (.inl (k.at_ _ _ e trivial));exact .inl (.inr ⟨o,k.at_ _ _ e trivial⟩);exact .inr e
def ao.moved {A A':Tag→Addr}{s s':bE}{H H1 H':Hp}(k:ao C H H1)(m:Moved C A s H1 A' s' H')(t:iS C H')(Tj:∀b o,H b=some o→¬cR A s b):ao C H H'∧∀b o,H b=some o→¬cR A' s' b:=by
 refine⟨⟨fun b o e n=>m.keep b o (k.at_ b o e n) n (Tj b o e),fun b ps e=>?_,fun _=>t⟩,fun b o e ⟨t,ht,z⟩=>?_⟩
 ·obtain⟨Su,e'⟩:=k.tb b ps e;exact m.tb b Su e'
 obtain⟨o',e'⟩:=k.obj e;rcases m.own t ht with y|y;simp_all;simp_all
structure Run (C:cw)(H:Hp)(D:Addr)(fI:List (List Int))(i:Nat)(A:Tag→Addr)(H':Hp):Prop where
 k:ao C H H'
 w:Wd C A H' (pd Vbdlal.start (fI.take i))
 no:∀b o,H b=some o→¬cR A (pd Vbdlal.start (fI.take i)) b
 d:H' D=some (.lst ((PyFlat.told (answersFrom Vbdlal.start (fI.take i))).map V.int))
 nd:¬cR A (pd Vbdlal.start (fI.take i)) D
inductive xb (K:Frag)(C:cw)(vs:List V)(H:Hp)(Q:VK)(E:XK):Prop|mk (c:Addr) (cs:List Int):vs=[.ref c]→bz K H c (cs.map V.int)→iS C H→answers_asked cs=true→(∀D H',H D=none→ao C H H'→H' D=some (.lst ((PyVbdlal.answers cs).map V.int))→Q (.ref D) H')→xb K C vs H Q E
def IS (T:Txt K mg C)(S:C_ P w K mg tR aA as):Callee P w K mg base 9 "answers" ["calls"] (xb K C):=by
 refine T.IQ.callee yd fun f0 cg A0 aY s0 H vs Q E hr h=>?_;have hu:=bt hr;have nd:=yd.nd;refine⟨_,(ae (aN (i:=1) nd (Iy (cn T) hr (by rfl)))
  (ae (aN (i:=2) nd (a0 ag))
  (ae (aN (i:=3) nd ax)
  (ae (CV dj (aD pP (pv 3) (aW cJ (by rfl) T.i_ gb (aa (pv 0) ag)) (aJ _)) (ae (aN (i:=4) nd (aI (zw T S) hr (aa (pv 0) (aa (pv 3) ag))))
  (ae (aU (PW.pt (Aa (aD cG (pv 4) ax (aJ _)) (uE (aD p8 (cx fP (pv 3) (pv 4)) (aW cJ (by rfl) T.i_ gb (aa (pv 0) ag)) (aJ _))))) (ai (au (cx og (pv 2) (a0 (aa ax (aa (aK T.B8 rfl) ag)))))) aB)
  (ae (aN (i:=5) nd (aI (zR T S) hr (aa (pv 1) (aa (ki oQ (pv 0) (lL (pv 3)) (lL (cx fP (pv 3) (pv 4)))) ag))))
  (ae (dR (yh nJ F8 J_ zS (pv 2) (aa (aW cJ (by rfl) T.i_ gb (aa (pv 5) ag)) ag)))
  (ae (dR (yh nJ q0 yR oC (pv 2) (aa (pv 5) ag)))
  (ai (Cr (i:=3) nd rfl (Or.inl rfl) (pv 4) Bh))))))))
  (ai (au (pv 2))))))),w4z ?_⟩;intros;obtain⟨c,cs,rfl,ec,tabs,Ro,q⟩:=h
 obtain⟨fI,rfl,_,h400,CO,hans⟩:=parse Ro;rw[hans]at q;intro x dx hx M6 eP;refine⟨x,dx,rfl,af,fun ad ld sd th H1 pX FK M4 Ej U3 d1 d2 d3 d4 d5 d6 ex ea el es et=>⟨rfl,?_⟩⟩;have k1:ao C H H1:=pX H ((ao.new (C:=C) (p:=dx) (o:= .own x) M6).trans (ao.new (by rw[ah (aR eP)];exact hx))) hx;have W1:=DN (k1.tabs tabs) ex ea el es et d1 d2 d4;refine⟨by show 0≤sizeLine;decide,fun D hD=>?_⟩;have K_:=k1.back hD;have k2:=k1.trans (ao.new (C:=C) (p:=D) (o:= .lst []) hD);have hnone:∀t,bT Vbdlal.start t→H (Bv x ad ld sd th t)=none:=fun t ht=>by
  have up:∀z,upd (upd H dx (.own x)) x (.ins C.pH dx []) z=none→H z=none:=fun z hz=>(aO (aO hz).1).1;cases t with
  | st=>exact hx
  | ad=>exact up _ FK
  | ld=>exact up _ M4
  | sd=>exact up _ Ej
  | th=>exact up _ U3
  | _=>obtain⟨y,hy,_⟩:=ht;exact absurd hy (by simp[Vbdlal.start])
 have r0:Run C H D fI 0 (Bv x ad ld sd th) (upd H1 D (.lst [])):=by
  refine⟨k2,W1.aF (ao.new hD),fun b o e ⟨t,ht,z⟩=>?_,af,W1.bR hD⟩;rw[z,hnone t ht]at e;cases e
 refine⟨fun m σ H'=>∃i A,m=fI.length-i∧i≤fI.length∧(∃v4 v5,σ=[some (.ref c),some (.ref (A .st)),some (.ref D),some (iV (fI.take i).flatten.length),v4,v5])∧Run C H D fI i A H',⟨fI.length,0,Bv x ad ld sd th,by rfl,fJ _,⟨_,_,rfl⟩,r0⟩,?_⟩;rintro m σ H2 ⟨i,A,rfl,hi,⟨v4,v5,rfl⟩,rn⟩;have Sy:=MM ec rn.k;refine⟨c,_,rfl,.inl Sy,_,_,rfl,rfl,_,rfl,?_⟩;rw[ay];have WT:∀j,j≤fI.length→fI.flatten.length=(fI.take j).flatten.length+(fI.drop j).flatten.length:=fun j _=>by grind[take_append_drop]
 by_cases lu:i<fI.length
 ·have ej:fI[i]? =some fI[i]:=by simp[lu]
  have hc:=CO fI[i] (fL lu);have hc1:1≤fI[i].length:=by
   obtain⟨p,args,e,_⟩:=hc.QV;rw[e];simp
  have IW:fI.take (i+1)=fI.take i++[fI[i]]:=by rw[gx,ej];rfl
  have SA:fI.flatten=(fI.take i).flatten++fI[i]++(fI.drop (i+1)).flatten:=by grind[take_append_drop]
  have hlen:=HC i (fI.take i) (by rw[lz];lia);have UC:=Il (Gv (fI.take i)) fI[i];have EW:(fI.take i).flatten.length+fI[i].length≤fI.flatten.length:=by rw[SA,dv,dv];lia
  refine b0 (fun _=>?_) fun z=>absurd (iy (by clear z;lia)) z;rw[SA]at Sy;have hfl1:((fI.take (i+1)).flatten.length:Int)=((fI.take i).flatten.length:Int)+(fI[i].length:Int):=by grind
  refine⟨fun σ H'=>∃A',(∃v4 v5,σ=[some (.ref c),some (.ref (A' .st)),some (.ref D),some (iV (fI.take (i+1)).flatten.length),v4,v5])∧Run C H D fI (i+1) A' H',fun σ' H' ⟨A',h1,h2⟩=>⟨fI.length-(i+1),by (clear hfl1 EW UC hlen hc1 hu;grind),i+1,A',rfl,lu,h1,h2⟩,?_⟩;have vV:∀(A':Tag→Addr) (σ:L2.St) (H':Hp),(∃v4 v5,σ=[some (.ref c),some (.ref (A' .st)),some (.ref D),some (.int (((fI.take i).flatten.length:Int)+(fI[i].length:Int))),v4,v5])→ao C H H'→Wd C A' H' (stepRaw (pd Vbdlal.start (fI.take i)) fI[i]).1→(∀b o,H b=some o→¬cR A' (stepRaw (pd Vbdlal.start (fI.take i)) fI[i]).1 b)→
    H' D=some (.lst ((PyFlat.told (answersFrom Vbdlal.start (fI.take i))++((stepRaw (pd Vbdlal.start (fI.take i)) fI[i]).2.length:Int)::(stepRaw (pd Vbdlal.start (fI.take i)) fI[i]).2).map V.int))→¬cR A' (stepRaw (pd Vbdlal.start (fI.take i)) fI[i]).1 D→
    (∃v4 v5,σ=[some (.ref c),some (.ref (A' .st)),some (.ref D),some (iV (fI.take (i+1)).flatten.length),v4,v5])∧Run C H D fI (i+1) A' H':=by
   intro A' σ H' p1 p2 p3 p4 p5 p6;refine⟨?_,⟨p2,?_,?_,?_,?_⟩⟩;grind;rw[IW,rG];exact p3;rw[IW,rG];exact p4;grind[ya,Ao];rw[IW,rG];exact p6
  have Qr:=Gv (fI.take i);have W2:=rn.w;have no2:=rn.no;have d2':=rn.d;have QZ:=rn.nd;have k2':=rn.k;clear rn hfl1 IW;generalize hS:pd Vbdlal.start (fI.take i)=s at *;generalize Mw:(fI.take i).flatten=pre at *;generalize(fI.drop (i+1)).flatten=post at *;generalize PyFlat.told (answersFrom Vbdlal.start (fI.take i))=acc at *;generalize fI[i]=ch at *;have h4:acc.length≤2001*400:=by (clear lu;lia)
  have hphi:3*dq s≤2001*400:=by (clear lu;lia)
  have Gk:(stepRaw s ch).2.length≤2001*400+2000:=by lia
  refine⟨c,pre,ch,post,rfl,Sy,hc,?_⟩;refine⟨rfl,_,rfl,?_⟩;refine b0 (fun z=>?_) fun _=>?_;exfalso;lia;refine⟨_,_,rfl,rfl,c,_,rfl,.inl Sy,_,_,rfl,rfl,_,rfl,?_⟩;refine b0 (fun z=>?_) fun _=>?_;exfalso;grind -order;refine⟨_,rfl,_,_,rfl,rfl,_,rfl,c,_,rfl,Sy,fun B hB=>?_⟩;have S5:ur ((pre++ch++post).map V.int) (some (pre.length:Int)) (some ((fun i j:Int=>V.int (i+j)) (pre.length:Int) (ch.length:Int) |> fun v=>match v with | .int z=>z|_=>0))=ch.map V.int:=HF pre ch post;have S5:ur ((pre++ch++post).map V.int) (some (pre.length:Int)) (some ((pre.length:Int)+(ch.length:Int)))=ch.map V.int:=HF pre ch post;rw[S5];have kB:ao C H2 (upd H2 B (.lst (ch.map V.int))):=ao.new hB;have eB:upd H2 B (.lst (ch.map V.int)) B=some (.lst (ch.map V.int)):=af;have eDB:=kB.at_ _ _ d2' trivial;have k3:=k2'.trans kB;have W3:=W2.aF kB;generalize upd H2 B (.lst (ch.map V.int))=H3 at *;refine⟨A,s,ch,B,rfl,W3,Qr,hc,eB,fun A' H4 D2 hf m W4 e4=>?_⟩;have Sr:D2≠D:=fun z=>by grind
  obtain⟨k4,no4⟩:=k3.moved m W4.tabs no2;obtain⟨Qw,XW⟩:=m.bR eDB trivial QZ;have eA:A' .st=A .st:=(m.fix .st trivial trivial).1;refine⟨.inl ⟨rfl,_,bz.of Qw⟩,D2,_,rfl,.inl (bz.of e4),D,_,_,rfl,rfl,Qw,?_,?_⟩;rw[ay];exact fe h4 (by decide);have e5:upd H4 D (.lst (acc.map V.int++[V.int (((stepRaw s ch).2.map V.int).length:Int)])) D=some (.lst (acc.map V.int++[V.int (((stepRaw s ch).2.map V.int).length:Int)])):=af;have e4':upd H4 D (.lst (acc.map V.int++[V.int (((stepRaw s ch).2.map V.int).length:Int)])) D2=some (.lst ((stepRaw s ch).2.map V.int)):=by rw[ah Sr];exact e4
  refine⟨.inl ⟨rfl,_,bz.of e5⟩,D,D2,_,_,rfl,rfl,e5,e4',?_,?_⟩
  ·rw[dv,ay,ay];exact aG (show _≤2001*400+1+(2001*400+2000) by simp;(clear UC hlen;lia)) (by decide)
  rw[cp];refine⟨_,rfl,_,_,rfl,rfl,?_⟩;refine⟨A',vV A' _ _ ⟨_,_,by rw[eA];rfl⟩ (k4.putL K_ Qw) (W4.putL XW Qw) no4 ?_ XW⟩;rw[af,ay];simp
 have e:i=fI.length:=by lia
 subst e;rw[du];refine b0 (fun z=>absurd (bW z) (by lia)) fun _=>?_;have hd:=rn.d;rw[du]at hd;exact q D H2 K_ rn.k hd
end
end Lw
open PySem PySem.W PyProof.Rows
local macro_rules | `(tactic| o_law) => `(tactic| skip)
local macro_rules | `(tactic| k_head) => `(tactic| k_headS)
local macro_rules | `(tactic| w_witness2) => `(tactic| exact ⟨[.list [.int 29]], by decide +kernel, by decide +kernel⟩)
local macro_rules | `(tactic| o_headS ($f:ident $k $a $e)) => `(tactic| o_headS (PySem.W.kmHook $k $a $e [121, 207, 371]))
namespace PySem.W.Fast
def tw4715322325142750446:=0
def tw6901996201401580103:=0
def tw12691943906506702946:=0
def tw1713909409736274294:=0
def tw5684269996591040895:=0
def tw1707583247911757270:=0
def tw9620627580092330032:=0
def tw9538013440950420940:=0
def tw5543438740188009985:=0
def tw206582138325595820:=0
def tw6607644564249050058:=0
def tw14924318195137828155:=0
def tw8565224436197482051:=0
def tw258204147387103276:=0
def tw15617008699501574997:=0
def tw8848883599706297848:=0
def tw14136365326194722155:=0
def tw12954591660760965231:=0
def tw6183053726569581917:=0
def tw11489657468027745950:=0
def tw10541566004364345597:=0
def tw14564479935002850509:=0
def tw903024190392523500:=0
def tw140001813534094272:=0
def tw5858633384734287302:=0
def tw17496485065790304159:=0
def tw1405931916929532232:=0
def tw13135312941875745310:=0
def tw6604491311768153123:=0
def tw4903002758410956813:=0
def tw7220529860990300233:=0
def tw16773468814595293053:=0
def tw25877780470424934:=0
def tw14172470266813156586:=0
def tw2144661209622563809:=0
def tw3919386906821981792:=0
def tw3992765435912101610:=0
def tw9404705873571188630:=0
def tw3382625519597670723:=0
def tw13462424878891718212:=0
def tw2455152089536381482:=0
def tw896239598344801917:=0
def tw16721508838639397229:=0
def tw6968137755033780318:=0
def tw12099505692703838030:=0
def tw13437419889732721216:=0
def tw11024694936033576346:=0
def tw4493901809537577575:=0
def tw1922157984580058403:=0
def tw14903569129155370506:=0
def tw8080008513338510535:=0
def tw10624116801336726872:=0
def tw6548459193220583526:=0
def tw2931988195819169919:=0
def tw1915925776726481438:=0
def tw10741264400317747893:=0
def tw3049343062529576306:=0
def tw18146532975450069615:=0
def tw13160504802963445071:=0
def tw1342123614928995077:=0
def tw17339309145561079191:=0
def tw6522051377940421278:=0
def tw12488014758255163090:=0
def tw8171798328758944481:=0
def tw4323258101793500111:=0
def tw9646623106273453227:=0
def tw3303267245142563540:=0
def tw12747814925858328940:=0
def tw7424060955962978353:=0
def tw6148498323302512570:=0
def tw8115137120850386438:=0
def tw16248296213531012650:=0
def tw16636501806038632012:=0
def tw4635989785427082552:=0
def tw1293241653719404408:=0
def tw1979317910248211280:=0
def tw1205604411410820431:=0
def tw6575520176995025181:=0
def tw13053770412826190925:=0
def tw4189273013823423559:=0
def tw14022695629967993375:=0
def tw6084841979344569690:=0
def tw1627579063812096137:=0
def tw443766864951011646:=0
def tw10016166984437732892:=0
def tw10159399881129095643:=0
def tw15235614512728720:=0
def tw1205274952441263945:=0
def tw16108870410212019532:=0
def tw6858818405166986180:=0
def tw17351735930882485243:=0
def tw9919008367099125623:=0
def tw12670982853097334264:=0
def tw11384182702204212275:=0
def tw14689541978594310382:=0
def tw4039707410889071942:=0
def tw1417338464948945970:=0
def tw15685335758407661847:=0
def tw17435391645217708394:=0
def tw5667099127317398114:=0
def tw10698057553749749337:=0
def tw9689729476882780088:=0
def tw3681537716864247207:=0
def tw4561898282857576226:=0
def tw5872530126848033075:=0
def tw15173544498738437827:=0
def tw9402243437249704421:=0
def tw18383651708701053236:=0
def tw977512076041815475:=0
def tw8865387616306378214:=0
def tw8760152093665844161:=0
def tw4804111812005502284:=0
def tw4321966507151631593:=0
def tw12408111787983249662:=0
def tw15042883488752021643:=0
def tw3592811809046731828:=0
def tw2228412568605170491:=0
def tw17292613610259460706:=0
def tw14703100239697439463:=0
def tw9320515035125037321:=0
def tw1972164579936704799:=0
def tw16203965252921439515:=0
def tw2107523057676978006:=0
def tw3985964047577975286:=0
def tw17613222154834848340:=0
def tw13622603851894308203:=0
def tw6128145076113358165:=0
def tw1383625962624193546:=0
def tw13034982811429478159:=0
def tw2080317491765294665:=0
def tw599730875272715187:=0
def tw991626836265849350:=0
def tw6798380500665416597:=0
def tw3778530596728393105:=0
def tw17883462748017686043:=0
def tw2135409205425526673:=0
def tw11662115353561507501:=0
def tw886431789805957861:=0
def tw15752536640612570366:=0
def tw9116068151291705539:=0
def tw4436474186459923750:=0
def tw4480162626587320490:=0
def tw7480016910919988345:=0
def tw13757698761724263525:=0
def tw14963028359598502718:=0
def tw3721919958574915784:=0
def tw1840220198017710270:=0
def tw1378205811072252300:=0
def tw855453113358079251:=0
def tw10842938092177581297:=0
def tw17590705303994421779:=0
def tw5487717013928043313:=0
def tw10295913840692754127:=0
def tw5622701340561072331:=0
def tw15401437161963490237:=0
def tw8912161614967838395:=0
def tw3413562391247869565:=0
def tw3099597729799864441:=0
def tw7867829370405329436:=0
def tw15289973176327117614:=0
def tw5438652380644606353:=0
def tw819570635367399668:=0
def tw6405511729158686954:=0
def tw13367945306605744095:=0
def tw7164969610272591079:=0
def tw10342455970750389890:=0
def tw8297923619242306668:=0
def tw15402603294489630176:=0
def tw7374399212775623666:=0
def tw5467331546851215429:=0
def tw4307115940973712385:=0
def tw10519837036962490867:=0
def tw4077048163395320219:=0
def tw9784134513789038367:=0
def tw5832305185047221409:=0
def tw6408400580700104982:=0
def tw11907897558876765624:=0
def tw13946496683202179788:=0
def tw16919654943277366748:=0
def tw5444512763150141072:=0
def tw9510108024173832781:=0
def tw14261769069557060686:=0
def tw2629151800749243262:=0
def tw6879115710534288543:=0
def tw6549852094080907030:=0
def tw5702276774652866934:=0
def tw18157406047293677543:=0
def tw8949853181751564097:=0
def tw4548300405975405348:=0
def tw11502921971960690029:=0
def tw13555255324189296367:=0
def tw16864618592142003386:=0
def tw2483420100392427323:=0
def tw1932143949324165434:=0
def tw1864683662541468164:=0
def tw17187875760726034783:=0
def tw17062427158221528723:=0
def tw8422229294311615681:=0
def tw15554417296805563061:=0
def tw11408881796089955267:=0
def tw9495317472360511255:=0
end PySem.W.Fast
set_option maxRecDepth 100000 in
set_option maxHeartbeats 0 in
open_top hd for PySem.Challenge.rw_lotstore_s01_answers
section
namespace L2
open PySem PySem.Spec PyProof.Rows
open PySem.W (WData Codec OpenSpec Well WellAll ReadsW ReadsAllW)
mutual
inductive Dw (K:Frag) (H:Hp):V→WData→Prop
 | gq:Dw K H .gq .none
 | bl (b:Bool):Dw K H (.bl b) (.bool b)
 | int (i:Int):Dw K H (.int i) (.int i)
 | str (x:Str):Dw K H (.str x) (.str x)
 | CQ (b:Array UInt8):Dw K H (.CQ b) (.bytes b.toList)
 | lst {a:Addr} {xs:List V} {ds:List WData}:bz K H a xs→nY K H xs ds→Dw K H (.ref a) (.list ds)
 | tup {a:Addr} {xs:List V} {ds:List WData}:ju K H a xs→nY K H xs ds→Dw K H (.ref a) (.tuple ds)
inductive nY (K:Frag) (H:Hp):List V→List WData→Prop
 | nil:nY K H [] []
 | cons {v:V} {vs:List V} {d:WData} {ds:List WData}:Dw K H v d→nY K H vs ds→nY K H (v::vs) (d::ds)
end
theorem Hq {K:Frag}{H:Hp}:∀ns:List Int,nY K H (ns.map V.int) (ns.map WData.int)
 | []=> .nil
 | n::r=> .cons (.int n) (Hq r)
theorem Ic {K:Frag}{H:Hp}:∀(ns:List Int) (xs:List V),nY K H xs (ns.map WData.int)→xs=ns.map V.int
 | [],xs,h=>by
  cases h;rfl
 | n::r,xs,h=>by
  cases h with
  | cons h1 h2=>
   cases h1;rw[Ic r _ h2]<;>rfl
section
variable{P:Program}{w:World}{K:Frag}{H:Hp}{h:Heap}{R:WRecords}{cl:Str→Option Addr}
def P8 {a:Addr}{xs:List V}(b9:mn P w H h)(KX:K.In h)(q:bz K H a xs):∃(bp:List Value) (o:Obj) (n:Nat),Vals xs bp∧h.get? a=some o∧o.cls= .type "list" ∧o.data= .seq bp.toArray n:=by
 rcases q with q|⟨o,bp,n,e,hc,_,hd,_,hv⟩
 ·obtain⟨_,bp,n,hv,e⟩:=(show c8 P w H h a (.lst xs)from q.ok b9);grind
 exact⟨bp.toList,o,n,hv,KX _ _ e,hc,by simp[hd]⟩
def Ri {a:Addr}{xs:List V}(b9:mn P w H h)(KX:K.In h)(q:ju K H a xs):∃(bp:List Value) (o:Obj) (n:Nat),Vals xs bp∧h.get? a=some o∧o.cls= .type "tuple" ∧o.data= .seq bp.toArray n:=by
 rcases q with q|⟨o,bp,n,e,hc,hd,_,hv⟩
 ·obtain⟨_,bp,hv,o,e,hc,n,hd⟩:=(show c8 P w H h a (.tup xs)from q.ok b9);grind
 exact⟨bp.toList,o,n,hv,KX _ _ e,hc,by simp[hd]⟩
mutual
theorem Dw.reads (b9:mn P w H h)(KX:K.In h):∀(d:WData) (v:V) (u:Value),Dw K H v d→RelV v u→∃as,ReadsW R cl h u d as
 | .none,_,_,x,r=>by
  cases x;cases r;exact⟨_,ReadsW.none⟩
 | .bool b,_,_,x,r=>by
  cases x;cases r;exact⟨_,ReadsW.bool b⟩
 | .int i,_,_,x,r=>by
  cases x;obtain⟨t,rfl⟩:=r;exact⟨_,ReadsW.int i t⟩
 | .str s,_,_,x,r=>by
  cases x;obtain⟨t,rfl⟩:=r;exact⟨_,ReadsW.str s t⟩
 | .bytes b,_,_,x,r=>by
  cases x;obtain⟨t,rfl⟩:=r;exact⟨_,ReadsW.bytes _ t⟩
 | .list ds,_,_,x,r=>by
  cases x with
  | lst hs ha=>
   cases r;obtain⟨bp,o,n,rv,ho,hc,hd⟩:=P8 b9 KX hs;obtain⟨as,hr⟩:=Dw.readsAll b9 KX ds _ bp ha rv;exact⟨_,ReadsW.list ho hc hd hr⟩
 | .tuple ds,_,_,x,r=>by
  cases x with
  | tup hs ha=>
   cases r;obtain⟨bp,o,n,rv,ho,hc,hd⟩:=Ri b9 KX hs;obtain⟨as,hr⟩:=Dw.readsAll b9 KX ds _ bp ha rv;exact⟨_,ReadsW.tuple ho hc hd hr⟩
 | .float _,_,_,x,_=>by cases x
 | .dict _,_,_,x,_=>by cases x
 | .bytearray _,_,_,x,_=>by cases x
 | .set _,_,_,x,_=>by cases x
 | .frozenset _,_,_,x,_=>by cases x
 | .obj _ _,_,_,x,_=>by cases x
theorem Dw.readsAll (b9:mn P w H h)(KX:K.In h):∀(ds:List WData) (vs:List V) (us:List Value),nY K H vs ds→Vals vs us→∃as,ReadsAllW R cl h us ds as
 | [],_,_,x,r=>by
  cases x;cases r;exact⟨_,ReadsAllW.nil⟩
 | d::ds,_,_,x,r=>by
  cases x with
  | cons h1 h2=>
   cases r with
   | cons r1 r2=>
    obtain⟨as,q1⟩:=Dw.reads b9 KX d _ _ h1 r1;obtain⟨bs,q2⟩:=Dw.readsAll b9 KX ds _ _ h2 r2;exact⟨_,ReadsAllW.cons q1 q2⟩
end
end
mutual
def HS:WData→Bool
 | .none=>true
 | .bool _=>true
 | .int _=>true
 | .str _=>true
 | .bytes _=>true
 | .list xs=>vW xs
 | .tuple xs=>vW xs
 | _=>false
def vW:List WData→Bool
 | []=>true
 | x::r=>HS x&&vW r
end
theorem DB {α:Type}{f:α→WData}(h:∀a,HS (f a)=true):∀l:List α,vW (l.map f)=true
 | []=>rfl
 | x::r=>by
  show(HS (f x)&&vW (r.map f))=true;rw[h x,DB h r]<;>rfl
theorem mP:∀(c:Codec) (a:c.denote),HS (c.enc a)=true
 | .unit,_=>rfl
 | .bool,_=>rfl
 | .int _ _,_=>rfl
 | .nat _ _,_=>rfl
 | .u8,_=>rfl
 | .bytes _ _,_=>rfl
 | .text _ _ _ _,_=>rfl
 | .list _ _ c,a=>DB (fun x=>mP c x) a
 | .pair c d,a=>by
  show(HS (c.enc a.1)&&(HS (d.enc a.2)&&true))=true;rw[mP c a.1,mP d a.2]<;>rfl
 | .triple c d e,a=>by
  show(HS (c.enc a.1)&&(HS (d.enc a.2.1)&&(HS (e.enc a.2.2)&&true)))=true;rw[mP c a.1,mP d a.2.1,mP e a.2.2]<;>rfl
 | .option c,none=>rfl
 | .option c,some x=>mP c x
theorem Ai:∀(cs:List Codec) (a:Codec.denoteAll cs),vW (Codec.encAll cs a)=true
 | [],_=>rfl
 | c::cs,a=>by
  show(HS (c.enc a.1)&&vW (Codec.encAll cs a.2))=true;rw[mP c a.1,Ai cs a.2]<;>rfl
theorem qV:∀{xs:List WData} {d:WData},d∈xs→d.weight≤WData.weightAll xs
 | [],d,h=>absurd h (by simp)
 | x::r,d,h=>by
  show d.weight≤x.weight+1+WData.weightAll r;rcases bM.mp h with e|m
  ·rw[e];omega
  have z:=qV m;omega
def toV:Value→V
 | .none=> .gq
 | .bool b=> .bl b
 | .int i _=> .int i
 | .str x _=> .str x
 | .bytes b _=> .CQ b
 | .ref a=> .ref a
 | _=> .gq
def Jp (A:List Addr):Value→Prop
 | .none=>True
 | .bool _=>True
 | .int _ _=>True
 | .str _ _=>True
 | .bytes _ _=>True
 | .ref a=>a∈A
 | _=>False
def Jp.mono {A B:List Addr}(h:∀a∈A,a∈B):∀{u:Value},Jp A u→Jp B u:=fun{u} x=>by
 cases u with
 | ref a=>exact h a x
 | none=>trivial
 | bool b=>trivial
 | int i t=>trivial
 | str s t=>trivial
 | bytes b t=>trivial
 | _=>exact False.elim x
def Ku {A:List Addr}{u:Value}(x:Jp A u):RelV (toV u) u:=by
 cases u with
 | ref a=>rfl
 | none=>rfl
 | bool b=>rfl
 | int i t=>exact⟨t,rfl⟩
 | str s t=>exact⟨t,rfl⟩
 | bytes b t=>exact⟨t,rfl⟩
 | _=>exact False.elim x
theorem kE {A:List Addr}:∀{vs:List Value},(∀u∈vs,Jp A u)→Vals (vs.map toV) vs
 | [],_=> .nil
 | u::r,h=> .cons (Ku (h u (cQ ..))) (kE fun x hx=>h x (cP _ hx))
def kf (h:Heap)(A:List Addr)(a:Addr):Prop:=∃vs:List Value,vs.length≤sizeLine∧(∀u∈vs,Jp A u)∧
 (h.get? a=some {cls:= .type "list",data:= .seq vs.toArray}∨h.get? a=some {cls:= .type "tuple",data:= .seq vs.toArray})
def kf.mono {h:Heap}{A B:List Addr}{a:Addr}(k:∀a∈A,a∈B)(x:kf h A a):kf h B a:=by
 obtain⟨vs,h1,h2,h3⟩:=x;exact⟨vs,h1,fun u hu=>(h2 u hu).mono k,h3⟩
theorem jH {P:Params}{h:Heap}:∀{vs:List Value} {ds:List WData},WellAll P h vs ds→vs.length=ds.length
 | _,_,.nil=>rfl
 | _,_,.cons _ b=>by
  show _+1=_+1;rw[jH b]
def AR {P:Params}{h:Heap}{v:Value}{ds:List WData}(x:Well P h v (.list ds)):∃(a:Addr) (vs:List Value),v= .ref a∧h.get? a=some {cls:= .type "list",data:= .seq vs.toArray}∧WellAll P h vs ds:=by
 cases x with
 | list ho lI=>exact⟨_,_,rfl,ho,lI⟩
def xX {P:Params}{h:Heap}{v:Value}{ds:List WData}(x:Well P h v (.tuple ds)):∃(a:Addr) (vs:List Value),v= .ref a∧h.get? a=some {cls:= .type "tuple",data:= .seq vs.toArray}∧WellAll P h vs ds:=by
 cases x with
 | tuple ho lI=>exact⟨_,_,rfl,ho,lI⟩
def Al {P:Params}{h:Heap}{us:List Value}{d:WData}{ds:List WData}(x:WellAll P h us (d::ds)):∃(v:Value) (vs:List Value),us=v::vs∧Well P h v d∧WellAll P h vs ds:=by
 cases x with
 | cons a b=>exact⟨_,_,rfl,a,b⟩
def Ig {n:Nat}(h:n≤1048576):n≤sizeLine:=aG h (by decide)
section
variable{P:Params}{h:Heap}
mutual
theorem LD:∀(d:WData) (v:Value),Well P h v d→HS d=true→d.weight≤1048576→∃A:List Addr,Jp A v∧∀a∈A,kf h A a
 | .none,_,x,_,_=>by
  cases x;exact⟨[],trivial,fun a m=>absurd m (by simp)⟩
 | .bool b,_,x,_,_=>by
  cases x;exact⟨[],trivial,fun a m=>absurd m (by simp)⟩
 | .int i,_,x,_,_=>by
  cases x;exact⟨[],trivial,fun a m=>absurd m (by simp)⟩
 | .str s,_,x,_,_=>by
  cases x;exact⟨[],trivial,fun a m=>absurd m (by simp)⟩
 | .bytes b,_,x,_,_=>by
  cases x;exact⟨[],trivial,fun a m=>absurd m (by simp)⟩
 | .list ds,_,x,p,z=>by
  obtain⟨a,vs,rfl,ho,lI⟩:=AR x;have z2:WData.weightAll ds≤1048576:=z;obtain⟨A,h1,h2⟩:=r6 ds _ lI p fun d hd=>aG (qV hd) z2;have k:∀b∈A,b∈a::A:=fun b hb=>cP _ hb;refine⟨a::A,cQ ..,fun b hb=>?_⟩;rcases bM.mp hb with e|m
  ·rw[e];exact⟨vs,Ig (by rw[jH lI];exact aG (LX ds) z2),fun u hu=>(h1 u hu).mono k,.inl ho⟩
  exact(h2 b m).mono k
 | .tuple ds,_,x,p,z=>by
  obtain⟨a,vs,rfl,ho,lI⟩:=xX x;have z2:WData.weightAll ds≤1048576:=z;obtain⟨A,h1,h2⟩:=r6 ds _ lI p fun d hd=>aG (qV hd) z2;have k:∀b∈A,b∈a::A:=fun b hb=>cP _ hb;refine⟨a::A,cQ ..,fun b hb=>?_⟩;rcases bM.mp hb with e|m
  ·rw[e];exact⟨vs,Ig (by rw[jH lI];exact aG (LX ds) z2),fun u hu=>(h1 u hu).mono k,.inr ho⟩
  exact(h2 b m).mono k
 | .float _,_,_,p,_=>Bool.noConfusion (show false=true from p)
 | .dict _,_,_,p,_=>Bool.noConfusion (show false=true from p)
 | .bytearray _,_,_,p,_=>Bool.noConfusion (show false=true from p)
 | .set _,_,_,p,_=>Bool.noConfusion (show false=true from p)
 | .frozenset _,_,_,p,_=>Bool.noConfusion (show false=true from p)
 | .obj _ _,_,_,p,_=>Bool.noConfusion (show false=true from p)
theorem r6:∀(ds:List WData) (vs:List Value),WellAll P h vs ds→vW ds=true→(∀d∈ds,d.weight≤1048576)→∃A:List Addr,(∀u∈vs,Jp A u)∧∀a∈A,kf h A a
 | [],_,x,_,_=>by
  cases x;exact⟨[],fun u m=>absurd m (by simp),fun a m=>absurd m (by simp)⟩
 | d::ds,_,x,p,z=>by
  obtain⟨v,vs,rfl,x1,x2⟩:=Al x;have q:HS d=true∧vW ds=true:=Bool.and_eq_true_iff.mp p;obtain⟨A,a1,a2⟩:=LD d v x1 q.1 (z d (cQ ..));obtain⟨B,b1,b2⟩:=r6 ds vs x2 q.2 fun e he=>z e (cP _ he);have kA:∀b∈A,b∈A++B:=fun b hb=>fK.mpr (.inl hb);have kB:∀b∈B,b∈A++B:=fun b hb=>fK.mpr (.inr hb);refine⟨A++B,fun u hu=>?_,fun b hb=>?_⟩
  ·rcases bM.mp hu with e|m
   ·rw[e];exact a1.mono kA
   exact(b1 u m).mono kB
  rcases fK.mp hb with m|m;exact(a2 b m).mono kA;exact(b2 b m).mono kB
end
end
noncomputable def OV (o:Obj):Option HO:=match o.data with
 | .seq vs _=>if(o.cls==Value.type "list")=true then some (.eS o (.lst (vs.toList.map toV)))else some (.eS o (.tup (vs.toList.map toV)))
 | _=>none
def jB (K:Frag)(h:Heap)(A:List Addr):Hp:=fun b=>if b∈A then(if(K.lookup b).isNone=true then(h.get? b).bind OV else none)else none
def OZ (H:Hp):Prop:=∀b,H b=none∨∃o u,H b=some (.eS o u)
theorem Ek (vs:List Value):OV {cls:= .type "list",data:= .seq vs.toArray}=some (.eS {cls:= .type "list",data:= .seq vs.toArray} (.lst (vs.map toV))):=by rfl
theorem EN (vs:List Value):OV {cls:= .type "tuple",data:= .seq vs.toArray}=some (.eS {cls:= .type "tuple",data:= .seq vs.toArray} (.tup (vs.map toV))):=by rfl
section
variable{P:Program}{w:World}{K:Frag}{h:Heap}{A:List Addr}
theorem wG {b:Addr}{o:Obj}(hb:b∈A)(hk:K.lookup b=none)(e:h.get? b=some o):jB K h A b=OV o:=by
 unfold jB;grind
def Nl {b:Addr}{u:HO}(q:jB K h A b=some u):b∈A∧K.lookup b=none:=by
 unfold jB at q;by_cases hb:b∈A
 ·rw[aw hb]at q;cases hk:K.lookup b with
  | none=>exact⟨hb,rfl⟩
  | some o=>grind
 grind
theorem tE (ar:∀a∈A,kf h A a){b:Addr}{u:HO}(q:jB K h A b=some u):K.lookup b=none∧∃vs:List Value,vs.length≤sizeLine∧(∀u∈vs,Jp A u)∧
    ((h.get? b=some {cls:= .type "list",data:= .seq vs.toArray}∧u= .eS {cls:= .type "list",data:= .seq vs.toArray} (.lst (vs.map toV)))∨
     (h.get? b=some {cls:= .type "tuple",data:= .seq vs.toArray}∧u= .eS {cls:= .type "tuple",data:= .seq vs.toArray} (.tup (vs.map toV)))):=by
  obtain⟨hb,hk⟩:=Nl q;obtain⟨vs,h1,h2,h3⟩:=ar b hb;refine⟨hk,vs,h1,h2,?_⟩;rcases h3 with e|e;grind[wG,Ek];grind[wG,EN]
def Js (ar:∀a∈A,kf h A a):OZ (jB K h A):=fun b=>by
 cases q:jB K h A b with
 | none=>exact .inl rfl
 | some u=>
  obtain⟨_,vs,_,_,⟨_,e⟩|⟨_,e⟩⟩:=tE ar q;grind;grind
def OU (ar:∀a∈A,kf h A a):mn P w (jB K h A) h:=fun b u q=>by
 obtain⟨_,vs,h1,h2,⟨e,rfl⟩|⟨e,rfl⟩⟩:=tE ar q;exact⟨e,by rw[ay];exact h1,vs,_,kE h2,e⟩;exact⟨e,by rw[ay];exact h1,vs,kE h2,_,e,rfl,_,rfl⟩
def UZ {c c':Value}{vs us:List Value}(e:(some {cls:=c,data:= .seq vs.toArray}:Option Obj)=some {cls:=c',data:= .seq us.toArray}):c=c'∧vs=us:=by grind
def WE (KX:K.In h)(ar:∀a∈A,kf h A a){a:Addr}{vs:List Value}(ha:a∈A)(e:h.get? a=some {cls:= .type "list",data:= .seq vs.toArray}):(∀u∈vs,Jp A u)∧bz K (jB K h A) a (vs.map toV):=by
 obtain⟨us,h1,h2,h3⟩:=ar a ha;have hu:us=vs:=by grind
 subst hu;refine⟨h2,?_⟩;cases hk:K.lookup a with
 | none=>exact .inl (.inr ⟨_,by rw[wG ha hk e,Ek]⟩)
 | some o=>
  have e2:=KX a o hk;rw[e]at e2;obtain rfl:=cV e2;exact .inr ⟨_,us.toArray,_,hk,rfl,rfl,rfl,by rw[cu];exact h1,by simpa using kE h2⟩
def Vx (KX:K.In h)(ar:∀a∈A,kf h A a){a:Addr}{vs:List Value}(ha:a∈A)(e:h.get? a=some {cls:= .type "tuple",data:= .seq vs.toArray}):(∀u∈vs,Jp A u)∧ju K (jB K h A) a (vs.map toV):=by
 obtain⟨us,h1,h2,h3⟩:=ar a ha;have hu:us=vs:=by grind
 subst hu;refine⟨h2,?_⟩;cases hk:K.lookup a with
 | none=>exact .inl (.inr ⟨_,by rw[wG ha hk e,EN]⟩)
 | some o=>
  have e2:=KX a o hk;rw[e]at e2;obtain rfl:=cV e2;exact .inr ⟨_,us.toArray,_,hk,rfl,rfl,by rw[cu];exact h1,by simpa using kE h2⟩
mutual
theorem RE {Pm:Params}(KX:K.In h)(ar:∀a∈A,kf h A a):∀(d:WData) (v:Value),Well Pm h v d→HS d=true→Jp A v→Dw K (jB K h A) (toV v) d
 | .none,_,x,_,_=>by
  cases x;exact .gq
 | .bool b,_,x,_,_=>by
  cases x;exact .bl b
 | .int i,_,x,_,_=>by
  cases x;exact .int i
 | .str s,_,x,_,_=>by
  cases x;exact .str s
 | .bytes b,_,x,_,_=>by
  cases x;have z:=Dw.CQ (K:=K) (H:=jB K h A) b.toArray;exact z
 | .list ds,_,x,p,hu=>by
  obtain⟨a,vs,rfl,ho,lI⟩:=AR x;obtain⟨h2,hs⟩:=WE KX ar hu ho;exact .lst hs (Ct KX ar ds _ lI p h2)
 | .tuple ds,_,x,p,hu=>by
  obtain⟨a,vs,rfl,ho,lI⟩:=xX x;obtain⟨h2,hs⟩:=Vx KX ar hu ho;exact .tup hs (Ct KX ar ds _ lI p h2)
 | .float _,_,_,p,_=>Bool.noConfusion (show false=true from p)
 | .dict _,_,_,p,_=>Bool.noConfusion (show false=true from p)
 | .bytearray _,_,_,p,_=>Bool.noConfusion (show false=true from p)
 | .set _,_,_,p,_=>Bool.noConfusion (show false=true from p)
 | .frozenset _,_,_,p,_=>Bool.noConfusion (show false=true from p)
 | .obj _ _,_,_,p,_=>Bool.noConfusion (show false=true from p)
theorem Ct {Pm:Params}(KX:K.In h)(ar:∀a∈A,kf h A a):∀(ds:List WData) (vs:List Value),WellAll Pm h vs ds→vW ds=true→(∀u∈vs,Jp A u)→nY K (jB K h A) (vs.map toV) ds
 | [],_,x,_,_=>by
  cases x;exact .nil
 | d::ds,_,x,p,hu=>by
  obtain⟨v,vs,rfl,x1,x2⟩:=Al x;have q:HS d=true∧vW ds=true:=Bool.and_eq_true_iff.mp p;exact .cons (RE KX ar d v x1 q.1 (hu _ (cQ ..))) (Ct KX ar ds vs x2 q.2 fun u m=>hu u (cP _ m))
end
end
def Hb {K:Frag}{h:Heap}{A:List Addr}(ar:∀a∈A,kf h A a){P:Addr}(e:h.get? P=some (tabObj #[])):jB K h A P=none:=by
 cases q:jB K h A P with
 | none=>rfl
 | some u=>
  obtain⟨_,vs,_,_,⟨e2,_⟩|⟨e2,_⟩⟩:=tE ar q;grind;grind
def pE (H:Hp)(ts:List Addr):Hp:=fun b=>if b∈ts then some (.lQ #[])else H b
def yq {H:Hp}{ts:List Addr}{b:Addr}(h:b∈ts):pE H ts b=some (.lQ #[]):=aw h
theorem kl {H:Hp}{ts:List Addr}{b:Addr}(h:b∉ts):pE H ts b=H b:=ak h
theorem GL {P:Program}{w:World}{K:Frag}{mg mb:Str→Option Value}{k:Nat}{fa:Addr}{ps:List Str}{sp:Sp}{s₁:Shared}{vals:List Value}{ds:List WData}{R:WRecords}{cl:Str→Option Addr}{d0:WData}{ts:List Addr}
  (KX:K.In s₁.heap) (Ap:s₁.heap.Ns mainGlobals mg) (hb:s₁.heap.Ns builtinsNs mb) (hbb:∀x:Str,x≠"__name__" →mb x=bootBuiltins x) (hlim:s₁.heap.NoLimit) (hg:s₁.gens=#[])
  (OE:∀P∈ts,s₁.heap.get? P=some (tabObj #[])) (pj:∀P∈ts,∃c,codeHdIn K c P=true) (VJ:∀P∈ts,K.lookup P=none)
  (Tf:WellAll w.params s₁.heap vals ds) (iE:vW ds=true) (hwt:∀d∈ds,d.weight≤1048576) (hr:fX k callerA)
  (F:∀base:Heap,K.In base→base.Ns mainGlobals mg→∃fd:FuncData,Binds K fd ps []∧zi P w K mg base M8 k fa fd ps sp) (hlen:ds.length=ps.length)
  (M7:∀(H H':Hp) (xs:List V),nY K H xs ds→qW H H'→(∀P∈ts,H' P=some (.lQ #[]))→sp xs H' (fun v jC=>Dw K jC v d0) fun _ _ _=>False):
  codeAny (model P w) callerA (.call (.ref fa) ⟨vals,[]⟩) (fun r s'=>∃u as,r= .ok (.ret u)∧ReadsW R cl s'.heap u d0 as∧OldK s₁.heap s'.heap∧s'.os=s₁.os∧AllBare s'.gens) s₁:=by
 obtain⟨A,ho,ar⟩:=r6 ds vals Tf iE hwt;have nT:∀P∈ts,jB K s₁.heap A P=none:=fun P hP=>Hb ar (OE P hP);have hO:OZ (jB K s₁.heap A):=Js ar;have TN:mn P w (jB K s₁.heap A) s₁.heap:=OU ar;have hS:=Ct KX ar ds vals Tf iE ho;have hV:=kE ho;have hK1:∀b u,jB K s₁.heap A b=some u→K.lookup b=none:=fun b u q=>(tE ar q).1;have seqs:∀{b:Addr} {o:Obj} {es:Array DictEntry} {ep:Nat},s₁.heap.get? b=some o→o.data= .dict es ep→jB K s₁.heap A b=none:=fun{b o es ep} e d=>by
  cases q:jB K s₁.heap A b with
  | none=>rfl
  | some u=>grind[tE]
 generalize jB K s₁.heap A=H0 at hO TN hS hK1 nT seqs;have sm:qW H0 (pE H0 ts):=fun b o e=>by grind[kl]
 have b9:mn P w (pE H0 ts) s₁.heap:=fun b u e=>by
  by_cases h:b∈ts
  ·rw[yq h]at e;cases e;exact OE b h
  rw[kl h]at e;exact(TN b u e).aF (fun c v _ z=>z) (fun c z=>sm c _ z) fun c xs z=>sm c _ z
 have hK:∀b u,pE H0 ts b=some u→K.lookup b=none:=fun b u e=>by grind[kl]
 have RV:∀{b:Addr} {o:Obj} {es:Array DictEntry} {ep:Nat},s₁.heap.get? b=some o→o.data= .dict es ep→pE H0 ts b=none:=fun{b o es ep} e d=>by grind[kl]
 have TV:=M7 H0 (pE H0 ts) _ hS sm fun P hP=>yq hP;have Sl:∀b u,pE H0 ts b=some u→b∉ts→∃o v,u= .eS o v:=fun b u e h=>by
  rw[kl h]at e;rcases hO b with z|⟨o,v,z⟩;grind;grind
 have V7:∀P∈ts,pE H0 ts P=some (.lQ #[]):=fun P hP=>yq hP;generalize pE H0 ts=H at b9 hK RV TV Sl V7;have Ht:∀{b:Addr} {o:Obj},s₁.heap.get? b=some o→H b=none→(Cp s₁.heap H).get? b=some o:=fun e n=>Kq e n;have UE:∀{b:Addr} {m:Str→Option Value},s₁.heap.Ns b m→(Cp s₁.heap H).Ns b m:=fun{b m} ⟨o,es,ep,e,d,r⟩=>⟨o,es,ep,Ht e (RV e d),d,r⟩;have nK:∀b o,K.lookup b=some o→H b=none:=fun b o e=>by
  cases q:H b with
  | none=>rfl
  | some u=>rw[hK b u q]at e;cases e
 have Yf:K.In (Cp s₁.heap H):=fun b o e=>Ht (KX b o e) (nK b o e);have hM:Mod K mg (Cp s₁.heap H):=⟨Yf,UE Ap,⟨mb,UE hb,hbb⟩,let⟨mc,h1,h2⟩:=hlim;⟨mc,UE h1,h2⟩⟩;have e0:Gi P w K mg (Cp s₁.heap H) callerA [] s₁ H:=⟨rfl,hM,fun b o e=>NC e,rh (JI _ _),trivial,(fun b hb=>absurd (show b∈([]:List Addr)from hb) (by simp)),b9,.of_eq hg⟩;have hl:vals.length=ps.length:=by rw[jH Tf];exact hlen
 obtain⟨fd,kM,hF⟩:=F _ Yf (UE Ap);have Wu:=kM s₁ vals KX (by rw[mr];exact hl);rw[mr]at Wu;refine A8 (hF.run callerA [] s₁ H ⟨vals,[]⟩ vals (vals.map toV) _ _ hr e0 Wu hV TV) fun r s' x=>?_;cases r with
 | error e=>exact False.elim x
 | ok fl=>
  cases fl with
  | next=>exact False.elim x
  | brk=>exact False.elim x
  | cont=>exact False.elim x
  | ret u=>
   obtain⟨v,H',os,bare,un,Ot,r',q⟩:=x;have kept:∀b o,s₁.heap.get? b=some o→b∉ts→s'.heap.get? b=some o:=fun b o e hb=>by
    cases q2:H b with
    | none=>exact un.keep b o e q2 (fun z=>absurd (show b∈([]:List Addr)from z) (by simp)) (by simp)
    | some u2=>
     obtain⟨ob,u3,z⟩:=Sl b u2 q2 hb;rw[z]at q2;obtain⟨e1,_⟩:=b9 b _ q2;obtain⟨e2,_⟩:=Ot b _ (un.yF b ob _ q2);grind
   have KX':K.In s'.heap:=fun b o e=>kept b o (KX b o e) fun z=>by rw[VJ b z]at e;cases e
   obtain⟨as,XZ⟩:=Dw.reads (R:=R) (cl:=cl) Ot KX' d0 v u q r';refine⟨u,as,rfl,XZ,⟨fun b o e=>?_,fun b o e=>?_⟩,os,bare⟩
   ·by_cases hb:b∈ts
    ·obtain⟨c,hc⟩:=pj b hb;obtain⟨more,z⟩:=un.zt b _ (V7 b hb);have z2:s'.heap.get? b=some (tabObj (#[]++more)):=Ot b _ z;have E':=(codeHd_of_K KX hc).tab (OE b hb);rw[OE b hb]at e;have:=cV e;subst this;exact .inr (.inl ⟨E'.isCodeTable,rfl,#[],more,rfl,z2⟩)
    exact .inl (kept b o e hb)
   by_cases hb:b∈ts
   ·obtain⟨more,z⟩:=un.zt b _ (V7 b hb);exact⟨_,(Ot b _ z:s'.heap.get? b=some (tabObj (#[]++more)))⟩
   grind
def Uk {ds:List WData}(h:WData.layableAll ds=true):∀d∈ds,d.weight≤1048576:=fun d hd=>(PySem.W.layableW_iff.mp (dr.mp h d hd)).2.2
theorem HL:∀(cs:List Codec) (a:Codec.denoteAll cs),(Codec.encAll cs a).length=cs.length
 | [],_=>rfl
 | c::cs,a=>by
  show(Codec.encAll cs a.2).length+1=cs.length+1;rw[HL cs a.2]
def G4 {r:OpenSpec}{k:Nat}{q:Program}{loose:List Str}{XP:(Str→Option Value)→Heap→Prop}{YP:World→Heap→Prop}{d:DefRec}{ps:List Str}{ts:List Addr}
  (hwell:r.wellSaid=true) (hlen:r.args.length=ps.length) (hr:fX k callerA)
  (hT:∀(w:World) (h:Heap),YP w h→∀P∈ts,h.get? P=some (tabObj #[]))
  (D:∀(w:World) (mg:Str→Option Value) (h:Heap),YP w h→h.Ns mainGlobals mg→(∃bm ob,mg "__builtins__" =some (.ref bm)∧bm≠builtinsNs∧h.get? bm=some ob∧ob.cls= .type "module" ∧ob.dict=some builtinsNs∧ob.data= .plain)→
   ∃(K:Frag) (sp:Sp),K.In h∧(∀P∈ts,∃c,codeHdIn K c P=true)∧(∀P∈ts,K.lookup P=none)∧
    (∀fa,mg d.name=some (.ref fa)→∀base:Heap,K.In base→base.Ns mainGlobals mg→∃fd:FuncData,Binds K fd ps []∧zi r.prog w K mg base M8 k fa fd ps sp)∧
    (∀(H H':Hp) (xs:List V) (a:Codec.denoteAll r.args),Codec.withinAll r.args a=true→Codec.app r.args r.asked a=true→nY K H xs (Codec.encAll r.args a)→qW H H'→(∀P∈ts,H' P=some (.lQ #[]))→
     sp xs H' (fun v jC=>Dw K jC v (r.ret.enc (Codec.app r.args r.f a))) fun _ _ _=>False)):
  PySem.W.WalkOS q loose XP YP r d [] (fun f vs=>PySem.call f vs):=by
 intro w zX s₁ mg mb G Y fa o pm cd doc dV kV ho hd E' hD hmg hg args vals as Mw hlay XZ Tf xx;obtain⟨a,e1,e2⟩:=PySem.W.os_pre_some Mw;obtain⟨e3,Xr⟩:=Codec.encAll_of_decAll r.args args a e1;subst e3;obtain⟨K,sp,KX,pj,VJ,F,M7⟩:=D w mg _ Y G.T.g G.T.bmain;refine PySem.W.enter_call (A8 (GL (R:=[]) (cl:=classAt zX.heap) (d0:=r.ret.enc (Codec.app r.args r.f a)) KX G.T.g G.T.b G.T.builtins G.T.nolimit hg (hT w _ Y) pj VJ Tf (Ai _ _) (Uk hlay) hr (F fa hmg) (by rw[HL];exact hlen)
  (fun H H' xs hS sm ht=>M7 H H' xs a Xr e2 hS sm ht)) fun r' s' hq=>?_)
 obtain⟨u,as',rfl,h1,h2,h3,h4⟩:=hq;exact⟨.inl ⟨u,_,as',rfl,fun _=>rfl,h1,(OpenSpec.post_iff hwell Xr _ _).mpr rfl,fun z=>Bool.noConfusion (show false=true from z)⟩,h2,h3,h4⟩
end L2
end
namespace Lw
open PySem PySem.Spec PyProof.Rows L2
section
variable{K K':Frag}{h:Heap}{mg:Str→Option Value}
def Sub (K K':Frag):Prop:=∀a o,K.lookup a=some o→K'.lookup a=some o
def Sub.O9 (s:Sub K K')(X:K'.In h):K.In h:=fun a o e=>X a o (s a o e)
def Sub.one {a:Addr}{o:Obj}(e:K.lookup a=none):Sub K ((a,o)::K):=fun b ob q=>by
 rw[rj];have:(b==a)=false:=by
  rw[beq_eq_false_iff_ne];intro z;rw[z,e]at q;cases q
 rw[this];exact q
def PN {a:Addr}{ob:Obj}(X:K.In h)(e:h.get? a=some ob):Frag.In ((a,ob)::K) h:=fun b o q=>by
 rw[rj]at q;split at q
 ·rename_i z;cases q;rw[beq_iff_eq.mp z];exact e
 exact X b o q
def Sub.code (s:Sub K K'){cd:Value}{x:Str}(e:codeIn K cd x=true):codeIn K' cd x=true:=by
 unfold codeIn at e ⊢;cases cd with
 | ref c=>
  dsimp only at e ⊢;cases q:K.lookup c with
  | none=>rw[q]at e;cases e
  | some o=>rw[q]at e;rw[s c o q];exact e
 | _=>cases e
def Sub.Bt (s:Sub K K'){c P:Addr}(e:codeHdIn K c P=true):codeHdIn K' c P=true:=by
 unfold codeHdIn at e ⊢;cases q:K.lookup c with
 | none=>rw[q]at e;cases e
 | some o=>rw[q]at e;rw[s c o q];exact e
def Bo {f:Addr}{oc:Value}{od:Option Addr}{fd:FuncData}{sl:Array (Option Value)}(l:K.lookup f=some ⟨oc,od,.func fd,sl⟩):keepIn K (.ref f)=true:=by
 unfold keepIn;simp only[l]
def Rq {x:Str}{st:Stmt}{f:Addr}{oc:Value}{od an:Option Addr}{sl:Array (Option Value)}{kV doc pm cd ct:Value}(s:Sub K K')(X:K'.In h)(G:h.Ns mainGlobals mg)(a:nsIn K mainGlobals x=some (some (.ref f)))
  (l:K.lookup f=some ⟨oc,od,.func (fnOf x x (f6 st) (dP st) (aj st) .none kV doc pm an cd ct),sl⟩) (c:codeIn K cd x=true):Def K' mg x st:=
 ⟨f,_,nG (s.O9 X) G a,MA (s _ _ l) (s.code c) (Bo (s _ _ l))⟩
def Nr {x:Str}{st:Stmt}{f cA Pt:Addr}{oc:Value}{od an:Option Addr}{sl:Array (Option Value)}{kV doc pm ct:Value}(s:Sub K K')(X:K'.In h)(G:h.Ns mainGlobals mg)(a:nsIn K mainGlobals x=some (some (.ref f)))
  (l:K.lookup f=some ⟨oc,od,.func (fnOf x x (f6 st) (dP st) (aj st) .none kV doc pm an (.ref cA) ct),sl⟩) (c:codeIn K (.ref cA) x=true) (t:codeHdIn K cA Pt=true):JA K' mg x st Pt:=
 ⟨f,oc,od,kV,doc,pm,an,cA,ct,sl,nG (s.O9 X) G a,s _ _ l,s.code c,Bo (s _ _ l),s.Bt t⟩
def QP {C:Addr}:∀f∈([]:List Str),fc K C f:=fun _ z=>by cases z
def OJ {C:Addr}{f:Str}{fs:List Str}(a:findIn K (.ref C) f=some none)(t:∀g∈fs,fc K C g):∀g∈f::fs,fc K C g:=fun g z=>by
 cases z with
 | head=>exact a
 | tail _ z=>exact t g z
def KW {x qual:Str}{st:Stmt}{C f:Addr}{fs:List Str}{oc:Value}{od an:Option Addr}{sl:Array (Option Value)}{kV doc pm cd ct:Value}(s:Sub K K')(X:K'.In h)(G:h.Ns mainGlobals mg)(a:nsIn K mainGlobals x=some (some (.ref C)))
  (i0:findIn K (.ref C) "__init__" =some (some (.ref f)))
  (l:K.lookup f=some ⟨oc,od,.func (fnOf "__init__" qual (f6 st) (dP st) (aj st) .none kV doc pm an cd ct),sl⟩) (c:codeIn K cd qual=true)
  (pg:plainGet K' C Str.empty=true) (hd:hasDictIn K' C=true) (po:plainOver K' C=true) (sa:findIn K' (.ref C) "__setattr__" =some (some (.builtin "object.__setattr__")))
  (mk:makesIn K' C=true) (i:findIn K' (.ref C) "__init__" =some (some (.ref f))) (n:isFn K' (.ref f)=true) (kc:keepIn K' (.ref C)=true) (no:∀g∈fs,fc K' C g):ia K' mg x qual C st fs:=
 ⟨nG (s.O9 X) G a,⟨pg,hd,po,sa⟩,no,⟨f,_,⟨mk,i,n,kc⟩,MA (s _ _ l) (s.code c) (Bo (s _ _ l))⟩⟩
def RJ {x:Str}{n:Int}{t:Tok}(X:K.In h)(G:h.Ns mainGlobals mg)(a:nsIn K mainGlobals x=some (some (.int n t))):mq mg x (.int n):=⟨_,nG X G a,⟨t,rfl⟩⟩
def Nh {x:Str}{r:Addr}(X:K.In h)(G:h.Ns mainGlobals mg)(a:nsIn K mainGlobals x=some (some (.ref r))):mq mg x (.ref r):=⟨_,nG X G a,rfl⟩
noncomputable def Fj_:V→Value→Bool
 | .int i,.int j _=>decide (i=j)
 | .str x,.str y _=>decide (x=y)
 | .ref a,.ref b=>Nat.beq a b
 | _,_=>false
def Fi:List V→List Value→Bool
 | [],[]=>true
 | x::r,u::q=>Fj_ x u&&Fi r q
 | _,_=>false
def Fk_ {x u}(h:Fj_ x u=true):RelV x u:=by
 unfold Fj_ at h;split at h
 ·exact⟨_,by rw[bW h]⟩
 ·exact⟨_,by rw[bW h]⟩
 ·exact congrArg Value.ref (Nat.eq_of_beq_eq_true h).symm
 cases h
theorem Ay:∀(xs:List V) (us:List Value),Fi xs us=true→Vals xs us
 | [],[],_=>.nil
 | x::r,u::q,h=>by
  have h:(Fj_ x u&&Fi r q)=true:=h;rw[cy]at h;exact .cons (Fk_ h.1) (Ay r q h.2)
 | [],_::_,h=>by cases h
 | _::_,[],h=>by cases h
noncomputable def C4 (K:Frag)(a:Addr)(xs:List V):Bool:=match K.lookup a with
 | some ⟨.type "tuple",_,.seq bp _,_⟩=>Nat.ble bp.size 1000&&Fi xs bp.toList
 | _=>false
def G6 {a:Addr}{xs:List V}(s:Sub K K')(e:C4 K a xs=true)(H:Hp):ju K' H a xs:=by
 unfold C4 at e;split at e
 ·rename_i d bp n sl q;rw[cy]at e;exact .inr ⟨_,bp,n,s _ _ q,rfl,rfl,jn (Jk (Nat.le_of_ble_eq_true e.1)),Ay _ _ e.2⟩
 cases e
def LA (P:Params)(ks:List (Str×Tok×Addr)):List DictEntry:=ks.map fun x=>⟨PyData.keyHash P x.1,.str x.1 x.2.1,.ref x.2.2⟩
theorem Q3 {P:Program}{w:PySem.World}{x:Str}{a:Addr}{ks:List (Str×Tok×Addr)}{ep:Nat}(s:Sub K K')(X:K'.In h)(G:h.Ns mainGlobals mg)(e:nsIn K mainGlobals x=some (some (.ref a)))
  (l:K.lookup a=some ⟨.type "dict",none,.dict (LA w.params ks).toArray ep,#[]⟩) (nd:(ks.map (·.1)).Nodup):wA P w K' mg x (ks.map fun x=>(x.1,x.2.2)):=by
 refine⟨a,nG (s.O9 X) G e,fun h' X'=>⟨ks.map fun x=>(Sum.inr x.1,Value.ref x.2.2),⟨_,_,ep,X' _ _ (s _ _ l),⟨rfl,rfl,rfl⟩,rfl,?_,?_,?_⟩,?_⟩⟩
 ·intro en Sq;obtain⟨y,hy,rfl⟩:=aZ.mp (show en∈LA w.params ks by simpa using Sq);exact⟨Sum.inr y.1,mT P w _ _,rfl⟩
 ·clear l nd e
  induction ks with
  | nil=>exact .nil
  | cons y r ih=>exact .cons (mT P w _ _) rfl ih
 ·rw[aV];have:((fun x:Key×Value=>x.1)∘fun x:Str×Tok×Addr=>((Sum.inr x.1:Key),Value.ref x.2.2))=(fun y:Str=>(Sum.inr y:Key))∘(fun x:Str×Tok×Addr=>x.1):=rfl;rw[this,←aV];exact hY.mpr (nd.imp fun eP z=>eP (Sum.inr.inj z))
 clear l e;intro y t hm;obtain⟨z,hz,e⟩:=aZ.mp hm;cases e
 induction ks with
 | nil=>cases hz
 | cons q r ih=>
  rw[bF,fO]at nd;unfold valueAt;rw[bF,uZ];by_cases k:q.1=z.1
  ·have:z=q:=by
    cases hz with
    | head=>rfl
    | tail _ hz=>exact absurd (aZ.mpr ⟨z,hz,k.symm⟩) nd.1
   subst this;simp
  ·have Sz:z∈r:=by
    cases hz with
    | head=>exact absurd rfl k
    | tail _ hz=>exact hz
   have e0:decide ((Sum.inr q.1:Key)=Sum.inr z.1)=false:=qu fun c=>k (Sum.inr.inj c);rw[e0];exact ih nd.2 Sz (aZ.mpr ⟨z,Sz,rfl⟩)
end
def C0:cw:=⟨31,52,73,94,115,121,207,371⟩
noncomputable def K4 (ob:Obj) (P:Params):Frag:=(4,ob)::hd.heap_1 P
def SJ:∀P:Params,(hd.heap_1 P).lookup 4=none:=fun _=>by kernel_rfl
def sX (ob:Obj)(P:Params):Sub (hd.heap_1 P) (K4 ob P):=Sub.one (SJ P)
section
variable{w:PySem.World}{ob:Obj}{h:Heap}{mg:Str→Option Value}
def UA (X:(K4 ob w.params).In h)(G:h.Ns mainGlobals mg)(B:ob.cls= .type "module" ∧ob.dict=some builtinsNs∧ob.data= .plain):E9 (K4 ob w.params) mg:=by
 refine' ⟨4,ob,nG ((sX ob w.params).O9 X) G ?a,by decide,rfl,B⟩
 (case a=>k_is)
def Rf (X:(K4 ob w.params).In h)(G:h.Ns mainGlobals mg)(B:ob.cls= .type "module" ∧ob.dict=some builtinsNs∧ob.data= .plain):Txt (K4 ob w.params) mg C0:=by
 constructor
 all_goals first
  | exact UA X G B
  | (refine' Rq (sX _ _) X G ?a ?l ?c;(case a=>k_is);(case l=>k_is);(case c=>k_is))
  | (refine' Nr (sX _ _) X G ?a ?l ?c ?t;(case a=>k_is);(case l=>k_is);(case c=>k_is);(case t=>kernel_rfl))
  | (refine' KW (sX _ _) X G ?a ?i0 ?l ?c ?pg ?hd ?po ?sa ?mk ?i ?n ?kc ?no;(case a=>k_is);(case i0=>k_is);(case l=>k_is);(case c=>k_is);(case pg=>kernel_rfl);(case hd=>kernel_rfl);(case po=>kernel_rfl);(case sa=>kernel_rfl);(case mk=>kernel_rfl);(case i=>kernel_rfl);(case n=>kernel_rfl);(case kc=>kernel_rfl);(case no=>(repeat(first|exact QP|(refine' OJ ?a ?_;(case a=>kernel_rfl))))))
  | (refine' RJ ((sX _ _).O9 X) G ?a;(case a=>k_is))
  | (refine' PySem.W.mg_none_of ((sX _ _).O9 X) G ?a;(case a=>k_is))
noncomputable def V0:List (Str×Tok×Addr):=[("day",966,487),("article",969,488),("least stock",972,489),("count of a part",975,490),("lot",978,491),("session",981,492),("amount",984,493),("pieces",987,494),("stock",990,495),("reason",993,496)]
noncomputable def V1:List Addr:=[497,498,499,500,501,502,503,504,505,506,507,508,509,510,511,512,513,514,515,516,517,518,519,520,521,522,523,524,525,526,527]
def Xa:∀P:Params,(E7.all fun m=>(V0.map fun x=>(x.1,x.2.2)).any fun p=>decide (p.1=m.1)&&C4 (hd.heap_1 P) p.2 [iV m.2.1,iV m.2.2])=true:=fun _=>by kernel_rfl
def WI:∀P:Params,C4 (hd.heap_1 P) 528 (V1.map V.ref)=true:=fun _=>by kernel_rfl
def Xl:∀P:Params,((V1.zip sU).all fun x=>C4 (hd.heap_1 P) x.1 (x.2.map fun m=>V.str m.1))=true:=fun _=>by kernel_rfl
def SK {P:Program}(X:(K4 ob w.params).In h)(G:h.Ns mainGlobals mg):wA P w (K4 ob w.params) mg "RANGES" (V0.map fun x=>(x.1,x.2.2)):=by
 refine' Q3 (a:=486) (ep:=10) (sX ob w.params) X G ?a ?l (by decide +kernel)
 (case a=>k_is)
 (case l=>kernel_rfl)
def SG (X:(K4 ob w.params).In h)(G:h.Ns mainGlobals mg):mq mg "ARGUMENTS" (.ref 528):=by refine' Nh ((sX ob w.params).O9 X) G ?a;(case a=>k_is)
def Od {P:Program}(X:(K4 ob w.params).In h)(G:h.Ns mainGlobals mg):C_ P w (K4 ob w.params) mg (V0.map fun x=>(x.1,x.2.2)) 528 V1 where
 QE:=SK X G
 rat:=fun m hm=>by
  obtain⟨p,hp,e⟩:=xE.mp (dr.mp (Xa w.params) m hm);rw[cy]at e;have e1:=bW e.1;exact⟨p.2,by rw[←e1];exact hp,G6 (sX ob w.params) e.2⟩
 arg:=SG X G
 arr:=G6 (sX ob w.params) (WI _)
 len:=rfl
 XO:=fun i a ms ha M3=>G6 (sX ob w.params) (dr.mp (Xl w.params) (a,ms) (dJ (Fj.mpr ⟨ha,M3⟩)))
end
def Tq {H:Hp}(ht:∀P∈([121,207,371]:List Addr),H P=some (.lQ #[])):iS C0 H:=
 ⟨.inl (ht 121 (by decide)),.inl (ht 207 (by decide)),.inl (ht 371 (by decide)),by decide,by decide,by decide⟩
def Kc:∀P:Params,codeHdIn (hd.heap_1 P) 123 121=true∧codeHdIn (hd.heap_1 P) 209 207=true∧codeHdIn (hd.heap_1 P) 373 371=true:=fun _=>⟨by kernel_rfl,by kernel_rfl,by kernel_rfl⟩
def Lj (ob:Obj):∀P:Params,(K4 ob P).lookup 121=none∧(K4 ob P).lookup 207=none∧(K4 ob P).lookup 371=none:=fun _=>⟨by kernel_rfl,by kernel_rfl,by kernel_rfl⟩
end Lw
open PySem PySem.W PyProof.Rows L2 in
theorem PySem.Challenge.cw_lotstore_s01_answers_holds : PySem.Challenge.rw_lotstore_s01_answers.Holds := by
 refine hd (L2.G4 (r:=PySem.Challenge.rw_lotstore_s01_answers) (k:=9) (ps:=["calls"]) (ts:=[121,207,371]) (by decide +kernel) rfl ⟨rfl,by decide,by decide⟩ (fun w h Y=>PySem.W.km_tabs_of Y) ?_);intro w mg h Y G B;have X0:=PySem.W.km_in_of Y;clear Y;obtain⟨bm,ob,b1,b2,b3,b4⟩:=B;have e4:mg "__builtins__" =some (.ref 4):=by
  refine' nG X0 G ?a
  (case a=>k_is)
 have e5:bm=4:=Value.ref.inj (cV (b1.symm.trans e4));subst e5;have X:(Lw.K4 ob w.params).In h:=Lw.PN X0 b3;have T:=Lw.Rf X G b4;refine⟨Lw.K4 ob w.params,Lw.xb (Lw.K4 ob w.params) Lw.C0,X,?_,?_,?_,?_⟩
 ·intro P hP;simp only[bM,List.mem_nil_iff,or_false]at hP;rcases hP with rfl|rfl|rfl;exact⟨123,(Lw.sX _ _).Bt (Lw.Kc _).1⟩;exact⟨209,(Lw.sX _ _).Bt (Lw.Kc _).2.1⟩;exact⟨373,(Lw.sX _ _).Bt (Lw.Kc _).2.2⟩
 ·intro P hP;simp only[bM,List.mem_nil_iff,or_false]at hP;rcases hP with rfl|rfl|rfl;exact(Lw.Lj ob _).1;exact(Lw.Lj ob _).2.1;exact(Lw.Lj ob _).2.2
 ·intro fa hfa base hb hn;obtain⟨f,fd,e,_,hbi,hF⟩:=(Lw.IS (P:=PySem.Challenge.rw_lotstore_s01_answers.prog) (w:=w) (base:=base) T (Lw.Od X G)).ex;have e2:f=fa:=Value.ref.inj (cV (e.symm.trans hfa));subst e2;exact⟨fd,hbi,hF⟩
 intro H H' xs a Xr Ro hx sm ht;cases hx with
 | cons h1 h2=>
  cases h2;cases h1 with
  | lst hs ha=>
   have e:=L2.Ic a.1 _ ha;subst e;exact⟨_,a.1,rfl,sm.seq hs,Lw.Tq ht,Ro,fun D H2 _ _ hq=> .lst (L2.bz.of hq) (L2.Hq _)⟩
