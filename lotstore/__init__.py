"""A store by lots: kits, reservations, recalls."""
