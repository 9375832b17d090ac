"""Takepairs: pairs of piles, from the greater of which multiples of the lesser are taken."""
