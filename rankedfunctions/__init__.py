"""Functions at ranks: the calls stand in rankedfunctions.ranks."""
