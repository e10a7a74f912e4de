"""Ringreads: records on a ring, and the orders that read them with the fewest rounds."""
