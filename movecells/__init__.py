"""Near places by cells of a map: whether a rule of search misses a place."""
