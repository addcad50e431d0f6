"""Words, columns and walks, on which all else rests."""
