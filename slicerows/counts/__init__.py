"""How many inputs, and how many outputs, there are."""
