"""A workshop of rows and of promises on them."""
