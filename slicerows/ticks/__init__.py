"""How long signals take until they have settled."""
