"""Orders of things in walks whose neighbours are one small step apart."""
