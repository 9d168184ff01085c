"""Greywalk: a heap with several hands and a sweeper that walks beside them."""
