"""Hidhalves: rows of marks that hide two half-rows each, put on one tree, or why they can't be."""
