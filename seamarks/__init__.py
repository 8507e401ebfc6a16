"""Seamarks: where a ship can have been, by what was seen from her."""
