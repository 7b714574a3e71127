"""Jointed arms that draw, and the one map that each of them is."""
