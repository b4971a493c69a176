"""Carry: bags through a house of belts."""
