"""Roundmill: numbers kept in bits, each answer rounded once."""
