"""Ratehall: works, belts, rounds and rooms."""
