"""Flat works among stops, decided in exact ratios for all motions and all spots."""
