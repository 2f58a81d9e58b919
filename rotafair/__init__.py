"""Rotafair: a house of duties, and every answer with its paper."""
