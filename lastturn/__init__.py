"""Lastturn: a gift exchange that one row of guests explains."""
