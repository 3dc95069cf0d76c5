"""Playhall: games written as rules, their records, and what is decided about them for all plays."""
