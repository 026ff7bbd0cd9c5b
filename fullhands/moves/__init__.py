"""Standings of a table and the moves between them."""
