"""Hosts that send dishes by programs."""
