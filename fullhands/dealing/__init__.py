"""Dealing dishes out to lots of people."""
