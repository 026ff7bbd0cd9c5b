"""Fullhands: dishes handed on along fixed ways, and when hands fill up for good."""
