"""A desk that is told what to do by lines."""
