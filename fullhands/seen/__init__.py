"""Tables that are seen from outside, or known in part."""
