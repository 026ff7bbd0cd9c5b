"""The bounds on dishes with which a tree can get stuck."""
