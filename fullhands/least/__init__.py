"""What it takes at least to get stuck."""
