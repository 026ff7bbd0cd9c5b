"""Trees that are hung at people of other trees."""
