"""Tables with one hand each, round tables and long rows."""
