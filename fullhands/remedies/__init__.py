"""What helps against getting stuck."""
