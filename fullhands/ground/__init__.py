"""The ground: tables and their text."""
