"""Changehall: exchanges that go both ways."""
