"""Sorthall: a hall of ways to put rows in order."""
