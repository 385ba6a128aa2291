"""Leavings: unlike rows left by leaving letters out."""
