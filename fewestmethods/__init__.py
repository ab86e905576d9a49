"""Fewestmethods: the smallest method table with the same calls, and the conflicts that it avoids."""
