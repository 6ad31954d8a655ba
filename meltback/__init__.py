"""Meltback: what can still be told behind rows made columns and columns made rows."""
