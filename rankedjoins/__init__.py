"""Texts cut into pieces by ranked joins."""
