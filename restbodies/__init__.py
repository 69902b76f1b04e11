"""Restbodies: stiff bodies that meet, in exact steps."""
