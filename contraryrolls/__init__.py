"""Contraryrolls: rolls that show what is so, and rolls that show what is not."""
