"""Onehold: seats that visitors hold in several pages at once."""
