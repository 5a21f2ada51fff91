"""Beatless: rounds where there is no beat."""
