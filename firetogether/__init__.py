"""Firetogether: rows of hands that all fire at one beat."""
