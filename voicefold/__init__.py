"""Voicefold: many voices, one end, by many rules."""
