"""Roundglass: rays through glasses, and for ever between mirrors."""
