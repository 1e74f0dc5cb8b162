"""Rows of powers without end over the rests by a prime."""
