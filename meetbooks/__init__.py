"""Meetbooks: what hands that meet can tell, from books that never grow."""
