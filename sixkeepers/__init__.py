"""Sixkeepers: facts of yes and no, and what keeps them."""
