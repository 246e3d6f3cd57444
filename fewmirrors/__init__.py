"""Fewmirrors: moves that keep a form, and the fewest mirrors that make them."""
