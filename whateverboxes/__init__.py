"""Whateverboxes: sums that one box must hold."""
