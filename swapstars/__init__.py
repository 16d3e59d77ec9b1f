"""Swapstars: orders made of exchanges, rows led past one another, trees, sharings, counts."""
