"""Edits of what waits for a disk, and who could ever notice them."""
