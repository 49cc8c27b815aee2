"""Windowdog: a watcher that bites unless it is patted in time."""
