"""Sumshare: many hands that keep little of one long stream."""
