"""Stickytiles: tiles whose sides stick, and what grows whatever comes first."""
