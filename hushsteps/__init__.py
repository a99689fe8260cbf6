"""Hushsteps: walks through a house in which somebody sleeps."""
