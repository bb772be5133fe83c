"""Figuretexts: numbers written by the customs of lands, and read back."""
