"""Kraftroom: codes for messages."""
