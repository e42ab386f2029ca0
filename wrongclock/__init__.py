"""Wrongclock: a keeper whose clock is set about."""
