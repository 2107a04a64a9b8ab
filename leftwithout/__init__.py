"""Leftwithout: guests who take one of two places, or go without."""
