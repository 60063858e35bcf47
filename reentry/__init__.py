"""Reentry: modules that are called back while they work, compared for all surroundings."""
