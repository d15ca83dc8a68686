"""Programs over caches that nobody keeps alike."""
