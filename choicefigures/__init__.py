"""In how many ways so many of so many are chosen, by the figures of a prime base."""
