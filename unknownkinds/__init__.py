"""Things of unknown kind: what was shown of them, and what follows from it."""
