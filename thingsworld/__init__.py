"""Things of a world: kinds, things in things, indexes, questions and kept answers."""
