"""Controllers that keep their rules whatever happens."""
