"""Orders that never show told little patterns."""
