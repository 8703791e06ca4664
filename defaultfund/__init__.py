"""The fund that covers whoever defaults."""
