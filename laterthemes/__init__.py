"""What a theme still guarantees under every later layer."""
