"""From outputs back to inputs."""
