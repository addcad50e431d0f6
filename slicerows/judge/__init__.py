"""What holds for rows of every width."""
