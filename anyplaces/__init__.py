"""Machine words at any places, lost and wrong ones told again."""
