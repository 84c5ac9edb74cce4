"""How few people meet the needs of a round of hours."""
