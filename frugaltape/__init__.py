"""A language whose machine runs both ways and records only what it must."""
