"""Which tests are enough for every sorting network."""
