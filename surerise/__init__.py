"""Questions about counters that only rise and sometimes start again."""
