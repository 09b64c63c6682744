"""Questions with parts that may be missing, decided for all stores."""
