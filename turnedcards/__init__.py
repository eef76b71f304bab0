"""Cards turned and cut: rows, handlings, and what turning two and cutting leads to."""
