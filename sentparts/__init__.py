"""Parts of a question that are sent to an unlike store."""
