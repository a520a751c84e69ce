"""Problems that every server of pages solves, where a query has a witness."""
