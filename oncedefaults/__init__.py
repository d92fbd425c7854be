"""Who can notice that a default is made only once: small libraries, their runs and their worlds."""
