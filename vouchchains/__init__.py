"""Papers that vouch for papers: questions to bags of them, answered by paths or tables."""
