"""withinbooks: does the newer manual stay within some purse wherever the elder one does?"""
