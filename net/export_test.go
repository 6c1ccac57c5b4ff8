package net

// Times answers how often a packet of that fate comes.
func Times(f Fate) int {
	return f.times()
}
