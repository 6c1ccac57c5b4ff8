package wheel

// timer is a shot that is still to come, and knows where in the line it stands.
type timer struct {
	Shot
	place int
}

// line is a heap of timers: the one that goes off first stands ahead.
type line []*timer

// Len answers how many timers there are.
func (l line) Len() int {
	return len(l)
}

// Less tells whether the timer at i goes off ahead of the one at k.
func (l line) Less(i, k int) bool {
	if l[i].At != l[k].At {
		return l[i].At < l[k].At
	}
	return l[i].ID < l[k].ID
}

// Swap makes the timers at i and k stand at each other's place.
func (l line) Swap(i, k int) {
	l[i], l[k] = l[k], l[i]
	l[i].place, l[k].place = i, k
}

// Push adds a timer at the end.
func (l *line) Push(x any) {
	t := x.(*timer)
	t.place = len(*l)
	*l = append(*l, t)
}

// Pop takes the timer at the end away.
func (l *line) Pop() any {
	last := len(*l) - 1
	t := (*l)[last]
	(*l)[last] = nil // the room behind the line keeps no timer that is gone
	*l = (*l)[:last]
	return t
}
