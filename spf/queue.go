package spf

// step is a walk's last one: to which node it leads, and the metric of the walk.
type step struct {
	to     *node
	metric uint32
}

// queue is a heap of steps: the nearest one stands ahead.
type queue []step

// Len answers how many steps there are.
func (q queue) Len() int {
	return len(q)
}

// Less tells whether the step at i is nearer than the one at k.
func (q queue) Less(i, k int) bool {
	return q[i].metric < q[k].metric
}

// Swap makes the steps at i and k stand at each other's place.
func (q queue) Swap(i, k int) {
	q[i], q[k] = q[k], q[i]
}

// Push adds a step at the end.
func (q *queue) Push(x any) {
	*q = append(*q, x.(step))
}

// Pop takes the step at the end away.
func (q *queue) Pop() any {
	last := len(*q) - 1
	s := (*q)[last]
	*q = (*q)[:last]
	return s
}
