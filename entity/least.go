package entity

// least is ids as a heap: its root is the least one.
type least []int

// Len: how many.
func (l least) Len() int { return len(l) }

// Less: whether one goes ahead of another.
func (l least) Less(i, j int) bool { return l[i] < l[j] }

// Swap: each stands where the other stood.
func (l least) Swap(i, j int) { l[i], l[j] = l[j], l[i] }

// Push: one more, an int, at the end, as container/heap asks.
func (l *least) Push(id any) { *l = append(*l, id.(int)) }

// Pop: one less, from the end, as container/heap asks.
func (l *least) Pop() any {
	last := len(*l) - 1
	id := (*l)[last]
	*l = (*l)[:last]
	return id
}
