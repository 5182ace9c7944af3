package dag

import "container/heap"

// queue is nodes that wait, of which the one that stands ahead of all others comes first.
type queue struct {
	nodes []*node
	ahead func(a, b *node) bool
}

func newQueue(ahead func(a, b *node) bool, first *node) *queue {
	return &queue{[]*node{first}, ahead}
}

func (q *queue) add(n *node) { heap.Push(q, n) }

func (q *queue) take() *node { return heap.Pop(q).(*node) }

// What container/heap asks for.

func (q *queue) Len() int { return len(q.nodes) }

func (q *queue) Less(i, j int) bool { return q.ahead(q.nodes[i], q.nodes[j]) }

func (q *queue) Swap(i, j int) { q.nodes[i], q.nodes[j] = q.nodes[j], q.nodes[i] }

func (q *queue) Push(n any) { q.nodes = append(q.nodes, n.(*node)) }

func (q *queue) Pop() any {
	last := len(q.nodes) - 1
	n := q.nodes[last]
	q.nodes = q.nodes[:last]
	return n
}
