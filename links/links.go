// Package links searches for shortest walks between nodes that are linked by classes.
package links

import "iter"

// Graph has nodes, and for each label the class of each node, or -1: a label links two nodes if they are in the same class.
type Graph struct {
	classes [][]int
	members [][][]int
	nodes   int
}

// New returns the graph with the given classes of n nodes.
func New(n int, classes [][]int) Graph {
	g := Graph{classes: classes, nodes: n}
	for _, l := range classes {
		var members [][]int
		for i, class := range l {
			for class >= len(members) {
				members = append(members, nil)
			}
			if class >= 0 {
				members[class] = append(members[class], i)
			}
		}
		g.members = append(g.members, members)
	}
	return g
}

// neighbors yields the nodes that a label links to a node, by labels and then by nodes, with their labels.
func (g Graph) neighbors(i int) iter.Seq2[int, int] {
	return func(yield func(int, int) bool) {
		for label, l := range g.classes {
			if l[i] < 0 {
				continue
			}
			for _, k := range g.members[label][l[i]] {
				if !yield(k, label) {
					return
				}
			}
		}
	}
}

// Distances returns for each node the least number of links to a node for which a condition holds, or -1.
func (g Graph) Distances(target func(i int) bool) []int {
	distance := make([]int, g.nodes)
	var queue []int
	for i := range distance {
		distance[i] = -1
		if target(i) {
			distance[i] = 0
			queue = append(queue, i)
		}
	}
	seen := make([][]bool, len(g.members))
	for label, l := range g.members {
		seen[label] = make([]bool, len(l))
	}
	for next := 0; next < len(queue); next++ {
		i := queue[next]
		for label, l := range g.classes {
			// All nodes of a class are reached as soon as one of them is.
			if l[i] < 0 || seen[label][l[i]] {
				continue
			}
			seen[label][l[i]] = true
			for _, k := range g.members[label][l[i]] {
				if distance[k] < 0 {
					distance[k] = distance[i] + 1
					queue = append(queue, k)
				}
			}
		}
	}
	return distance
}

// Step is a node of a walk with the label that links it to the one before.
type Step struct{ Node, Label int }

// Walk returns the least one of the shortest walks from a node to those with the distance 0, without its first node.
func (g Graph) Walk(from int, distance []int) []Step {
	var walk []Step
	for i := from; distance[i] > 0; {
		best := Step{Node: -1}
		for k, label := range g.neighbors(i) {
			if distance[k] == distance[i]-1 && (best.Node < 0 || k < best.Node) {
				best = Step{k, label}
			}
		}
		walk = append(walk, best)
		i = best.Node
	}
	return walk
}
