package inode

import (
	"maps"
	"slices"

	"creel/api"
	"creel/mode"
	"creel/sector"
	"creel/wal"
)

// refused tells what keeps changes from being made, whatever is free.
func (d layout) refused(l []Change) api.Errno {
	for _, c := range l {
		if !d.has(c.No) {
			return api.ErrArg
		}
	}
	seen := map[int]struct{}{}
	for _, c := range l {
		if _, twice := seen[c.No]; twice {
			return api.ErrTwice
		}
		seen[c.No] = struct{}{}
	}
	for _, c := range l {
		if e := c.refused(); e != api.OK {
			return e
		}
	}
	return api.OK
}

// refused tells what is wrong with the node that a change gives.
func (c Change) refused() api.Errno {
	if c.Drop {
		return api.OK
	}
	if e := mode.Check(c.Node.Stat); e != api.OK {
		return e
	}
	if len(c.Node.Data) > mostBytes {
		return api.ErrLong
	}
	return api.OK
}

// behind answers the nodes that aren't free behind the changes.
func (t *Table) behind(l []Change) (map[int]held, api.Errno) {
	used := maps.Clone(t.used)
	// All of them go ahead of the first that comes: what one has, another takes.
	for _, c := range l {
		delete(used, c.No)
	}
	take := t.log.taking(used)
	for _, c := range l {
		if c.Drop {
			continue
		}
		blocks, e := take(Blocks(len(c.Node.Data)))
		if e != api.OK {
			return nil, e
		}
		used[c.No] = held{Node: c.Node.copied(), blocks: blocks}
	}
	return used, api.OK
}

// taking answers what takes so many of the blocks that these nodes leave free:
// the lowest that weren't taken yet, in order.
func (d layout) taking(used map[int]held) func(n int) ([]int, api.Errno) {
	owned := make([]bool, d.blocks())
	for _, n := range used {
		for _, no := range n.blocks {
			owned[no] = true
		}
	}
	next := 0
	return func(n int) ([]int, api.Errno) {
		var l []int
		for ; len(l) < n; next++ {
			switch {
			case next == len(owned):
				return nil, api.ErrFull
			case !owned[next]:
				l = append(l, next)
			}
		}
		return l, api.OK
	}
}

// writes answers what changes write, if these are the nodes that aren't free
// behind them.
func (d layout) writes(l []Change, used map[int]held) []wal.Write {
	var w []wal.Write
	for _, c := range l {
		n, is := used[c.No]
		if !is {
			w = append(w, wal.Write{No: d.nodeAt(c.No), B: sector.Of()})
			continue
		}
		place := 0
		for part := range slices.Chunk(n.Data, api.SectorSize) {
			w = append(w, wal.Write{No: d.blockAt(n.blocks[place]), B: sector.Of(part)})
			place++
		}
		w = append(w, wal.Write{No: d.nodeAt(c.No), B: n.note()})
	}
	return w
}
