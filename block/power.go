package block

// power is whether a disk answers, and for how long it goes on doing so.
type power struct {
	on, armed bool
	left      int
}

// restore turns the power on for good.
func (p *power) restore() { *p = power{on: true} }

// cut turns the power off.
func (p *power) cut() { p.on = false }

// arm leaves n writes and flushes; below 0 there is no end to them.
func (p *power) arm(n int) {
	p.armed, p.left = n >= 0, max(n, 0)
}

// spend takes one of what is left for a write or a flush; where nothing is
// left, the power goes instead.
func (p *power) spend() bool {
	if !p.armed {
		return true
	}
	if p.left == 0 {
		p.cut()
		return false
	}
	p.left--
	return true
}
