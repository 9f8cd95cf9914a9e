package disk

// Outage is what a step panics with when power fails in its place. Keep is the
// number of the crash that comes of it.
type Outage struct{ Keep int }

// failure is a failure of power that is to come.
type failure struct{ steps, keep int }

// Fail lets power fail in place of a step, when so many more have been taken. It
// takes the place of the failure that there was.
func (d *Disk) Fail(steps, keep int) { d.failure = &failure{steps, keep} }

// step is called ahead of each step: nothing of it is done when power fails.
func (d *Disk) step() {
	if d.failure == nil {
		return
	}
	if d.failure.steps == 0 {
		panic(Outage{Keep: d.failure.keep})
	}
	d.failure.steps--
}
