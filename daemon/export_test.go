package daemon

// Stir makes the router be settled at its next tick, whether something has changed or not.
func Stir(d *Daemon) {
	d.changed = true
}
