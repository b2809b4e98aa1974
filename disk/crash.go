package disk

// Arm lets the n-th write from now on fail, or none if n is below 1.
func (d *Disk) Arm(n int) {
	if !d.down {
		d.left = max(n, 0)
	}
}

// Crash tears the files as picks say, and brings the disk up again.
func (d *Disk) Crash(picks []int) {
	torn := 0
	for _, name := range d.List() {
		f := d.files[name]
		loose := len(f.data) - f.safe
		if loose == 0 {
			continue
		}
		f.data = f.data[:f.safe+kept(picks, torn, loose)]
		f.safe = len(f.data)
		torn++
	}
	d.left = 0
	d.down = false
}

// kept returns how many of the loose bytes of the i-th torn file the picks let it keep.
func kept(picks []int, i, loose int) int {
	if i >= len(picks) || picks[i] < 0 {
		return 0
	}
	return picks[i] % (loose + 1)
}
