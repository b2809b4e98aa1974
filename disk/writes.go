package disk

import "headrace/api"

// Create adds an empty file.
func (d *Disk) Create(name string) api.Errno {
	if d.down {
		return api.ErrDown
	}
	if !isName(name) {
		return api.ErrName
	}
	if _, ok := d.files[name]; ok {
		return api.ErrTwice
	}
	if len(d.files) >= api.MaxFiles {
		return api.ErrMany
	}
	if !d.spend() {
		return api.ErrDown
	}
	d.put(name, &file{})
	return api.OK
}

// Append appends b to the file; these bytes are not safe.
func (d *Disk) Append(name string, b []byte) api.Errno {
	f, e := d.find(name)
	if e != api.OK {
		return e
	}
	if len(b) > api.MaxDisk-d.Size() {
		return api.ErrFull
	}
	// The bytes of a failing Append have reached the file too: the crash that follows tears them.
	f.data = append(f.data, b...)
	if !d.spend() {
		return api.ErrDown
	}
	return api.OK
}

// Sync makes all bytes of the file safe.
func (d *Disk) Sync(name string) api.Errno {
	f, e := d.find(name)
	if e != api.OK {
		return e
	}
	if !d.spend() {
		return api.ErrDown
	}
	f.safe = len(f.data)
	return api.OK
}

// Cut keeps the first n bytes of the file.
func (d *Disk) Cut(name string, n int) api.Errno {
	f, e := d.find(name)
	if e != api.OK {
		return e
	}
	if n < 0 || n > len(f.data) {
		return api.ErrRange
	}
	if !d.spend() {
		return api.ErrDown
	}
	f.data = f.data[:n]
	f.safe = min(f.safe, n)
	return api.OK
}

// Rename gives the file another name; a file that had this name is removed.
func (d *Disk) Rename(from, to string) api.Errno {
	f, e := d.find(from)
	if e != api.OK {
		return e
	}
	if !isName(to) {
		return api.ErrName
	}
	if !d.spend() {
		return api.ErrDown
	}
	// The old name goes first: it may be the new one too.
	delete(d.files, from)
	d.put(to, f)
	return api.OK
}

// Remove removes the file.
func (d *Disk) Remove(name string) api.Errno {
	if _, e := d.find(name); e != api.OK {
		return e
	}
	if !d.spend() {
		return api.ErrDown
	}
	delete(d.files, name)
	return api.OK
}

// find returns the file to be written, if the disk is up and has it.
func (d *Disk) find(name string) (*file, api.Errno) {
	if d.down {
		return nil, api.ErrDown
	}
	f, ok := d.files[name]
	if !ok {
		return nil, api.ErrNone
	}
	return f, api.OK
}

// spend counts a write that has no error of its own, and tells whether it is executed. The write for
// which the disk is armed is not, and brings the disk down.
func (d *Disk) spend() bool {
	if d.left == 1 {
		d.left = 0
		d.down = true
		return false
	}
	if d.left > 1 {
		d.left--
	}
	d.writes++
	return true
}
