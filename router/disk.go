package router

// Disk has what was saved last, and how many times from now on it fails.
type Disk struct {
	Saved Knowledge
	Fails int
}

// DiskFailure is the panic of a disk that fails.
type DiskFailure struct{}

// Save keeps a copy of k; it panics with a DiskFailure, if the disk fails.
func (disk *Disk) Save(k Knowledge) {
	if disk.Fails > 0 {
		disk.Fails--
		panic(DiskFailure{})
	}
	disk.Saved = k
}
