package disk

// kind is what a change does.
type kind int

const (
	write kind = iota
	move
	drop
)

// change is one change of a disk that could be done when it was asked for. A move's two names differ.
type change struct {
	kind     kind
	name, to string
	data     []byte
}

// volume is files by their names, and how many bytes they have.
type volume struct {
	files map[string][]byte
	used  int
}

func (v *volume) has(name string) bool {
	_, ok := v.files[name]
	return ok
}

func (v *volume) apply(c change) {
	switch c.kind {
	case write:
		v.write(c.name, c.data)
	case move:
		v.move(c.name, c.to)
	case drop:
		v.drop(c.name)
	}
}

func (v *volume) write(name string, data []byte) {
	if v.files == nil {
		v.files = map[string][]byte{}
	}
	v.files[name] = append(v.files[name], data...)
	v.used += len(data)
}

func (v *volume) move(name, to string) {
	v.used -= len(v.files[to])
	v.files[to] = v.files[name]
	delete(v.files, name)
}

func (v *volume) drop(name string) {
	v.used -= len(v.files[name])
	delete(v.files, name)
}

// twin is a volume with the same files. The bytes are shared, but not the room behind them: what one of the two appends the other doesn't see.
func (v *volume) twin() volume {
	files := make(map[string][]byte, len(v.files))
	for name, b := range v.files {
		files[name] = b[:len(b):len(b)]
	}
	return volume{files: files, used: v.used}
}
