package snap

const numberBytes = 8

// writer fills bytes from their beginning on; there must be as many as are written.
type writer struct{ left []byte }

func (w *writer) text(s string) { w.left = w.left[copy(w.left, s):] }

func (w *writer) number(n int) {
	var b [numberBytes]byte
	for i := range b {
		b[numberBytes-1-i] = byte(n >> (8 * i))
	}
	w.left = w.left[copy(w.left, b[:]):]
}

func (w *writer) numbers(l []int) {
	for _, n := range l {
		w.number(n)
	}
}

// reader goes through bytes from their beginning on. From the first one on that is in no form it's spoilt: nothing is left, and all that it tells is zero.
type reader struct {
	left   []byte
	spoilt bool
}

func (r *reader) need(so bool) {
	if !so {
		r.left, r.spoilt = nil, true
	}
}

// bytes are in the memory of what is read: for who copies them at once.
func (r *reader) bytes(many int) []byte {
	r.need(many <= len(r.left))
	if r.spoilt {
		return nil
	}
	b := r.left[:many]
	r.left = r.left[many:]
	return b
}

func (r *reader) number() int {
	n := 0
	for _, b := range r.bytes(numberBytes) {
		n = n<<8 | int(b)
	}
	return n
}

func (r *reader) numbers(many int) []int {
	l := make([]int, many)
	for i := range l {
		l[i] = r.number()
	}
	return l
}

// count tells how many things there are, of which each has so many bytes at least: none, where there cannot be as many. So no more memory is asked for than the bytes are worth.
func (r *reader) count(least int) int {
	n := r.number()
	r.need(0 <= n && n <= len(r.left)/least)
	if r.spoilt {
		return 0
	}
	return n
}
