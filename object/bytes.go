package object

import "forestay/api"

type writer struct{ bytes []byte }

// put numbers, a byte each: Check has seen to it that they are small enough.
func (w *writer) put(numbers ...int) {
	for _, n := range numbers {
		w.bytes = append(w.bytes, byte(n))
	}
}

// ended is what a reader gives up by; its type tells it from every other panic.
type ended struct{}

type reader struct {
	from string
	at   int
}

// next byte; where there is none, the reader gives up, so that no step of reading need ask.
func (r *reader) next() byte {
	if r.at >= len(r.from) {
		panic(ended{})
	}
	b := r.from[r.at]
	r.at++
	return b
}

func (r *reader) number() int { return int(r.next()) }

func (r *reader) links() []int {
	var l []int
	for range r.number() {
		l = append(l, r.number())
	}
	return l
}

func (r *reader) text() string {
	var b []byte
	for range r.number() {
		b = append(b, r.next())
	}
	return string(b)
}

// read an object as its bytes tell it, unchecked, and how many they are; beside an error they mean nothing.
func read(s string) (o api.Object, n int, e api.Errno) {
	defer func() {
		gave := recover()
		if gave == nil {
			return
		}
		if _, ok := gave.(ended); !ok {
			// A fault of the reader itself is not to be told as a text that ends.
			panic(gave)
		}
		e = api.ErrNone
	}()
	r := reader{from: s}
	o.Id = r.number()
	o.Kind = r.number()
	o.Links = r.links()
	o.Text = r.text()
	return o, r.at, api.OK
}
