package wire

import (
	"almoner/api"
	"almoner/bytesio"
)

// thing is what has a form of its own.
type thing interface {
	api.Request | api.Answer | api.Event | api.Head | api.Signed | api.Proof | api.Message
}

// codec goes along the parts of a thing. It lays them, if it has a writer; else it has a reader, and reads them. So what a thing's parts are, and where they are wrong, stands once for both ways.
type codec struct {
	w *bytesio.Writer
	r *bytesio.Reader
}

// put tells a thing's bytes.
func put[T thing](v T) ([]byte, error) {
	c := &codec{w: bytesio.NewWriter()}
	c.whole(&v)
	return c.w.Done()
}

// get tells the thing of bytes.
func get[T thing](b []byte) (T, error) {
	c := &codec{r: bytesio.NewReader(b)}
	var v, none T
	c.whole(&v)
	c.r.Name("end")
	if err := c.r.Done(); err != nil {
		return none, err
	}
	return v, nil
}

// number goes along a part that has a fixed size.
func number[T uint8 | uint32 | float32](c *codec, name string, v *T, rules ...rule[T]) {
	part(c, name, v, 0, rules)
}

// run goes along a text or bytes, from least to most of them.
func run[T string | []byte](c *codec, name string, v *T, least, most int, rules ...rule[T]) {
	part(c, name, v, most, append([]rule[T]{sized[T](least, most)}, rules...))
}

// list goes along how many things there are, most at most, and each of them.
func list[T any](c *codec, name string, l *[]T, most int, each func(*T), rules ...rule[int]) {
	n := len(*l)
	part(c, name, &n, most, append([]rule[int]{within(0, most, api.ErrLong)}, rules...))
	for i := range min(n, most) { // beyond most all is given up
		var v T
		if c.w != nil {
			v = (*l)[i] // a copy: what is handed in is not written to
		}
		each(&v)
		if c.r != nil {
			*l = append(*l, v)
		}
	}
}

// part goes along one part. A writer gives up at the place of its next part, a reader at that of its last one: so what is laid is looked at ahead of that, and what is read behind it.
func part[T any](c *codec, name string, v *T, most int, rules []rule[T]) {
	if c.w != nil {
		c.w.Name(name)
		c.w.Fail(firstBroken(rules, *v))
		lay(c.w, v, most)
		return
	}
	c.r.Name(name)
	read(c.r, v, most)
	c.r.Fail(firstBroken(rules, *v))
}

// lay lays a part, as what it is.
func lay(w *bytesio.Writer, part any, most int) {
	switch v := part.(type) {
	case *uint8:
		w.U8(*v)
	case *uint32:
		w.U32(*v)
	case *float32:
		w.F32(*v)
	case *string:
		w.Text(*v, most)
	case *[]byte:
		w.Bytes(*v, most)
	case *int:
		w.Count(*v, most)
	}
}

// read reads what lay has laid.
func read(r *bytesio.Reader, part any, most int) {
	switch v := part.(type) {
	case *uint8:
		*v = r.U8()
	case *uint32:
		*v = r.U32()
	case *float32:
		*v = r.F32()
	case *string:
		*v = r.Text(most)
	case *[]byte:
		*v = r.Bytes(most)
	case *int:
		*v = r.Count(most)
	}
}
