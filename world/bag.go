package world

import (
	"maps"
	"slices"

	"almoner/api"
	"almoner/net"
	"almoner/node"
	"almoner/wire"
)

// bag is the messages under way, as bytes.
//
// The net numbers and carries them; but one that stays under way it tells only together with all others. So what it carries stands here too, to be found by its number.
type bag struct {
	net     *net.Net
	letters map[int]letter
}

// letter is a message under way: from whom, to whom, and its bytes, which are never written to.
type letter struct {
	from, to int
	bytes    []byte
}

// newBag makes an empty one between so many addresses.
func newBag(addresses int) *bag {
	n, _ := net.New(addresses) // nodes and clients are fewer than a net may have places
	return &bag{net: n, letters: map[int]letter{}}
}

// send puts a message in, and tells its number.
func (b *bag) send(from, to int, m api.Message) int {
	said, _ := wire.PutMessage(m)           // nodes and sessions send nothing without a form,
	number, _ := b.net.Send(from, to, said) // and to nobody but one another
	b.letters[number] = letter{from, to, said}
	return number
}

// sendAll puts in what a node sends, and tells the numbers.
func (b *bag) sendAll(from int, out []node.Out) []int {
	var sent []int
	for _, o := range out {
		sent = append(sent, b.send(from, o.To, o.Message))
	}
	return sent
}

// takeOut tells a message that is under way no more then.
func (b *bag) takeOut(number int) (net.Packet, api.Errno) {
	delete(b.letters, number)
	return b.net.Deliver(number)
}

// double puts a message in once more, and tells the new number.
func (b *bag) double(number int) (int, api.Errno) {
	copied, errno := b.net.Copy(number)
	if errno == api.OK {
		b.letters[copied] = b.letters[number]
	}
	return copied, errno
}

// drop loses a message.
func (b *bag) drop(number int) api.Errno {
	delete(b.letters, number)
	return b.net.Drop(number)
}

// numbers tells those of all messages, rising.
func (b *bag) numbers() []int { return slices.Sorted(maps.Keys(b.letters)) }
