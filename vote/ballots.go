package vote

import "forestay/api"

// ballots: a vote of each replica, in its place.
type ballots [api.Replicas]string

// won: of two different votes, both can't have more than half.
func (b ballots) won(vote string) bool { return 2*b.count(vote) > len(b) }

func (b ballots) count(vote string) int {
	n := 0
	for _, v := range b {
		if v == vote {
			n++
		}
	}
	return n
}
