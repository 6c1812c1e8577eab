package lull_test

import (
	"fmt"

	"lull/api"
	"lull/lull"
)

func ExampleEngine_Register() {
	e, _ := lull.New(1)
	fmt.Println(e.Register("a !b c within 5", "a !b within 5"))
	fmt.Println(e.Register("a within 5", "a !b !c within 5"))
	fmt.Println(e.Remove(0), e.Remove(0))
	// Output:
	// [0 1] 0 0
	// [] 2 5
	// 0 4
}

func Example() {
	e, _ := lull.New(1)
	e.Register("a !b c within 5", "a !b within 5")
	fmt.Println(e.Offer(api.Event{Time: 4, Kind: 'c'}, api.Event{Time: 1, Kind: 'a'}))
	fmt.Println(e.Beat(0, 5), e.Watermark(), e.Waiting(0), e.Runs(1))
	fmt.Println(e.Drain(9))
	e.Beat(0, 7)
	fmt.Println(e.Drain(9), e.Runs(1))
	// Output:
	// 2 0
	// 0 5 1 1
	// [{0 4 [{0 1 97 0} {0 4 99 0}]}]
	// [{1 6 [{0 1 97 0}]}] 0
}

func ExampleBatch() {
	patterns := []string{"a !b c within 5", "a !b within 5"}
	fmt.Println(lull.Batch(1, patterns, []api.Event{{Time: 4, Kind: 'c'}, {Time: 1, Kind: 'a'}}))
	fmt.Println(lull.Batch(1, append(patterns, "a within"), nil))
	// Output:
	// [[{0 4 [{0 1 97 0} {0 4 99 0}]}] [{1 6 [{0 1 97 0}]}]] 0
	// [] 2
}
