// Package signatures holds the layers to the calls that the chapters list: it does not compile if one of them is missing or has another signature.
package signatures

import (
	"canton/api"
	"canton/call"
	"canton/check"
	"canton/command"
	"canton/letter"
	"canton/locks"
	"canton/meta"
	"canton/mounts"
	"canton/multi"
	"canton/nodes"
	"canton/owned"
	"canton/pack"
	"canton/part"
	"canton/path"
	"canton/post"
	"canton/replica"
	"canton/sector"
	"canton/shard"
	"canton/views"
	"canton/wal"
	"canton/watch"
	"canton/world"
)

var (
	_ func(string) bool                   = path.Right
	_ func(string) ([]string, bool)       = path.Split
	_ func(string) (string, bool)         = path.Parent
	_ func(string) string                 = path.Last
	_ func(string, string) (string, bool) = path.Join
	_ func(string, string) bool           = path.In
	_ func(string, int) (string, bool)    = path.Numbered
)

var (
	_ func(*pack.Writer, int64)              = (*pack.Writer).Num
	_ func(*pack.Writer, string)             = (*pack.Writer).Text
	_ func(*pack.Writer, []string)           = (*pack.Writer).Texts
	_ func(*pack.Writer) ([]byte, api.Errno) = (*pack.Writer).Bytes
	_ func([]byte) *pack.Reader              = pack.New
	_ func(*pack.Reader, int64) int64        = (*pack.Reader).Num
	_ func(*pack.Reader) string              = (*pack.Reader).Text
	_ func(*pack.Reader) []string            = (*pack.Reader).Texts
	_ func(*pack.Reader) api.Errno           = (*pack.Reader).Err
	_ func(*pack.Reader) bool                = (*pack.Reader).End
)

var (
	_ func(int) *sector.Disk                           = sector.New
	_ func([]byte) *sector.Disk                        = sector.Of
	_ func(*sector.Disk, int, []byte) api.Errno        = (*sector.Disk).Write
	_ func(*sector.Disk) api.Errno                     = (*sector.Disk).Sync
	_ func(*sector.Disk, int, int) ([]byte, api.Errno) = (*sector.Disk).Read
	_ func(*sector.Disk) int                           = (*sector.Disk).Size
	_ func(*sector.Disk) []byte                        = (*sector.Disk).Bytes
	_ func(*sector.Disk) int                           = (*sector.Disk).Acts
	_ func(*sector.Disk) []int                         = (*sector.Disk).Loose
	_ func(*sector.Disk, int)                          = (*sector.Disk).Fuse
	_ func(*sector.Disk) bool                          = (*sector.Disk).Down
	_ func(*sector.Disk, []bool)                       = (*sector.Disk).Crash
)

var (
	_ func(uint16, []byte) uint32           = check.Sum
	_ func(int64, int64, int64, int64) bool = check.Newer
)

var (
	_ func(*sector.Disk) (*wal.Log, api.Errno) = wal.Open
	_ func(*wal.Log) [][]byte                  = (*wal.Log).Records
	_ func(*wal.Log, []byte) api.Errno         = (*wal.Log).Append
	_ func(*wal.Log, []byte) api.Errno         = (*wal.Log).Start
	_ func(*wal.Log) int                       = (*wal.Log).Room
)

var (
	_ func([]api.Node) bool                             = nodes.Right
	_ func() []api.Node                                 = nodes.New
	_ func([]api.Node, string) (api.Node, bool)         = nodes.Find
	_ func(api.Op) bool                                 = nodes.May
	_ func([]api.Node, api.Op) ([]api.Node, api.Result) = nodes.Apply
)

var (
	_ func(api.Store) bool                              = part.Right
	_ func(api.Part) bool                               = part.May
	_ func(api.Op) []api.Part                           = part.Of
	_ func(api.Store, api.Part) (api.Store, api.Result) = part.Do
	_ func([]api.Node) api.Store                        = part.Keep
	_ func([]api.Store) ([]api.Node, bool)              = part.Tree
)

var (
	_ func([]api.Op) bool                                                    = multi.May
	_ func([]api.Node, []api.Op) ([]api.Node, api.Done)                      = multi.Apply
	_ func([]api.Op) []api.Piece                                             = multi.Of
	_ func(api.Store, []api.Piece) (api.Store, []api.Result, api.Errno, int) = multi.All
)

var (
	_ func(api.Watched) bool                                                = watch.Right
	_ func(api.Watched, api.Watch) (api.Watched, api.Errno)                 = watch.Add
	_ func(api.Watched, int64, int64) (api.Watched, api.Errno)              = watch.Close
	_ func(api.Watched, int, string) (api.Watched, api.Errno)               = watch.Tell
	_ func(api.Watched, int64, int64) (api.Watched, []api.Event, api.Errno) = watch.Take
)

var (
	_ func([]api.Piece) []string                                           = locks.Dirs
	_ func([]api.Hold) bool                                                = locks.Right
	_ func([]api.Hold, int64, int64, []string) ([]api.Hold, []int64, bool) = locks.Take
	_ func([]api.Hold, int64) []api.Hold                                   = locks.Free
	_ func([]api.Hold, string) (int64, bool)                               = locks.Held
)

var (
	_ func([]api.Range) bool                                      = owned.Right
	_ func([]api.Range, string) int                               = owned.Of
	_ func([]api.Range, string) int                               = owned.State
	_ func([]api.Range, string) ([]api.Range, bool)               = owned.Freeze
	_ func([]api.Range, string, int64) ([]api.Range, bool)        = owned.Install
	_ func([]api.Range, string, int64) ([]api.Range, bool)        = owned.Drop
	_ func(api.Store, []api.Range, string) (api.Store, api.Store) = owned.Cut
)

var (
	_ func(api.Command) bool                = command.Right
	_ func(api.Command) ([]byte, api.Errno) = command.Put
	_ func([]byte) (api.Command, api.Errno) = command.Get
)

var (
	_ func(api.Store, []api.Range) *shard.Shard  = shard.New
	_ func(*shard.Shard, api.Command) api.Answer = (*shard.Shard).Do
	_ func(*shard.Shard) api.Store               = (*shard.Shard).Store
	_ func(*shard.Shard) []api.Range             = (*shard.Shard).Ranges
	_ func(*shard.Shard) []api.Hold              = (*shard.Shard).Holds
	_ func(*shard.Shard) api.Watched             = (*shard.Shard).Watched
)

var (
	_ func([]api.Mount) bool                                             = mounts.Right
	_ func([]api.Mount, string) int                                      = mounts.Of
	_ func([]api.Mount, string, int) ([]api.Mount, api.Mount, api.Errno) = mounts.Begin
	_ func([]api.Mount, string, int64, int) ([]api.Mount, api.Errno)     = mounts.Flip
)

var (
	_ func([]api.Mount) *meta.Meta              = meta.New
	_ func(*meta.Meta, api.Command) api.Answer  = (*meta.Meta).Do
	_ func(*meta.Meta) []api.Mount              = (*meta.Meta).Mounts
	_ func([]api.Mount, []string) ([]int, bool) = meta.Route
)

var (
	_ func(int, int, api.Saved) *views.Views     = views.New
	_ func(*views.Views) api.Saved               = (*views.Views).Saved
	_ func(*views.Views) bool                    = (*views.Views).First
	_ func(*views.Views) int                     = (*views.Views).Stays
	_ func(*views.Views, string) bool            = (*views.Views).Propose
	_ func(*views.Views) bool                    = (*views.Views).Turn
	_ func(*views.Views, int, api.Letter) bool   = (*views.Views).Take
	_ func(*views.Views, int) (api.Letter, bool) = (*views.Views).Send
)

var (
	_ func(api.Letter) ([]byte, api.Errno) = letter.Put
	_ func([]byte) (api.Letter, api.Errno) = letter.Get
	_ func(api.Answer) ([]byte, api.Errno) = letter.PutAnswer
	_ func([]byte) (api.Answer, api.Errno) = letter.GetAnswer
	_ func(api.Saved) ([]byte, api.Errno)  = letter.PutSaved
	_ func([]byte) (api.Saved, api.Errno)  = letter.GetSaved
)

var (
	_ func(int, int, *sector.Disk, api.Start) (*replica.Replica, api.Errno) = replica.Open
	_ func(*replica.Replica, int, api.Letter) api.Errno                     = (*replica.Replica).Take
	_ func(*replica.Replica, int, int64, string) api.Errno                  = (*replica.Replica).Ask
	_ func(*replica.Replica) api.Errno                                      = (*replica.Replica).Turn
	_ func(*replica.Replica, int) (api.Letter, bool)                        = (*replica.Replica).Send
	_ func(*replica.Replica) []api.Told                                     = (*replica.Replica).Told
	_ func(*replica.Replica) api.Saved                                      = (*replica.Replica).Saved
	_ func(*replica.Replica) int                                            = (*replica.Replica).Applied
	_ func(*replica.Replica, int) (string, api.Answer, bool)                = (*replica.Replica).Did
	_ func(*replica.Replica) bool                                           = (*replica.Replica).Down
	_ func(*replica.Replica) bool                                           = (*replica.Replica).First
	_ func(*replica.Replica) api.Store                                      = (*replica.Replica).Store
	_ func(*replica.Replica) []api.Range                                    = (*replica.Replica).Ranges
	_ func(*replica.Replica) []api.Hold                                     = (*replica.Replica).Holds
	_ func(*replica.Replica) []api.Mount                                    = (*replica.Replica).Mounts
)

var (
	_ func() *post.Post                      = post.New
	_ func(*post.Post, api.Mail) bool        = (*post.Post).Put
	_ func(*post.Post, int) (api.Mail, bool) = (*post.Post).Take
	_ func(*post.Post, int) bool             = (*post.Post).Double
	_ func(*post.Post) int                   = (*post.Post).Many
	_ func(*post.Post) []api.Mail            = (*post.Post).All
	_ func(*post.Post, int) int              = (*post.Post).Drop
)

var (
	_ func(int, int) *call.Caller            = call.New
	_ func(*call.Caller, []api.Op) bool      = (*call.Caller).Do
	_ func(*call.Caller, string, int) bool   = (*call.Caller).Move
	_ func(*call.Caller) bool                = (*call.Caller).Stop
	_ func(*call.Caller) (api.Quest, bool)   = (*call.Caller).Ask
	_ func(*call.Caller, int64, string) bool = (*call.Caller).Tell
	_ func(*call.Caller) (int, api.Outcome)  = (*call.Caller).Ended
	_ func(*call.Caller) int64               = (*call.Caller).Key
)

var (
	_ func(api.Plan) *world.World                = world.New
	_ func(*world.World, api.Deed) api.Errno     = (*world.World).Do
	_ func(*world.World) []api.Called            = (*world.World).Calls
	_ func(*world.World) []api.Point             = (*world.World).Order
	_ func(*world.World) ([]api.Node, bool)      = (*world.World).Tree
	_ func(*world.World) int                     = (*world.World).Mail
	_ func(*world.World) []api.Mount             = (*world.World).Mounts
	_ func(*world.World, int) (int, api.Outcome) = (*world.World).Ended
)
