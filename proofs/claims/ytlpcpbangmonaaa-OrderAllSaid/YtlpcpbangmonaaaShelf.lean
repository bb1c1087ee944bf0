/- The library's contracts at this dump: none is wanted. -/
import Derived.Test.YtlpcpbangmonaaaProg
