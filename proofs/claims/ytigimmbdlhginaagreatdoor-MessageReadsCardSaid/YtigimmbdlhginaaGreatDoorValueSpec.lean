/- What the program's Take and Put of values are to do, in words. No condition. -/
import Derived.Test.YtigimmbdlhginaaGreatDoorGG
import Derived.Test.YtigimmbdlhginaaGreatDoorValueUtf8
namespace Go.Proofs.YtigimmbdlhginaaGreatDoor
open Go.RowKit
/-- The program's Take of values: what it is to do. -/
def TakesV (f : FuncId) : Prop :=
 (∀ (g : Nat) (l : List UInt8) (W : World),RdAt W g l true→tkOk l→Tabs W→Calls Tryz.prog f #[.pointer (some ⟨g,0,none⟩)] W fun e w'=>e = .returned (.agg #[.int .i64 (tkV l).k,.int .u64 ((tkV l).b : Nat),.string ⟨(tkV l).t.toArray⟩])∧RdAt w' g (l.drop (tkN l)) true∧Only g W w') ∧
 (∀ (g : Nat) (l : List UInt8) (ok : Bool) (W : World),RdAt W g l ok→¬ (ok = true∧tkOk l)→Tabs W→Calls Tryz.prog f #[.pointer (some ⟨g,0,none⟩)] W fun e w'=>e = .returned (.agg #[.int .i64 0,.int .u64 0,.string ⟨#[]⟩])∧RdAt w' g [] false∧Only g W w')
/-- The program's Put of values: what it is to do. -/
def PutsV (f : FuncId) : Prop := ∀ (a : Option Addr) (m c : Nat) (l : List UInt8) (k : Int) (b : Nat) (t : ByteArray) (W : World),BAt W W.heap.size a m l→m≤1099511600000→b < 18446744073709551616→t.size≤maxLen→Tabs W →
 Calls Tryz.prog f #[.slice a m c,.agg #[.int .i64 k,.int .u64 b,.string t]] W (NewB W (putV l ⟨k,b,t.data.toList⟩))
end Go.Proofs.YtigimmbdlhginaaGreatDoor
