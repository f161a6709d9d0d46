/- Contracts of txn.Id and Less and of the document's own. No condition. Words for the lists of a transaction in memory: reads of two cells, writes of four. Plain facts on the bits of a float64, with no program in sight: which words are NaNs, infinities and zeros, and how a word stands to itself, to zero and to the greatest finite number. No conditions beyond those that each theorem names. What the small functions of package math and of layer num do at every float64 and every number: walks over the program's text. Conditions: the bits are below 2^64. What the document's own answers of layer num (Kind, Canon, Key, Order) do at every number: walks over their text. What Canon, Key and Order of layer num, and the document's own, do at every number: walks over their text. Plain mathematics of layer value: keys, formed values, their order, their bytes and their texts. Words for a transaction in memory, and equality of lists as a Bool. Plain mathematics of layer command: formed commands, their labels. Contracts of slices.Equal of reads and of writes. Conditions: the lists lie in memory, and are no longer than a million. -/
import Derived.Test.YtcfmifongbapkaaGreatDoorRD
import Derived.Tactics2
import Derived.BigQuiet
import Derived.Laws.FloatArith
import Derived.Laws.BitsAllLaws
import Derived.Test.YtcfmifongbapkaaGreatDoorRows
import Derived.WalkKit
import Derived.WalkSpells
import Derived.WalkLawsBesides
import Derived.Test.YtcfmifongbapkaaGreatDoorRC
import Derived.Test.YtcfmifongbapkaaGreatDoorRA
import Derived.Lib.ValidLaws
import Derived.Laws.StructEq
namespace Go.Proofs.YtcfmifongbapkaaGreatDoor
set_option maxHeartbeats 2000000
open Go.RowKit
open Go.Lib (hid)
theorem tId_any (s q : Int) (w : World) : Calls Tryz.prog 117 #[.agg #[.int .i64 s,.int .i64 q]] w (Says w (idB (s,q))):=by
 have hO:=one_box w #[.int .i64 s,.int .i64 q] 26
 unfold idB
 by_cases h1 : 1≤s
 ·by_cases h2 : s≤8
  ·by_cases h3 : 1≤q
   ·by_cases h4 : q≤1048576
    ·rw [decide_eq_true h1,decide_eq_true h2,decide_eq_true h3,decide_eq_true h4]
     go_enter Tryz.func117,Tryz.ntmps117
     go_wp2
     go_ret
     exact ⟨rfl,hO⟩
    ·rw [decide_eq_true h1,decide_eq_true h2,decide_eq_true h3,decide_eq_false h4]
     go_enter Tryz.func117,Tryz.ntmps117
     go_wp2
     go_ret
     exact ⟨rfl,hO⟩
   ·rw [decide_eq_true h1,decide_eq_true h2,decide_eq_false h3]
    go_enter Tryz.func117,Tryz.ntmps117
    go_wp2
    go_ret
    exact ⟨rfl,hO⟩
  ·rw [decide_eq_true h1,decide_eq_false h2]
   go_enter Tryz.func117,Tryz.ntmps117
   go_wp2
   go_ret
   exact ⟨rfl,hO⟩
 ·rw [decide_eq_false h1]
  go_enter Tryz.func117,Tryz.ntmps117
  go_wp2
  go_ret
  exact ⟨rfl,hO⟩
theorem rId_any (s q : Int) (w : World) : Calls Tryz.prog 93 #[.agg #[.int .i64 s,.int .i64 q]] w (Says w (idB (s,q))):=by
 have hO:=one_box w #[.int .i64 s,.int .i64 q] 26
 unfold idB
 by_cases h1 : 1≤s
 ·by_cases h2 : s≤8
  ·by_cases h3 : 1≤q
   ·by_cases h4 : q≤1048576
    ·rw [decide_eq_true h1,decide_eq_true h2,decide_eq_true h3,decide_eq_true h4]
     go_enter Tryz.func93,Tryz.ntmps93
     go_wp2
     go_ret
     exact ⟨rfl,hO⟩
    ·rw [decide_eq_true h1,decide_eq_true h2,decide_eq_true h3,decide_eq_false h4]
     go_enter Tryz.func93,Tryz.ntmps93
     go_wp2
     go_ret
     exact ⟨rfl,hO⟩
   ·rw [decide_eq_true h1,decide_eq_true h2,decide_eq_false h3]
    go_enter Tryz.func93,Tryz.ntmps93
    go_wp2
    go_ret
    exact ⟨rfl,hO⟩
  ·rw [decide_eq_true h1,decide_eq_false h2]
   go_enter Tryz.func93,Tryz.ntmps93
   go_wp2
   go_ret
   exact ⟨rfl,hO⟩
 ·rw [decide_eq_false h1]
  go_enter Tryz.func93,Tryz.ntmps93
  go_wp2
  go_ret
  exact ⟨rfl,hO⟩
/-- A read in memory: key and version; a write: key and value. -/
abbrev RdM:=ByteArray×Nat
structure WrM where
 key : ByteArray
 k : Int
 b : Nat
 t : ByteArray
def readC (x : RdM) : List Value:=[.string x.1,.int .u64 ((x.2 : Nat) : Int)]
def writeC (x : WrM) : List Value:=[.string x.key,.int .i64 x.k,.int .u64 ((x.b : Nat) : Int),.string x.t]
theorem readC_len (x : RdM) : (readC x).length = 2:=rfl
theorem writeC_len (x : WrM) : (writeC x).length = 4:=rfl
theorem readC_cells (x : RdM) : ∀ u ∈ readC x,u.oneCell' = true:=by
 intro u hu
 simp only [readC,List.mem_cons,List.not_mem_nil,or_false] at hu
 rcases hu with rfl | rfl <;> rfl
theorem writeC_cells (x : WrM) : ∀ u ∈ writeC x,u.oneCell' = true:=by
 intro u hu
 simp only [writeC,List.mem_cons,List.not_mem_nil,or_false] at hu
 rcases hu with rfl | rfl | rfl | rfl <;> rfl
/-- A slice of reads, of writes, reads as the list l. -/
def RdsAt (w : World) (B : Nat) (a : Option Addr) (n : Nat) (l : List RdM) : Prop:=l.length = n∧RowAt w B a n 2 (l.flatMap readC)
def WrsAt (w : World) (B : Nat) (a : Option Addr) (n : Nat) (l : List WrM) : Prop:=l.length = n∧RowAt w B a n 4 (l.flatMap writeC)
section
variable {w w' : World} {B B' n : Nat} {a : Option Addr}
theorem RdsAt.nil : RdsAt w B a 0 []:=⟨rfl,RowAt.nil⟩
theorem WrsAt.nil : WrsAt w B a 0 []:=⟨rfl,RowAt.nil⟩
theorem RdsAt.later {l : List RdM} (h : RdsAt w w.heap.size a n l) (hb : Below w.heap.size w w') : RdsAt w' w'.heap.size a n l:=⟨h.1,(h.2.below hb (Nat.le_refl _)).more hb.size⟩
theorem WrsAt.later {l : List WrM} (h : WrsAt w w.heap.size a n l) (hb : Below w.heap.size w w') : WrsAt w' w'.heap.size a n l:=⟨h.1,(h.2.below hb (Nat.le_refl _)).more hb.size⟩
theorem RdsAt.at_ {l : List RdM} (h : RdsAt w B a n l) {i : Nat} (hi : i < l.length) : ∃ b off,a = some ⟨b,off,none⟩∧b < B∧w.cell? ⟨b,off + i * 2,none⟩ = some (.string l[i].1)∧w.cell? ⟨b,off + i * 2 + 1,none⟩ = some (.int .u64 ((l[i].2 : Nat) : Int)):=by
 obtain ⟨b,off,ha,hb,hc⟩:=h.2.addr (by have:=h.1;omega)
 have h0:=hc (i * 2 + 0) _ (flat_get readC 2 readC_len l i 0 hi (by omega))
 have h1:=hc (i * 2 + 1) _ (flat_get readC 2 readC_len l i 1 hi (by omega))
 exact ⟨b,off,ha,hb,h0,by rw [Nat.add_assoc];exact h1⟩
theorem WrsAt.at_ {l : List WrM} (h : WrsAt w B a n l) {i : Nat} (hi : i < l.length) : ∃ b off,a = some ⟨b,off,none⟩∧b < B∧w.cell? ⟨b,off + i * 4,none⟩ = some (.string l[i].key)∧w.cell? ⟨b,off + i * 4 + 1,none⟩ = some (.int .i64 l[i].k)∧w.cell? ⟨b,off + i * 4 + 2,none⟩ = some (.int .u64 ((l[i].b : Nat) : Int))∧w.cell? ⟨b,off + i * 4 + 3,none⟩ = some (.string l[i].t):=by
 obtain ⟨b,off,ha,hb,hc⟩:=h.2.addr (by have:=h.1;omega)
 have h0:=hc (i * 4 + 0) _ (flat_get writeC 4 writeC_len l i 0 hi (by omega))
 have h1:=hc (i * 4 + 1) _ (flat_get writeC 4 writeC_len l i 1 hi (by omega))
 have h2:=hc (i * 4 + 2) _ (flat_get writeC 4 writeC_len l i 2 hi (by omega))
 have h3:=hc (i * 4 + 3) _ (flat_get writeC 4 writeC_len l i 3 hi (by omega))
 exact ⟨b,off,ha,hb,h0,by rw [Nat.add_assoc];exact h1,by rw [Nat.add_assoc];exact h2,by rw [Nat.add_assoc];exact h3⟩
end
open Ieee
theorem read_eq (n : Nat) : double.read n =
  if n % 9223372036854775808 < 4503599627370496 then .number (n / 9223372036854775808 % 2 == 1) (n % 9223372036854775808) (-1074)
  else if n % 9223372036854775808 < 9218868437227405312 then
   .number (n / 9223372036854775808 % 2 == 1) (4503599627370496 + n % 9223372036854775808 % 4503599627370496) (-1074 + ((n % 9223372036854775808 / 4503599627370496 - 1 : Nat) : Int))
  else if n % 9223372036854775808 = 9218868437227405312 then .infinity (n / 9223372036854775808 % 2 == 1)
  else .nan (n / 9223372036854775808 % 2 == 1) (n % 9223372036854775808 - 9218868437227405312):=by
 have a : double.signWeight = 9223372036854775808:=rfl
 have b : double.binade = 4503599627370496:=rfl
 have c : double.infRung = 9218868437227405312:=rfl
 have d : double.leastPlace = -1074:=rfl
 simp only [Format.read,a,b,c,d]
/-- A word is unlike itself just if it is a NaN's. -/
theorem order_self (n : Nat) : (FloatKind.f64.format.order n n == some .eq) = decide (n % 9223372036854775808≤9218868437227405312):=by
 show (double.order n n == some .eq) = _
 unfold Format.order
 rw [read_eq]
 by_cases h1 : n % 9223372036854775808 < 4503599627370496
 ·rw [if_pos h1];simp [Datum.order];omega
 ·rw [if_neg h1]
  by_cases h2 : n % 9223372036854775808 < 9218868437227405312
  ·rw [if_pos h2];simp [Datum.order];omega
  ·rw [if_neg h2]
   by_cases h3 : n % 9223372036854775808 = 9218868437227405312
   ·rw [if_pos h3];simp [Datum.order];omega
   ·rw [if_neg h3];simp [Datum.order];omega
def sgn (n : Nat) : Bool:=n / 9223372036854775808 % 2 == 1
def nanB (n : Nat) : Bool:=decide (9218868437227405312 < n % 9223372036854775808)
def negB (n : Nat) : Bool:=decide (9223372036854775808≤n)
theorem nanB_eq (n : Nat) : nanB n = (FloatKind.f64.format.order n n != some .eq):=by
 have h:=order_self n
 unfold nanB
 rw [bne,h]
 by_cases c : n % 9223372036854775808≤9218868437227405312
 ·rw [decide_eq_true c,decide_eq_false (by omega)];rfl
 ·rw [decide_eq_false c,decide_eq_true (by omega)];rfl
theorem fromBits (n : Nat) (w : World) : (callFunc 154 #[.int .u64 (n : Int)]).run Tryz.prog w = .ok (.value (.float .f64 n)) w:=by kernel_rfl
theorem isNaN_any (n : Nat) (w : World) :
  Calls Tryz.prog 153 #[.float .f64 n] w fun e w'=>e = .returned (.bool (nanB n))∧w = w':=by
 rw [nanB_eq]
 go_enter Tryz.func153,Tryz.ntmps153
 go_wp2
 go_ret
 exact ⟨rfl,rfl⟩
theorem canon_nan (n : Nat) (w : World) (h : nanB n = true) :
  Calls Tryz.prog 147 #[.int .u64 n] w fun e w'=>e = .returned (.int .u64 9221120237041090560)∧w = w':=by
 have hb:=fromBits
 go_enter Tryz.func147,Tryz.ntmps147
 go_wp2_with (go_at_call 153;refine (isNaN_any _ _).mono ?_;rintro e w' ⟨rfl,rfl⟩)
 go_ret
 exact ⟨rfl,rfl⟩
theorem canon_num (n : Nat) (w : World) (h : nanB n = false) :
  Calls Tryz.prog 147 #[.int .u64 n] w fun e w'=>e = .returned (.int .u64 n)∧w = w':=by
 have hb:=fromBits
 go_enter Tryz.func147,Tryz.ntmps147
 go_wp2_with (go_at_call 153;refine (isNaN_any _ _).mono ?_;rintro e w' ⟨rfl,rfl⟩)
 go_ret
 exact ⟨rfl,rfl⟩
/-! IsInf at the two signs -/
def infB (n : Nat) : Bool:=decide (n = 9218868437227405312)
def minusInfB (n : Nat) : Bool:=decide (n = 18442240474082181120)
def kindF (n : Nat) : Int :=
 if 9218868437227405312 < n % 9223372036854775808 then 0 else if n = 18442240474082181120 then 1 else if n = 9218868437227405312 then 6
 else if n % 9223372036854775808 = 0 then (if 9223372036854775808≤n then 3 else 4) else if 9223372036854775808≤n then 2 else 5
def pickF (a b c d : Bool) (o : Ordering) : Int:=if a then 0 else if b then 1 else if c then 6 else match o with | .lt=>2 | .gt=>5 | .eq=>if d then 3 else 4
def expF (n : Nat) : Nat:=n / 4503599627370496 % 2048
def fracF (n : Nat) : Nat:=n % 4503599627370496
theorem negB_le (n : Nat) : negB n = decide ((9223372036854775808 : Int)≤(n : Int)):=by
 unfold negB
 by_cases c : 9223372036854775808≤n
 ·rw [decide_eq_true c,decide_eq_true (by omega)]
 ·rw [decide_eq_false c,decide_eq_false (by omega)]
theorem expF_bits (n : Nat) (hn : n < 18446744073709551616) : ((expF n : Nat) : Int) = bits .and .u64 ((n : Int) / 4503599627370496) 2047:=by
 rw [u64_and _ _ (by omega) (by omega) (by omega) (by omega)]
 have e : ((n : Int) / 4503599627370496).toNat = n / 4503599627370496:=by omega
 rw [e,show (2047 : Int).toNat = 2047 from rfl,nat_mask11]
 rfl
theorem fracF_bits (n : Nat) (hn : n < 18446744073709551616) : ((fracF n : Nat) : Int) = bits .and .u64 (n : Int) 4503599627370495:=by
 rw [u64_and _ _ (by omega) (by omega) (by omega) (by omega)]
 rw [Int.toNat_natCast,show (4503599627370495 : Int).toNat = 2 ^ 52 - 1 from rfl,Nat.and_two_pow_sub_one_eq_mod]
 rfl
theorem parts_any (n : Nat) (hn : n < 18446744073709551616) (w : World) :
  Calls Tryz.prog 156 #[.int .u64 n] w fun e w'=>e = .returned (.tuple #[.bool (negB n),.int .u64 (expF n : Nat),.int .u64 (fracF n : Nat)])∧w = w':=by
 rw [negB_le,expF_bits n hn,fracF_bits n hn]
 go_enter Tryz.func156,Tryz.ntmps156
 go_wp2
 go_ret3
 exact ⟨rfl,rfl⟩
def refPick (p q r s : Bool) : Int:=if p && !q then 0 else if p && s then 1 else if p then 6 else if r && q && s then 3 else if r && q then 4 else if s then 2 else 5
theorem kindRef_walk (n : Nat) (hn : n < 18446744073709551616) (w : World) (p q r s : Bool)
  (hp : (((expF n : Nat) : Int) == 2047) = p) (hq : (((fracF n : Nat) : Int) == 0) = q) (hq' : (((fracF n : Nat) : Int) != 0) = !q) (hr : (((expF n : Nat) : Int) == 0) = r) (hs : negB n = s) :
  Calls Tryz.prog 150 #[.int .u64 n] w fun e w'=>e = .returned (.int .i64 (refPick p q r s))∧w = w':=by
 cases p <;> cases q <;> cases r <;> cases s
 all_goals
  simp only [Bool.not_true,Bool.not_false] at hq'
  go_enter Tryz.func150,Tryz.ntmps150
  go_wp2_with (go_at_call 156;((with_reducible refine (parts_any _ hn _).mono ?_);rintro e w' ⟨rfl,rfl⟩))
  go_ret
  exact ⟨rfl,rfl⟩
theorem dec_eq (a b : Int) : (a == b) = decide (a = b):=by by_cases h : a = b <;> simp [h]
theorem kindRef_any (n : Nat) (hn : n < 18446744073709551616) (w : World) :
  Calls Tryz.prog 150 #[.int .u64 n] w fun e w'=>e = .returned (.int .i64 (kindF n))∧w = w':=by
 have k : kindF n = refPick (((expF n : Nat) : Int) == 2047) (((fracF n : Nat) : Int) == 0) (((expF n : Nat) : Int) == 0) (negB n):=by
  simp only [kindF,dec_eq,expF,fracF,negB]
  by_cases h1 : 9218868437227405312 < n % 9223372036854775808
  ·rw [if_pos h1,decide_eq_true (show ((n / 4503599627370496 % 2048 : Nat) : Int) = 2047 by omega),decide_eq_false (show ¬ ((n % 4503599627370496 : Nat) : Int) = 0 by omega)];rfl
  rw [if_neg h1]
  by_cases h2 : n = 18442240474082181120
  ·subst h2;rfl
  rw [if_neg h2]
  by_cases h3 : n = 9218868437227405312
  ·subst h3;rfl
  rw [if_neg h3,decide_eq_false (show ¬ ((n / 4503599627370496 % 2048 : Nat) : Int) = 2047 by omega)]
  by_cases h4 : n % 9223372036854775808 = 0
  ·rw [if_pos h4,decide_eq_true (show ((n / 4503599627370496 % 2048 : Nat) : Int) = 0 by omega),decide_eq_true (show ((n % 4503599627370496 : Nat) : Int) = 0 by omega)]
   by_cases h5 : 9223372036854775808≤n
   ·rw [if_pos h5,decide_eq_true h5];rfl
   ·rw [if_neg h5,decide_eq_false h5];rfl
  ·rw [if_neg h4]
   by_cases c : ((n % 4503599627370496 : Nat) : Int) = 0
   ·rw [decide_eq_true c,decide_eq_false (show ¬ ((n / 4503599627370496 % 2048 : Nat) : Int) = 0 by omega)]
    by_cases h5 : 9223372036854775808≤n
    ·rw [if_pos h5,decide_eq_true h5];rfl
    ·rw [if_neg h5,decide_eq_false h5];rfl
   ·rw [decide_eq_false c]
    generalize decide (((n / 4503599627370496 % 2048 : Nat) : Int) = 0) = r
    by_cases h5 : 9223372036854775808≤n
    ·rw [if_pos h5,decide_eq_true h5];cases r <;> rfl
    ·rw [if_neg h5,decide_eq_false h5];cases r <;> rfl
 rw [k]
 exact kindRef_walk n hn w _ _ _ _ rfl rfl rfl rfl rfl
def canonF (n : Nat) : Nat:=if 9218868437227405312 < n % 9223372036854775808 then 9221120237041090560 else n
def keyF (n : Nat) : Nat:=if 9218868437227405312 < n % 9223372036854775808 then 0 else if 9223372036854775808≤n then 18446744073709551615 - n else n + 9223372036854775808
theorem kindF_zero (n : Nat) : (kindF n == 0) = nanB n:=by
 unfold kindF nanB
 by_cases h1 : 9218868437227405312 < n % 9223372036854775808
 ·rw [if_pos h1,decide_eq_true h1];rfl
 rw [if_neg h1,decide_eq_false h1]
 split;rfl
 split;rfl
 split
 ·split <;> rfl
 ·split <;> rfl
theorem canon_any (n : Nat) (w : World) :
  Calls Tryz.prog 147 #[.int .u64 n] w fun e w'=>e = .returned (.int .u64 (canonF n : Nat))∧w = w':=by
 unfold canonF
 by_cases h : 9218868437227405312 < n % 9223372036854775808
 ·rw [if_pos h];exact canon_nan n w (decide_eq_true h)
 ·rw [if_neg h];exact canon_num n w (decide_eq_false h)
theorem canonRef_any (n : Nat) (hn : n < 18446744073709551616) (w : World) :
  Calls Tryz.prog 136 #[.int .u64 n] w fun e w'=>e = .returned (.int .u64 (canonF n : Nat))∧w = w':=by
 unfold canonF
 by_cases h : 9218868437227405312 < n % 9223372036854775808
 ·rw [if_pos h]
  have hk : (kindF n == 0) = true:=by rw [kindF_zero];exact decide_eq_true h
  clear h
  go_enter Tryz.func136,Tryz.ntmps136
  go_wp2_with (go_at_call 150;((with_reducible refine (kindRef_any _ hn _).mono ?_);rintro e w' ⟨rfl,rfl⟩))
  go_ret
  exact ⟨rfl,rfl⟩
 ·rw [if_neg h]
  have hk : (kindF n == 0) = false:=by rw [kindF_zero];exact decide_eq_false h
  clear h
  go_enter Tryz.func136,Tryz.ntmps136
  go_wp2_with (go_at_call 150;((with_reducible refine (kindRef_any _ hn _).mono ?_);rintro e w' ⟨rfl,rfl⟩))
  go_ret
  exact ⟨rfl,rfl⟩
def cmpF (a b : Nat) : Int:=if a < b then -1 else if b < a then 1 else 0
def orderF (a b : Nat) : Int:=cmpF (keyF a) (keyF b)
/-- A value: its kind, its bits, its text. -/
structure Val where
 k : Int
 b : Nat
 t : List UInt8
instance : DecidableEq Val:=fun a b =>
 if h : a.k = b.k∧a.b = b.b∧a.t = b.t then
  isTrue (by
   obtain ⟨k,n,t⟩:=a
   obtain ⟨k',n',t'⟩:=b
   obtain ⟨h1,h2,h3⟩:=h
   simp only at h1 h2 h3
   subst h1;subst h2;subst h3
   rfl)
 else isFalse (fun e=>h (by subst e;exact ⟨rfl,rfl,rfl⟩))
def validT (l : List UInt8) : Bool:=Lib.validD l
/-- Whether a value is formed. -/
def formedB (v : Val) : Bool :=
 if v.k = 0 then decide (v.b = 0) && v.t.isEmpty
 else if v.k = 1 then v.t.isEmpty && decide (canonF v.b = v.b)
 else decide (v.k = 2) && decide (v.b = 0) && decide (v.t.length≤40) && validT v.t
/-- A step of the document's own look: what it asks of the rune at a place. -/
theorem valid_bad (l : List UInt8) (h : (Lib.decodeL l).1 = 65533) : ((Lib.decodeL l).2 = 1)↔¬ (l.take 3 = [239,191,189]):=by
 constructor
 ·intro h1 h3
  obtain ⟨r,rfl⟩ : ∃ r,l = 239 :: 191 :: 189 :: r:=by
   match l,h3 with
   | a :: b :: c :: r,h3 =>
    simp at h3
    obtain ⟨rfl,rfl,rfl⟩:=h3
    exact ⟨r,rfl⟩
  rw [Lib.decodeL_N] at h1
  simp [Lib.decodeN] at h1
 ·intro h3
  rcases Nat.lt_or_ge 1 (Lib.decodeL l).2 with h1 | h1
  ·exfalso
   have hne : l≠[]:=by
    rintro rfl
    revert h1;decide
   have he:=Lib.encode_decode l hne (by omega)
   rw [h] at he
   apply h3
   have hw : (Lib.decodeL l).2 = 3:=by
    have:=congrArg List.length he
    have h4:=Lib.decodeL_le l hne
    rw [List.length_take,Nat.min_eq_left h4] at this
    rw [← this];decide
   rw [hw] at he
   rw [← he];decide
  ·have:=Lib.decodeL_width l
   omega
/-- Equality as a Bool. -/
noncomputable def eqB {α : Type} (x y : α) : Bool:=@decide (x = y) (Classical.propDecidable _)
section
variable {α : Type} {x y : α} {l l' : List α} {k : Nat}
theorem eqB_yes (h : x = y) : eqB x y = true:=@decide_eq_true _ (Classical.propDecidable _) h
theorem eqB_no (h : ¬ x = y) : eqB x y = false:=@decide_eq_false _ (Classical.propDecidable _) h
theorem eqB_self (x : α) : eqB x x = true:=eqB_yes rfl
theorem eqB_of (h : eqB x y = true) : x = y:=@of_decide_eq_true _ (Classical.propDecidable _) h
theorem eq_step (h : l.take k = l'.take k) (h1 : k < l.length) (h2 : k < l'.length) (he : l[k] = l'[k]) : l.take (k + 1) = l'.take (k + 1):=by
 rw [List.take_succ_eq_append_getElem h1,List.take_succ_eq_append_getElem h2,h,he]
theorem eq_bad (h1 : k < l.length) (h2 : k < l'.length) (he : ¬ l[k] = l'[k]) : eqB l l' = false:=eqB_no fun e=>he (by subst e;rfl)
theorem eq_done (h : l.take k = l'.take k) (h1 : l.length≤k) (h2 : l'.length≤k) : eqB l l' = true:=by
 rw [List.take_of_length_le h1,List.take_of_length_le h2] at h
 exact eqB_yes h
theorem eq_len (h : ¬ l.length = l'.length) : eqB l l' = false:=eqB_no fun e=>h (by rw [e])
end
/-- What a write in memory holds; the lists of a transaction in memory, as lists of bytes. -/
def valM (x : WrM) : Val:=⟨x.k,x.b,x.t.data.toList⟩
def txR (l : List RdM) : List (List UInt8×Nat):=l.map fun x=>(x.1.data.toList,x.2)
def txW (l : List WrM) : List (List UInt8×Val):=l.map fun x=>(x.key.data.toList,valM x)
def txT (i : IdN) (rs : List RdM) (ws : List WrM) : Tx Val:=⟨i,txR rs,txW ws⟩
def keysM (rs : List RdM) : List ByteArray:=rs.map (·.1)
def keysV (ws : List WrM) : List ByteArray:=ws.map (·.key)
theorem keysM_txt (i : IdN) (rs : List RdM) (ws : List WrM) : keysR (txT i rs ws) = txt (keysM rs):=by simp [keysR,txT,txR,txt,keysM]
theorem keysV_txt (i : IdN) (rs : List RdM) (ws : List WrM) : keysW (txT i rs ws) = txt (keysV ws):=by simp [keysW,txT,txW,txt,keysV]
/-- What is in the lists is of a size that is. -/
def RdOk (x : RdM) : Prop:=x.1.size≤maxLen∧x.2 < 18446744073709551616
def WrOk (x : WrM) : Prop:=x.key.size≤maxLen∧x.b < 18446744073709551616∧x.t.size≤maxLen
/-- A transaction's lists lie in memory. -/
def TxAt (w : World) (a : Option Addr) (n : Nat) (b : Option Addr) (m : Nat) (rs : List RdM) (ws : List WrM) : Prop :=
 (RdsAt w w.heap.size a n rs∧WrsAt w w.heap.size b m ws)∧(∀ x ∈ rs,RdOk x)∧∀ x ∈ ws,WrOk x
section
variable {w w' : World} {a b : Option Addr} {n m : Nat} {rs : List RdM} {ws : List WrM}
theorem TxAt.later (h : TxAt w a n b m rs ws) (hb : Below w.heap.size w w') : TxAt w' a n b m rs ws:=⟨⟨h.1.1.later hb,h.1.2.later hb⟩,h.2⟩
theorem TxAt.lenR (h : TxAt w a n b m rs ws) : rs.length = n:=h.1.1.1
theorem TxAt.lenW (h : TxAt w a n b m rs ws) : ws.length = m:=h.1.2.1
theorem TxAt.rds (h : TxAt w a n b m rs ws) : RdsAt w w.heap.size a n rs:=h.1.1
theorem TxAt.wrs (h : TxAt w a n b m rs ws) : WrsAt w w.heap.size b m ws:=h.1.2
theorem TxAt.okR (h : TxAt w a n b m rs ws) : ∀ x ∈ rs,RdOk x:=h.2.1
theorem TxAt.okW (h : TxAt w a n b m rs ws) : ∀ x ∈ ws,WrOk x:=h.2.2
theorem TxAt.nil : TxAt w none 0 none 0 [] []:=⟨⟨RdsAt.nil,WrsAt.nil⟩,(fun _ h=>by cases h),(fun _ h=>by cases h)⟩
end
/-- A transaction by value. -/
abbrev txV (s q : Int) (a : Option Addr) (n c : Nat) (b : Option Addr) (m d : Nat) : Array Value:=#[.int .i64 s,.int .i64 q,.slice a n c,.slice b m d]
theorem BoxC.four {w : World} {g : Nat} {x y z u : Value} {t : TypeId} (h : BoxC w g #[x,y,z,u] t) : w.cell? ⟨g,0,none⟩ = some x∧w.cell? ⟨g,1,none⟩ = some y∧w.cell? ⟨g,2,none⟩ = some z∧w.cell? ⟨g,3,none⟩ = some u:=⟨h.cell 0 x rfl,h.cell 1 y rfl,h.cell 2 z rfl,h.cell 3 u rfl⟩
set_option linter.unusedVariables false
/-- A command: its kind, transaction, id, group, stamp, and whether it is a yes. -/
structure Cm where
 k : Int
 t : Tx Val
 id : IdN
 g : Int
 st : Nat
 y : Bool
def zeroT : Tx Val:=⟨(0,0),[],[]⟩
def zeroC : Cm:=⟨0,zeroT,(0,0),0,0,false⟩
def zeroTB (t : Tx Val) : Bool:=decide (t.id = (0,0)) && (decide (t.rs.length = 0) && decide (t.ws.length = 0))
theorem zeroTB_iff (t : Tx Val) : zeroTB t = true↔t = zeroT:=by
 unfold zeroTB zeroT
 constructor
 ·intro h
  rw [Bool.and_eq_true,Bool.and_eq_true] at h
  obtain ⟨i,rs,ws⟩:=t
  have h1:=of_decide_eq_true h.1
  have h2:=List.eq_nil_of_length_eq_zero (of_decide_eq_true h.2.1)
  have h3:=List.eq_nil_of_length_eq_zero (of_decide_eq_true h.2.2)
  simp only at h1 h2 h3
  rw [h1,h2,h3]
 ·rintro rfl;rfl
/-- What it is about is an id and a group. -/
def aboutB (c : Cm) : Bool:=zeroTB c.t && (idB c.id && (decide (0≤c.g) && decide (c.g < 4)))
def restB (c : Cm) : Bool:=(decide (c.id = (0,0)) && decide (c.g = 0)) && (decide (c.st = 0) && !c.y)
def formCm (c : Cm) : Bool :=
 if c.k = 0 then zeroTB c.t && restB c
 else if c.k = 1 then formT formedB c.t && restB c
 else if c.k = 2 then aboutB c && (!c.y && (decide (0 < c.st) && decide (c.st≤9223372036854775807)))
 else if c.k = 3 then aboutB c && decide (c.st = 0)
 else false
def labelCm (c : Cm) : IdN:=if c.k = 1 then c.t.id else if c.k = 2∨c.k = 3 then c.id else (0,0)
/-- What is in it is of a size that is. -/
def CmOk (c : Cm) : Prop:=(∀ x ∈ c.t.rs,x.2 < 18446744073709551616)∧(∀ x ∈ c.t.ws,x.2.b < 18446744073709551616)∧c.st < 18446744073709551616
theorem rest_eq {c : Cm} (h : restB c = true) : c.id = (0,0)∧c.g = 0∧c.st = 0∧c.y = false:=by
 unfold restB at h
 rw [Bool.and_eq_true,Bool.and_eq_true,Bool.and_eq_true] at h
 exact ⟨of_decide_eq_true h.1.1,of_decide_eq_true h.1.2,of_decide_eq_true h.2.1,by simpa using h.2.2⟩
theorem about_eq {c : Cm} (h : aboutB c = true) : c.t = zeroT∧idB c.id = true∧0≤c.g∧c.g < 4:=by
 unfold aboutB at h
 rw [Bool.and_eq_true,Bool.and_eq_true,Bool.and_eq_true] at h
 exact ⟨(zeroTB_iff _).1 h.1,h.2.1,of_decide_eq_true h.2.2.1,of_decide_eq_true h.2.2.2⟩
/-- The four kinds of formed commands. -/
theorem form_kinds {c : Cm} (h : formCm c = true) : c = zeroC∨(formT formedB c.t = true∧c = ⟨1,c.t,(0,0),0,0,false⟩)∨((idB c.id = true∧0≤c.g∧c.g < 4∧0 < c.st∧c.st≤9223372036854775807)∧c = ⟨2,zeroT,c.id,c.g,c.st,false⟩)∨((idB c.id = true∧0≤c.g∧c.g < 4)∧c = ⟨3,zeroT,c.id,c.g,0,c.y⟩):=by
 obtain ⟨k,t,i,g,s,y⟩:=c
 unfold formCm at h
 simp only at h
 split at h
 ·rename_i hk
  rw [Bool.and_eq_true] at h
  obtain ⟨h1,h2,h3,h4⟩:=rest_eq h.2
  simp only at h1 h2 h3 h4
  exact .inl (by rw [hk,(zeroTB_iff _).1 h.1,h1,h2,h3,h4];rfl)
 ·split at h
  ·rename_i hk
   rw [Bool.and_eq_true] at h
   obtain ⟨h1,h2,h3,h4⟩:=rest_eq h.2
   simp only at h1 h2 h3 h4
   exact .inr (.inl ⟨h.1,by rw [hk,h1,h2,h3,h4]⟩)
  ·split at h
   ·rename_i hk
    rw [Bool.and_eq_true,Bool.and_eq_true,Bool.and_eq_true] at h
    obtain ⟨h1,h2,h3,h4⟩:=about_eq h.1
    simp only at h1 h2 h3 h4
    have h5 : y = false:=by simpa using h.2.1
    exact .inr (.inr (.inl ⟨⟨h2,h3,h4,of_decide_eq_true h.2.2.1,of_decide_eq_true h.2.2.2⟩,by rw [hk,h1,h5]⟩))
   ·split at h
    ·rename_i hk
     rw [Bool.and_eq_true] at h
     obtain ⟨h1,h2,h3,h4⟩:=about_eq h.1
     simp only at h1 h2 h3 h4
     have h5 : s = 0:=of_decide_eq_true h.2
     exact .inr (.inr (.inr ⟨⟨h2,h3,h4⟩,by rw [hk,h1,h5]⟩))
    ·cases h
theorem bytes_ne {x y : ByteArray} (h : ¬ x = y) : (x.toList == y.toList) = false:=by
 rw [beq_eq_false_iff_ne]
 intro e
 rw [ByteArray.toList_eq,ByteArray.toList_eq] at e
 obtain ⟨⟨x⟩⟩:=x
 obtain ⟨⟨y⟩⟩:=y
 exact h (by rw [show x = y from e])
theorem rd_cases (x y : RdM) : x = y∨(¬ x = y∧(x.1.toList == y.1.toList) = false)∨(¬ x = y∧(x.1.toList == y.1.toList) = true∧((x.2 : Int) == (y.2 : Int)) = false):=by
 obtain ⟨x1,x2⟩:=x
 obtain ⟨y1,y2⟩:=y
 by_cases h1 : x1 = y1
 ·subst h1
  by_cases h2 : x2 = y2
  ·subst h2;exact .inl rfl
  ·exact .inr (.inr ⟨fun e=>h2 (by injection e),by simp,by simp;omega⟩)
 ·refine .inr (.inl ⟨fun e=>h1 (by injection e),?_⟩)
  exact bytes_ne h1
theorem wr_cases (x y : WrM) : x = y∨(¬ x = y∧(x.key.toList == y.key.toList) = false)∨(¬ x = y∧(x.key.toList == y.key.toList) = true∧(x.k == y.k) = false)∨(¬ x = y∧(x.key.toList == y.key.toList) = true∧(x.k == y.k) = true∧((x.b : Int) == (y.b : Int)) = false)∨(¬ x = y∧(x.key.toList == y.key.toList) = true∧(x.k == y.k) = true∧((x.b : Int) == (y.b : Int)) = true∧(x.t.toList == y.t.toList) = false):=by
 obtain ⟨x1,x2,x3,x4⟩:=x
 obtain ⟨y1,y2,y3,y4⟩:=y
 by_cases h1 : x1 = y1
 ·subst h1
  by_cases h2 : x2 = y2
  ·subst h2
   by_cases h3 : x3 = y3
   ·subst h3
    by_cases h4 : x4 = y4
    ·subst h4;exact .inl rfl
    ·refine .inr (.inr (.inr (.inr ⟨fun e=>h4 (by injection e),by simp,by simp,by simp,?_⟩)))
     exact bytes_ne h4
   ·exact .inr (.inr (.inr (.inl ⟨fun e=>h3 (by injection e),by simp,by simp,by simp;omega⟩)))
  ·exact .inr (.inr (.inl ⟨fun e=>h2 (by injection e),by simp,by simpa using h2⟩))
 ·refine .inr (.inl ⟨fun e=>h1 (by injection e),?_⟩)
  exact bytes_ne h1
theorem eqR_any (a a' : Option Addr) (n n' c c' B B' : Nat) (l l' : List RdM) (w : World) (h : RdsAt w B a n l) (h' : RdsAt w B' a' n' l') (hn : n≤1000000) :
  Calls Tryz.prog 124 #[.slice a n c,.slice a' n' c'] w (Says w (eqB l l')):=by
 have hl:=h.1
 have hl':=h'.1
 by_cases hnn : n = n'
 ·subst hnn
  have HA:=hid h
  have HB:=hid h'
  clear h h'
  go_enter Tryz.func124,Tryz.ntmps124
  go_wp2
  go_loopw [13] (fun i wr => ∃ k q : Nat,k≤n∧i = .int .i64 k∧wr = w.drewN q∧l.take k = l'.take k) (fun i _=>n - (intOf i).toNat)
  case atStart=>exact ⟨0,0,Nat.zero_le _,rfl,rfl,rfl⟩
  case round =>
   obtain ⟨k,q,hk,rfl,rfl,ht⟩:=hrel
   by_cases hlt : k < n
   ·have hk1 : k < l.length:=by omega
    have hk2 : k < l'.length:=by omega
    have HG : l[k] = l'[k]→Hid (l.take (k + 1) = l'.take (k + 1)):=fun e=>eq_step ht hk1 hk2 e
    have HN : ¬ l[k] = l'[k]→Hid (eqB l l' = false):=fun e=>eq_bad hk1 hk2 e
    obtain ⟨b,off,rfl,_,x0,x1⟩:=HA.out.at_ (i:=k) (by omega)
    obtain ⟨b',off',rfl,_,y0,y1⟩:=HB.out.at_ (i:=k) (by omega)
    clear ht
    generalize l[k] = x at *
    generalize l'[k] = y at *
    have i1 : (k : Int) < (n : Int):=by omega
    rcases rd_cases x y with rfl | ⟨hne,q1⟩ | ⟨hne,q1,q2⟩
    ·have Q:=HG rfl
     clear HG HN
     go_upto_region 6 with (fail)
     go_quiet (fail)
     go_wp2
     go_roundw
     case rel=>exact ⟨k + 1,_,by omega,by go_num,rfl,Q.out⟩
     case measure=>simp [intOf];omega
    ·have Q:=HN hne
     clear HG HN
     go_upto_region 6 with (fail)
     go_quiet (fail)
     go_wp2
     go_ret
     exact ⟨by rw [Q.out];rfl,below_drewN _ (below_drewN _ (Below.refl _ _))⟩
    ·have Q:=HN hne
     clear HG HN
     go_upto_region 6 with (fail)
     go_quiet (fail)
     go_wp2
     go_ret
     exact ⟨by rw [Q.out];rfl,below_drewN _ (below_drewN _ (Below.refl _ _))⟩
   ·have Q:=hid (eq_done ht (by omega) (by omega))
    clear ht
    go_wp2
    go_ret
    exact ⟨by rw [Q.out];rfl,below_drewN _ (Below.refl _ _)⟩
 ·have Q:=hid (eq_len (l:=l) (l':=l') (by omega))
  have q1 : ((n : Int) != (n' : Int)) = true:=by simp;omega
  clear h h'
  go_enter Tryz.func124,Tryz.ntmps124
  go_wp2
  go_ret
  exact ⟨by rw [Q.out];rfl,Below.refl _ _⟩
theorem eqW_any (a a' : Option Addr) (n n' c c' B B' : Nat) (l l' : List WrM) (w : World) (h : WrsAt w B a n l) (h' : WrsAt w B' a' n' l') (hn : n≤1000000) :
  Calls Tryz.prog 125 #[.slice a n c,.slice a' n' c'] w (Says w (eqB l l')):=by
 have hl:=h.1
 have hl':=h'.1
 by_cases hnn : n = n'
 ·subst hnn
  have HA:=hid h
  have HB:=hid h'
  clear h h'
  go_enter Tryz.func125,Tryz.ntmps125
  go_wp2
  go_loopw [13] (fun i wr => ∃ k q : Nat,k≤n∧i = .int .i64 k∧wr = w.drewN q∧l.take k = l'.take k) (fun i _=>n - (intOf i).toNat)
  case atStart=>exact ⟨0,0,Nat.zero_le _,rfl,rfl,rfl⟩
  case round =>
   obtain ⟨k,q,hk,rfl,rfl,ht⟩:=hrel
   by_cases hlt : k < n
   ·have hk1 : k < l.length:=by omega
    have hk2 : k < l'.length:=by omega
    have HG : l[k] = l'[k]→Hid (l.take (k + 1) = l'.take (k + 1)):=fun e=>eq_step ht hk1 hk2 e
    have HN : ¬ l[k] = l'[k]→Hid (eqB l l' = false):=fun e=>eq_bad hk1 hk2 e
    obtain ⟨b,off,rfl,_,x0,x1,x2,x3⟩:=HA.out.at_ (i:=k) (by omega)
    obtain ⟨b',off',rfl,_,y0,y1,y2,y3⟩:=HB.out.at_ (i:=k) (by omega)
    clear ht
    generalize l[k] = x at *
    generalize l'[k] = y at *
    have i1 : (k : Int) < (n : Int):=by omega
    rcases wr_cases x y with rfl | ⟨hne,q1⟩ | ⟨hne,q1,q2⟩ | ⟨hne,q1,q2,q3⟩ | ⟨hne,q1,q2,q3,q4⟩
    ·have Q:=HG rfl
     clear HG HN
     go_upto_region 6 with (fail)
     go_quiet (fail)
     go_wp2
     go_roundw
     case rel=>exact ⟨k + 1,_,by omega,by go_num,rfl,Q.out⟩
     case measure=>simp [intOf];omega
    ·have Q:=HN hne
     clear HG HN
     go_upto_region 6 with (fail)
     go_quiet (fail)
     go_wp2
     go_ret
     exact ⟨by rw [Q.out];rfl,below_drewN _ (below_drewN _ (Below.refl _ _))⟩
    ·have Q:=HN hne
     clear HG HN
     go_upto_region 6 with (fail)
     go_quiet (fail)
     go_wp2
     go_ret
     exact ⟨by rw [Q.out];rfl,below_drewN _ (below_drewN _ (Below.refl _ _))⟩
    ·have Q:=HN hne
     clear HG HN
     go_upto_region 6 with (fail)
     go_quiet (fail)
     go_wp2
     go_ret
     exact ⟨by rw [Q.out];rfl,below_drewN _ (below_drewN _ (Below.refl _ _))⟩
    ·have Q:=HN hne
     clear HG HN
     go_upto_region 6 with (fail)
     go_quiet (fail)
     go_wp2
     go_ret
     exact ⟨by rw [Q.out];rfl,below_drewN _ (below_drewN _ (Below.refl _ _))⟩
   ·have Q:=hid (eq_done ht (by omega) (by omega))
    clear ht
    go_wp2
    go_ret
    exact ⟨by rw [Q.out];rfl,below_drewN _ (Below.refl _ _)⟩
 ·have Q:=hid (eq_len (l:=l) (l':=l') (by omega))
  have q1 : ((n : Int) != (n' : Int)) = true:=by simp;omega
  clear h h'
  go_enter Tryz.func125,Tryz.ntmps125
  go_wp2
  go_ret
  exact ⟨by rw [Q.out];rfl,Below.refl _ _⟩
end Go.Proofs.YtcfmifongbapkaaGreatDoor
