/- Plain facts on the bits of a float64, with no program in sight: which words are NaNs, infinities and zeros, and how a word stands to itself, to zero and to the greatest finite number. No conditions beyond those that each theorem names. What the small functions of package math and of layer num do at every float64 and every number: walks over the program's text. Conditions: the bits are below 2^64. What the document's own answers of layer num (Kind, Canon, Key, Order) do at every number: walks over their text. What Canon, Key and Order of layer num, and the document's own, do at every number: walks over their text. -/
import Derived.Laws.FloatArith
import Derived.Laws.BitsAllLaws
import Derived.Test.YtigimmbdlhginaaGreatDoorRows
import Derived.WalkKit
import Derived.WalkSpells
import Derived.WalkLawsBesides
namespace Go.Proofs.YtigimmbdlhginaaGreatDoor
open Ieee
theorem read_eq (n : Nat) : double.read n =
  if n % 9223372036854775808 < 4503599627370496 then .number (n / 9223372036854775808 % 2 == 1) (n % 9223372036854775808) (-1074)
  else if n % 9223372036854775808 < 9218868437227405312 then
   .number (n / 9223372036854775808 % 2 == 1) (4503599627370496 + n % 9223372036854775808 % 4503599627370496) (-1074 + ((n % 9223372036854775808 / 4503599627370496 - 1 : Nat) : Int))
  else if n % 9223372036854775808 = 9218868437227405312 then .infinity (n / 9223372036854775808 % 2 == 1)
  else .nan (n / 9223372036854775808 % 2 == 1) (n % 9223372036854775808 - 9218868437227405312):=by
 have a : double.signWeight = 9223372036854775808:=rfl
 have b : double.binade = 4503599627370496:=rfl
 have c : double.infRung = 9218868437227405312:=rfl
 have d : double.leastPlace = -1074:=rfl
 simp only [Format.read,a,b,c,d]
/-- A word is unlike itself just if it is a NaN's. -/
theorem order_self (n : Nat) : (FloatKind.f64.format.order n n == some .eq) = decide (n % 9223372036854775808≤9218868437227405312):=by
 show (double.order n n == some .eq) = _
 unfold Format.order
 rw [read_eq]
 by_cases h1 : n % 9223372036854775808 < 4503599627370496
 ·rw [if_pos h1];simp [Datum.order];omega
 ·rw [if_neg h1]
  by_cases h2 : n % 9223372036854775808 < 9218868437227405312
  ·rw [if_pos h2];simp [Datum.order];omega
  ·rw [if_neg h2]
   by_cases h3 : n % 9223372036854775808 = 9218868437227405312
   ·rw [if_pos h3];simp [Datum.order];omega
   ·rw [if_neg h3];simp [Datum.order];omega
def sgn (n : Nat) : Bool:=n / 9223372036854775808 % 2 == 1
open Go.RowKit
def nanB (n : Nat) : Bool:=decide (9218868437227405312 < n % 9223372036854775808)
def negB (n : Nat) : Bool:=decide (9223372036854775808≤n)
theorem nanB_eq (n : Nat) : nanB n = (FloatKind.f64.format.order n n != some .eq):=by
 have h:=order_self n
 unfold nanB
 rw [bne,h]
 by_cases c : n % 9223372036854775808≤9218868437227405312
 ·rw [decide_eq_true c,decide_eq_false (by omega)];rfl
 ·rw [decide_eq_false c,decide_eq_true (by omega)];rfl
theorem fromBits (n : Nat) (w : World) : (callFunc 101 #[.int .u64 (n : Int)]).run Tryz.prog w = .ok (.value (.float .f64 n)) w:=by kernel_rfl
theorem isNaN_any (n : Nat) (w : World) :
  Calls Tryz.prog 100 #[.float .f64 n] w fun e w'=>e = .returned (.bool (nanB n))∧w = w':=by
 rw [nanB_eq]
 go_enter Tryz.func100,Tryz.ntmps100
 go_wp2
 go_ret
 exact ⟨rfl,rfl⟩
theorem canon_nan (n : Nat) (w : World) (h : nanB n = true) :
  Calls Tryz.prog 92 #[.int .u64 n] w fun e w'=>e = .returned (.int .u64 9221120237041090560)∧w = w':=by
 have hb:=fromBits
 go_enter Tryz.func92,Tryz.ntmps92
 go_wp2_with (go_at_call 100;refine (isNaN_any _ _).mono ?_;rintro e w' ⟨rfl,rfl⟩)
 go_ret
 exact ⟨rfl,rfl⟩
theorem canon_num (n : Nat) (w : World) (h : nanB n = false) :
  Calls Tryz.prog 92 #[.int .u64 n] w fun e w'=>e = .returned (.int .u64 n)∧w = w':=by
 have hb:=fromBits
 go_enter Tryz.func92,Tryz.ntmps92
 go_wp2_with (go_at_call 100;refine (isNaN_any _ _).mono ?_;rintro e w' ⟨rfl,rfl⟩)
 go_ret
 exact ⟨rfl,rfl⟩
/-! IsInf at the two signs -/
def infB (n : Nat) : Bool:=decide (n = 9218868437227405312)
def minusInfB (n : Nat) : Bool:=decide (n = 18442240474082181120)
def kindF (n : Nat) : Int :=
 if 9218868437227405312 < n % 9223372036854775808 then 0 else if n = 18442240474082181120 then 1 else if n = 9218868437227405312 then 6
 else if n % 9223372036854775808 = 0 then (if 9223372036854775808≤n then 3 else 4) else if 9223372036854775808≤n then 2 else 5
def pickF (a b c d : Bool) (o : Ordering) : Int:=if a then 0 else if b then 1 else if c then 6 else match o with | .lt=>2 | .gt=>5 | .eq=>if d then 3 else 4
def expF (n : Nat) : Nat:=n / 4503599627370496 % 2048
def fracF (n : Nat) : Nat:=n % 4503599627370496
theorem negB_le (n : Nat) : negB n = decide ((9223372036854775808 : Int)≤(n : Int)):=by
 unfold negB
 by_cases c : 9223372036854775808≤n
 ·rw [decide_eq_true c,decide_eq_true (by omega)]
 ·rw [decide_eq_false c,decide_eq_false (by omega)]
theorem expF_bits (n : Nat) (hn : n < 18446744073709551616) : ((expF n : Nat) : Int) = bits .and .u64 ((n : Int) / 4503599627370496) 2047:=by
 rw [u64_and _ _ (by omega) (by omega) (by omega) (by omega)]
 have e : ((n : Int) / 4503599627370496).toNat = n / 4503599627370496:=by omega
 rw [e,show (2047 : Int).toNat = 2047 from rfl,nat_mask11]
 rfl
theorem fracF_bits (n : Nat) (hn : n < 18446744073709551616) : ((fracF n : Nat) : Int) = bits .and .u64 (n : Int) 4503599627370495:=by
 rw [u64_and _ _ (by omega) (by omega) (by omega) (by omega)]
 rw [Int.toNat_natCast,show (4503599627370495 : Int).toNat = 2 ^ 52 - 1 from rfl,Nat.and_two_pow_sub_one_eq_mod]
 rfl
theorem parts_any (n : Nat) (hn : n < 18446744073709551616) (w : World) :
  Calls Tryz.prog 105 #[.int .u64 n] w fun e w'=>e = .returned (.tuple #[.bool (negB n),.int .u64 (expF n : Nat),.int .u64 (fracF n : Nat)])∧w = w':=by
 rw [negB_le,expF_bits n hn,fracF_bits n hn]
 go_enter Tryz.func105,Tryz.ntmps105
 go_wp2
 go_ret3
 exact ⟨rfl,rfl⟩
def refPick (p q r s : Bool) : Int:=if p && !q then 0 else if p && s then 1 else if p then 6 else if r && q && s then 3 else if r && q then 4 else if s then 2 else 5
set_option maxHeartbeats 2000000 in
theorem kindRef_walk (n : Nat) (hn : n < 18446744073709551616) (w : World) (p q r s : Bool)
  (hp : (((expF n : Nat) : Int) == 2047) = p) (hq : (((fracF n : Nat) : Int) == 0) = q) (hq' : (((fracF n : Nat) : Int) != 0) = !q) (hr : (((expF n : Nat) : Int) == 0) = r) (hs : negB n = s) :
  Calls Tryz.prog 99 #[.int .u64 n] w fun e w'=>e = .returned (.int .i64 (refPick p q r s))∧w = w':=by
 cases p <;> cases q <;> cases r <;> cases s
 all_goals
  simp only [Bool.not_true,Bool.not_false] at hq'
  go_enter Tryz.func99,Tryz.ntmps99
  go_wp2_with (go_at_call 105;((with_reducible refine (parts_any _ hn _).mono ?_);rintro e w' ⟨rfl,rfl⟩))
  go_ret
  exact ⟨rfl,rfl⟩
theorem dec_eq (a b : Int) : (a == b) = decide (a = b):=by by_cases h : a = b <;> simp [h]
theorem kindRef_any (n : Nat) (hn : n < 18446744073709551616) (w : World) :
  Calls Tryz.prog 99 #[.int .u64 n] w fun e w'=>e = .returned (.int .i64 (kindF n))∧w = w':=by
 have k : kindF n = refPick (((expF n : Nat) : Int) == 2047) (((fracF n : Nat) : Int) == 0) (((expF n : Nat) : Int) == 0) (negB n):=by
  simp only [kindF,dec_eq,expF,fracF,negB]
  by_cases h1 : 9218868437227405312 < n % 9223372036854775808
  ·rw [if_pos h1,decide_eq_true (show ((n / 4503599627370496 % 2048 : Nat) : Int) = 2047 by omega),decide_eq_false (show ¬ ((n % 4503599627370496 : Nat) : Int) = 0 by omega)];rfl
  rw [if_neg h1]
  by_cases h2 : n = 18442240474082181120
  ·subst h2;rfl
  rw [if_neg h2]
  by_cases h3 : n = 9218868437227405312
  ·subst h3;rfl
  rw [if_neg h3,decide_eq_false (show ¬ ((n / 4503599627370496 % 2048 : Nat) : Int) = 2047 by omega)]
  by_cases h4 : n % 9223372036854775808 = 0
  ·rw [if_pos h4,decide_eq_true (show ((n / 4503599627370496 % 2048 : Nat) : Int) = 0 by omega),decide_eq_true (show ((n % 4503599627370496 : Nat) : Int) = 0 by omega)]
   by_cases h5 : 9223372036854775808≤n
   ·rw [if_pos h5,decide_eq_true h5];rfl
   ·rw [if_neg h5,decide_eq_false h5];rfl
  ·rw [if_neg h4]
   by_cases c : ((n % 4503599627370496 : Nat) : Int) = 0
   ·rw [decide_eq_true c,decide_eq_false (show ¬ ((n / 4503599627370496 % 2048 : Nat) : Int) = 0 by omega)]
    by_cases h5 : 9223372036854775808≤n
    ·rw [if_pos h5,decide_eq_true h5];rfl
    ·rw [if_neg h5,decide_eq_false h5];rfl
   ·rw [decide_eq_false c]
    generalize decide (((n / 4503599627370496 % 2048 : Nat) : Int) = 0) = r
    by_cases h5 : 9223372036854775808≤n
    ·rw [if_pos h5,decide_eq_true h5];cases r <;> rfl
    ·rw [if_neg h5,decide_eq_false h5];cases r <;> rfl
 rw [k]
 exact kindRef_walk n hn w _ _ _ _ rfl rfl rfl rfl rfl
def canonF (n : Nat) : Nat:=if 9218868437227405312 < n % 9223372036854775808 then 9221120237041090560 else n
def keyF (n : Nat) : Nat:=if 9218868437227405312 < n % 9223372036854775808 then 0 else if 9223372036854775808≤n then 18446744073709551615 - n else n + 9223372036854775808
theorem kindF_zero (n : Nat) : (kindF n == 0) = nanB n:=by
 unfold kindF nanB
 by_cases h1 : 9218868437227405312 < n % 9223372036854775808
 ·rw [if_pos h1,decide_eq_true h1];rfl
 rw [if_neg h1,decide_eq_false h1]
 split;rfl
 split;rfl
 split
 ·split <;> rfl
 ·split <;> rfl
theorem canon_any (n : Nat) (w : World) :
  Calls Tryz.prog 92 #[.int .u64 n] w fun e w'=>e = .returned (.int .u64 (canonF n : Nat))∧w = w':=by
 unfold canonF
 by_cases h : 9218868437227405312 < n % 9223372036854775808
 ·rw [if_pos h];exact canon_nan n w (decide_eq_true h)
 ·rw [if_neg h];exact canon_num n w (decide_eq_false h)
theorem canonRef_any (n : Nat) (hn : n < 18446744073709551616) (w : World) :
  Calls Tryz.prog 78 #[.int .u64 n] w fun e w'=>e = .returned (.int .u64 (canonF n : Nat))∧w = w':=by
 unfold canonF
 by_cases h : 9218868437227405312 < n % 9223372036854775808
 ·rw [if_pos h]
  have hk : (kindF n == 0) = true:=by rw [kindF_zero];exact decide_eq_true h
  clear h
  go_enter Tryz.func78,Tryz.ntmps78
  go_wp2_with (go_at_call 99;((with_reducible refine (kindRef_any _ hn _).mono ?_);rintro e w' ⟨rfl,rfl⟩))
  go_ret
  exact ⟨rfl,rfl⟩
 ·rw [if_neg h]
  have hk : (kindF n == 0) = false:=by rw [kindF_zero];exact decide_eq_false h
  clear h
  go_enter Tryz.func78,Tryz.ntmps78
  go_wp2_with (go_at_call 99;((with_reducible refine (kindRef_any _ hn _).mono ?_);rintro e w' ⟨rfl,rfl⟩))
  go_ret
  exact ⟨rfl,rfl⟩
def cmpF (a b : Nat) : Int:=if a < b then -1 else if b < a then 1 else 0
def orderF (a b : Nat) : Int:=cmpF (keyF a) (keyF b)
end Go.Proofs.YtigimmbdlhginaaGreatDoor
