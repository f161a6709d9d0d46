/- Contracts of txn.Same, of the document's own, and of the statements' awake. Conditions: the lists lie in memory, and are no longer than a million. Words for a command in memory; whether two are alike, and formed. No condition. Words for boxes that are filled anew or loaded whole; equality as a Bool. Reading as a state: the bytes that are left, or none where it has failed; what the two readers answer in these words. Contracts of the document's own Key and Valid. Conditions: none but the texts' lengths. Contract of the document's own Valid: valid UTF-8. Condition: the text's length. Contract of the document's own Formed. Conditions: the value's number and text fit their kinds. A value in a box. -/
import Derived.Test.YtcfmifongbapkaaGreatDoorRE
import Derived.WalkLawsBesides
import Derived.Test.YtcfmifongbapkaaGreatDoorRD
import Derived.Test.YtcfmifongbapkaaGreatDoorRB
import Derived.Test.YtcfmifongbapkaaGreatDoorRC
import Derived.Lib.OthersKept
import Derived.WalkSmall
import Derived.Deep.QuietTactic
import Derived.BigQuiet
namespace Go.Proofs.YtcfmifongbapkaaGreatDoor
set_option maxHeartbeats 2000000
open Go.RowKit
open Go.Lib (hid)
/-- Whether two transactions in memory are alike. -/
noncomputable def sameM (x y : IdN) (rs rs' : List RdM) (ws ws' : List WrM) : Bool:=eqB x y && (eqB rs rs' && eqB ws ws')
theorem sameM_self (x : IdN) (rs : List RdM) (ws : List WrM) : sameM x x rs rs ws ws = true:=by unfold sameM;rw [eqB_self,eqB_self,eqB_self];rfl
theorem id_cases (s q s' q' : Int) : (eqB (s,q) (s',q') = true∧(s == s') = true∧(q == q') = true)∨(eqB (s,q) (s',q') = false∧(s == s') = false)∨(eqB (s,q) (s',q') = false∧(s == s') = true∧(q == q') = false):=by
 by_cases h1 : s = s'
 ·by_cases h2 : q = q'
  ·exact .inl ⟨eqB_yes (by rw [h1,h2]),by simpa using h1,by simpa using h2⟩
  ·exact .inr (.inr ⟨eqB_no (fun e=>h2 (by injection e)),by simpa using h1,by simpa using h2⟩)
 ·exact .inr (.inl ⟨eqB_no (fun e=>h1 (by injection e)),by simpa using h1⟩)
theorem tSame_any (s q : Int) (a : Option Addr) (n c : Nat) (b : Option Addr) (m d : Nat) (rs : List RdM) (ws : List WrM) (s' q' : Int) (a' : Option Addr) (n' c' : Nat) (b' : Option Addr) (m' d' : Nat) (rs' : List RdM) (ws' : List WrM) (w : World)
  (h : TxAt w a n b m rs ws) (h' : TxAt w a' n' b' m' rs' ws') (hn : n≤1000000) (hm : m≤1000000) :
  Calls Tryz.prog 95 #[.agg (txV s q a n c b m d),.agg (txV s' q' a' n' c' b' m' d')] w (Says w (sameM (s,q) (s',q') rs rs' ws ws')):=by
 have H0:=hid (((Boxs.start w).more (txV s q a n c b m d) 30).more (txV s' q' a' n' c' b' m' d') 30)
 have hs : (w.alloc (.cells (txV s q a n c b m d) 30)).heap.size = w.heap.size + 1:=by simp
 rw [hs] at H0
 have c1:=eqR_any a a' n n' c c' _ _ rs rs' _ (h.later H0.out.bel).rds (h'.later H0.out.bel).rds hn
 have HT:=hid h
 have HT':=hid h'
 have c2:=fun W (hW : Below w.heap.size w W)=>eqW_any b b' m m' d d' _ _ ws ws' W (HT.out.later hW).wrs (HT'.out.later hW).wrs hm
 obtain ⟨x0,x1,x2,x3⟩:=(H0.out.get 1 _ _ _ rfl).four
 obtain ⟨y0,y1,y2,y3⟩:=(H0.out.get 0 _ _ _ rfl).four
 clear h h'
 unfold sameM
 rcases id_cases s q s' q' with ⟨e,q1,q2⟩ | ⟨e,q1⟩ | ⟨e,q1,q2⟩
 ·rw [e]
  cases hR : eqB rs rs'
  ·rw [hR] at c1
   clear hR c2
   go_enter Tryz.func95,Tryz.ntmps95
   go_wp2_with (go_at_call 124;((with_reducible refine c1.mono ?_);rintro e w1 ⟨rfl,hb1⟩;have H1:=hid (H0.out.below hb1)))
   go_ret
   exact ⟨rfl,H1.out.bel⟩
  ·rw [hR] at c1
   clear hR
   go_enter Tryz.func95,Tryz.ntmps95
   go_wp2_with (first | (go_at_call 124;((with_reducible refine c1.mono ?_);rintro e w1 ⟨rfl,hb1⟩;have H1:=hid (H0.out.below hb1);(clear x0 x1 x2 x3 y0 y1 y2 y3);obtain ⟨x0,x1,x2,x3⟩:=(H1.out.get 1 _ _ _ rfl).four;obtain ⟨y0,y1,y2,y3⟩:=(H1.out.get 0 _ _ _ rfl).four)) | (go_at_call 125;((with_reducible refine (c2 _ H1.out.bel).mono ?_);rintro e w2 ⟨rfl,hb2⟩;have H2:=hid (H1.out.below hb2))))
   go_ret
   exact ⟨rfl,H2.out.bel⟩
 ·rw [e]
  clear c1 c2
  go_enter Tryz.func95,Tryz.ntmps95
  go_wp2
  go_ret
  exact ⟨rfl,H0.out.bel⟩
 ·rw [e]
  clear c1 c2
  go_enter Tryz.func95,Tryz.ntmps95
  go_wp2
  go_ret
  exact ⟨rfl,H0.out.bel⟩
set_option linter.unusedVariables false
theorem BoxC.ten {w : World} {g : Nat} {c0 c1 c2 c3 c4 c5 c6 c7 c8 c9 : Value} {t : TypeId} (h : BoxC w g #[c0,c1,c2,c3,c4,c5,c6,c7,c8,c9] t) : w.cell? ⟨g,0,none⟩ = some c0∧w.cell? ⟨g,1,none⟩ = some c1∧w.cell? ⟨g,2,none⟩ = some c2∧w.cell? ⟨g,3,none⟩ = some c3∧w.cell? ⟨g,4,none⟩ = some c4∧w.cell? ⟨g,5,none⟩ = some c5∧w.cell? ⟨g,6,none⟩ = some c6∧w.cell? ⟨g,7,none⟩ = some c7∧w.cell? ⟨g,8,none⟩ = some c8∧w.cell? ⟨g,9,none⟩ = some c9 :=
 ⟨h.cell 0 c0 rfl,h.cell 1 c1 rfl,h.cell 2 c2 rfl,h.cell 3 c3 rfl,h.cell 4 c4 rfl,h.cell 5 c5 rfl,h.cell 6 c6 rfl,h.cell 7 c7 rfl,h.cell 8 c8 rfl,h.cell 9 c9 rfl⟩
/-- A command by value: its kind, its transaction (id, reads, writes), its id, group, stamp, and whether it is a yes. -/
structure CmM where
 k : Int
 s : Int
 q : Int
 a : Option Addr
 n : Nat
 c : Nat
 b : Option Addr
 m : Nat
 d : Nat
 i : Int
 j : Int
 g : Int
 st : Nat
 y : Bool
abbrev cmV (x : CmM) : Array Value:=#[.int .i64 x.k,.int .i64 x.s,.int .i64 x.q,.slice x.a x.n x.c,.slice x.b x.m x.d,.int .i64 x.i,.int .i64 x.j,.int .i64 x.g,.int .u64 ((x.st : Nat) : Int),.bool x.y]
abbrev zeroM : CmM:=⟨0,0,0,none,0,0,none,0,0,0,0,0,0,false⟩
abbrev zeroV : Array Value:=#[.int .i64 0,.int .i64 0,.int .i64 0,.slice none 0 0,.slice none 0 0,.int .i64 0,.int .i64 0,.int .i64 0,.int .u64 0,.bool false]
abbrev idA (x : IdN) : Value:=.agg #[.int .i64 x.1,.int .i64 x.2]
/-- Its transaction's lists lie in memory, and its stamp is one of 64 bits. -/
def CmAt (w : World) (x : CmM) (rs : List RdM) (ws : List WrM) : Prop:=TxAt w x.a x.n x.b x.m rs ws∧x.st < 18446744073709551616
section
variable {w w' : World} {x : CmM} {rs : List RdM} {ws : List WrM}
theorem CmAt.tx (h : CmAt w x rs ws) : TxAt w x.a x.n x.b x.m rs ws:=h.1
theorem CmAt.st (h : CmAt w x rs ws) : x.st < 18446744073709551616:=h.2
theorem CmAt.later (h : CmAt w x rs ws) (hb : Below w.heap.size w w') : CmAt w' x rs ws:=⟨h.1.later hb,h.2⟩
theorem CmAt.zero : CmAt w zeroM [] []:=⟨TxAt.nil,by show 0 < 18446744073709551616;decide⟩
end
def cmT (x : CmM) (rs : List RdM) (ws : List WrM) : Cm:=⟨x.k,txT (x.s,x.q) rs ws,(x.i,x.j),x.g,x.st,x.y⟩
/-- Whether two commands in memory are alike. -/
noncomputable def sameC (x y : CmM) (rs rs' : List RdM) (ws ws' : List WrM) : Bool :=
 (x.k == y.k) && (sameM (x.s,x.q) (y.s,y.q) rs rs' ws ws' && (eqB (x.i,x.j) (y.i,y.j) && ((x.g == y.g) && ((((x.st : Nat) : Int) == ((y.st : Nat) : Int)) && (x.y == y.y)))))
theorem sameC_doc (x y : CmM) (rs rs' : List RdM) (ws ws' : List WrM) : sameC x y rs rs' ws ws' = ((x.k == y.k) && (eqB (x.i,x.j) (y.i,y.j) && ((x.g == y.g) && ((((x.st : Nat) : Int) == ((y.st : Nat) : Int)) && ((x.y == y.y) && sameM (x.s,x.q) (y.s,y.q) rs rs' ws ws'))))):=by
 unfold sameC
 generalize sameM (x.s,x.q) (y.s,y.q) rs rs' ws ws' = B
 generalize eqB (x.i,x.j) (y.i,y.j) = B1
 generalize (x.k == y.k) = B2
 generalize (x.g == y.g) = B3
 generalize (((x.st : Nat) : Int) == ((y.st : Nat) : Int)) = B4
 generalize (x.y == y.y) = B5
 cases B <;> cases B1 <;> cases B2 <;> cases B3 <;> cases B4 <;> cases B5 <;> rfl
theorem sameM_of {i i' : IdN} {rs rs' : List RdM} {ws ws' : List WrM} (h : sameM i i' rs rs' ws ws' = true) : i = i'∧rs = rs'∧ws = ws':=by
 unfold sameM at h
 rw [Bool.and_eq_true,Bool.and_eq_true] at h
 exact ⟨eqB_of h.1,eqB_of h.2.1,eqB_of h.2.2⟩
/-- Alike in memory just if they are the same commands. -/
theorem txT_eq {i i' : IdN} {rs rs' : List RdM} {ws ws' : List WrM} (h : txT i rs ws = txT i' rs' ws') : i = i'∧rs = rs'∧ws = ws':=by
 unfold txT at h
 injection h with h1 h2 h3
 refine ⟨h1,?_,?_⟩
 ·refine List.map_inj_right (f:=fun x : RdM=>(x.1.data.toList,x.2)) (fun x y e=>?_) |>.1 h2
  injection e with e1 e2
  exact Prod.ext (ByteArray.ext (Array.toList_inj.1 e1)) e2
 ·refine List.map_inj_right (f:=fun x : WrM=>(x.key.data.toList,valM x)) (fun x y e=>?_) |>.1 h3
  injection e with e1 e2
  unfold valM at e2
  injection e2 with e3 e4 e5
  obtain ⟨xk,xa,xb,xt⟩:=x
  obtain ⟨yk,ya,yb,yt⟩:=y
  simp only at e1 e3 e4 e5
  have h1 : xk = yk:=ByteArray.ext (Array.toList_inj.1 e1)
  have h2 : xt = yt:=ByteArray.ext (Array.toList_inj.1 e5)
  rw [h1,h2,e3,e4]
theorem sameC_iff (x y : CmM) (rs rs' : List RdM) (ws ws' : List WrM) : sameC x y rs rs' ws ws' = true↔cmT x rs ws = cmT y rs' ws':=by
 constructor
 ·intro h
  unfold sameC at h
  simp only [Bool.and_eq_true,beq_iff_eq] at h
  obtain ⟨h1,h2,h3,h4,h5,h6⟩:=h
  obtain ⟨i1,i2,i3⟩:=sameM_of h2
  have i4:=eqB_of h3
  have i5 : x.st = y.st:=by omega
  unfold cmT
  rw [h1,i1,i2,i3,i4,h4,i5,h6]
 ·intro h
  unfold cmT at h
  injection h with h1 h2 h3 h4 h5 h6
  obtain ⟨i1,i2,i3⟩:=txT_eq h2
  unfold sameC sameM
  rw [eqB_yes i1,eqB_yes i2,eqB_yes i3,eqB_yes h3,h1,h4,h5,h6];simp
theorem eqB_dec {α : Type} [DecidableEq α] (x y : α) : eqB x y = decide (x = y):=by
 by_cases h : x = y
 ·rw [eqB_yes h,decide_eq_true h]
 ·rw [eqB_no h,decide_eq_false h]
theorem eqB_nil {α : Type} (l : List α) : eqB l [] = decide (l.length = 0):=by
 cases l with
 | nil=>rw [eqB_self];rfl
 | cons a r=>rw [eqB_no (by simp)];simp
theorem sameM_zero (i : IdN) (rs : List RdM) (ws : List WrM) : sameM i (0,0) rs [] ws [] = zeroTB (txT i rs ws):=by
 unfold sameM zeroTB txT txR txW
 rw [eqB_dec,eqB_nil,eqB_nil];simp
/-- What a command's kind names of it. -/
def namedM (x : CmM) : CmM :=
 if x.k = 1 then ⟨1,x.s,x.q,x.a,x.n,x.c,x.b,x.m,x.d,0,0,0,0,false⟩
 else if x.k = 2 then ⟨2,0,0,none,0,0,none,0,0,x.i,x.j,x.g,x.st,false⟩
 else if x.k = 3 then ⟨3,0,0,none,0,0,none,0,0,x.i,x.j,x.g,0,x.y⟩
 else zeroM
def namedL {α : Type} (x : CmM) (l : List α) : List α:=if x.k = 1 then l else []
theorem named_at {w : World} {x : CmM} {rs : List RdM} {ws : List WrM} (h : CmAt w x rs ws) : CmAt w (namedM x) (namedL x rs) (namedL x ws):=by
 unfold namedM namedL
 split
 ·exact ⟨h.1,by show 0 < 18446744073709551616;decide⟩
 ·split
  ·exact ⟨TxAt.nil,h.2⟩
  ·split
   ·exact ⟨TxAt.nil,by show 0 < 18446744073709551616;decide⟩
   ·exact CmAt.zero
/-- A command and what its kind names of it are alike. -/
noncomputable def cleanB (x : CmM) (rs : List RdM) (ws : List WrM) : Bool:=sameC x (namedM x) rs (namedL x rs) ws (namedL x ws)
def srcB (x : CmM) : Bool:=idB (x.i,x.j) && (decide (0≤x.g) && decide (x.g < 4))
def labelM (x : CmM) : IdN:=if x.k = 1 then (x.s,x.q) else if x.k = 2∨x.k = 3 then (x.i,x.j) else (0,0)
section
variable {x : CmM} {rs : List RdM} {ws : List WrM}
theorem form_clean (h : cleanB x rs ws = false) : formCm (cmT x rs ws) = false:=by
 unfold cleanB namedM namedL at h
 unfold formCm cmT aboutB restB
 by_cases h0 : x.k = 0
 ·rw [if_neg (by omega),if_neg (by omega),if_neg (by omega),if_neg (by omega),if_neg (by omega)] at h
  unfold sameC at h
  rw [sameM_zero,eqB_dec] at h
  simp only [h0,if_true]
  generalize zeroTB (txT (x.s,x.q) rs ws) = B at h ⊢
  revert h
  cases x.y <;> cases B <;> simp [h0] <;> omega
 ·by_cases h1 : x.k = 1
  ·rw [if_pos h1,if_pos h1,if_pos h1] at h
   unfold sameC at h
   rw [sameM_self,eqB_dec] at h
   simp only [h1,if_true]
   rw [if_neg (by omega)]
   revert h
   generalize formT formedB (txT (x.s,x.q) rs ws) = B
   cases x.y <;> cases B <;> simp [h1] <;> omega
  ·by_cases h2 : x.k = 2
   ·rw [if_neg h1,if_neg h1,if_neg h1,if_pos h2] at h
    unfold sameC at h
    rw [sameM_zero,eqB_self] at h
    simp only [h2,if_true]
    rw [if_neg (by omega),if_neg (by omega)]
    revert h
    generalize zeroTB (txT (x.s,x.q) rs ws) = B
    cases x.y <;> cases B <;> simp [h2]
   ·by_cases h3 : x.k = 3
    ·rw [if_neg h1,if_neg h1,if_neg h1,if_neg h2,if_pos h3] at h
     unfold sameC at h
     rw [sameM_zero,eqB_self] at h
     simp only [h3,if_true]
     rw [if_neg (by omega),if_neg (by omega),if_neg (by omega)]
     revert h
     generalize zeroTB (txT (x.s,x.q) rs ws) = B
     cases x.y <;> cases B <;> simp [h3] <;> omega
    ·simp only []
     rw [if_neg h0,if_neg h1,if_neg h2,if_neg h3]
theorem clean_kind (h : cleanB x rs ws = true) : x.k = 0∨x.k = 1∨x.k = 2∨x.k = 3:=by
 by_cases h1 : x.k = 1
 ·exact .inr (.inl h1)
 ·by_cases h2 : x.k = 2
  ·exact .inr (.inr (.inl h2))
  ·by_cases h3 : x.k = 3
   ·exact .inr (.inr (.inr h3))
   ·unfold cleanB namedM namedL sameC at h
    rw [if_neg h1,if_neg h2,if_neg h3] at h
    simp only [Bool.and_eq_true,beq_iff_eq] at h
    exact .inl h.1
theorem form_zero (h : cleanB x rs ws = true) (h0 : x.k = 0) : formCm (cmT x rs ws) = true:=by
 unfold cleanB namedM namedL at h
 rw [if_neg (by omega),if_neg (by omega),if_neg (by omega),if_neg (by omega),if_neg (by omega)] at h
 have e:=(sameC_iff _ _ _ _ _ _).1 h
 rw [e];rfl
theorem form_begin (h : cleanB x rs ws = true) (h1 : x.k = 1) : formCm (cmT x rs ws) = formT formedB (txT (x.s,x.q) rs ws):=by
 unfold cleanB namedM namedL at h
 rw [if_pos h1,if_pos h1,if_pos h1] at h
 have e:=(sameC_iff _ _ _ _ _ _).1 h
 rw [e]
 show (formT formedB (txT (x.s,x.q) rs ws) && restB _) = _
 exact Bool.and_true _
theorem form_stamp (h : cleanB x rs ws = true) (h2 : x.k = 2) : formCm (cmT x rs ws) = (srcB x && (decide (1≤x.st) && decide (x.st≤9223372036854775807))):=by
 unfold cleanB namedM namedL at h
 have h1 : ¬ x.k = 1:=by omega
 rw [if_neg h1,if_neg h1,if_neg h1,if_pos h2] at h
 have e:=(sameC_iff _ _ _ _ _ _).1 h
 rw [e]
 show (srcB x && (decide (0 < x.st) && decide (x.st≤9223372036854775807))) = _
 rfl
theorem form_vote (h : cleanB x rs ws = true) (h3 : x.k = 3) : formCm (cmT x rs ws) = srcB x:=by
 unfold cleanB namedM namedL at h
 have h1 : ¬ x.k = 1:=by omega
 have h2 : ¬ x.k = 2:=by omega
 rw [if_neg h1,if_neg h1,if_neg h1,if_neg h2,if_pos h3] at h
 have e:=(sameC_iff _ _ _ _ _ _).1 h
 rw [e]
 show (srcB x && true) = _
 exact Bool.and_true _
end
theorem bytes_inj {u v : ByteArray} (h : u.data.toList = v.data.toList) : u = v:=ByteArray.ext (Array.toList_inj.1 h)
theorem sameC_eqB (x y : CmM) (rs rs' : List RdM) (ws ws' : List WrM) : sameC x y rs rs' ws ws' = eqB (cmT x rs ws) (cmT y rs' ws'):=by
 by_cases h : cmT x rs ws = cmT y rs' ws'
 ·rw [eqB_yes h,(sameC_iff _ _ _ _ _ _).2 h]
 ·rw [eqB_no h]
  cases e : sameC x y rs rs' ws ws'
  ·rfl
  ·exact absurd ((sameC_iff _ _ _ _ _ _).1 e) h
theorem bytes_beq (u v : ByteArray) : (u.toList == v.toList) = eqB u v:=by
 by_cases h : u = v
 ·rw [eqB_yes h,h];simp
 ·rw [eqB_no h]
  have : ¬ u.toList = v.toList:=fun e=>h (by
   rw [ByteArray.toList_eq,ByteArray.toList_eq] at e
   exact bytes_inj e)
  simpa using this
theorem eqB_iff {α : Type} {x y : α} : eqB x y = true↔x = y:=⟨eqB_of,eqB_yes⟩
/-- A whole box is filled anew. -/
theorem BoxC.fill {w : World} {g : Nat} {cs : Array Value} {t : TypeId} (h : BoxC w g cs t) (ds : Array Value) : BoxC (w.setRow g ds) g ds t:=setRow_heap w g cs ds t (0,0) h
theorem only_fill (w : World) (g : Nat) (ds : Array Value) : Only g w (w.setRow g ds):=⟨rfl,rfl,rfl,by rw [setRow_size];exact Nat.le_refl _,fun b _ hne=>setRow_other w g b ds (fun e=>hne (by rw [e]))⟩
abbrev St:=Option (List UInt8)
section
variable {α β : Type} {p : Prs α} {f : α→Prs β} {st st1 st2 st' : St} {x : α} {y : β} {n k : Nat} {ys : List α}
/-- Either y is read, or it fails (and y is anything). -/
def Res (p : Prs α) (st : St) (y : α) (st' : St) : Prop:=(∃ l r,st = some l∧p l = some (y,r)∧st' = some r)∨((∀ l,st = some l→p l = none)∧st' = none)
theorem Res.bind (h1 : Res p st x st1) (h2 : Res (f x) st1 y st2) : Res (bindP p f) st y st2:=by
 rcases h1 with ⟨l,r,rfl,hp,rfl⟩ | ⟨hp,rfl⟩
 ·rcases h2 with ⟨l',r',e,hf,rfl⟩ | ⟨hf,rfl⟩
  ·injection e with e;subst e
   exact .inl ⟨l,r',rfl,by rw [bind_some hp];exact hf,rfl⟩
  ·exact .inr ⟨fun l' e=>by injection e with e;subst e;rw [bind_some hp];exact hf r rfl,rfl⟩
 ·rcases h2 with ⟨l',r',e,_⟩ | ⟨_,rfl⟩
  ·cases e
  ·exact .inr ⟨fun l e=>bind_none (hp l e),rfl⟩
theorem Res.pure (y : α) (st : St) : Res (pureP y) st y st:=by
 cases st with
 | none=>exact .inr ⟨(fun l e=>by cases e),rfl⟩
 | some l=>exact .inl ⟨l,l,rfl,rfl,rfl⟩
theorem Res.yes {l r : List UInt8} (h : p l = some (x,r)) : Res p (some l) x (some r):=.inl ⟨l,r,rfl,h,rfl⟩
theorem Res.no (x : α) (h : ∀ l,st = some l→p l = none) : Res p st x none:=.inr ⟨h,rfl⟩
/-- p, if what is read is good. -/
def guardP (c : α→Bool) (p : Prs α) : Prs α:=fun l=>match p l with
 | some (x,r)=>if c x = true then some (x,r) else none
 | none=>none
theorem guard_yes {c : α→Bool} {l r : List UInt8} (h : p l = some (x,r)) (hc : c x = true) : guardP c p l = some (x,r):=by unfold guardP;rw [h];simp [hc]
theorem guard_bad {c : α→Bool} {l r : List UInt8} (h : p l = some (x,r)) (hc : c x = false) : guardP c p l = none:=by unfold guardP;rw [h];simp [hc]
theorem guard_none {c : α→Bool} {l : List UInt8} (h : p l = none) : guardP c p l = none:=by unfold guardP;rw [h]
theorem Res.guard_no {c : α→Bool} (h : Res p st x none) (z : α) : Res (guardP c p) st z none:=by
 rcases h with ⟨l,r,_,_,e⟩ | ⟨h,_⟩
 ·cases e
 ·exact .no z fun l e=>guard_none (h l e)
theorem Res.guard_bad {c : α→Bool} (h : Res p st x st') (hc : c x = false) (z : α) : Res (guardP c p) st z none:=by
 rcases h with ⟨l,r,rfl,h,_⟩ | ⟨h,_⟩
 ·exact .no z fun l' e=>by injection e with e;subst e;exact Go.Proofs.YtcfmifongbapkaaGreatDoor.guard_bad h hc
 ·exact .no z fun l e=>guard_none (h l e)
theorem Res.guard_yes {c : α→Bool} (h : Res p st x st') (hc : c x = true) : Res (guardP c p) st x st':=by
 rcases h with ⟨l,r,rfl,h,rfl⟩ | ⟨h,rfl⟩
 ·exact .yes (Go.Proofs.YtcfmifongbapkaaGreatDoor.guard_yes h hc)
 ·exact .no x fun l e=>guard_none (h l e)
/-- A list: how many, one byte, then each. -/
def listP (p : Prs α) : Prs (List α):=bindP (numP 1) fun n=>repP p n
/-- k of n were read, one after the other, or it has failed. -/
def RunZ (p : Prs α) (n : Nat) (st1 : St) (k : Nat) (ys : List α) (st : St) : Prop :=
 k≤n∧ys.length = k∧((∃ l r,st1 = some l∧st = some r∧RunP p n l k ys r)∨(st = none∧∀ l,st1 = some l→repP p n l = none))
theorem RunZ.start (p : Prs α) (n : Nat) (st1 : St) : RunZ p n st1 0 [] st1:=by
 refine ⟨Nat.zero_le _,rfl,?_⟩
 cases st1 with
 | none=>exact .inr ⟨rfl,fun l e=>by cases e⟩
 | some l=>exact .inl ⟨l,l,rfl,rfl,RunP.start p n l⟩
theorem RunZ.next (h : RunZ p n st1 k ys st) (hk : k < n) (hr : Res p st x st') : RunZ p n st1 (k + 1) (ys ++ [x]) st':=by
 obtain ⟨_,h2,h3⟩:=h
 refine ⟨hk,by simp [h2],?_⟩
 rcases h3 with ⟨l,r,rfl,rfl,hR⟩ | ⟨rfl,hn⟩
 ·rcases hr with ⟨l',r',e,hp,rfl⟩ | ⟨hp,rfl⟩
  ·injection e with e;subst e
   exact .inl ⟨l,r',rfl,rfl,hR.next hk hp⟩
  ·exact .inr ⟨rfl,fun l' e=>by injection e with e;subst e;exact hR.fail hk (hp r rfl)⟩
 ·rcases hr with ⟨l',r',e,_⟩ | ⟨_,rfl⟩
  ·cases e
  ·exact .inr ⟨rfl,hn⟩
theorem RunZ.done (h : RunZ p n st1 n ys st) : Res (repP p n) st1 ys st:=by
 obtain ⟨_,_,h3⟩:=h
 rcases h3 with ⟨l,r,rfl,rfl,hR⟩ | ⟨rfl,hn⟩
 ·exact .yes hR.done
 ·exact .no ys hn
theorem RunZ.stop (h : RunZ p n st1 k ys none) (zs : List α) : Res (repP p n) st1 zs none:=by
 obtain ⟨_,_,h3⟩:=h
 rcases h3 with ⟨l,r,_,e,_⟩ | ⟨_,hn⟩
 ·cases e
 ·exact .no zs hn
theorem RunZ.len (h : RunZ p n st1 k ys st) : ys.length = k:=h.2.1
theorem num_lt {x : Nat} (h : Res (numP k) st x st') (h0 : st' = none→x = 0) (hk : 0 < 256 ^ k) : x < 256 ^ k:=by
 rcases h with ⟨l,r,rfl,h,rfl⟩ | ⟨_,e⟩
 ·unfold numP at h
  split at h
  ·rename_i hl
   injection h with h;injection h with h _
   subst h
   have:=numB_lt (l.take k)
   rw [List.length_take,Nat.min_eq_left hl] at this
   exact this
  ·cases h
 ·rw [h0 e];exact hk
theorem text_le {x : List UInt8} {lim : Nat} (h : Res (textP lim) st x st') (h0 : st' = none→x = []) : x.length≤lim:=by
 rcases h with ⟨l,r,rfl,h,rfl⟩ | ⟨_,e⟩
 ·unfold textP at h
  split at h
  ·rename_i hl
   injection h with h;injection h with h _
   subst h
   have:=hl.2.1
   rw [List.length_take];omega
  ·cases h
 ·rw [h0 e];exact Nat.zero_le _
end
/-- The program's reader in block g, the document's: as a state. -/
def RS (g : Nat) (st : St) (W : World) : Prop:=match st with
 | some l=>RdAt W g l true
 | none=>RdAt W g [] false
def FS (B g : Nat) (L : List UInt8) (st : St) (W : World) : Prop := ∃ k,RefAt W B g L k st.isSome∧∀ l,st = some l→l = L.drop k
/-- What is said of a reader stands as long as the blocks up to its own stand. -/
class Keep (g : Nat) (rd : World→Prop) : Prop where
 keep : ∀ W W' : World,rd W→(∀ b,b≤g→W'.heap[b]? = W.heap[b]?)→rd W'
/-- The program's reader. -/
instance (g : Nat) (st : St) : Keep g (RS g st):=⟨fun W W' h hk=>by
 cases st with
 | none=>exact RdAt.keep h hk
 | some l=>exact RdAt.keep h hk⟩
/-- The document's reader. -/
instance (B g : Nat) (L : List UInt8) (st : St) : Keep g (FS B g L st):=⟨fun W W' h hk=>by
 obtain ⟨k,h1,h2⟩:=h
 exact ⟨k,h1.keep hk,h2⟩⟩
theorem RS.lt {g : Nat} {st : St} {W : World} (h : RS g st W) : g < W.heap.size:=by
 cases st with
 | none=>exact RdAt.lt h
 | some l=>exact RdAt.lt h
theorem FS.lt {B g : Nat} {L : List UInt8} {st : St} {W : World} (h : FS B g L st W) : g < W.heap.size:=by
 obtain ⟨k,h,_⟩:=h
 exact h.lt
theorem FS.flag {B g : Nat} {L : List UInt8} {st : St} {W : World} (h : FS B g L st W) : W.cell? ⟨g,2,none⟩ = some (.bool (!st.isSome))∧W.frozen? ⟨g,2,none⟩ = false:=by
 obtain ⟨k,h,_⟩:=h
 exact h.flag
theorem FS.fails {B g : Nat} {L : List UInt8} {st : St} {W : World} (h : FS B g L st W) : FS B g L none (W.setCell ⟨g,2,none⟩ (.bool true)):=by
 obtain ⟨k,h,_⟩:=h
 exact ⟨k,h.fails,fun l e=>by cases e⟩
/-- Something is taken: it is answered as P tells, the reader goes on; z where it fails. -/
def Took1 {α : Type} (rd : St→World→Prop) (g : Nat) (P : α→Value) (p : Prs α) (z : α) (st : St) (W : World) (e : Ending) (w' : World) : Prop :=
 ∃ x st',e = .returned (P x)∧rd st' w'∧Only g W w'∧Res p st x st'∧(st' = none→x = z)
abbrev numV (x : Nat) : Value:=.int .u64 ((x : Nat) : Int)
abbrev textV (x : List UInt8) : Value:=.string ⟨x.toArray⟩
theorem takeS_any (g k : Nat) (st : St) (W : World) (h : RS g st W) (h8 : k≤8) :
  Calls Tryz.prog 80 #[.pointer (some ⟨g,0,none⟩),.int .i64 k] W (Took1 (RS g) g numV (numP k) 0 st W):=by
 cases st with
 | none=>exact (take_no g [] false k W h (.inl rfl)).mono fun e w' ⟨h1,h2,h3⟩=>⟨0,none,h1,h2,h3,.no _ (fun l e=>by cases e),fun _=>rfl⟩
 | some l =>
  by_cases hk : k≤l.length
  ·exact (take_yes g l k W h hk h8).mono fun e w' ⟨h1,h2,h3⟩=>⟨_,some (l.drop k),h1,h2,h3,.yes (by unfold numP;rw [if_pos hk]),fun e=>by cases e⟩
  ·exact (take_no g l true k W h (.inr (.inr (.inr (by omega))))).mono fun e w' ⟨h1,h2,h3⟩=>⟨0,none,h1,h2,h3,.no _ (fun l' e=>by injection e with e;subst e;unfold numP;rw [if_neg hk]),fun _=>rfl⟩
theorem takeTextS_any (g m : Nat) (st : St) (W : World) (h : RS g st W) :
  Calls Tryz.prog 151 #[.pointer (some ⟨g,0,none⟩),.int .i64 (m : Int)] W (Took1 (RS g) g textV (textP m) [] st W):=by
 cases st with
 | none=>exact (takeText_no g [] false m W h (fun h=>by cases h.1)).mono fun e w' ⟨h1,h2,h3⟩=>⟨[],none,h1,h2,h3,.no _ (fun l e=>by cases e),fun _=>rfl⟩
 | some l =>
  by_cases hk : textOk l m
  ·exact (takeText_yes g l m W h hk).mono fun e w' ⟨h1,h2,h3⟩=>⟨_,some _,h1,h2,h3,.yes (by unfold textP;rw [if_pos hk]),fun e=>by cases e⟩
  ·exact (takeText_no g l true m W h (fun h=>hk h.2)).mono fun e w' ⟨h1,h2,h3⟩=>⟨[],none,h1,h2,h3,.no _ (fun l' e=>by injection e with e;subst e;unfold textP;rw [if_neg hk]),fun _=>rfl⟩
theorem refTakeS_any (B g : Nat) (L : List UInt8) (k : Nat) (st : St) (W : World) (h : FS B g L st W) (h8 : k≤8) :
  Calls Tryz.prog 45 #[.pointer (some ⟨g,0,none⟩),.int .i64 k] W (Took1 (FS B g L) g numV (numP k) 0 st W):=by
 obtain ⟨q,h,hq⟩:=h
 cases st with
 | none=>exact (refTake_no B g L q false k W h (.inl rfl)).mono fun e w' ⟨h1,h2,h3⟩=>⟨0,none,h1,⟨q,h2,fun l e=>by cases e⟩,h3,.no _ (fun l e=>by cases e),fun _=>rfl⟩
 | some l =>
  obtain rfl:=hq l rfl
  by_cases hk : k≤(L.drop q).length
  ·exact (refTake_yes B g L q k W h hk h8).mono fun e w' ⟨h1,h2,h3⟩=>⟨_,some ((L.drop q).drop k),h1,⟨q + k,h2,fun l e=>by injection e with e;rw [← e,List.drop_drop]⟩,h3,.yes (by unfold numP;rw [if_pos hk]),fun e=>by cases e⟩
  ·exact (refTake_no B g L q true k W h (.inr (.inr (.inr (by omega))))).mono fun e w' ⟨h1,h2,h3⟩=>⟨0,none,h1,⟨q,h2,fun l e=>by cases e⟩,h3,.no _ (fun l' e=>by injection e with e;subst e;unfold numP;rw [if_neg hk]),fun _=>rfl⟩
theorem refTakeTextS_any (B g : Nat) (L : List UInt8) (m : Nat) (st : St) (W : World) (h : FS B g L st W) :
  Calls Tryz.prog 115 #[.pointer (some ⟨g,0,none⟩),.int .i64 (m : Int)] W (Took1 (FS B g L) g textV (textP m) [] st W):=by
 obtain ⟨q,h,hq⟩:=h
 cases st with
 | none=>exact (refTakeText_no B g L q false m W h (fun h=>by cases h.1)).mono fun e w' ⟨h1,⟨q',h2⟩,h3⟩=>⟨[],none,h1,⟨q',h2,fun l e=>by cases e⟩,h3,.no _ (fun l e=>by cases e),fun _=>rfl⟩
 | some l =>
  obtain rfl:=hq l rfl
  by_cases hk : textOk (L.drop q) m
  ·exact (refTakeText_yes B g L q m W h hk).mono fun e w' ⟨h1,h2,h3⟩=>⟨_,some (((L.drop q).drop 2).drop (textLen (L.drop q))),h1,⟨_,h2,fun l e=>by injection e with e;rw [← e,List.drop_drop,List.drop_drop,Nat.add_assoc]⟩,h3,.yes (by unfold textP;rw [if_pos hk]),fun e=>by cases e⟩
  ·exact (refTakeText_no B g L q true m W h (fun h=>hk h.2)).mono fun e w' ⟨h1,⟨q',h2⟩,h3⟩=>⟨[],none,h1,⟨q',h2,fun l e=>by cases e⟩,h3,.no _ (fun l' e=>by injection e with e;subst e;unfold textP;rw [if_neg hk]),fun _=>rfl⟩
theorem drop3 (l : List UInt8) (p : Nat) (h : p + 3≤l.length) : (l.drop p).take 3 = [l[p],l[p + 1],l[p + 2]]:=by
 rw [List.drop_eq_getElem_cons (by omega),List.drop_eq_getElem_cons (by omega),List.drop_eq_getElem_cons (by omega)];rfl
theorem valid_go (s : ByteArray) (p : Nat) (hp : p < s.size) (h : ¬ ((Utf8.decode s p).1 = 65533∧(Utf8.decode s p).2 = 1)) : validT (s.data.toList.drop (p + (Utf8.decode s p).2)) = validT (s.data.toList.drop p):=by
 have hne : s.data.toList.drop p≠[]:=by
  intro e
  have:=congrArg List.length e
  simp at this
  have : s.data.size = s.size:=rfl
  omega
 have:=Lib.validD_step _ hne
 rw [Lib.decodeL_drop,if_neg h,List.drop_drop] at this
 exact this.symm
theorem valid_stop (s : ByteArray) (p : Nat) (hp : p < s.size) (h : (Utf8.decode s p).1 = 65533∧(Utf8.decode s p).2 = 1) : validT (s.data.toList.drop p) = false:=by
 have hne : s.data.toList.drop p≠[]:=by
  intro e
  have:=congrArg List.length e
  simp at this
  have : s.data.size = s.size:=rfl
  omega
 have:=Lib.validD_step _ hne
 rw [Lib.decodeL_drop,if_pos h] at this
 exact this
/-- What the look asks, in terms of the text's bytes. -/
theorem valid_look (s : ByteArray) (p : Nat) (h : (Utf8.decode s p).1 = 65533) : (Utf8.decode s p).2 = 1↔¬ (∃ h3 : p + 3≤s.size,(s[p]'(by omega)).toNat = 239∧(s[p + 1]'(by omega)).toNat = 191∧(s[p + 2]'(by omega)).toNat = 189):=by
 have hz : s.data.toList.length = s.size:=by rw [Array.length_toList];rfl
 have hb:=valid_bad (s.data.toList.drop p) (by rw [Lib.decodeL_drop];exact h)
 rw [Lib.decodeL_drop] at hb
 rw [hb]
 apply not_congr
 constructor
 ·intro e
  have hl : p + 3≤s.size:=by
   have:=congrArg List.length e
   simp only [List.length_take,List.length_drop,List.length_cons,List.length_nil] at this
   omega
  rw [drop3 _ _ (by omega)] at e
  simp only [List.cons.injEq] at e
  refine ⟨hl,?_,?_,?_⟩
  ·exact congrArg UInt8.toNat e.1
  ·exact congrArg UInt8.toNat e.2.1
  ·exact congrArg UInt8.toNat e.2.2.1
 ·rintro ⟨hl,h0,h1,h2⟩
  rw [drop3 _ _ (by omega)]
  have e0 : s.data.toList[p]'(by omega) = 239:=UInt8.toNat_inj.1 h0
  have e1 : s.data.toList[p + 1]'(by omega) = 191:=UInt8.toNat_inj.1 h1
  have e2 : s.data.toList[p + 2]'(by omega) = 189:=UInt8.toNat_inj.1 h2
  rw [e0,e1,e2]
theorem refValid_any (s : ByteArray) (w : World) (hs : s.size≤maxLen) :
  Calls Tryz.prog 137 #[.string s] w fun e w'=>e = .returned (.bool (validT s.data.toList))∧Below w.heap.size w w':=by
 unfold maxLen at hs
 go_enter Tryz.func137,Tryz.ntmps137
 go_wp2
 go_loopw [3] (fun _ wr => ∃ pos,wr.heap[w.heap.size]? = some (.stringIter s pos)∧Below w.heap.size w wr∧validT (s.data.toList.drop pos) = validT s.data.toList) (fun _ wr=>s.size - wr.iterPos w.heap.size)
 case atStart=>exact ⟨0,World.iter_heap w s 0,(Below.refl _ _).alloc (Nat.le_refl _) _,by simp⟩
 case round =>
  obtain ⟨pos,hit,hbw,hv⟩:=hrel
  have hpos0:=hid (iterPos_of hit)
  have HV:=hid hv
  clear hv
  by_cases hp : pos < s.size
  ·have hnx : ∀ ty,(Instr.next (.pointer (some ⟨w.heap.size,0,none⟩)) true ty).run Tryz.prog wr = _:=fun ty=>Lib.run_next_any_at wr w.heap.size s pos ty hit hp
   have hit2:=Lib.iterAt_heap wr w.heap.size s pos (pos + (Utf8.decode s pos).2) hit
   have hbw2:=Lib.below_iterAt hbw (k:=w.heap.size) (Nat.le_refl _) s (pos + (Utf8.decode s pos).2)
   have hwd:=Lib.decodeL_width (s.data.toList.drop pos)
   rw [Lib.decodeL_drop] at hwd
   have hgo:=fun h=>hid (valid_go s pos hp h)
   have hst:=fun h=>hid (valid_stop s pos hp h)
   have hlk:=fun h=>hid (valid_look s pos h)
   generalize wr.iterAt w.heap.size s (pos + (Utf8.decode s pos).2) = W1 at hnx hit2 hbw2
   generalize (Utf8.decode s pos).1 = r at *
   generalize (Utf8.decode s pos).2 = d at *
   have HI2:=hid (iterPos_of hit2)
   clear hit hbw
   by_cases hr : r = 65533
   ·subst hr
    have hL:=hlk rfl
    clear hlk
    by_cases h3 : pos + 3≤s.size
    ·have g0 : decide ((s.size : Int) - (pos : Int) < 3) = false:=by simp;omega
     have g1 : IntKind.i64.wrap ((s.size : Int) - (pos : Int)) = (s.size : Int) - (pos : Int):=by rw [IntKind.wrap_i64];omega
     obtain ⟨v0,e0⟩ : ∃ v,(s[pos]'hp).toNat = v:=⟨_,rfl⟩
     obtain ⟨v1,e1⟩ : ∃ v,(s[pos + 1]'(by omega)).toNat = v:=⟨_,rfl⟩
     obtain ⟨v2,e2⟩ : ∃ v,(s[pos + 2]'(by omega)).toNat = v:=⟨_,rfl⟩
     have hq : d = 1↔¬ (v0 = 239∧v1 = 191∧v2 = 189):=by
      rw [hL.out,← e0,← e1,← e2]
      exact not_congr ⟨fun ⟨_,h⟩=>h,fun h=>⟨h3,h⟩⟩
     have HQ:=hid hq
     clear hL hq
     by_cases q0 : v0 = 239
     ·by_cases q1 : v1 = 191
      ·by_cases q2 : v2 = 189
       ·have R:=hgo (fun h=>(HQ.out.1 h.2) ⟨q0,q1,q2⟩)
        clear hgo hst HQ
        subst q0;subst q1;subst q2
        go_wp2
        go_roundw
        case rel=>exact ⟨pos + d,hit2,hbw2,R.out.trans HV.out⟩
        case measure=>rw [HI2.out,hpos0.out];omega
       ·have R:=hst ⟨rfl,HQ.out.2 (fun h=>q2 h.2.2)⟩
        have c2 : ((v2 : Int) != 189) = true:=by simp;omega
        clear hgo hst HQ
        subst q0;subst q1
        go_wp2
        go_ret
        exact ⟨by rw [← HV.out,R.out];rfl,hbw2⟩
      ·have R:=hst ⟨rfl,HQ.out.2 (fun h=>q1 h.2.1)⟩
       have c2 : ((v1 : Int) != 191) = true:=by simp;omega
       clear hgo hst HQ
       subst q0
       go_wp2
       go_ret
       exact ⟨by rw [← HV.out,R.out];rfl,hbw2⟩
     ·have R:=hst ⟨rfl,HQ.out.2 (fun h=>q0 h.1)⟩
      have c2 : ((v0 : Int) != 239) = true:=by simp;omega
      clear hgo hst HQ
      go_wp2
      go_ret
      exact ⟨by rw [← HV.out,R.out];rfl,hbw2⟩
    ·have g0 : decide ((s.size : Int) - (pos : Int) < 3) = true:=by simp;omega
     have g1 : IntKind.i64.wrap ((s.size : Int) - (pos : Int)) = (s.size : Int) - (pos : Int):=by rw [IntKind.wrap_i64];omega
     have R:=hst ⟨rfl,hL.out.2 (fun ⟨h,_⟩=>h3 h)⟩
     clear hgo hst hL
     go_wp2
     go_ret
     exact ⟨by rw [← HV.out,R.out];rfl,hbw2⟩
   ·have R:=hgo (fun h=>hr h.1)
    have c1 : ((r : Int) == 65533) = false:=by simp;omega
    clear hgo hst hlk
    go_wp2
    go_roundw
    case rel=>exact ⟨pos + d,hit2,hbw2,R.out.trans HV.out⟩
    case measure=>rw [HI2.out,hpos0.out];omega
  ·have hnx : ∀ ty,(Instr.next (.pointer (some ⟨w.heap.size,0,none⟩)) true ty).run Tryz.prog wr = _:=fun ty=>Lib.run_next_end_at wr w.heap.size s pos ty hit hp
   have hz : s.data.toList.length = s.size:=by rw [Array.length_toList];rfl
   have R : Hid (validT s.data.toList = true):=by
    have:=HV.out
    rw [List.drop_eq_nil_of_le (by omega)] at this
    exact this.symm.trans Lib.validD_nil
   clear hz hit
   go_wp2
   go_ret
   exact ⟨by rw [R.out];rfl,hbw⟩
/-- A value as it is handed over. -/
def vOf (v : Val) : Value:=.agg #[.int .i64 v.k,.int .u64 (v.b : Nat),.string ⟨v.t.toArray⟩]
theorem box3 (w : World) (x y z : Value) (t : TypeId) : (w.alloc (.cells #[x,y,z] t)).cell? ⟨w.heap.size,0,none⟩ = some x∧(w.alloc (.cells #[x,y,z] t)).cell? ⟨w.heap.size,1,none⟩ = some y∧(w.alloc (.cells #[x,y,z] t)).cell? ⟨w.heap.size,2,none⟩ = some z:=by
 have hr:=heap_alloc_new w (.cells #[x,y,z] t)
 refine ⟨?_,?_,?_⟩ <;> (rw [cell_of_row _ _ _ _ _ _ hr];rfl)
theorem formed_none (b : Nat) (l : List UInt8) : formedB ⟨0,b,l⟩ = (decide (b = 0) && l.isEmpty):=rfl
theorem formed_num (b : Nat) (l : List UInt8) : formedB ⟨1,b,l⟩ = (l.isEmpty && decide (canonF b = b)):=rfl
theorem formed_text (b : Nat) (l : List UInt8) : formedB ⟨2,b,l⟩ = (decide (b = 0) && decide (l.length≤40) && validT l):=by
 unfold formedB;simp
theorem formed_other (k : Int) (b : Nat) (l : List UInt8) (h0 : k≠0) (h1 : k≠1) (h2 : k≠2) : formedB ⟨k,b,l⟩ = false:=by
 unfold formedB;simp [h0,h1,h2]
theorem refFormed_any (k : Int) (b : Nat) (t : ByteArray) (w : World) (hb : b < 18446744073709551616) (ht : t.size≤maxLen) :
  Calls Tryz.prog 123 #[.agg #[.int .i64 k,.int .u64 b,.string t]] w fun e w'=>e = .returned (.bool (formedB ⟨k,b,t.data.toList⟩))∧Below w.heap.size w w':=by
 have ht':=ht
 unfold maxLen at ht'
 have hB1 : Below w.heap.size w (w.alloc (.cells #[.int .i64 k,.int .u64 b,.string t] 155)):=(Below.refl _ _).alloc (Nat.le_refl _) _
 have hE : t.data.toList.isEmpty = t.toList.isEmpty:=by rw [ByteArray.toList_eq]
 have hz : t.data.toList.length = t.size:=by rw [Array.length_toList];rfl
 by_cases k0 : k = 0
 ·subst k0
  rw [formed_none,hE]
  clear hE hz
  by_cases b0 : b = 0
  ·subst b0
   cases e : t.toList.isEmpty
   all_goals
    go_enter Tryz.func123,Tryz.ntmps123
    go_wp2
    go_ret
    exact ⟨rfl,hB1⟩
  ·have q : ((b : Int) == 0) = false:=by simp;omega
   rw [decide_eq_false b0,Bool.false_and]
   go_enter Tryz.func123,Tryz.ntmps123
   go_wp2
   go_ret
   exact ⟨rfl,hB1⟩
 ·have q0 : (k == 0) = false:=by simp;omega
  by_cases k1 : k = 1
  ·subst k1
   rw [formed_num,hE]
   clear hE hz k0 q0
   obtain ⟨c0,c1,c2⟩:=box3 w (.int .i64 1) (.int .u64 b) (.string t) 155
   have hC:=fun W=>canonRef_any b hb W
   cases e : t.toList.isEmpty
   ·go_enter Tryz.func123,Tryz.ntmps123
    go_upto_region 4 with (fail)
    generalize w.alloc (.cells #[.int .i64 1,.int .u64 b,.string t] 155) = W at *
    go_quiet (fail)
    go_wp2
    go_ret
    exact ⟨rfl,below_drewN _ hB1⟩
   ·by_cases hc : canonF b = b
    ·rw [hc] at hC ⊢
     rw [decide_eq_true rfl]
     go_enter Tryz.func123,Tryz.ntmps123
     go_upto_region 4 with (fail)
     generalize w.alloc (.cells #[.int .i64 1,.int .u64 b,.string t] 155) = W at *
     go_quiet ((go_at_call 136;exact quiet_same (hC _)))
     go_wp2
     go_ret
     exact ⟨rfl,below_drewN _ hB1⟩
    ·rw [decide_eq_false hc]
     have q : ((canonF b : Int) == (b : Int)) = false:=by simp;omega
     generalize canonF b = cb at *
     go_enter Tryz.func123,Tryz.ntmps123
     go_upto_region 4 with (fail)
     generalize w.alloc (.cells #[.int .i64 1,.int .u64 b,.string t] 155) = W at *
     go_quiet ((go_at_call 136;exact quiet_same (hC _)))
     go_wp2
     go_ret
     exact ⟨rfl,below_drewN _ hB1⟩
  ·have q1 : (k == 1) = false:=by simp;omega
   clear hE
   by_cases k2 : k = 2
   ·subst k2
    rw [formed_text,hz]
    clear hz q0 q1 k0 k1
    by_cases b0 : b = 0
    ·subst b0
     by_cases h40 : t.size≤40
     ·have q : decide ((t.size : Int)≤40) = true:=by simp;omega
      rw [decide_eq_true h40,Bool.and_true,decide_eq_true rfl,Bool.true_and]
      go_enter Tryz.func123,Tryz.ntmps123
      go_wp2_with (go_at_call 137;((with_reducible refine (refValid_any t _ ht).mono ?_);rintro e w1 ⟨rfl,hb1⟩))
      go_ret
      exact ⟨rfl,hB1.trans (hb1.mono hB1.size)⟩
     ·have q : decide ((t.size : Int)≤40) = false:=by simp;omega
      rw [decide_eq_false h40,Bool.and_false,Bool.false_and]
      go_enter Tryz.func123,Tryz.ntmps123
      go_wp2
      go_ret
      exact ⟨rfl,hB1⟩
    ·have q : ((b : Int) == 0) = false:=by simp;omega
     rw [decide_eq_false b0,Bool.false_and,Bool.false_and]
     go_enter Tryz.func123,Tryz.ntmps123
     go_wp2
     go_ret
     exact ⟨rfl,hB1⟩
   ·have q2 : (k == 2) = false:=by simp;omega
    rw [formed_other k b _ k0 k1 k2]
    clear hz
    go_enter Tryz.func123,Tryz.ntmps123
    go_wp2
    go_ret
    exact ⟨rfl,hB1⟩
theorem str_eq {S : ByteArray} {l : List UInt8} (h : S.data.toList = l) : S = ⟨l.toArray⟩:=by
 obtain ⟨d⟩:=S
 subst h;simp
theorem three_cells {w : World} {g : Nat} {x y z : Value} {t : TypeId} (h : w.heap[g]? = some (.cells #[x,y,z] t (0,0))) :
  w.cell? ⟨g,0,none⟩ = some x∧w.cell? ⟨g,1,none⟩ = some y∧w.cell? ⟨g,2,none⟩ = some z∧w.frozen? ⟨g,0,none⟩ = false∧w.frozen? ⟨g,1,none⟩ = false∧w.frozen? ⟨g,2,none⟩ = false:=by
 refine ⟨by rw [cell_of_row _ _ _ _ _ _ h];rfl,by rw [cell_of_row _ _ _ _ _ _ h];rfl,by rw [cell_of_row _ _ _ _ _ _ h];rfl,?_,?_,?_⟩ <;> simp [World.frozen?,h]
/-- A value in a box. -/
def BoxV (w1 : World) (g : Nat) (k : Int) (b : Nat) (t : ByteArray) : Prop:=w1.cell? ⟨g,0,none⟩ = some (.int .i64 k)∧w1.cell? ⟨g,1,none⟩ = some (.int .u64 (b : Nat))∧w1.cell? ⟨g,2,none⟩ = some (.string t)
theorem BoxV.below {w1 w2 : World} {g B : Nat} {k : Int} {b : Nat} {t : ByteArray} (h : BoxV w1 g k b t) (hb : Below B w1 w2) (hg : g < B) : BoxV w2 g k b t :=
 ⟨(hb.cell (p:=⟨g,0,none⟩) hg).trans h.1,(hb.cell (p:=⟨g,1,none⟩) hg).trans h.2.1,(hb.cell (p:=⟨g,2,none⟩) hg).trans h.2.2⟩
theorem BoxV.new (w : World) (k : Int) (b : Nat) (t : ByteArray) (ty : TypeId) : BoxV (w.alloc (.cells #[.int .i64 k,.int .u64 b,.string t] ty)) w.heap.size k b t:=box3 w _ _ _ ty
theorem BoxV.drew {w : World} {g : Nat} {k : Int} {b : Nat} {t : ByteArray} (h : BoxV w g k b t) : BoxV w.drew g k b t:=h
end Go.Proofs.YtcfmifongbapkaaGreatDoor
