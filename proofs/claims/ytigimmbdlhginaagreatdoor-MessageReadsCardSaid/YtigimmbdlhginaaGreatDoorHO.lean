/- Words for the document's reader of messages: the reader, the message's box, the result's. No condition. Contract of the document's head of a message that is read. Conditions: the reader lies in memory. -/
import Derived.Test.YtigimmbdlhginaaGreatDoorMessageDocMath
import Derived.Test.YtigimmbdlhginaaGreatDoorHI
import Derived.Test.YtigimmbdlhginaaGreatDoorHJ
import Derived.Test.YtigimmbdlhginaaGreatDoorHM
import Derived.Test.YtigimmbdlhginaaGreatDoorMessageRefWrite
import Derived.Test.YtigimmbdlhginaaGreatDoorCodeSame
import Derived.Laws.ResultCell
namespace Go.Proofs.YtigimmbdlhginaaGreatDoor
set_option maxRecDepth 100000
set_option maxHeartbeats 4000000
open Go.RowKit
open Go.Lib (hid)
abbrev ZL : Array Value:=#[.int .i64 0,.int .u32 0,.int .i64 0,.int .i64 0,.bool false,.int .u32 0,.int .i64 0,.int .i64 0,.int .i64 0,.int .i64 0,.slice none 0 0,.slice none 0 0,.int .i64 0,.int .i64 0,.int .i64 0,.int .u64 0,.bool false,.int .i64 0,.int .i64 0,.slice none 0 0,.slice none 0 0,.int .i64 0,.int .i64 0,.int .i64 0,.int .u64 0,.bool false,.int .i64 0,.string ⟨#[]⟩,.int .u64 0,.int .i64 0,.int .u64 0,.string ⟨#[]⟩,.int .i64 0,.slice none 0 0]
set_option linter.unusedVariables false
set_option linter.unusedSimpArgs false
/-- The document's reader, the message's box G, the result's box R; of what was there at w only the reader has turned. -/
structure RfB (w : World) (B g G R : Nat) (L : List UInt8) (st : St) (cs : Array Value) (W : World) : Prop where
 rd : FS B g L st W
 bx : BoxC W G cs 46
 rx : BoxC W R (mgV (zeroG 0)) 46
 onl : Only g w W
 gl : g < w.heap.size
 ge : w.heap.size≤G
 rg : R≠g
 rG : R≠G
section
variable {w W W' : World} {B g G R : Nat} {L : List UInt8} {st st' : St} {cs : Array Value}
theorem RfB.only (h : RfB w B g G R L st cs W) (hr : FS B g L st' W') (ho : Only g W W') : RfB w B g G R L st' cs W' :=
 ⟨hr,h.bx.only ho (by have:=h.gl;have:=h.ge;omega),h.rx.only ho (fun e=>h.rg e),h.onl.trans ho,h.gl,h.ge,h.rg,h.rG⟩
theorem RfB.set (h : RfB w B g G R L st cs W) (i : Nat) (u : Value) : RfB w B g G R L st (cs.setIfInBounds i u) (W.setCell ⟨G,i,none⟩ u):=by
 have hgG : g < G:=by have:=h.gl;have:=h.ge;omega
 refine ⟨Keep.keep (g:=g) W _ h.rd fun b hb=>Below.heap_setCell _ _ _ _ (by show b≠G;omega),h.bx.set i u,h.rx.far i u h.rG,⟨h.onl.os,h.onl.tape,h.onl.output,by have:=h.onl.size;simpa [World.setCell] using this,fun b hb hne=>(Below.heap_setCell _ _ _ _ (by show b≠G;have:=h.ge;omega)).trans (h.onl.block b hb hne)⟩,h.gl,h.ge,h.rg,h.rG⟩
theorem RfB.fill (h : RfB w B g G R L st cs W) (ds : Array Value) : RfB w B g G R L st ds (W.setRow G ds):=by
 have hgG : g < G:=by have:=h.gl;have:=h.ge;omega
 have oF:=only_fill W G ds
 refine ⟨Keep.keep (g:=g) W _ h.rd fun b hb=>setRow_other W G b ds (by omega),h.bx.fill ds,(setRow_other W G R ds h.rG).trans h.rx,⟨oF.os.trans h.onl.os,oF.tape.trans h.onl.tape,oF.output.trans h.onl.output,Nat.le_trans h.onl.size oF.size,fun b hb hne=>(setRow_other W G b ds (by have:=h.ge;omega)).trans (h.onl.block b hb hne)⟩,h.gl,h.ge,h.rg,h.rG⟩
theorem RfB.eq {ds : Array Value} (h : RfB w B g G R L st cs W) (e : cs = ds) : RfB w B g G R L st ds W:=e ▸ h
end
/-- A box with only empty texts beside lists whose first texts aren't. -/
structure MuX (t : TypeId) (W : World) (G : Nat) (cs : Array Value) (a : Option Addr) (n : Nat) (b : Option Addr) (m : Nat) (rs : List RdM) (ws : List WrM) : Prop where
 bx : BoxC W G cs t
 mu : Mute cs
 tx : TxAt W a n b m rs ws
 fs : Fst rs ws
theorem MuX.set {t : TypeId} {W : World} {G : Nat} {cs : Array Value} {a b : Option Addr} {n m : Nat} {rs : List RdM} {ws : List WrM} (h : MuX t W G cs a n b m rs ws) (i : Nat) (u : Value) (hu : ∀ z,u≠.string z) : MuX t (W.setCell ⟨G,i,none⟩ u) G (cs.setIfInBounds i u) a n b m rs ws:=by
 refine ⟨h.bx.set i u,h.mu.set i u hu,?_,h.fs⟩
 have e : (W.setCell ⟨G,i,none⟩ u).heap.size = W.heap.size:=by simp
 refine ⟨⟨⟨h.tx.lenR,?_⟩,⟨h.tx.lenW,?_⟩⟩,h.tx.okR,h.tx.okW⟩
 ·rw [e]
  refine h.tx.rds.2.mute_far (fun h0=>?_) h.bx h.mu i u
  have h1:=h.tx.lenR
  have h2:=h.fs.1
  match rs with
  | []=>exact absurd h1.symm h0
  | x :: r=>exact ⟨x.1,rfl,h2 x (List.mem_cons_self ..)⟩
 ·rw [e]
  refine h.tx.wrs.2.mute_far (fun h0=>?_) h.bx h.mu i u
  have h1:=h.tx.lenW
  have h2:=h.fs.2
  match ws with
  | []=>exact absurd h1.symm h0
  | x :: r=>exact ⟨x.key,rfl,h2 x (List.mem_cons_self ..)⟩
/-- A message's lists don't lie in a box of zeros. -/
theorem MgAt.fill2 {W : World} {G : Nat} {ds : Array Value} {t : TypeId} {k : Int} {x : MgM} {L : MgL} (h : MgAt W x L) (hb : BoxC W G (mgV (zeroG k)) t) (f1 : Fst L.rs L.ws) (f2 : Fst L.rt L.wt) : MgAt (W.setRow G ds) x L:=by
 have hm:=mute_mg (zeroG k) rfl rfl
 refine ⟨⟨h.cm.tx.fill_far hb hm f1,h.cm.st⟩,h.tx.fill_far hb hm f2,?_,h.nb⟩
 rw [setRow_size]
 exact h.da.fill_far hb (no_u8 _)
/-- A whole box of the document's is stored. -/
theorem wpList_store_doc {ops : Array Oper} {rest : List Oper} {o : Oper} {a : Act} {w : World} {Q : Exit→Act→World→Prop} (hgd : o.guard = none) (x y : Operand) (ho : o.op = .store 46 x y)
  (g : Nat) (m : MgM) (hx : a.eval x = .pointer (some ⟨g,0,none⟩)) (hy : a.eval y = .agg (mgV m)) (m' : MgM) (hb : BoxC w g (mgV m') 46)
  (h : wpList Tryz.prog ops Q rest (a.put o.dst undef) (w.setRow g (mgV m))) : wpList Tryz.prog ops Q (o :: rest) a w :=
 wpList_store_row hgd 46 x y ho g (mgV m) hx hy 46 (mgV m') hb (by kernel_rfl) rfl (by simp [Value.oneCell']) h
/-- A ballot is taken of the document's reader. -/
def TookBD (B g : Nat) (L : List UInt8) (st : St) (w : World) (e : Ending) (w' : World) : Prop :=
 ∃ (r : Nat) (n : Int) (st' : St),e = .returned (.agg #[.int .u32 ((r : Nat) : Int),.int .i64 n])∧FS B g L st' w'∧Only g w w'∧Res balQ st (((r : Nat) : Int),n) st'∧r < 4294967296
theorem rbTakeS_any (B g : Nat) (L : List UInt8) (st : St) (W : World) (h : FS B g L st W) : Calls Tryz.prog 42 #[.pointer (some ⟨g,0,none⟩)] W (TookBD B g L st W):=by
 obtain ⟨k,h,hk⟩:=h
 cases st with
 | none=>exact (rTake_no B g L k false W h (fun h=>by cases h.1)).mono fun e w' ⟨k',h1,h2,h3⟩=>⟨0,0,none,h1,⟨k',h2,fun l e=>by cases e⟩,h3,.no _ (fun l e=>by cases e),by omega⟩
 | some l =>
  obtain rfl:=hk l rfl
  by_cases hb : balOk (L.drop k)
  ·exact (rTake_yes B g L k W h hb).mono fun e w' ⟨h1,h2,h3⟩=>⟨_,_,some (L.drop (k + 5)),h1,⟨k + 5,h2,fun l e=>by injection e with e;exact e.symm⟩,h3,.yes (by rw [balQ_yes _ hb,List.drop_drop]),tkR_lt _⟩
  ·exact (rTake_no B g L k true W h (fun h=>hb h.2)).mono fun e w' ⟨k',h1,h2,h3⟩=>⟨0,0,none,h1,⟨k',h2,fun l e=>by cases e⟩,h3,.no _ (fun l' e=>by injection e with e;subst e;exact balQ_no _ hb),by omega⟩
/-- What head answers. -/
structure HeadX (W' : World) (k : Int) (ls : List Nat) (st st2 : St) (x : MgM) (Lx : MgL) : Prop where
 at_ : MgAt W' x Lx
 f : MgF x
 f1 : Fst Lx.rs Lx.ws
 f2 : Fst Lx.rt Lx.wt
 dl : Lx.dl = []
 key : x.key = ⟨#[]⟩
 vt : x.vt = ⟨#[]⟩
 res : Res (fldsD ls (zM k)) st (mgT x Lx) st2
 bare : (∀ c ∈ ls, ¬ IsList c)→Bare x∧Lx = noL
 same : ls = []→x = zeroG k∧Lx = noL∧st2 = st
theorem bat_drop {W : World} {B b off n k c : Nat} {l : List UInt8} (h : BAt W B (some ⟨b,off,none⟩) n l) (hk : k≤n) (hnc : n≤c) : BAt W B (if c = k then (some ⟨b,off,none⟩ : Option Addr) else some ⟨b,off + k,none⟩) (n - k) (l.drop k):=by
 have hl:=h.len
 refine ⟨by simp;omega,?_⟩
 by_cases h0 : n - k = 0
 ·exact .inl h0
 ·rcases h.2 with h1 | ⟨b',off',ha,hb,hc⟩
  ·omega
  ·injection ha with ha;injection ha with h2 h3
   subst h2;subst h3
   rw [if_neg (by omega)]
   refine .inr ⟨b,off + k,rfl,hb,fun i hi=>?_⟩
   have:=hc (k + i) (by simp at hi;omega)
   rw [Nat.add_assoc]
   rw [List.getElem_drop]
   exact this
theorem beq_dec (z : Nat) : (((z : Nat) : Int) == 1) = decide (z = 1):=by
 by_cases h : z = 1
 ·subst h;rfl
 ·rw [decide_eq_false h];simp;omega
theorem doc_no {l : List UInt8} {M : Mg} {st : St} (hr : Res rdD (some l) M st) (h : formMg M = false∨mgB M≠l) : ∀ m,mgF l≠some (m,[]):=by
 intro m hm
 have e:=rd_len hm hr
 obtain ⟨h1,h2⟩:=read_mg l m hm
 rw [e] at h
 rcases h with h | h
 ·rw [(formMg_iff _).2 h1] at h;cases h
 ·exact h h2
theorem doc_yes {l : List UInt8} {M : Mg} (ho : MgOk M) (hf : formMg M = true) (he : mgB M = l) : mgF l = some (M,[]):=by
 have h:=back_mg M [] ((formMg_iff _).1 hf) ho
 rw [List.append_nil,he] at h
 exact h
def HeadR (w : World) (B g : Nat) (L : List UInt8) (k : Int) (ls : List Nat) (st : St) (e : Ending) (w' : World) : Prop :=
 ∃ (x : MgM) (Lx : MgL) (st2 : St),e = .returned (.agg (mgV x))∧FS B g L st2 w'∧Only g w w'∧HeadX w' k ls st st2 x Lx
theorem results_mgD {fn : Func} {p u : Tmp} (h : fn.results = #[.cell p 46,.tmp u]) (tmps : Array Value) (w : World) (g : Nat) (x : MgM) (hp : tmps.getD p undef = .pointer (some ⟨g,0,none⟩)) (hb : BoxC w g (mgV x) 46) :
  (results fn tmps).run Tryz.prog w = .ok (.tuple #[.agg (mgV x),tmps.getD u undef]) w:=by
 rw [results_cell_tmp h,hp]
 have h1:=run_loadVar_row w g 46 46 (mgV x) (0,0) _ hb Tryz.underlying46 rfl (by kernel_rfl)
 show ((loadVar 46 ⟨g,0,none⟩).run Tryz.prog w).andThen _ = _
 rw [h1];rfl
theorem results_mg1 {fn : Func} {p : Tmp} (h : fn.results = #[.cell p 46]) (tmps : Array Value) (w : World) (g : Nat) (x : MgM) (hp : tmps.getD p undef = .pointer (some ⟨g,0,none⟩)) (hb : BoxC w g (mgV x) 46) :
  (results fn tmps).run Tryz.prog w = .ok (.agg (mgV x)) w:=by
 have h1:=run_loadVar_row w g 46 46 (mgV x) (0,0) _ hb Tryz.underlying46 rfl (by kernel_rfl)
 have ha : ∀ v : World,(asAddr (.pointer (some (⟨g,0,none⟩ : Addr)))).run Tryz.prog v = .ok ⟨g,0,none⟩ v:=fun v=>rfl
 have hq : tmps[p]?.getD undef = Value.pointer (some ⟨g,0,none⟩):=by simpa using hp
 simp [results,h,Result.andThen]
 rw [hq,ha]
 simp only
 rw [h1]
section
variable (w : World) (B g : Nat) (L : List UInt8) (k : Int) (st : St)
theorem head_n (A : Array Value) (hA : A = mgV (zeroG k)) (h : FS B g L st w) (uBal : uBal k = false) (uSlot : uSlot k = false) (uHas : uHas k = false) (uCmd : uCmd k = false) (uTxn : uTxn k = false) :
  Calls Tryz.prog 16 #[.pointer (some ⟨g,0,none⟩),.agg A] w (HeadR w B g L k [] st):=by
 have glt:=h.lt
 obtain ⟨G,hG⟩ : ∃ G,w.heap.size = G:=⟨_,rfl⟩
 obtain ⟨R,hR0⟩ : ∃ R,G + 1 = R:=⟨_,rfl⟩
 have K0 : Hid (RfB w B g G R L st (mgV (zeroG k)) ((w.alloc (.cells A 46)).alloc (.cells ZL 46))):=by
  have b1 : Below w.heap.size w (w.alloc (.cells A 46)):=(Below.refl _ _).alloc (Nat.le_refl _) _
  have b2 : Below (w.heap.size + 1) (w.alloc (.cells A 46)) ((w.alloc (.cells A 46)).alloc (.cells ZL 46)):=(Below.refl _ _).alloc (by simp) _
  have s1 : (w.alloc (.cells A 46)).heap.size = w.heap.size + 1:=by simp
  have bb : Below w.heap.size w ((w.alloc (.cells A 46)).alloc (.cells ZL 46)):=b1.alloc b1.size _
  have x1 : BoxC (w.alloc (.cells A 46)) w.heap.size A 46:=BoxC.new w A 46
  have x2 : BoxC ((w.alloc (.cells A 46)).alloc (.cells ZL 46)) (w.heap.size + 1) ZL 46:=by
   have:=BoxC.new (w.alloc (.cells A 46)) ZL 46
   rwa [s1] at this
  exact ⟨Keep.keep (g:=g) w _ h fun b hb=>bb.block b (by omega),by rw [← hG,← hA];exact x1.below ((Below.refl _ _).alloc (Nat.le_refl _) _),by rw [← hR0,← hG];exact x2,below_only bb,glt,by omega,by omega,by omega⟩
 have cBal:=fun V=>useBal_any k V
 rw [uBal] at cBal
 have cSlot:=fun V=>useSlot_any k V
 rw [uSlot] at cSlot
 have cHas:=fun V=>useHas_any k V
 rw [uHas] at cHas
 have cCmd:=fun V=>useCmd_any k V
 rw [uCmd] at cCmd
 have cTxn:=fun V=>useTxn_any k V
 rw [uTxn] at cTxn
 have y0 : ((w.alloc (.cells A 46)).alloc (.cells ZL 46)).cell? ⟨G,0,none⟩ = some (.int .i64 k):=K0.out.bx.cell 0 _ rfl
 have GE:=hid hG
 have RE:=hid hR0
 clear h hA uBal uSlot uHas uCmd uTxn
 go_enter Tryz.func16,Tryz.ntmps16
 go_upto_region 1 with fail
 generalize (w.alloc (.cells A 46)).alloc (.cells ZL 46) = V0 at *
 have lG:=K0.out.bx.ldD
 have yh:=K0.out.bx.cell 4 _ rfl
 go_wp2_with (first | (go_at_call 17;(with_reducible first | refine (cBal _).mono ?_ | refine (cSlot _).mono ?_ | refine (cHas _).mono ?_ | refine (cCmd _).mono ?_ | refine (cTxn _).mono ?_);rintro e wu ⟨rfl,rfl⟩) | (refine wpList_store_doc rfl _ _ rfl R (zeroG k) rfl rfl (zeroG 0) K0.out.rx ?_))
 have hB : Bare (zeroG k):=⟨rfl,⟨rfl,rfl,rfl,rfl⟩,rfl⟩
 have hA : MgAt V0 (zeroG k) noL:=(Bare.at_ hB ⟨(by show 0 < 4294967296;decide),(by show 0 < 4294967296;decide),(by show 0 < 18446744073709551616;decide),(by show 0 < 18446744073709551616;decide),(by show 0 < 18446744073709551616;decide),(Nat.zero_le _),(Nat.zero_le _)⟩)
 have onF:=only_fill V0 R (mgV (zeroG k))
 exact bodyPost_ret (v:=.agg (mgV (zeroG k))) (results_mg1 Tryz.results16 _ _ R (zeroG k) rfl (K0.out.rx.fill _)) rfl ⟨(zeroG k),noL,st,rfl,Keep.keep (g:=g) V0 _ K0.out.rd fun b hb=>onF.block b (by have:=K0.out.onl.size;omega) (fun e=>by injection e with e;have:=GE.out;have:=RE.out;omega),by
  have h1:=K0.out.onl
  refine ⟨onF.os.trans h1.os,onF.tape.trans h1.tape,onF.output.trans h1.output,Nat.le_trans h1.size onF.size,fun b hb hne=>(onF.block b (Nat.lt_of_lt_of_le hb h1.size) (fun e=>by injection e with e;have:=GE.out;have:=RE.out;omega)).trans (h1.block b hb hne)⟩,⟨hA.fill2 K0.out.rx fst_nil fst_nil,hB.f,fst_nil,fst_nil,rfl,rfl,rfl,(Res.pure _ _),fun _=>⟨hB,rfl⟩,fun h=>⟨rfl,rfl,rfl⟩⟩⟩
theorem head_b (A : Array Value) (hA : A = mgV (zeroG k)) (h : FS B g L st w) (uBal : uBal k = true) (uSlot : uSlot k = false) (uHas : uHas k = false) (uCmd : uCmd k = false) (uTxn : uTxn k = false) :
  Calls Tryz.prog 16 #[.pointer (some ⟨g,0,none⟩),.agg A] w (HeadR w B g L k [98] st):=by
 have glt:=h.lt
 obtain ⟨G,hG⟩ : ∃ G,w.heap.size = G:=⟨_,rfl⟩
 obtain ⟨R,hR0⟩ : ∃ R,G + 1 = R:=⟨_,rfl⟩
 have K0 : Hid (RfB w B g G R L st (mgV (zeroG k)) ((w.alloc (.cells A 46)).alloc (.cells ZL 46))):=by
  have b1 : Below w.heap.size w (w.alloc (.cells A 46)):=(Below.refl _ _).alloc (Nat.le_refl _) _
  have b2 : Below (w.heap.size + 1) (w.alloc (.cells A 46)) ((w.alloc (.cells A 46)).alloc (.cells ZL 46)):=(Below.refl _ _).alloc (by simp) _
  have s1 : (w.alloc (.cells A 46)).heap.size = w.heap.size + 1:=by simp
  have bb : Below w.heap.size w ((w.alloc (.cells A 46)).alloc (.cells ZL 46)):=b1.alloc b1.size _
  have x1 : BoxC (w.alloc (.cells A 46)) w.heap.size A 46:=BoxC.new w A 46
  have x2 : BoxC ((w.alloc (.cells A 46)).alloc (.cells ZL 46)) (w.heap.size + 1) ZL 46:=by
   have:=BoxC.new (w.alloc (.cells A 46)) ZL 46
   rwa [s1] at this
  exact ⟨Keep.keep (g:=g) w _ h fun b hb=>bb.block b (by omega),by rw [← hG,← hA];exact x1.below ((Below.refl _ _).alloc (Nat.le_refl _) _),by rw [← hR0,← hG];exact x2,below_only bb,glt,by omega,by omega,by omega⟩
 have cBal:=fun V=>useBal_any k V
 rw [uBal] at cBal
 have cSlot:=fun V=>useSlot_any k V
 rw [uSlot] at cSlot
 have cHas:=fun V=>useHas_any k V
 rw [uHas] at cHas
 have cCmd:=fun V=>useCmd_any k V
 rw [uCmd] at cCmd
 have cTxn:=fun V=>useTxn_any k V
 rw [uTxn] at cTxn
 have y0 : ((w.alloc (.cells A 46)).alloc (.cells ZL 46)).cell? ⟨G,0,none⟩ = some (.int .i64 k):=K0.out.bx.cell 0 _ rfl
 have GE:=hid hG
 have RE:=hid hR0
 clear h hA uBal uSlot uHas uCmd uTxn
 go_enter Tryz.func16,Tryz.ntmps16
 go_upto_region 1 with fail
 generalize (w.alloc (.cells A 46)).alloc (.cells ZL 46) = V0 at *
 have yh:=K0.out.bx.cell 4 _ rfl
 have c_1:=rbTakeS_any B g L st V0 K0.out.rd
 go_upto_region 4 with (first | (go_at_call 17;((with_reducible refine (cBal _).mono ?_);rintro e wu ⟨rfl,rfl⟩)) | (go_at_call 42;((with_reducible refine c_1.mono ?_);rintro e w1 ⟨r1,n1,st1,rfl,hr,ho,hR,hb⟩;have H1:=hid (K0.out.only hr ho);have R1:=hid hR;have y1_1:=H1.out.bx.cell 1 _ rfl;have f1_1:=H1.out.bx.frozen 1;have y1_2:=H1.out.bx.cell 2 _ rfl;have f1_2:=H1.out.bx.frozen 2;  have B1:=hid hb;clear hb;clear hr ho hR)))
 have K1 : Hid (RfB w B g G R L st1 (mgV (⟨k,r1,n1,0,false,0,0,zeroM,0,0,none,0,0,none,0,0,0,0,0,0,false,0,⟨#[]⟩,0,0,0,⟨#[]⟩,0,none,0,0⟩ : MgM)) (((w1.setCell ⟨G,1,none⟩ (.int .u32 ((r1 : Nat) : Int))).setCell ⟨G,2,none⟩ (.int .i64 n1)))):=(((H1.out.set 1 (.int .u32 ((r1 : Nat) : Int))).set 2 (.int .i64 n1))).eq (by apply Array.ext';simp only [Array.toList_setIfInBounds];rfl)
 clear H1 K0 c_1 yh y1_1 f1_1 y1_2 f1_2
 generalize ((w1.setCell ⟨G,1,none⟩ (.int .u32 ((r1 : Nat) : Int))).setCell ⟨G,2,none⟩ (.int .i64 n1)) = V1 at *
 have lG:=K1.out.bx.ldD
 have yh:=K1.out.bx.cell 4 _ rfl
 go_wp2_with (first | (go_at_call 17;(with_reducible first | refine (cBal _).mono ?_ | refine (cSlot _).mono ?_ | refine (cHas _).mono ?_ | refine (cCmd _).mono ?_ | refine (cTxn _).mono ?_);rintro e wu ⟨rfl,rfl⟩) | (refine wpList_store_doc rfl _ _ rfl R (⟨k,r1,n1,0,false,0,0,zeroM,0,0,none,0,0,none,0,0,0,0,0,0,false,0,⟨#[]⟩,0,0,0,⟨#[]⟩,0,none,0,0⟩ : MgM) rfl rfl (zeroG 0) K1.out.rx ?_))
 have hB : Bare (⟨k,r1,n1,0,false,0,0,zeroM,0,0,none,0,0,none,0,0,0,0,0,0,false,0,⟨#[]⟩,0,0,0,⟨#[]⟩,0,none,0,0⟩ : MgM):=⟨rfl,⟨rfl,rfl,rfl,rfl⟩,rfl⟩
 have hA : MgAt V1 (⟨k,r1,n1,0,false,0,0,zeroM,0,0,none,0,0,none,0,0,0,0,0,0,false,0,⟨#[]⟩,0,0,0,⟨#[]⟩,0,none,0,0⟩ : MgM) noL:=(Bare.at_ hB ⟨B1.out,(by show 0 < 4294967296;decide),(by show 0 < 18446744073709551616;decide),(by show 0 < 18446744073709551616;decide),(by show 0 < 18446744073709551616;decide),(Nat.zero_le _),(Nat.zero_le _)⟩)
 have onF:=only_fill V1 R (mgV (⟨k,r1,n1,0,false,0,0,zeroM,0,0,none,0,0,none,0,0,0,0,0,0,false,0,⟨#[]⟩,0,0,0,⟨#[]⟩,0,none,0,0⟩ : MgM))
 exact bodyPost_ret (v:=.agg (mgV (⟨k,r1,n1,0,false,0,0,zeroM,0,0,none,0,0,none,0,0,0,0,0,0,false,0,⟨#[]⟩,0,0,0,⟨#[]⟩,0,none,0,0⟩ : MgM))) (results_mg1 Tryz.results16 _ _ R (⟨k,r1,n1,0,false,0,0,zeroM,0,0,none,0,0,none,0,0,0,0,0,0,false,0,⟨#[]⟩,0,0,0,⟨#[]⟩,0,none,0,0⟩ : MgM) rfl (K1.out.rx.fill _)) rfl ⟨(⟨k,r1,n1,0,false,0,0,zeroM,0,0,none,0,0,none,0,0,0,0,0,0,false,0,⟨#[]⟩,0,0,0,⟨#[]⟩,0,none,0,0⟩ : MgM),noL,st1,rfl,Keep.keep (g:=g) V1 _ K1.out.rd fun b hb=>onF.block b (by have:=K1.out.onl.size;omega) (fun e=>by injection e with e;have:=GE.out;have:=RE.out;omega),by
  have h1:=K1.out.onl
  refine ⟨onF.os.trans h1.os,onF.tape.trans h1.tape,onF.output.trans h1.output,Nat.le_trans h1.size onF.size,fun b hb hne=>(onF.block b (Nat.lt_of_lt_of_le hb h1.size) (fun e=>by injection e with e;have:=GE.out;have:=RE.out;omega)).trans (h1.block b hb hne)⟩,⟨hA.fill2 K1.out.rx fst_nil fst_nil,hB.f,fst_nil,fst_nil,rfl,rfl,rfl,(Res.bind (x:=mgT ((⟨k,r1,n1,0,false,0,0,zeroM,0,0,none,0,0,none,0,0,0,0,0,0,false,0,⟨#[]⟩,0,0,0,⟨#[]⟩,0,none,0,0⟩ : MgM) : MgM) noL) (Res.bind (x:=((((r1 : Nat) : Int),n1) : Bal)) R1.out (Res.pure _ _)) (Res.pure _ _)),fun _=>⟨hB,rfl⟩,fun h=>by cases h⟩⟩
theorem head_bs (A : Array Value) (hA : A = mgV (zeroG k)) (h : FS B g L st w) (uBal : uBal k = true) (uSlot : uSlot k = true) (uHas : uHas k = false) (uCmd : uCmd k = false) (uTxn : uTxn k = false) :
  Calls Tryz.prog 16 #[.pointer (some ⟨g,0,none⟩),.agg A] w (HeadR w B g L k [98,115] st):=by
 have glt:=h.lt
 obtain ⟨G,hG⟩ : ∃ G,w.heap.size = G:=⟨_,rfl⟩
 obtain ⟨R,hR0⟩ : ∃ R,G + 1 = R:=⟨_,rfl⟩
 have K0 : Hid (RfB w B g G R L st (mgV (zeroG k)) ((w.alloc (.cells A 46)).alloc (.cells ZL 46))):=by
  have b1 : Below w.heap.size w (w.alloc (.cells A 46)):=(Below.refl _ _).alloc (Nat.le_refl _) _
  have b2 : Below (w.heap.size + 1) (w.alloc (.cells A 46)) ((w.alloc (.cells A 46)).alloc (.cells ZL 46)):=(Below.refl _ _).alloc (by simp) _
  have s1 : (w.alloc (.cells A 46)).heap.size = w.heap.size + 1:=by simp
  have bb : Below w.heap.size w ((w.alloc (.cells A 46)).alloc (.cells ZL 46)):=b1.alloc b1.size _
  have x1 : BoxC (w.alloc (.cells A 46)) w.heap.size A 46:=BoxC.new w A 46
  have x2 : BoxC ((w.alloc (.cells A 46)).alloc (.cells ZL 46)) (w.heap.size + 1) ZL 46:=by
   have:=BoxC.new (w.alloc (.cells A 46)) ZL 46
   rwa [s1] at this
  exact ⟨Keep.keep (g:=g) w _ h fun b hb=>bb.block b (by omega),by rw [← hG,← hA];exact x1.below ((Below.refl _ _).alloc (Nat.le_refl _) _),by rw [← hR0,← hG];exact x2,below_only bb,glt,by omega,by omega,by omega⟩
 have cBal:=fun V=>useBal_any k V
 rw [uBal] at cBal
 have cSlot:=fun V=>useSlot_any k V
 rw [uSlot] at cSlot
 have cHas:=fun V=>useHas_any k V
 rw [uHas] at cHas
 have cCmd:=fun V=>useCmd_any k V
 rw [uCmd] at cCmd
 have cTxn:=fun V=>useTxn_any k V
 rw [uTxn] at cTxn
 have y0 : ((w.alloc (.cells A 46)).alloc (.cells ZL 46)).cell? ⟨G,0,none⟩ = some (.int .i64 k):=K0.out.bx.cell 0 _ rfl
 have GE:=hid hG
 have RE:=hid hR0
 clear h hA uBal uSlot uHas uCmd uTxn
 go_enter Tryz.func16,Tryz.ntmps16
 go_upto_region 1 with fail
 generalize (w.alloc (.cells A 46)).alloc (.cells ZL 46) = V0 at *
 have yh:=K0.out.bx.cell 4 _ rfl
 have c_1:=rbTakeS_any B g L st V0 K0.out.rd
 go_upto_region 4 with (first | (go_at_call 17;((with_reducible refine (cBal _).mono ?_);rintro e wu ⟨rfl,rfl⟩)) | (go_at_call 42;((with_reducible refine c_1.mono ?_);rintro e w1 ⟨r1,n1,st1,rfl,hr,ho,hR,hb⟩;have H1:=hid (K0.out.only hr ho);have R1:=hid hR;have y1_1:=H1.out.bx.cell 1 _ rfl;have f1_1:=H1.out.bx.frozen 1;have y1_2:=H1.out.bx.cell 2 _ rfl;have f1_2:=H1.out.bx.frozen 2;  have B1:=hid hb;clear hb;clear hr ho hR)))
 have K1 : Hid (RfB w B g G R L st1 (mgV (⟨k,r1,n1,0,false,0,0,zeroM,0,0,none,0,0,none,0,0,0,0,0,0,false,0,⟨#[]⟩,0,0,0,⟨#[]⟩,0,none,0,0⟩ : MgM)) (((w1.setCell ⟨G,1,none⟩ (.int .u32 ((r1 : Nat) : Int))).setCell ⟨G,2,none⟩ (.int .i64 n1)))):=(((H1.out.set 1 (.int .u32 ((r1 : Nat) : Int))).set 2 (.int .i64 n1))).eq (by apply Array.ext';simp only [Array.toList_setIfInBounds];rfl)
 clear H1 K0 c_1 yh y1_1 f1_1 y1_2 f1_2
 generalize ((w1.setCell ⟨G,1,none⟩ (.int .u32 ((r1 : Nat) : Int))).setCell ⟨G,2,none⟩ (.int .i64 n1)) = V1 at *
 have yh:=K1.out.bx.cell 4 _ rfl
 have c_2:=(show Calls Tryz.prog 15 #[.pointer (some ⟨g,0,none⟩),.int .i64 4] V1 (Took1 (FS B g L) g numV (numP 4) 0 st1 V1) from refTakeS_any B g L 4 st1 V1 K1.out.rd (by omega))
 go_upto_region 6 with (first | (go_at_call 17;(with_reducible first | refine (cBal _).mono ?_ | refine (cSlot _).mono ?_);rintro e wu ⟨rfl,rfl⟩) | (go_at_call 15;((with_reducible refine c_2.mono ?_);rintro e w2 ⟨z2,st2,rfl,hr,ho,hR,hz⟩;have H2:=hid (K1.out.only hr ho);have R2:=hid hR;have y2_3:=H2.out.bx.cell 3 _ rfl;have f2_3:=H2.out.bx.frozen 3;  have hb2 : z2 < 4294967296:=num_lt hR hz (by decide);have ez2:=wrap_i64 z2 (by omega);clear hz;clear hr ho hR)))
 have K2 : Hid (RfB w B g G R L st2 (mgV (⟨k,r1,n1,((z2 : Nat) : Int),false,0,0,zeroM,0,0,none,0,0,none,0,0,0,0,0,0,false,0,⟨#[]⟩,0,0,0,⟨#[]⟩,0,none,0,0⟩ : MgM)) ((w2.setCell ⟨G,3,none⟩ (.int .i64 ((z2 : Nat) : Int))))):=((H2.out.set 3 (.int .i64 ((z2 : Nat) : Int)))).eq (by apply Array.ext';simp only [Array.toList_setIfInBounds];rfl)
 clear H2 K1 c_2 yh y2_3 f2_3
 generalize (w2.setCell ⟨G,3,none⟩ (.int .i64 ((z2 : Nat) : Int))) = V2 at *
 have lG:=K2.out.bx.ldD
 have yh:=K2.out.bx.cell 4 _ rfl
 go_wp2_with (first | (go_at_call 17;(with_reducible first | refine (cBal _).mono ?_ | refine (cSlot _).mono ?_ | refine (cHas _).mono ?_ | refine (cCmd _).mono ?_ | refine (cTxn _).mono ?_);rintro e wu ⟨rfl,rfl⟩) | (refine wpList_store_doc rfl _ _ rfl R (⟨k,r1,n1,((z2 : Nat) : Int),false,0,0,zeroM,0,0,none,0,0,none,0,0,0,0,0,0,false,0,⟨#[]⟩,0,0,0,⟨#[]⟩,0,none,0,0⟩ : MgM) rfl rfl (zeroG 0) K2.out.rx ?_))
 have hB : Bare (⟨k,r1,n1,((z2 : Nat) : Int),false,0,0,zeroM,0,0,none,0,0,none,0,0,0,0,0,0,false,0,⟨#[]⟩,0,0,0,⟨#[]⟩,0,none,0,0⟩ : MgM):=⟨rfl,⟨rfl,rfl,rfl,rfl⟩,rfl⟩
 have hA : MgAt V2 (⟨k,r1,n1,((z2 : Nat) : Int),false,0,0,zeroM,0,0,none,0,0,none,0,0,0,0,0,0,false,0,⟨#[]⟩,0,0,0,⟨#[]⟩,0,none,0,0⟩ : MgM) noL:=(Bare.at_ hB ⟨B1.out,(by show 0 < 4294967296;decide),(by show 0 < 18446744073709551616;decide),(by show 0 < 18446744073709551616;decide),(by show 0 < 18446744073709551616;decide),(Nat.zero_le _),(Nat.zero_le _)⟩)
 have onF:=only_fill V2 R (mgV (⟨k,r1,n1,((z2 : Nat) : Int),false,0,0,zeroM,0,0,none,0,0,none,0,0,0,0,0,0,false,0,⟨#[]⟩,0,0,0,⟨#[]⟩,0,none,0,0⟩ : MgM))
 exact bodyPost_ret (v:=.agg (mgV (⟨k,r1,n1,((z2 : Nat) : Int),false,0,0,zeroM,0,0,none,0,0,none,0,0,0,0,0,0,false,0,⟨#[]⟩,0,0,0,⟨#[]⟩,0,none,0,0⟩ : MgM))) (results_mg1 Tryz.results16 _ _ R (⟨k,r1,n1,((z2 : Nat) : Int),false,0,0,zeroM,0,0,none,0,0,none,0,0,0,0,0,0,false,0,⟨#[]⟩,0,0,0,⟨#[]⟩,0,none,0,0⟩ : MgM) rfl (K2.out.rx.fill _)) rfl ⟨(⟨k,r1,n1,((z2 : Nat) : Int),false,0,0,zeroM,0,0,none,0,0,none,0,0,0,0,0,0,false,0,⟨#[]⟩,0,0,0,⟨#[]⟩,0,none,0,0⟩ : MgM),noL,st2,rfl,Keep.keep (g:=g) V2 _ K2.out.rd fun b hb=>onF.block b (by have:=K2.out.onl.size;omega) (fun e=>by injection e with e;have:=GE.out;have:=RE.out;omega),by
  have h1:=K2.out.onl
  refine ⟨onF.os.trans h1.os,onF.tape.trans h1.tape,onF.output.trans h1.output,Nat.le_trans h1.size onF.size,fun b hb hne=>(onF.block b (Nat.lt_of_lt_of_le hb h1.size) (fun e=>by injection e with e;have:=GE.out;have:=RE.out;omega)).trans (h1.block b hb hne)⟩,⟨hA.fill2 K2.out.rx fst_nil fst_nil,hB.f,fst_nil,fst_nil,rfl,rfl,rfl,(Res.bind (x:=mgT ((⟨k,r1,n1,0,false,0,0,zeroM,0,0,none,0,0,none,0,0,0,0,0,0,false,0,⟨#[]⟩,0,0,0,⟨#[]⟩,0,none,0,0⟩ : MgM) : MgM) noL) (Res.bind (x:=((((r1 : Nat) : Int),n1) : Bal)) R1.out (Res.pure _ _)) (Res.bind (x:=mgT ((⟨k,r1,n1,((z2 : Nat) : Int),false,0,0,zeroM,0,0,none,0,0,none,0,0,0,0,0,0,false,0,⟨#[]⟩,0,0,0,⟨#[]⟩,0,none,0,0⟩ : MgM) : MgM) noL) (Res.bind (x:=((z2 : Nat) : Int)) (res_numI R2.out) (Res.pure _ _)) (Res.pure _ _))),fun _=>⟨hB,rfl⟩,fun h=>by cases h⟩⟩
theorem head_bsc (A : Array Value) (hA : A = mgV (zeroG k)) (h : FS B g L st w) (uBal : uBal k = true) (uSlot : uSlot k = true) (uHas : uHas k = false) (uCmd : uCmd k = true) (uTxn : uTxn k = false) :
  Calls Tryz.prog 16 #[.pointer (some ⟨g,0,none⟩),.agg A] w (HeadR w B g L k [98,115,99] st):=by
 have glt:=h.lt
 obtain ⟨G,hG⟩ : ∃ G,w.heap.size = G:=⟨_,rfl⟩
 obtain ⟨R,hR0⟩ : ∃ R,G + 1 = R:=⟨_,rfl⟩
 have K0 : Hid (RfB w B g G R L st (mgV (zeroG k)) ((w.alloc (.cells A 46)).alloc (.cells ZL 46))):=by
  have b1 : Below w.heap.size w (w.alloc (.cells A 46)):=(Below.refl _ _).alloc (Nat.le_refl _) _
  have b2 : Below (w.heap.size + 1) (w.alloc (.cells A 46)) ((w.alloc (.cells A 46)).alloc (.cells ZL 46)):=(Below.refl _ _).alloc (by simp) _
  have s1 : (w.alloc (.cells A 46)).heap.size = w.heap.size + 1:=by simp
  have bb : Below w.heap.size w ((w.alloc (.cells A 46)).alloc (.cells ZL 46)):=b1.alloc b1.size _
  have x1 : BoxC (w.alloc (.cells A 46)) w.heap.size A 46:=BoxC.new w A 46
  have x2 : BoxC ((w.alloc (.cells A 46)).alloc (.cells ZL 46)) (w.heap.size + 1) ZL 46:=by
   have:=BoxC.new (w.alloc (.cells A 46)) ZL 46
   rwa [s1] at this
  exact ⟨Keep.keep (g:=g) w _ h fun b hb=>bb.block b (by omega),by rw [← hG,← hA];exact x1.below ((Below.refl _ _).alloc (Nat.le_refl _) _),by rw [← hR0,← hG];exact x2,below_only bb,glt,by omega,by omega,by omega⟩
 have cBal:=fun V=>useBal_any k V
 rw [uBal] at cBal
 have cSlot:=fun V=>useSlot_any k V
 rw [uSlot] at cSlot
 have cHas:=fun V=>useHas_any k V
 rw [uHas] at cHas
 have cCmd:=fun V=>useCmd_any k V
 rw [uCmd] at cCmd
 have cTxn:=fun V=>useTxn_any k V
 rw [uTxn] at cTxn
 have y0 : ((w.alloc (.cells A 46)).alloc (.cells ZL 46)).cell? ⟨G,0,none⟩ = some (.int .i64 k):=K0.out.bx.cell 0 _ rfl
 have GE:=hid hG
 have RE:=hid hR0
 clear h hA uBal uSlot uHas uCmd uTxn
 go_enter Tryz.func16,Tryz.ntmps16
 go_upto_region 1 with fail
 generalize (w.alloc (.cells A 46)).alloc (.cells ZL 46) = V0 at *
 have yh:=K0.out.bx.cell 4 _ rfl
 have c_1:=rbTakeS_any B g L st V0 K0.out.rd
 go_upto_region 4 with (first | (go_at_call 17;((with_reducible refine (cBal _).mono ?_);rintro e wu ⟨rfl,rfl⟩)) | (go_at_call 42;((with_reducible refine c_1.mono ?_);rintro e w1 ⟨r1,n1,st1,rfl,hr,ho,hR,hb⟩;have H1:=hid (K0.out.only hr ho);have R1:=hid hR;have y1_1:=H1.out.bx.cell 1 _ rfl;have f1_1:=H1.out.bx.frozen 1;have y1_2:=H1.out.bx.cell 2 _ rfl;have f1_2:=H1.out.bx.frozen 2;  have B1:=hid hb;clear hb;clear hr ho hR)))
 have K1 : Hid (RfB w B g G R L st1 (mgV (⟨k,r1,n1,0,false,0,0,zeroM,0,0,none,0,0,none,0,0,0,0,0,0,false,0,⟨#[]⟩,0,0,0,⟨#[]⟩,0,none,0,0⟩ : MgM)) (((w1.setCell ⟨G,1,none⟩ (.int .u32 ((r1 : Nat) : Int))).setCell ⟨G,2,none⟩ (.int .i64 n1)))):=(((H1.out.set 1 (.int .u32 ((r1 : Nat) : Int))).set 2 (.int .i64 n1))).eq (by apply Array.ext';simp only [Array.toList_setIfInBounds];rfl)
 clear H1 K0 c_1 yh y1_1 f1_1 y1_2 f1_2
 generalize ((w1.setCell ⟨G,1,none⟩ (.int .u32 ((r1 : Nat) : Int))).setCell ⟨G,2,none⟩ (.int .i64 n1)) = V1 at *
 have yh:=K1.out.bx.cell 4 _ rfl
 have c_2:=(show Calls Tryz.prog 15 #[.pointer (some ⟨g,0,none⟩),.int .i64 4] V1 (Took1 (FS B g L) g numV (numP 4) 0 st1 V1) from refTakeS_any B g L 4 st1 V1 K1.out.rd (by omega))
 go_upto_region 6 with (first | (go_at_call 17;(with_reducible first | refine (cBal _).mono ?_ | refine (cSlot _).mono ?_);rintro e wu ⟨rfl,rfl⟩) | (go_at_call 15;((with_reducible refine c_2.mono ?_);rintro e w2 ⟨z2,st2,rfl,hr,ho,hR,hz⟩;have H2:=hid (K1.out.only hr ho);have R2:=hid hR;have y2_3:=H2.out.bx.cell 3 _ rfl;have f2_3:=H2.out.bx.frozen 3;  have hb2 : z2 < 4294967296:=num_lt hR hz (by decide);have ez2:=wrap_i64 z2 (by omega);clear hz;clear hr ho hR)))
 have K2 : Hid (RfB w B g G R L st2 (mgV (⟨k,r1,n1,((z2 : Nat) : Int),false,0,0,zeroM,0,0,none,0,0,none,0,0,0,0,0,0,false,0,⟨#[]⟩,0,0,0,⟨#[]⟩,0,none,0,0⟩ : MgM)) ((w2.setCell ⟨G,3,none⟩ (.int .i64 ((z2 : Nat) : Int))))):=((H2.out.set 3 (.int .i64 ((z2 : Nat) : Int)))).eq (by apply Array.ext';simp only [Array.toList_setIfInBounds];rfl)
 clear H2 K1 c_2 yh y2_3 f2_3
 generalize (w2.setCell ⟨G,3,none⟩ (.int .i64 ((z2 : Nat) : Int))) = V2 at *
 have yh:=K2.out.bx.cell 4 _ rfl
 have c_3:=dTake_any B g L st2 V2 K2.out.rd
 go_upto_region 12 with (first | (go_at_call 17;(with_reducible first | refine (cSlot _).mono ?_ | refine (cHas _).mono ?_ | refine (cCmd _).mono ?_);rintro e wu ⟨rfl,rfl⟩) | (go_at_call 43;((with_reducible refine c_3.mono ?_);rintro e w3 ⟨z,rs,ws,st3,rfl,hr,ho,hX,hn,hR,hz⟩;have H3:=hid (K2.out.only hr ho);have R3:=hid hR;have y3_7:=H3.out.bx.cell 7 _ rfl;have f3_7:=H3.out.bx.frozen 7;have y3_8:=H3.out.bx.cell 8 _ rfl;have f3_8:=H3.out.bx.frozen 8;have y3_9:=H3.out.bx.cell 9 _ rfl;have f3_9:=H3.out.bx.frozen 9;have y3_10:=H3.out.bx.cell 10 _ rfl;have f3_10:=H3.out.bx.frozen 10;have y3_11:=H3.out.bx.cell 11 _ rfl;have f3_11:=H3.out.bx.frozen 11;have y3_12:=H3.out.bx.cell 12 _ rfl;have f3_12:=H3.out.bx.frozen 12;have y3_13:=H3.out.bx.cell 13 _ rfl;have f3_13:=H3.out.bx.frozen 13;have y3_14:=H3.out.bx.cell 14 _ rfl;have f3_14:=H3.out.bx.frozen 14;have y3_15:=H3.out.bx.cell 15 _ rfl;have f3_15:=H3.out.bx.frozen 15;have y3_16:=H3.out.bx.cell 16 _ rfl;have f3_16:=H3.out.bx.frozen 16;have M3 : Hid (MuX 46 w3 G (mgV (⟨k,r1,n1,((z2 : Nat) : Int),false,0,0,zeroM,0,0,none,0,0,none,0,0,0,0,0,0,false,0,⟨#[]⟩,0,0,0,⟨#[]⟩,0,none,0,0⟩ : MgM)) z.a z.n z.b z.m rs ws):=⟨H3.out.bx,mute_mg _ rfl rfl,hX.tx,fst_cm hR hz⟩;have F3:=hid (fst_cm hR hz);have S3:=hid hX.st;have L3:=hid hn;clear hX hn hz;clear hr ho hR)))
 have K3 : Hid (RfB w B g G R L st3 (mgV (⟨k,r1,n1,((z2 : Nat) : Int),false,0,0,z,0,0,none,0,0,none,0,0,0,0,0,0,false,0,⟨#[]⟩,0,0,0,⟨#[]⟩,0,none,0,0⟩ : MgM)) (((((((((((w3.setCell ⟨G,7,none⟩ (.int .i64 z.k)).setCell ⟨G,8,none⟩ (.int .i64 z.s)).setCell ⟨G,9,none⟩ (.int .i64 z.q)).setCell ⟨G,10,none⟩ (.slice z.a z.n z.c)).setCell ⟨G,11,none⟩ (.slice z.b z.m z.d)).setCell ⟨G,12,none⟩ (.int .i64 z.i)).setCell ⟨G,13,none⟩ (.int .i64 z.j)).setCell ⟨G,14,none⟩ (.int .i64 z.g)).setCell ⟨G,15,none⟩ (.int .u64 ((z.st : Nat) : Int))).setCell ⟨G,16,none⟩ (.bool z.y)))):=(((((((((((H3.out.set 7 (.int .i64 z.k)).set 8 (.int .i64 z.s)).set 9 (.int .i64 z.q)).set 10 (.slice z.a z.n z.c)).set 11 (.slice z.b z.m z.d)).set 12 (.int .i64 z.i)).set 13 (.int .i64 z.j)).set 14 (.int .i64 z.g)).set 15 (.int .u64 ((z.st : Nat) : Int))).set 16 (.bool z.y))).eq (by apply Array.ext';simp only [Array.toList_setIfInBounds];rfl)
 have T3:=hid (((((((((((M3.out.set 7 (.int .i64 z.k) (by simp)).set 8 (.int .i64 z.s) (by simp)).set 9 (.int .i64 z.q) (by simp)).set 10 (.slice z.a z.n z.c) (by simp)).set 11 (.slice z.b z.m z.d) (by simp)).set 12 (.int .i64 z.i) (by simp)).set 13 (.int .i64 z.j) (by simp)).set 14 (.int .i64 z.g) (by simp)).set 15 (.int .u64 ((z.st : Nat) : Int)) (by simp)).set 16 (.bool z.y) (by simp))).tx
 clear H3 K2 c_3 yh M3 y3_7 f3_7 y3_8 f3_8 y3_9 f3_9 y3_10 f3_10 y3_11 f3_11 y3_12 f3_12 y3_13 f3_13 y3_14 f3_14 y3_15 f3_15 y3_16 f3_16
 generalize ((((((((((w3.setCell ⟨G,7,none⟩ (.int .i64 z.k)).setCell ⟨G,8,none⟩ (.int .i64 z.s)).setCell ⟨G,9,none⟩ (.int .i64 z.q)).setCell ⟨G,10,none⟩ (.slice z.a z.n z.c)).setCell ⟨G,11,none⟩ (.slice z.b z.m z.d)).setCell ⟨G,12,none⟩ (.int .i64 z.i)).setCell ⟨G,13,none⟩ (.int .i64 z.j)).setCell ⟨G,14,none⟩ (.int .i64 z.g)).setCell ⟨G,15,none⟩ (.int .u64 ((z.st : Nat) : Int))).setCell ⟨G,16,none⟩ (.bool z.y)) = V3 at *
 have lG:=K3.out.bx.ldD
 have yh:=K3.out.bx.cell 4 _ rfl
 go_wp2_with (first | (go_at_call 17;(with_reducible first | refine (cBal _).mono ?_ | refine (cSlot _).mono ?_ | refine (cHas _).mono ?_ | refine (cCmd _).mono ?_ | refine (cTxn _).mono ?_);rintro e wu ⟨rfl,rfl⟩) | (refine wpList_store_doc rfl _ _ rfl R (⟨k,r1,n1,((z2 : Nat) : Int),false,0,0,z,0,0,none,0,0,none,0,0,0,0,0,0,false,0,⟨#[]⟩,0,0,0,⟨#[]⟩,0,none,0,0⟩ : MgM) rfl rfl (zeroG 0) K3.out.rx ?_))
 have hA : MgAt V3 (⟨k,r1,n1,((z2 : Nat) : Int),false,0,0,z,0,0,none,0,0,none,0,0,0,0,0,0,false,0,⟨#[]⟩,0,0,0,⟨#[]⟩,0,none,0,0⟩ : MgM) ⟨rs,ws,[],[],[]⟩:=⟨⟨T3.out,S3.out⟩,TxAt.nil,BAt.nil,⟨B1.out,(by show 0 < 4294967296;decide),(by show 0 < 18446744073709551616;decide),(by show 0 < 18446744073709551616;decide),(by show 0 < 18446744073709551616;decide),(Nat.zero_le _),(Nat.zero_le _)⟩⟩
 have onF:=only_fill V3 R (mgV (⟨k,r1,n1,((z2 : Nat) : Int),false,0,0,z,0,0,none,0,0,none,0,0,0,0,0,0,false,0,⟨#[]⟩,0,0,0,⟨#[]⟩,0,none,0,0⟩ : MgM))
 exact bodyPost_ret (v:=.agg (mgV (⟨k,r1,n1,((z2 : Nat) : Int),false,0,0,z,0,0,none,0,0,none,0,0,0,0,0,0,false,0,⟨#[]⟩,0,0,0,⟨#[]⟩,0,none,0,0⟩ : MgM))) (results_mg1 Tryz.results16 _ _ R (⟨k,r1,n1,((z2 : Nat) : Int),false,0,0,z,0,0,none,0,0,none,0,0,0,0,0,0,false,0,⟨#[]⟩,0,0,0,⟨#[]⟩,0,none,0,0⟩ : MgM) rfl (K3.out.rx.fill _)) rfl ⟨(⟨k,r1,n1,((z2 : Nat) : Int),false,0,0,z,0,0,none,0,0,none,0,0,0,0,0,0,false,0,⟨#[]⟩,0,0,0,⟨#[]⟩,0,none,0,0⟩ : MgM),⟨rs,ws,[],[],[]⟩,st3,rfl,Keep.keep (g:=g) V3 _ K3.out.rd fun b hb=>onF.block b (by have:=K3.out.onl.size;omega) (fun e=>by injection e with e;have:=GE.out;have:=RE.out;omega),by
  have h1:=K3.out.onl
  refine ⟨onF.os.trans h1.os,onF.tape.trans h1.tape,onF.output.trans h1.output,Nat.le_trans h1.size onF.size,fun b hb hne=>(onF.block b (Nat.lt_of_lt_of_le hb h1.size) (fun e=>by injection e with e;have:=GE.out;have:=RE.out;omega)).trans (h1.block b hb hne)⟩,⟨hA.fill2 K3.out.rx F3.out fst_nil,⟨Nat.le_trans L3.out.1 (by omega),Nat.le_trans L3.out.2 (by omega),Nat.zero_le _,Nat.zero_le _,Nat.zero_le _⟩,F3.out,fst_nil,rfl,rfl,rfl,(Res.bind (x:=mgT ((⟨k,r1,n1,0,false,0,0,zeroM,0,0,none,0,0,none,0,0,0,0,0,0,false,0,⟨#[]⟩,0,0,0,⟨#[]⟩,0,none,0,0⟩ : MgM) : MgM) noL) (Res.bind (x:=((((r1 : Nat) : Int),n1) : Bal)) R1.out (Res.pure _ _)) (Res.bind (x:=mgT ((⟨k,r1,n1,((z2 : Nat) : Int),false,0,0,zeroM,0,0,none,0,0,none,0,0,0,0,0,0,false,0,⟨#[]⟩,0,0,0,⟨#[]⟩,0,none,0,0⟩ : MgM) : MgM) noL) (Res.bind (x:=((z2 : Nat) : Int)) (res_numI R2.out) (Res.pure _ _)) (Res.bind (x:=mgT ((⟨k,r1,n1,((z2 : Nat) : Int),false,0,0,z,0,0,none,0,0,none,0,0,0,0,0,0,false,0,⟨#[]⟩,0,0,0,⟨#[]⟩,0,none,0,0⟩ : MgM) : MgM) ⟨rs,ws,[],[],[]⟩) (Res.bind (x:=cmT z rs ws) R3.out (Res.pure _ _)) (Res.pure _ _)))),fun h=>absurd (h 99 (by simp)) (fun hn=>hn (by unfold IsList;simp)),fun h=>by cases h⟩⟩
theorem head_sc (A : Array Value) (hA : A = mgV (zeroG k)) (h : FS B g L st w) (uBal : uBal k = false) (uSlot : uSlot k = true) (uHas : uHas k = false) (uCmd : uCmd k = true) (uTxn : uTxn k = false) :
  Calls Tryz.prog 16 #[.pointer (some ⟨g,0,none⟩),.agg A] w (HeadR w B g L k [115,99] st):=by
 have glt:=h.lt
 obtain ⟨G,hG⟩ : ∃ G,w.heap.size = G:=⟨_,rfl⟩
 obtain ⟨R,hR0⟩ : ∃ R,G + 1 = R:=⟨_,rfl⟩
 have K0 : Hid (RfB w B g G R L st (mgV (zeroG k)) ((w.alloc (.cells A 46)).alloc (.cells ZL 46))):=by
  have b1 : Below w.heap.size w (w.alloc (.cells A 46)):=(Below.refl _ _).alloc (Nat.le_refl _) _
  have b2 : Below (w.heap.size + 1) (w.alloc (.cells A 46)) ((w.alloc (.cells A 46)).alloc (.cells ZL 46)):=(Below.refl _ _).alloc (by simp) _
  have s1 : (w.alloc (.cells A 46)).heap.size = w.heap.size + 1:=by simp
  have bb : Below w.heap.size w ((w.alloc (.cells A 46)).alloc (.cells ZL 46)):=b1.alloc b1.size _
  have x1 : BoxC (w.alloc (.cells A 46)) w.heap.size A 46:=BoxC.new w A 46
  have x2 : BoxC ((w.alloc (.cells A 46)).alloc (.cells ZL 46)) (w.heap.size + 1) ZL 46:=by
   have:=BoxC.new (w.alloc (.cells A 46)) ZL 46
   rwa [s1] at this
  exact ⟨Keep.keep (g:=g) w _ h fun b hb=>bb.block b (by omega),by rw [← hG,← hA];exact x1.below ((Below.refl _ _).alloc (Nat.le_refl _) _),by rw [← hR0,← hG];exact x2,below_only bb,glt,by omega,by omega,by omega⟩
 have cBal:=fun V=>useBal_any k V
 rw [uBal] at cBal
 have cSlot:=fun V=>useSlot_any k V
 rw [uSlot] at cSlot
 have cHas:=fun V=>useHas_any k V
 rw [uHas] at cHas
 have cCmd:=fun V=>useCmd_any k V
 rw [uCmd] at cCmd
 have cTxn:=fun V=>useTxn_any k V
 rw [uTxn] at cTxn
 have y0 : ((w.alloc (.cells A 46)).alloc (.cells ZL 46)).cell? ⟨G,0,none⟩ = some (.int .i64 k):=K0.out.bx.cell 0 _ rfl
 have GE:=hid hG
 have RE:=hid hR0
 clear h hA uBal uSlot uHas uCmd uTxn
 go_enter Tryz.func16,Tryz.ntmps16
 go_upto_region 1 with fail
 generalize (w.alloc (.cells A 46)).alloc (.cells ZL 46) = V0 at *
 have yh:=K0.out.bx.cell 4 _ rfl
 have c_1:=(show Calls Tryz.prog 15 #[.pointer (some ⟨g,0,none⟩),.int .i64 4] V0 (Took1 (FS B g L) g numV (numP 4) 0 st V0) from refTakeS_any B g L 4 st V0 K0.out.rd (by omega))
 go_upto_region 6 with (first | (go_at_call 17;(with_reducible first | refine (cBal _).mono ?_ | refine (cSlot _).mono ?_);rintro e wu ⟨rfl,rfl⟩) | (go_at_call 15;((with_reducible refine c_1.mono ?_);rintro e w1 ⟨z1,st1,rfl,hr,ho,hR,hz⟩;have H1:=hid (K0.out.only hr ho);have R1:=hid hR;have y1_3:=H1.out.bx.cell 3 _ rfl;have f1_3:=H1.out.bx.frozen 3;  have hb1 : z1 < 4294967296:=num_lt hR hz (by decide);have ez1:=wrap_i64 z1 (by omega);clear hz;clear hr ho hR)))
 have K1 : Hid (RfB w B g G R L st1 (mgV (⟨k,0,0,((z1 : Nat) : Int),false,0,0,zeroM,0,0,none,0,0,none,0,0,0,0,0,0,false,0,⟨#[]⟩,0,0,0,⟨#[]⟩,0,none,0,0⟩ : MgM)) ((w1.setCell ⟨G,3,none⟩ (.int .i64 ((z1 : Nat) : Int))))):=((H1.out.set 3 (.int .i64 ((z1 : Nat) : Int)))).eq (by apply Array.ext';simp only [Array.toList_setIfInBounds];rfl)
 clear H1 K0 c_1 yh y1_3 f1_3
 generalize (w1.setCell ⟨G,3,none⟩ (.int .i64 ((z1 : Nat) : Int))) = V1 at *
 have yh:=K1.out.bx.cell 4 _ rfl
 have c_2:=dTake_any B g L st1 V1 K1.out.rd
 go_upto_region 12 with (first | (go_at_call 17;(with_reducible first | refine (cSlot _).mono ?_ | refine (cHas _).mono ?_ | refine (cCmd _).mono ?_);rintro e wu ⟨rfl,rfl⟩) | (go_at_call 43;((with_reducible refine c_2.mono ?_);rintro e w2 ⟨z,rs,ws,st2,rfl,hr,ho,hX,hn,hR,hz⟩;have H2:=hid (K1.out.only hr ho);have R2:=hid hR;have y2_7:=H2.out.bx.cell 7 _ rfl;have f2_7:=H2.out.bx.frozen 7;have y2_8:=H2.out.bx.cell 8 _ rfl;have f2_8:=H2.out.bx.frozen 8;have y2_9:=H2.out.bx.cell 9 _ rfl;have f2_9:=H2.out.bx.frozen 9;have y2_10:=H2.out.bx.cell 10 _ rfl;have f2_10:=H2.out.bx.frozen 10;have y2_11:=H2.out.bx.cell 11 _ rfl;have f2_11:=H2.out.bx.frozen 11;have y2_12:=H2.out.bx.cell 12 _ rfl;have f2_12:=H2.out.bx.frozen 12;have y2_13:=H2.out.bx.cell 13 _ rfl;have f2_13:=H2.out.bx.frozen 13;have y2_14:=H2.out.bx.cell 14 _ rfl;have f2_14:=H2.out.bx.frozen 14;have y2_15:=H2.out.bx.cell 15 _ rfl;have f2_15:=H2.out.bx.frozen 15;have y2_16:=H2.out.bx.cell 16 _ rfl;have f2_16:=H2.out.bx.frozen 16;have M2 : Hid (MuX 46 w2 G (mgV (⟨k,0,0,((z1 : Nat) : Int),false,0,0,zeroM,0,0,none,0,0,none,0,0,0,0,0,0,false,0,⟨#[]⟩,0,0,0,⟨#[]⟩,0,none,0,0⟩ : MgM)) z.a z.n z.b z.m rs ws):=⟨H2.out.bx,mute_mg _ rfl rfl,hX.tx,fst_cm hR hz⟩;have F2:=hid (fst_cm hR hz);have S2:=hid hX.st;have L2:=hid hn;clear hX hn hz;clear hr ho hR)))
 have K2 : Hid (RfB w B g G R L st2 (mgV (⟨k,0,0,((z1 : Nat) : Int),false,0,0,z,0,0,none,0,0,none,0,0,0,0,0,0,false,0,⟨#[]⟩,0,0,0,⟨#[]⟩,0,none,0,0⟩ : MgM)) (((((((((((w2.setCell ⟨G,7,none⟩ (.int .i64 z.k)).setCell ⟨G,8,none⟩ (.int .i64 z.s)).setCell ⟨G,9,none⟩ (.int .i64 z.q)).setCell ⟨G,10,none⟩ (.slice z.a z.n z.c)).setCell ⟨G,11,none⟩ (.slice z.b z.m z.d)).setCell ⟨G,12,none⟩ (.int .i64 z.i)).setCell ⟨G,13,none⟩ (.int .i64 z.j)).setCell ⟨G,14,none⟩ (.int .i64 z.g)).setCell ⟨G,15,none⟩ (.int .u64 ((z.st : Nat) : Int))).setCell ⟨G,16,none⟩ (.bool z.y)))):=(((((((((((H2.out.set 7 (.int .i64 z.k)).set 8 (.int .i64 z.s)).set 9 (.int .i64 z.q)).set 10 (.slice z.a z.n z.c)).set 11 (.slice z.b z.m z.d)).set 12 (.int .i64 z.i)).set 13 (.int .i64 z.j)).set 14 (.int .i64 z.g)).set 15 (.int .u64 ((z.st : Nat) : Int))).set 16 (.bool z.y))).eq (by apply Array.ext';simp only [Array.toList_setIfInBounds];rfl)
 have T2:=hid (((((((((((M2.out.set 7 (.int .i64 z.k) (by simp)).set 8 (.int .i64 z.s) (by simp)).set 9 (.int .i64 z.q) (by simp)).set 10 (.slice z.a z.n z.c) (by simp)).set 11 (.slice z.b z.m z.d) (by simp)).set 12 (.int .i64 z.i) (by simp)).set 13 (.int .i64 z.j) (by simp)).set 14 (.int .i64 z.g) (by simp)).set 15 (.int .u64 ((z.st : Nat) : Int)) (by simp)).set 16 (.bool z.y) (by simp))).tx
 clear H2 K1 c_2 yh M2 y2_7 f2_7 y2_8 f2_8 y2_9 f2_9 y2_10 f2_10 y2_11 f2_11 y2_12 f2_12 y2_13 f2_13 y2_14 f2_14 y2_15 f2_15 y2_16 f2_16
 generalize ((((((((((w2.setCell ⟨G,7,none⟩ (.int .i64 z.k)).setCell ⟨G,8,none⟩ (.int .i64 z.s)).setCell ⟨G,9,none⟩ (.int .i64 z.q)).setCell ⟨G,10,none⟩ (.slice z.a z.n z.c)).setCell ⟨G,11,none⟩ (.slice z.b z.m z.d)).setCell ⟨G,12,none⟩ (.int .i64 z.i)).setCell ⟨G,13,none⟩ (.int .i64 z.j)).setCell ⟨G,14,none⟩ (.int .i64 z.g)).setCell ⟨G,15,none⟩ (.int .u64 ((z.st : Nat) : Int))).setCell ⟨G,16,none⟩ (.bool z.y)) = V2 at *
 have lG:=K2.out.bx.ldD
 have yh:=K2.out.bx.cell 4 _ rfl
 go_wp2_with (first | (go_at_call 17;(with_reducible first | refine (cBal _).mono ?_ | refine (cSlot _).mono ?_ | refine (cHas _).mono ?_ | refine (cCmd _).mono ?_ | refine (cTxn _).mono ?_);rintro e wu ⟨rfl,rfl⟩) | (refine wpList_store_doc rfl _ _ rfl R (⟨k,0,0,((z1 : Nat) : Int),false,0,0,z,0,0,none,0,0,none,0,0,0,0,0,0,false,0,⟨#[]⟩,0,0,0,⟨#[]⟩,0,none,0,0⟩ : MgM) rfl rfl (zeroG 0) K2.out.rx ?_))
 have hA : MgAt V2 (⟨k,0,0,((z1 : Nat) : Int),false,0,0,z,0,0,none,0,0,none,0,0,0,0,0,0,false,0,⟨#[]⟩,0,0,0,⟨#[]⟩,0,none,0,0⟩ : MgM) ⟨rs,ws,[],[],[]⟩:=⟨⟨T2.out,S2.out⟩,TxAt.nil,BAt.nil,⟨(by show 0 < 4294967296;decide),(by show 0 < 4294967296;decide),(by show 0 < 18446744073709551616;decide),(by show 0 < 18446744073709551616;decide),(by show 0 < 18446744073709551616;decide),(Nat.zero_le _),(Nat.zero_le _)⟩⟩
 have onF:=only_fill V2 R (mgV (⟨k,0,0,((z1 : Nat) : Int),false,0,0,z,0,0,none,0,0,none,0,0,0,0,0,0,false,0,⟨#[]⟩,0,0,0,⟨#[]⟩,0,none,0,0⟩ : MgM))
 exact bodyPost_ret (v:=.agg (mgV (⟨k,0,0,((z1 : Nat) : Int),false,0,0,z,0,0,none,0,0,none,0,0,0,0,0,0,false,0,⟨#[]⟩,0,0,0,⟨#[]⟩,0,none,0,0⟩ : MgM))) (results_mg1 Tryz.results16 _ _ R (⟨k,0,0,((z1 : Nat) : Int),false,0,0,z,0,0,none,0,0,none,0,0,0,0,0,0,false,0,⟨#[]⟩,0,0,0,⟨#[]⟩,0,none,0,0⟩ : MgM) rfl (K2.out.rx.fill _)) rfl ⟨(⟨k,0,0,((z1 : Nat) : Int),false,0,0,z,0,0,none,0,0,none,0,0,0,0,0,0,false,0,⟨#[]⟩,0,0,0,⟨#[]⟩,0,none,0,0⟩ : MgM),⟨rs,ws,[],[],[]⟩,st2,rfl,Keep.keep (g:=g) V2 _ K2.out.rd fun b hb=>onF.block b (by have:=K2.out.onl.size;omega) (fun e=>by injection e with e;have:=GE.out;have:=RE.out;omega),by
  have h1:=K2.out.onl
  refine ⟨onF.os.trans h1.os,onF.tape.trans h1.tape,onF.output.trans h1.output,Nat.le_trans h1.size onF.size,fun b hb hne=>(onF.block b (Nat.lt_of_lt_of_le hb h1.size) (fun e=>by injection e with e;have:=GE.out;have:=RE.out;omega)).trans (h1.block b hb hne)⟩,⟨hA.fill2 K2.out.rx F2.out fst_nil,⟨Nat.le_trans L2.out.1 (by omega),Nat.le_trans L2.out.2 (by omega),Nat.zero_le _,Nat.zero_le _,Nat.zero_le _⟩,F2.out,fst_nil,rfl,rfl,rfl,(Res.bind (x:=mgT ((⟨k,0,0,((z1 : Nat) : Int),false,0,0,zeroM,0,0,none,0,0,none,0,0,0,0,0,0,false,0,⟨#[]⟩,0,0,0,⟨#[]⟩,0,none,0,0⟩ : MgM) : MgM) noL) (Res.bind (x:=((z1 : Nat) : Int)) (res_numI R1.out) (Res.pure _ _)) (Res.bind (x:=mgT ((⟨k,0,0,((z1 : Nat) : Int),false,0,0,z,0,0,none,0,0,none,0,0,0,0,0,0,false,0,⟨#[]⟩,0,0,0,⟨#[]⟩,0,none,0,0⟩ : MgM) : MgM) ⟨rs,ws,[],[],[]⟩) (Res.bind (x:=cmT z rs ws) R2.out (Res.pure _ _)) (Res.pure _ _))),fun h=>absurd (h 99 (by simp)) (fun hn=>hn (by unfold IsList;simp)),fun h=>by cases h⟩⟩
theorem head_s (A : Array Value) (hA : A = mgV (zeroG k)) (h : FS B g L st w) (uBal : uBal k = false) (uSlot : uSlot k = true) (uHas : uHas k = false) (uCmd : uCmd k = false) (uTxn : uTxn k = false) :
  Calls Tryz.prog 16 #[.pointer (some ⟨g,0,none⟩),.agg A] w (HeadR w B g L k [115] st):=by
 have glt:=h.lt
 obtain ⟨G,hG⟩ : ∃ G,w.heap.size = G:=⟨_,rfl⟩
 obtain ⟨R,hR0⟩ : ∃ R,G + 1 = R:=⟨_,rfl⟩
 have K0 : Hid (RfB w B g G R L st (mgV (zeroG k)) ((w.alloc (.cells A 46)).alloc (.cells ZL 46))):=by
  have b1 : Below w.heap.size w (w.alloc (.cells A 46)):=(Below.refl _ _).alloc (Nat.le_refl _) _
  have b2 : Below (w.heap.size + 1) (w.alloc (.cells A 46)) ((w.alloc (.cells A 46)).alloc (.cells ZL 46)):=(Below.refl _ _).alloc (by simp) _
  have s1 : (w.alloc (.cells A 46)).heap.size = w.heap.size + 1:=by simp
  have bb : Below w.heap.size w ((w.alloc (.cells A 46)).alloc (.cells ZL 46)):=b1.alloc b1.size _
  have x1 : BoxC (w.alloc (.cells A 46)) w.heap.size A 46:=BoxC.new w A 46
  have x2 : BoxC ((w.alloc (.cells A 46)).alloc (.cells ZL 46)) (w.heap.size + 1) ZL 46:=by
   have:=BoxC.new (w.alloc (.cells A 46)) ZL 46
   rwa [s1] at this
  exact ⟨Keep.keep (g:=g) w _ h fun b hb=>bb.block b (by omega),by rw [← hG,← hA];exact x1.below ((Below.refl _ _).alloc (Nat.le_refl _) _),by rw [← hR0,← hG];exact x2,below_only bb,glt,by omega,by omega,by omega⟩
 have cBal:=fun V=>useBal_any k V
 rw [uBal] at cBal
 have cSlot:=fun V=>useSlot_any k V
 rw [uSlot] at cSlot
 have cHas:=fun V=>useHas_any k V
 rw [uHas] at cHas
 have cCmd:=fun V=>useCmd_any k V
 rw [uCmd] at cCmd
 have cTxn:=fun V=>useTxn_any k V
 rw [uTxn] at cTxn
 have y0 : ((w.alloc (.cells A 46)).alloc (.cells ZL 46)).cell? ⟨G,0,none⟩ = some (.int .i64 k):=K0.out.bx.cell 0 _ rfl
 have GE:=hid hG
 have RE:=hid hR0
 clear h hA uBal uSlot uHas uCmd uTxn
 go_enter Tryz.func16,Tryz.ntmps16
 go_upto_region 1 with fail
 generalize (w.alloc (.cells A 46)).alloc (.cells ZL 46) = V0 at *
 have yh:=K0.out.bx.cell 4 _ rfl
 have c_1:=(show Calls Tryz.prog 15 #[.pointer (some ⟨g,0,none⟩),.int .i64 4] V0 (Took1 (FS B g L) g numV (numP 4) 0 st V0) from refTakeS_any B g L 4 st V0 K0.out.rd (by omega))
 go_upto_region 6 with (first | (go_at_call 17;(with_reducible first | refine (cBal _).mono ?_ | refine (cSlot _).mono ?_);rintro e wu ⟨rfl,rfl⟩) | (go_at_call 15;((with_reducible refine c_1.mono ?_);rintro e w1 ⟨z1,st1,rfl,hr,ho,hR,hz⟩;have H1:=hid (K0.out.only hr ho);have R1:=hid hR;have y1_3:=H1.out.bx.cell 3 _ rfl;have f1_3:=H1.out.bx.frozen 3;  have hb1 : z1 < 4294967296:=num_lt hR hz (by decide);have ez1:=wrap_i64 z1 (by omega);clear hz;clear hr ho hR)))
 have K1 : Hid (RfB w B g G R L st1 (mgV (⟨k,0,0,((z1 : Nat) : Int),false,0,0,zeroM,0,0,none,0,0,none,0,0,0,0,0,0,false,0,⟨#[]⟩,0,0,0,⟨#[]⟩,0,none,0,0⟩ : MgM)) ((w1.setCell ⟨G,3,none⟩ (.int .i64 ((z1 : Nat) : Int))))):=((H1.out.set 3 (.int .i64 ((z1 : Nat) : Int)))).eq (by apply Array.ext';simp only [Array.toList_setIfInBounds];rfl)
 clear H1 K0 c_1 yh y1_3 f1_3
 generalize (w1.setCell ⟨G,3,none⟩ (.int .i64 ((z1 : Nat) : Int))) = V1 at *
 have lG:=K1.out.bx.ldD
 have yh:=K1.out.bx.cell 4 _ rfl
 go_wp2_with (first | (go_at_call 17;(with_reducible first | refine (cBal _).mono ?_ | refine (cSlot _).mono ?_ | refine (cHas _).mono ?_ | refine (cCmd _).mono ?_ | refine (cTxn _).mono ?_);rintro e wu ⟨rfl,rfl⟩) | (refine wpList_store_doc rfl _ _ rfl R (⟨k,0,0,((z1 : Nat) : Int),false,0,0,zeroM,0,0,none,0,0,none,0,0,0,0,0,0,false,0,⟨#[]⟩,0,0,0,⟨#[]⟩,0,none,0,0⟩ : MgM) rfl rfl (zeroG 0) K1.out.rx ?_))
 have hB : Bare (⟨k,0,0,((z1 : Nat) : Int),false,0,0,zeroM,0,0,none,0,0,none,0,0,0,0,0,0,false,0,⟨#[]⟩,0,0,0,⟨#[]⟩,0,none,0,0⟩ : MgM):=⟨rfl,⟨rfl,rfl,rfl,rfl⟩,rfl⟩
 have hA : MgAt V1 (⟨k,0,0,((z1 : Nat) : Int),false,0,0,zeroM,0,0,none,0,0,none,0,0,0,0,0,0,false,0,⟨#[]⟩,0,0,0,⟨#[]⟩,0,none,0,0⟩ : MgM) noL:=(Bare.at_ hB ⟨(by show 0 < 4294967296;decide),(by show 0 < 4294967296;decide),(by show 0 < 18446744073709551616;decide),(by show 0 < 18446744073709551616;decide),(by show 0 < 18446744073709551616;decide),(Nat.zero_le _),(Nat.zero_le _)⟩)
 have onF:=only_fill V1 R (mgV (⟨k,0,0,((z1 : Nat) : Int),false,0,0,zeroM,0,0,none,0,0,none,0,0,0,0,0,0,false,0,⟨#[]⟩,0,0,0,⟨#[]⟩,0,none,0,0⟩ : MgM))
 exact bodyPost_ret (v:=.agg (mgV (⟨k,0,0,((z1 : Nat) : Int),false,0,0,zeroM,0,0,none,0,0,none,0,0,0,0,0,0,false,0,⟨#[]⟩,0,0,0,⟨#[]⟩,0,none,0,0⟩ : MgM))) (results_mg1 Tryz.results16 _ _ R (⟨k,0,0,((z1 : Nat) : Int),false,0,0,zeroM,0,0,none,0,0,none,0,0,0,0,0,0,false,0,⟨#[]⟩,0,0,0,⟨#[]⟩,0,none,0,0⟩ : MgM) rfl (K1.out.rx.fill _)) rfl ⟨(⟨k,0,0,((z1 : Nat) : Int),false,0,0,zeroM,0,0,none,0,0,none,0,0,0,0,0,0,false,0,⟨#[]⟩,0,0,0,⟨#[]⟩,0,none,0,0⟩ : MgM),noL,st1,rfl,Keep.keep (g:=g) V1 _ K1.out.rd fun b hb=>onF.block b (by have:=K1.out.onl.size;omega) (fun e=>by injection e with e;have:=GE.out;have:=RE.out;omega),by
  have h1:=K1.out.onl
  refine ⟨onF.os.trans h1.os,onF.tape.trans h1.tape,onF.output.trans h1.output,Nat.le_trans h1.size onF.size,fun b hb hne=>(onF.block b (Nat.lt_of_lt_of_le hb h1.size) (fun e=>by injection e with e;have:=GE.out;have:=RE.out;omega)).trans (h1.block b hb hne)⟩,⟨hA.fill2 K1.out.rx fst_nil fst_nil,hB.f,fst_nil,fst_nil,rfl,rfl,rfl,(Res.bind (x:=mgT ((⟨k,0,0,((z1 : Nat) : Int),false,0,0,zeroM,0,0,none,0,0,none,0,0,0,0,0,0,false,0,⟨#[]⟩,0,0,0,⟨#[]⟩,0,none,0,0⟩ : MgM) : MgM) noL) (Res.bind (x:=((z1 : Nat) : Int)) (res_numI R1.out) (Res.pure _ _)) (Res.pure _ _)),fun _=>⟨hB,rfl⟩,fun h=>by cases h⟩⟩
theorem head_t (A : Array Value) (hA : A = mgV (zeroG k)) (h : FS B g L st w) (uBal : uBal k = false) (uSlot : uSlot k = false) (uHas : uHas k = false) (uCmd : uCmd k = false) (uTxn : uTxn k = true) :
  Calls Tryz.prog 16 #[.pointer (some ⟨g,0,none⟩),.agg A] w (HeadR w B g L k [116] st):=by
 have glt:=h.lt
 obtain ⟨G,hG⟩ : ∃ G,w.heap.size = G:=⟨_,rfl⟩
 obtain ⟨R,hR0⟩ : ∃ R,G + 1 = R:=⟨_,rfl⟩
 have K0 : Hid (RfB w B g G R L st (mgV (zeroG k)) ((w.alloc (.cells A 46)).alloc (.cells ZL 46))):=by
  have b1 : Below w.heap.size w (w.alloc (.cells A 46)):=(Below.refl _ _).alloc (Nat.le_refl _) _
  have b2 : Below (w.heap.size + 1) (w.alloc (.cells A 46)) ((w.alloc (.cells A 46)).alloc (.cells ZL 46)):=(Below.refl _ _).alloc (by simp) _
  have s1 : (w.alloc (.cells A 46)).heap.size = w.heap.size + 1:=by simp
  have bb : Below w.heap.size w ((w.alloc (.cells A 46)).alloc (.cells ZL 46)):=b1.alloc b1.size _
  have x1 : BoxC (w.alloc (.cells A 46)) w.heap.size A 46:=BoxC.new w A 46
  have x2 : BoxC ((w.alloc (.cells A 46)).alloc (.cells ZL 46)) (w.heap.size + 1) ZL 46:=by
   have:=BoxC.new (w.alloc (.cells A 46)) ZL 46
   rwa [s1] at this
  exact ⟨Keep.keep (g:=g) w _ h fun b hb=>bb.block b (by omega),by rw [← hG,← hA];exact x1.below ((Below.refl _ _).alloc (Nat.le_refl _) _),by rw [← hR0,← hG];exact x2,below_only bb,glt,by omega,by omega,by omega⟩
 have cBal:=fun V=>useBal_any k V
 rw [uBal] at cBal
 have cSlot:=fun V=>useSlot_any k V
 rw [uSlot] at cSlot
 have cHas:=fun V=>useHas_any k V
 rw [uHas] at cHas
 have cCmd:=fun V=>useCmd_any k V
 rw [uCmd] at cCmd
 have cTxn:=fun V=>useTxn_any k V
 rw [uTxn] at cTxn
 have y0 : ((w.alloc (.cells A 46)).alloc (.cells ZL 46)).cell? ⟨G,0,none⟩ = some (.int .i64 k):=K0.out.bx.cell 0 _ rfl
 have GE:=hid hG
 have RE:=hid hR0
 clear h hA uBal uSlot uHas uCmd uTxn
 go_enter Tryz.func16,Tryz.ntmps16
 go_upto_region 1 with fail
 generalize (w.alloc (.cells A 46)).alloc (.cells ZL 46) = V0 at *
 have yh:=K0.out.bx.cell 4 _ rfl
 have c_1:=rTake_any B g L st V0 K0.out.rd
 go_upto_region 14 with (first | (go_at_call 17;(with_reducible first | refine (cBal _).mono ?_ | refine (cSlot _).mono ?_ | refine (cHas _).mono ?_ | refine (cCmd _).mono ?_ | refine (cTxn _).mono ?_);rintro e wu ⟨rfl,rfl⟩) | (go_at_call 44;((with_reducible refine c_1.mono ?_);rintro e w1 ⟨s,q,a,n,c,b,m,d,rs,ws,st1,rfl,hr,ho,hX,hn,hR,hz⟩;have H1:=hid (K0.out.only hr ho);have R1:=hid hR;have y1_17:=H1.out.bx.cell 17 _ rfl;have f1_17:=H1.out.bx.frozen 17;have y1_18:=H1.out.bx.cell 18 _ rfl;have f1_18:=H1.out.bx.frozen 18;have y1_19:=H1.out.bx.cell 19 _ rfl;have f1_19:=H1.out.bx.frozen 19;have y1_20:=H1.out.bx.cell 20 _ rfl;have f1_20:=H1.out.bx.frozen 20;have M1 : Hid (MuX 46 w1 G (mgV (zeroG k)) a n b m rs ws):=⟨H1.out.bx,mute_mg _ rfl rfl,hX,fst_tx hR (fun e=>(hz e).2)⟩;have F1:=hid (fst_tx hR (fun e=>(hz e).2));have L1:=hid hn;clear hX hn hz;clear hr ho hR)))
 have K1 : Hid (RfB w B g G R L st1 (mgV (⟨k,0,0,0,false,0,0,zeroM,s,q,a,n,c,b,m,d,0,0,0,0,false,0,⟨#[]⟩,0,0,0,⟨#[]⟩,0,none,0,0⟩ : MgM)) (((((w1.setCell ⟨G,17,none⟩ (.int .i64 s)).setCell ⟨G,18,none⟩ (.int .i64 q)).setCell ⟨G,19,none⟩ (.slice a n c)).setCell ⟨G,20,none⟩ (.slice b m d)))):=(((((H1.out.set 17 (.int .i64 s)).set 18 (.int .i64 q)).set 19 (.slice a n c)).set 20 (.slice b m d))).eq (by apply Array.ext';simp only [Array.toList_setIfInBounds];rfl)
 have T1:=hid (((((M1.out.set 17 (.int .i64 s) (by simp)).set 18 (.int .i64 q) (by simp)).set 19 (.slice a n c) (by simp)).set 20 (.slice b m d) (by simp))).tx
 clear H1 K0 c_1 yh M1 y1_17 f1_17 y1_18 f1_18 y1_19 f1_19 y1_20 f1_20
 generalize ((((w1.setCell ⟨G,17,none⟩ (.int .i64 s)).setCell ⟨G,18,none⟩ (.int .i64 q)).setCell ⟨G,19,none⟩ (.slice a n c)).setCell ⟨G,20,none⟩ (.slice b m d)) = V1 at *
 have lG:=K1.out.bx.ldD
 have yh:=K1.out.bx.cell 4 _ rfl
 go_wp2_with (first | (go_at_call 17;(with_reducible first | refine (cBal _).mono ?_ | refine (cSlot _).mono ?_ | refine (cHas _).mono ?_ | refine (cCmd _).mono ?_ | refine (cTxn _).mono ?_);rintro e wu ⟨rfl,rfl⟩) | (refine wpList_store_doc rfl _ _ rfl R (⟨k,0,0,0,false,0,0,zeroM,s,q,a,n,c,b,m,d,0,0,0,0,false,0,⟨#[]⟩,0,0,0,⟨#[]⟩,0,none,0,0⟩ : MgM) rfl rfl (zeroG 0) K1.out.rx ?_))
 have hA : MgAt V1 (⟨k,0,0,0,false,0,0,zeroM,s,q,a,n,c,b,m,d,0,0,0,0,false,0,⟨#[]⟩,0,0,0,⟨#[]⟩,0,none,0,0⟩ : MgM) ⟨[],[],rs,ws,[]⟩:=⟨CmAt.zero,T1.out,BAt.nil,⟨(by show 0 < 4294967296;decide),(by show 0 < 4294967296;decide),(by show 0 < 18446744073709551616;decide),(by show 0 < 18446744073709551616;decide),(by show 0 < 18446744073709551616;decide),(Nat.zero_le _),(Nat.zero_le _)⟩⟩
 have onF:=only_fill V1 R (mgV (⟨k,0,0,0,false,0,0,zeroM,s,q,a,n,c,b,m,d,0,0,0,0,false,0,⟨#[]⟩,0,0,0,⟨#[]⟩,0,none,0,0⟩ : MgM))
 exact bodyPost_ret (v:=.agg (mgV (⟨k,0,0,0,false,0,0,zeroM,s,q,a,n,c,b,m,d,0,0,0,0,false,0,⟨#[]⟩,0,0,0,⟨#[]⟩,0,none,0,0⟩ : MgM))) (results_mg1 Tryz.results16 _ _ R (⟨k,0,0,0,false,0,0,zeroM,s,q,a,n,c,b,m,d,0,0,0,0,false,0,⟨#[]⟩,0,0,0,⟨#[]⟩,0,none,0,0⟩ : MgM) rfl (K1.out.rx.fill _)) rfl ⟨(⟨k,0,0,0,false,0,0,zeroM,s,q,a,n,c,b,m,d,0,0,0,0,false,0,⟨#[]⟩,0,0,0,⟨#[]⟩,0,none,0,0⟩ : MgM),⟨[],[],rs,ws,[]⟩,st1,rfl,Keep.keep (g:=g) V1 _ K1.out.rd fun b hb=>onF.block b (by have:=K1.out.onl.size;omega) (fun e=>by injection e with e;have:=GE.out;have:=RE.out;omega),by
  have h1:=K1.out.onl
  refine ⟨onF.os.trans h1.os,onF.tape.trans h1.tape,onF.output.trans h1.output,Nat.le_trans h1.size onF.size,fun b hb hne=>(onF.block b (Nat.lt_of_lt_of_le hb h1.size) (fun e=>by injection e with e;have:=GE.out;have:=RE.out;omega)).trans (h1.block b hb hne)⟩,⟨hA.fill2 K1.out.rx fst_nil F1.out,⟨Nat.zero_le _,Nat.zero_le _,Nat.le_trans L1.out.1 (by omega),Nat.le_trans L1.out.2 (by omega),Nat.zero_le _⟩,fst_nil,F1.out,rfl,rfl,rfl,(Res.bind (x:=mgT ((⟨k,0,0,0,false,0,0,zeroM,s,q,a,n,c,b,m,d,0,0,0,0,false,0,⟨#[]⟩,0,0,0,⟨#[]⟩,0,none,0,0⟩ : MgM) : MgM) ⟨[],[],rs,ws,[]⟩) (Res.bind (x:=txT (s,q) rs ws) R1.out (Res.pure _ _)) (Res.pure _ _)),fun h=>absurd (h 116 (by simp)) (fun hn=>hn (by unfold IsList;simp)),fun h=>by cases h⟩⟩
theorem head_bsh (A : Array Value) (hA : A = mgV (zeroG k)) (h : FS B g L st w) (uBal : uBal k = true) (uSlot : uSlot k = true) (uHas : uHas k = true) (uCmd : uCmd k = false) (uTxn : uTxn k = false) :
  Calls Tryz.prog 16 #[.pointer (some ⟨g,0,none⟩),.agg A] w (HeadR w B g L k [98,115,104] st):=by
 have glt:=h.lt
 obtain ⟨G,hG⟩ : ∃ G,w.heap.size = G:=⟨_,rfl⟩
 obtain ⟨R,hR0⟩ : ∃ R,G + 1 = R:=⟨_,rfl⟩
 have K0 : Hid (RfB w B g G R L st (mgV (zeroG k)) ((w.alloc (.cells A 46)).alloc (.cells ZL 46))):=by
  have b1 : Below w.heap.size w (w.alloc (.cells A 46)):=(Below.refl _ _).alloc (Nat.le_refl _) _
  have b2 : Below (w.heap.size + 1) (w.alloc (.cells A 46)) ((w.alloc (.cells A 46)).alloc (.cells ZL 46)):=(Below.refl _ _).alloc (by simp) _
  have s1 : (w.alloc (.cells A 46)).heap.size = w.heap.size + 1:=by simp
  have bb : Below w.heap.size w ((w.alloc (.cells A 46)).alloc (.cells ZL 46)):=b1.alloc b1.size _
  have x1 : BoxC (w.alloc (.cells A 46)) w.heap.size A 46:=BoxC.new w A 46
  have x2 : BoxC ((w.alloc (.cells A 46)).alloc (.cells ZL 46)) (w.heap.size + 1) ZL 46:=by
   have:=BoxC.new (w.alloc (.cells A 46)) ZL 46
   rwa [s1] at this
  exact ⟨Keep.keep (g:=g) w _ h fun b hb=>bb.block b (by omega),by rw [← hG,← hA];exact x1.below ((Below.refl _ _).alloc (Nat.le_refl _) _),by rw [← hR0,← hG];exact x2,below_only bb,glt,by omega,by omega,by omega⟩
 have cBal:=fun V=>useBal_any k V
 rw [uBal] at cBal
 have cSlot:=fun V=>useSlot_any k V
 rw [uSlot] at cSlot
 have cHas:=fun V=>useHas_any k V
 rw [uHas] at cHas
 have cCmd:=fun V=>useCmd_any k V
 rw [uCmd] at cCmd
 have cTxn:=fun V=>useTxn_any k V
 rw [uTxn] at cTxn
 have y0 : ((w.alloc (.cells A 46)).alloc (.cells ZL 46)).cell? ⟨G,0,none⟩ = some (.int .i64 k):=K0.out.bx.cell 0 _ rfl
 have GE:=hid hG
 have RE:=hid hR0
 clear h hA uBal uSlot uHas uCmd uTxn
 go_enter Tryz.func16,Tryz.ntmps16
 go_upto_region 1 with fail
 generalize (w.alloc (.cells A 46)).alloc (.cells ZL 46) = V0 at *
 have yh:=K0.out.bx.cell 4 _ rfl
 have c_1:=rbTakeS_any B g L st V0 K0.out.rd
 go_upto_region 4 with (first | (go_at_call 17;((with_reducible refine (cBal _).mono ?_);rintro e wu ⟨rfl,rfl⟩)) | (go_at_call 42;((with_reducible refine c_1.mono ?_);rintro e w1 ⟨r1,n1,st1,rfl,hr,ho,hR,hb⟩;have H1:=hid (K0.out.only hr ho);have R1:=hid hR;have y1_1:=H1.out.bx.cell 1 _ rfl;have f1_1:=H1.out.bx.frozen 1;have y1_2:=H1.out.bx.cell 2 _ rfl;have f1_2:=H1.out.bx.frozen 2;  have B1:=hid hb;clear hb;clear hr ho hR)))
 have K1 : Hid (RfB w B g G R L st1 (mgV (⟨k,r1,n1,0,false,0,0,zeroM,0,0,none,0,0,none,0,0,0,0,0,0,false,0,⟨#[]⟩,0,0,0,⟨#[]⟩,0,none,0,0⟩ : MgM)) (((w1.setCell ⟨G,1,none⟩ (.int .u32 ((r1 : Nat) : Int))).setCell ⟨G,2,none⟩ (.int .i64 n1)))):=(((H1.out.set 1 (.int .u32 ((r1 : Nat) : Int))).set 2 (.int .i64 n1))).eq (by apply Array.ext';simp only [Array.toList_setIfInBounds];rfl)
 clear H1 K0 c_1 yh y1_1 f1_1 y1_2 f1_2
 generalize ((w1.setCell ⟨G,1,none⟩ (.int .u32 ((r1 : Nat) : Int))).setCell ⟨G,2,none⟩ (.int .i64 n1)) = V1 at *
 have yh:=K1.out.bx.cell 4 _ rfl
 have c_2:=(show Calls Tryz.prog 15 #[.pointer (some ⟨g,0,none⟩),.int .i64 4] V1 (Took1 (FS B g L) g numV (numP 4) 0 st1 V1) from refTakeS_any B g L 4 st1 V1 K1.out.rd (by omega))
 go_upto_region 6 with (first | (go_at_call 17;(with_reducible first | refine (cBal _).mono ?_ | refine (cSlot _).mono ?_);rintro e wu ⟨rfl,rfl⟩) | (go_at_call 15;((with_reducible refine c_2.mono ?_);rintro e w2 ⟨z2,st2,rfl,hr,ho,hR,hz⟩;have H2:=hid (K1.out.only hr ho);have R2:=hid hR;have y2_3:=H2.out.bx.cell 3 _ rfl;have f2_3:=H2.out.bx.frozen 3;  have hb2 : z2 < 4294967296:=num_lt hR hz (by decide);have ez2:=wrap_i64 z2 (by omega);clear hz;clear hr ho hR)))
 have K2 : Hid (RfB w B g G R L st2 (mgV (⟨k,r1,n1,((z2 : Nat) : Int),false,0,0,zeroM,0,0,none,0,0,none,0,0,0,0,0,0,false,0,⟨#[]⟩,0,0,0,⟨#[]⟩,0,none,0,0⟩ : MgM)) ((w2.setCell ⟨G,3,none⟩ (.int .i64 ((z2 : Nat) : Int))))):=((H2.out.set 3 (.int .i64 ((z2 : Nat) : Int)))).eq (by apply Array.ext';simp only [Array.toList_setIfInBounds];rfl)
 clear H2 K1 c_2 yh y2_3 f2_3
 generalize (w2.setCell ⟨G,3,none⟩ (.int .i64 ((z2 : Nat) : Int))) = V2 at *
 have yh:=K2.out.bx.cell 4 _ rfl
 have c_3:=(show Calls Tryz.prog 15 #[.pointer (some ⟨g,0,none⟩),.int .i64 1] V2 (Took1 (FS B g L) g numV (numP 1) 0 st2 V2) from refTakeS_any B g L 1 st2 V2 K2.out.rd (by omega))
 go_upto_region 8 with (first | (go_at_call 17;(with_reducible first | refine (cBal _).mono ?_ | refine (cSlot _).mono ?_ | refine (cHas _).mono ?_);rintro e wu ⟨rfl,rfl⟩) | (go_at_call 15;((with_reducible refine c_3.mono ?_);rintro e w3 ⟨z3,st3,rfl,hr,ho,hR,hz⟩;have H3:=hid (K2.out.only hr ho);have R3:=hid hR;have y3_4:=H3.out.bx.cell 4 _ rfl;have f3_4:=H3.out.bx.frozen 4;  clear hz;clear hr ho hR)))
 have K3 : Hid (RfB w B g G R L st3 (mgV (⟨k,r1,n1,((z2 : Nat) : Int),(((z3 : Nat) : Int) == 1),0,0,zeroM,0,0,none,0,0,none,0,0,0,0,0,0,false,0,⟨#[]⟩,0,0,0,⟨#[]⟩,0,none,0,0⟩ : MgM)) ((w3.setCell ⟨G,4,none⟩ (.bool (((z3 : Nat) : Int) == 1))))):=((H3.out.set 4 (.bool (((z3 : Nat) : Int) == 1)))).eq (by apply Array.ext';simp only [Array.toList_setIfInBounds];rfl)
 clear H3 K2 c_3 yh y3_4 f3_4
 generalize (w3.setCell ⟨G,4,none⟩ (.bool (((z3 : Nat) : Int) == 1))) = V3 at *
 by_cases e1 : z3 = 1
 ·have e2 : (((z3 : Nat) : Int) == 1) = true:=by simp;omega
  rw [e2] at K3
  clear e2
  have yh:=K3.out.bx.cell 4 _ rfl
  have c_4:=rbTakeS_any B g L st3 V3 K3.out.rd
  go_upto_region 10 with (first | (go_at_call 17;(with_reducible first | refine (cBal _).mono ?_ | refine (cSlot _).mono ?_ | refine (cHas _).mono ?_ | refine (cCmd _).mono ?_ | refine (cTxn _).mono ?_);rintro e wu ⟨rfl,rfl⟩) | (go_at_call 42;((with_reducible refine c_4.mono ?_);rintro e w4 ⟨r4,n4,st4,rfl,hr,ho,hR,hb⟩;have H4:=hid (K3.out.only hr ho);have R4:=hid hR;have y4_5:=H4.out.bx.cell 5 _ rfl;have f4_5:=H4.out.bx.frozen 5;have y4_6:=H4.out.bx.cell 6 _ rfl;have f4_6:=H4.out.bx.frozen 6;  have B4:=hid hb;clear hb;clear hr ho hR)))
  have K4 : Hid (RfB w B g G R L st4 (mgV (⟨k,r1,n1,((z2 : Nat) : Int),true,r4,n4,zeroM,0,0,none,0,0,none,0,0,0,0,0,0,false,0,⟨#[]⟩,0,0,0,⟨#[]⟩,0,none,0,0⟩ : MgM)) (((w4.setCell ⟨G,5,none⟩ (.int .u32 ((r4 : Nat) : Int))).setCell ⟨G,6,none⟩ (.int .i64 n4)))):=(((H4.out.set 5 (.int .u32 ((r4 : Nat) : Int))).set 6 (.int .i64 n4))).eq (by apply Array.ext';simp only [Array.toList_setIfInBounds];rfl)
  clear H4 K3 c_4 yh y4_5 f4_5 y4_6 f4_6
  generalize ((w4.setCell ⟨G,5,none⟩ (.int .u32 ((r4 : Nat) : Int))).setCell ⟨G,6,none⟩ (.int .i64 n4)) = V4 at *
  have yh:=K4.out.bx.cell 4 _ rfl
  have c_5:=dTake_any B g L st4 V4 K4.out.rd
  go_upto_region 12 with (first | (go_at_call 17;(with_reducible first | refine (cBal _).mono ?_ | refine (cSlot _).mono ?_ | refine (cHas _).mono ?_ | refine (cCmd _).mono ?_ | refine (cTxn _).mono ?_);rintro e wu ⟨rfl,rfl⟩) | (go_at_call 43;((with_reducible refine c_5.mono ?_);rintro e w5 ⟨z,rs,ws,st5,rfl,hr,ho,hX,hn,hR,hz⟩;have H5:=hid (K4.out.only hr ho);have R5:=hid hR;have y5_7:=H5.out.bx.cell 7 _ rfl;have f5_7:=H5.out.bx.frozen 7;have y5_8:=H5.out.bx.cell 8 _ rfl;have f5_8:=H5.out.bx.frozen 8;have y5_9:=H5.out.bx.cell 9 _ rfl;have f5_9:=H5.out.bx.frozen 9;have y5_10:=H5.out.bx.cell 10 _ rfl;have f5_10:=H5.out.bx.frozen 10;have y5_11:=H5.out.bx.cell 11 _ rfl;have f5_11:=H5.out.bx.frozen 11;have y5_12:=H5.out.bx.cell 12 _ rfl;have f5_12:=H5.out.bx.frozen 12;have y5_13:=H5.out.bx.cell 13 _ rfl;have f5_13:=H5.out.bx.frozen 13;have y5_14:=H5.out.bx.cell 14 _ rfl;have f5_14:=H5.out.bx.frozen 14;have y5_15:=H5.out.bx.cell 15 _ rfl;have f5_15:=H5.out.bx.frozen 15;have y5_16:=H5.out.bx.cell 16 _ rfl;have f5_16:=H5.out.bx.frozen 16;have M5 : Hid (MuX 46 w5 G (mgV (⟨k,r1,n1,((z2 : Nat) : Int),true,r4,n4,zeroM,0,0,none,0,0,none,0,0,0,0,0,0,false,0,⟨#[]⟩,0,0,0,⟨#[]⟩,0,none,0,0⟩ : MgM)) z.a z.n z.b z.m rs ws):=⟨H5.out.bx,mute_mg _ rfl rfl,hX.tx,fst_cm hR hz⟩;have F5:=hid (fst_cm hR hz);have S5:=hid hX.st;have L5:=hid hn;clear hX hn hz;clear hr ho hR)))
  have K5 : Hid (RfB w B g G R L st5 (mgV (⟨k,r1,n1,((z2 : Nat) : Int),true,r4,n4,z,0,0,none,0,0,none,0,0,0,0,0,0,false,0,⟨#[]⟩,0,0,0,⟨#[]⟩,0,none,0,0⟩ : MgM)) (((((((((((w5.setCell ⟨G,7,none⟩ (.int .i64 z.k)).setCell ⟨G,8,none⟩ (.int .i64 z.s)).setCell ⟨G,9,none⟩ (.int .i64 z.q)).setCell ⟨G,10,none⟩ (.slice z.a z.n z.c)).setCell ⟨G,11,none⟩ (.slice z.b z.m z.d)).setCell ⟨G,12,none⟩ (.int .i64 z.i)).setCell ⟨G,13,none⟩ (.int .i64 z.j)).setCell ⟨G,14,none⟩ (.int .i64 z.g)).setCell ⟨G,15,none⟩ (.int .u64 ((z.st : Nat) : Int))).setCell ⟨G,16,none⟩ (.bool z.y)))):=(((((((((((H5.out.set 7 (.int .i64 z.k)).set 8 (.int .i64 z.s)).set 9 (.int .i64 z.q)).set 10 (.slice z.a z.n z.c)).set 11 (.slice z.b z.m z.d)).set 12 (.int .i64 z.i)).set 13 (.int .i64 z.j)).set 14 (.int .i64 z.g)).set 15 (.int .u64 ((z.st : Nat) : Int))).set 16 (.bool z.y))).eq (by apply Array.ext';simp only [Array.toList_setIfInBounds];rfl)
  have T5:=hid (((((((((((M5.out.set 7 (.int .i64 z.k) (by simp)).set 8 (.int .i64 z.s) (by simp)).set 9 (.int .i64 z.q) (by simp)).set 10 (.slice z.a z.n z.c) (by simp)).set 11 (.slice z.b z.m z.d) (by simp)).set 12 (.int .i64 z.i) (by simp)).set 13 (.int .i64 z.j) (by simp)).set 14 (.int .i64 z.g) (by simp)).set 15 (.int .u64 ((z.st : Nat) : Int)) (by simp)).set 16 (.bool z.y) (by simp))).tx
  clear H5 K4 c_5 yh M5 y5_7 f5_7 y5_8 f5_8 y5_9 f5_9 y5_10 f5_10 y5_11 f5_11 y5_12 f5_12 y5_13 f5_13 y5_14 f5_14 y5_15 f5_15 y5_16 f5_16
  generalize ((((((((((w5.setCell ⟨G,7,none⟩ (.int .i64 z.k)).setCell ⟨G,8,none⟩ (.int .i64 z.s)).setCell ⟨G,9,none⟩ (.int .i64 z.q)).setCell ⟨G,10,none⟩ (.slice z.a z.n z.c)).setCell ⟨G,11,none⟩ (.slice z.b z.m z.d)).setCell ⟨G,12,none⟩ (.int .i64 z.i)).setCell ⟨G,13,none⟩ (.int .i64 z.j)).setCell ⟨G,14,none⟩ (.int .i64 z.g)).setCell ⟨G,15,none⟩ (.int .u64 ((z.st : Nat) : Int))).setCell ⟨G,16,none⟩ (.bool z.y)) = V5 at *
  have lG:=K5.out.bx.ldD
  have yh:=K5.out.bx.cell 4 _ rfl
  go_wp2_with (first | (go_at_call 17;(with_reducible first | refine (cBal _).mono ?_ | refine (cSlot _).mono ?_ | refine (cHas _).mono ?_ | refine (cCmd _).mono ?_ | refine (cTxn _).mono ?_);rintro e wu ⟨rfl,rfl⟩) | (refine wpList_store_doc rfl _ _ rfl R (⟨k,r1,n1,((z2 : Nat) : Int),true,r4,n4,z,0,0,none,0,0,none,0,0,0,0,0,0,false,0,⟨#[]⟩,0,0,0,⟨#[]⟩,0,none,0,0⟩ : MgM) rfl rfl (zeroG 0) K5.out.rx ?_))
  have hA : MgAt V5 (⟨k,r1,n1,((z2 : Nat) : Int),true,r4,n4,z,0,0,none,0,0,none,0,0,0,0,0,0,false,0,⟨#[]⟩,0,0,0,⟨#[]⟩,0,none,0,0⟩ : MgM) ⟨rs,ws,[],[],[]⟩:=⟨⟨T5.out,S5.out⟩,TxAt.nil,BAt.nil,⟨B1.out,B4.out,(by show 0 < 18446744073709551616;decide),(by show 0 < 18446744073709551616;decide),(by show 0 < 18446744073709551616;decide),(Nat.zero_le _),(Nat.zero_le _)⟩⟩
  have onF:=only_fill V5 R (mgV (⟨k,r1,n1,((z2 : Nat) : Int),true,r4,n4,z,0,0,none,0,0,none,0,0,0,0,0,0,false,0,⟨#[]⟩,0,0,0,⟨#[]⟩,0,none,0,0⟩ : MgM))
  have hres : Res (fldsD [98,115,104] (zM k)) st (mgT (⟨k,r1,n1,((z2 : Nat) : Int),true,r4,n4,z,0,0,none,0,0,none,0,0,0,0,0,0,false,0,⟨#[]⟩,0,0,0,⟨#[]⟩,0,none,0,0⟩ : MgM) ⟨rs,ws,[],[],[]⟩) st5:=Res.bind (x:=mgT (⟨k,r1,n1,0,false,0,0,zeroM,0,0,none,0,0,none,0,0,0,0,0,0,false,0,⟨#[]⟩,0,0,0,⟨#[]⟩,0,none,0,0⟩ : MgM) noL) (Res.bind (x:=((((r1 : Nat) : Int),n1) : Bal)) R1.out (Res.pure _ _)) (Res.bind (x:=mgT (⟨k,r1,n1,((z2 : Nat) : Int),false,0,0,zeroM,0,0,none,0,0,none,0,0,0,0,0,0,false,0,⟨#[]⟩,0,0,0,⟨#[]⟩,0,none,0,0⟩ : MgM) noL) (Res.bind (x:=((z2 : Nat) : Int)) (res_numI R2.out) (Res.pure _ _)) (Res.bind (x:=mgT (⟨k,r1,n1,((z2 : Nat) : Int),true,r4,n4,z,0,0,none,0,0,none,0,0,0,0,0,0,false,0,⟨#[]⟩,0,0,0,⟨#[]⟩,0,none,0,0⟩ : MgM) ⟨rs,ws,[],[],[]⟩) (Res.bind (x:=z3) R3.out (by rw [if_pos e1,decide_eq_true e1];exact Res.bind (x:=((((r4 : Nat) : Int),n4) : Bal)) R4.out (Res.bind (x:=cmT z rs ws) R5.out (Res.pure _ _)))) (Res.pure _ _)))
  exact bodyPost_ret (v:=.agg (mgV (⟨k,r1,n1,((z2 : Nat) : Int),true,r4,n4,z,0,0,none,0,0,none,0,0,0,0,0,0,false,0,⟨#[]⟩,0,0,0,⟨#[]⟩,0,none,0,0⟩ : MgM))) (results_mg1 Tryz.results16 _ _ R (⟨k,r1,n1,((z2 : Nat) : Int),true,r4,n4,z,0,0,none,0,0,none,0,0,0,0,0,0,false,0,⟨#[]⟩,0,0,0,⟨#[]⟩,0,none,0,0⟩ : MgM) rfl (K5.out.rx.fill _)) rfl ⟨(⟨k,r1,n1,((z2 : Nat) : Int),true,r4,n4,z,0,0,none,0,0,none,0,0,0,0,0,0,false,0,⟨#[]⟩,0,0,0,⟨#[]⟩,0,none,0,0⟩ : MgM),⟨rs,ws,[],[],[]⟩,st5,rfl,Keep.keep (g:=g) V5 _ K5.out.rd fun b hb=>onF.block b (by have:=K5.out.onl.size;omega) (fun e=>by injection e with e;have:=GE.out;have:=RE.out;omega),by
   have h1:=K5.out.onl
   refine ⟨onF.os.trans h1.os,onF.tape.trans h1.tape,onF.output.trans h1.output,Nat.le_trans h1.size onF.size,fun b hb hne=>(onF.block b (Nat.lt_of_lt_of_le hb h1.size) (fun e=>by injection e with e;have:=GE.out;have:=RE.out;omega)).trans (h1.block b hb hne)⟩,⟨hA.fill2 K5.out.rx F5.out fst_nil,⟨Nat.le_trans L5.out.1 (by omega),Nat.le_trans L5.out.2 (by omega),Nat.zero_le _,Nat.zero_le _,Nat.zero_le _⟩,F5.out,fst_nil,rfl,rfl,rfl,hres,fun h=>absurd (h 104 (by simp)) (fun hn=>hn (by unfold IsList;simp)),fun h=>by cases h⟩⟩
 ·have e2 : (((z3 : Nat) : Int) == 1) = false:=by simp;omega
  rw [e2] at K3
  clear e2
  have lG:=K3.out.bx.ldD
  have yh:=K3.out.bx.cell 4 _ rfl
  go_wp2_with (first | (go_at_call 17;(with_reducible first | refine (cBal _).mono ?_ | refine (cSlot _).mono ?_ | refine (cHas _).mono ?_ | refine (cCmd _).mono ?_ | refine (cTxn _).mono ?_);rintro e wu ⟨rfl,rfl⟩) | (refine wpList_store_doc rfl _ _ rfl R (⟨k,r1,n1,((z2 : Nat) : Int),false,0,0,zeroM,0,0,none,0,0,none,0,0,0,0,0,0,false,0,⟨#[]⟩,0,0,0,⟨#[]⟩,0,none,0,0⟩ : MgM) rfl rfl (zeroG 0) K3.out.rx ?_))
  have hB : Bare (⟨k,r1,n1,((z2 : Nat) : Int),false,0,0,zeroM,0,0,none,0,0,none,0,0,0,0,0,0,false,0,⟨#[]⟩,0,0,0,⟨#[]⟩,0,none,0,0⟩ : MgM):=⟨rfl,⟨rfl,rfl,rfl,rfl⟩,rfl⟩
  have hA : MgAt V3 (⟨k,r1,n1,((z2 : Nat) : Int),false,0,0,zeroM,0,0,none,0,0,none,0,0,0,0,0,0,false,0,⟨#[]⟩,0,0,0,⟨#[]⟩,0,none,0,0⟩ : MgM) noL:=(Bare.at_ hB ⟨B1.out,(by show 0 < 4294967296;decide),(by show 0 < 18446744073709551616;decide),(by show 0 < 18446744073709551616;decide),(by show 0 < 18446744073709551616;decide),(Nat.zero_le _),(Nat.zero_le _)⟩)
  have onF:=only_fill V3 R (mgV (⟨k,r1,n1,((z2 : Nat) : Int),false,0,0,zeroM,0,0,none,0,0,none,0,0,0,0,0,0,false,0,⟨#[]⟩,0,0,0,⟨#[]⟩,0,none,0,0⟩ : MgM))
  have hres : Res (fldsD [98,115,104] (zM k)) st (mgT (⟨k,r1,n1,((z2 : Nat) : Int),false,0,0,zeroM,0,0,none,0,0,none,0,0,0,0,0,0,false,0,⟨#[]⟩,0,0,0,⟨#[]⟩,0,none,0,0⟩ : MgM) noL) st3:=Res.bind (x:=mgT (⟨k,r1,n1,0,false,0,0,zeroM,0,0,none,0,0,none,0,0,0,0,0,0,false,0,⟨#[]⟩,0,0,0,⟨#[]⟩,0,none,0,0⟩ : MgM) noL) (Res.bind (x:=((((r1 : Nat) : Int),n1) : Bal)) R1.out (Res.pure _ _)) (Res.bind (x:=mgT (⟨k,r1,n1,((z2 : Nat) : Int),false,0,0,zeroM,0,0,none,0,0,none,0,0,0,0,0,0,false,0,⟨#[]⟩,0,0,0,⟨#[]⟩,0,none,0,0⟩ : MgM) noL) (Res.bind (x:=((z2 : Nat) : Int)) (res_numI R2.out) (Res.pure _ _)) (Res.bind (x:=mgT (⟨k,r1,n1,((z2 : Nat) : Int),false,0,0,zeroM,0,0,none,0,0,none,0,0,0,0,0,0,false,0,⟨#[]⟩,0,0,0,⟨#[]⟩,0,none,0,0⟩ : MgM) noL) (Res.bind (x:=z3) R3.out (by rw [if_neg e1,decide_eq_false e1];exact Res.pure _ _)) (Res.pure _ _)))
  exact bodyPost_ret (v:=.agg (mgV (⟨k,r1,n1,((z2 : Nat) : Int),false,0,0,zeroM,0,0,none,0,0,none,0,0,0,0,0,0,false,0,⟨#[]⟩,0,0,0,⟨#[]⟩,0,none,0,0⟩ : MgM))) (results_mg1 Tryz.results16 _ _ R (⟨k,r1,n1,((z2 : Nat) : Int),false,0,0,zeroM,0,0,none,0,0,none,0,0,0,0,0,0,false,0,⟨#[]⟩,0,0,0,⟨#[]⟩,0,none,0,0⟩ : MgM) rfl (K3.out.rx.fill _)) rfl ⟨(⟨k,r1,n1,((z2 : Nat) : Int),false,0,0,zeroM,0,0,none,0,0,none,0,0,0,0,0,0,false,0,⟨#[]⟩,0,0,0,⟨#[]⟩,0,none,0,0⟩ : MgM),noL,st3,rfl,Keep.keep (g:=g) V3 _ K3.out.rd fun b hb=>onF.block b (by have:=K3.out.onl.size;omega) (fun e=>by injection e with e;have:=GE.out;have:=RE.out;omega),by
   have h1:=K3.out.onl
   refine ⟨onF.os.trans h1.os,onF.tape.trans h1.tape,onF.output.trans h1.output,Nat.le_trans h1.size onF.size,fun b hb hne=>(onF.block b (Nat.lt_of_lt_of_le hb h1.size) (fun e=>by injection e with e;have:=GE.out;have:=RE.out;omega)).trans (h1.block b hb hne)⟩,⟨hA.fill2 K3.out.rx fst_nil fst_nil,hB.f,fst_nil,fst_nil,rfl,rfl,rfl,hres,fun _=>⟨hB,rfl⟩,fun h=>by cases h⟩⟩
end
end Go.Proofs.YtigimmbdlhginaaGreatDoor
