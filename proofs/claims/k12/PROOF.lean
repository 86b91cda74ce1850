import PyProof.Rows.All
import Wide.All
import OpenK.AllK
import Wide.FinOn
import HandS.ForDict
import KE.RegKIsAll
import KE.KStateDown
import HandS.ForMost
import HandS.Wide
import HandS.WideBits
import HandS.Gcd
import HandS.Defaults
import HandS.Property
import HandS.OwnEq
import HandS.IsInst
import HandS.FStr
import HandS.StrMore
import HandS.RaiseMore
import HandS.EndBits
import HandS.MakeKw
import HandS.ClsMeth
import PyProof.ReprNest
import PyProof.ReprHeads
import PyProof.ReprHeadsEmpty
import PyProof.ReprHeadsTuple
import KE.KFmtOwn
import KE.KCallOwn
import KE.KIsAll
import HandS.SlotsOwn
import PyProof.InstEq
import PyProof.InstNe
import HandS.MakeKwOnly
import PySem.Challenge.RW_movecells_k12_ratios_compared_and_read
set_option Elab.async false
section
open PySem PySem.W PyProof.Rows
set_option maxRecDepth 100000 in
set_option maxHeartbeats 0 in
open_top head for PySem.Challenge.rw_movecells_k12_ratios_compared_and_read
end
set_option Elab.async false
set_option linter.all false
set_option maxRecDepth 100000
set_option maxHeartbeats 4000000
/-! a layer of my own over HandS: frames, deep data, pots -/
namespace Mc
open PySem PySem.Spec PyProof.Rows L2

/-! ### frames -/
/-- what was tracked is as it was, but at M -/
def Frm (M : List Addr) (H H' : Hp) : Prop := ∀ a o, H a = some o → a ∉ M → H' a = some o
theorem Frm.refl (M : List Addr) (H : Hp) : Frm M H H := fun _ _ h _ => h
theorem Frm.trans {M : List Addr} {H H1 H2 : Hp} (a : Frm M H H1) (b : Frm M H1 H2) : Frm M H H2 := fun x o h n => b x o (a x o h n) n
theorem Frm.more {M M' : List Addr} {H H1 : Hp} (a : Frm M H H1) (s : ∀ x ∈ M, x ∈ M') : Frm M' H H1 := fun x o h n => a x o h fun z => n (s x z)
theorem Frm.new {M : List Addr} {H : Hp} {p : Addr} {o : HO} (h : H p = none) : Frm M H (upd H p o) := fun a u e _ => by
  rw [upd_ne (ne_of_none e h)]
  exact e
theorem Frm.put {M : List Addr} {H : Hp} {p : Addr} {o : HO} (h : p ∈ M) : Frm M H (upd H p o) := fun a u e n => by
  have : a ≠ p := fun z => n (z ▸ h)
  rw [upd_ne this]
  exact e
theorem Frm.ext {M : List Addr} {H H1 : Hp} (e : Ext H H1) : Frm M H H1 := fun a o h _ => e a o h
theorem Frm.free {M : List Addr} {H H' : Hp} (e : Frm M H H') {l : Addr} (h : H' l = none) (n : l ∉ M) : H l = none := by
  cases q : H l with
  | none => rfl
  | some o =>
    rw [e l o q n] at h
    cases h

/-! ### a pot: two numbers -/
def PotOk (a b : Int) : Prop := 0 ≤ a ∧ 0 ≤ b ∧ b < 2147483587
def Pot (H : Hp) (p : Addr) : Prop := ∃ a b : Int, H p = some (.lst [.int a, .int b]) ∧ PotOk a b
theorem Pot.frm {M : List Addr} {H H' : Hp} {p : Addr} (h : Pot H p) (f : Frm M H H') (n : p ∉ M) : Pot H' p := by
  obtain ⟨a, b, e, o⟩ := h
  exact ⟨a, b, f _ _ e n, o⟩
/-- divisors that go by the plain way, whatever is divided -/
theorem plain_div (i : Int) {j : Int} (h : 0 < j) (hb : j.natAbs.log2 < 9000) : CDivP i j := ⟨h, PyProof.noPylong_of_log2 hb⟩
theorem log2_lt {j : Int} {n : Nat} (h0 : 0 < n) (h : j.natAbs < 2 ^ n) : j.natAbs.log2 < n := PySem.Flt.log2_lt_of h0 h

theorem small_log {j : Int} {n : Nat} (h : j.natAbs < 2 ^ n) (h0 : 0 < n) (h1 : n ≤ 9000) : j.natAbs.log2 < 9000 := Nat.lt_of_lt_of_le (PySem.Flt.log2_lt_of h0 h) h1
theorem len_log {n : Nat} (h : n ≤ 1000) : ((n : Nat) : Int).natAbs.log2 < 9000 := small_log (n := 10) (by omega) (by decide) (by decide)
/-! ### a def of the module, with its promise -/
structure Gd (P : Program) (w : World) (K : PySem.W.Frag) (mg : Str → Option Value) (base : Heap) (x : Str) (k : Nat) (ps : List Str) (sp : Sp) (f : Addr) (fd : FuncData) : Prop where
  g : mg x = some (.ref f)
  kp : PySem.W.keepIn K (.ref f) = true
  b : Binds K fd ps []
  ok : FnOk P w K mg base CX0 k f fd ps sp
theorem Gd.mono {P : Program} {w : World} {K : PySem.W.Frag} {mg : Str → Option Value} {base : Heap} {x : Str} {k n : Nat} {ps : List Str} {sp : Sp} {f : Addr} {fd : FuncData} (D : Gd P w K mg base x k ps sp f fd) (h : k ≤ n) : Gd P w K mg base x n ps sp f fd := ⟨D.g, D.kp, D.b, D.ok.mono h⟩
section
variable {X : Cx} {x : Str} {k n : Nat} {ps : List Str} {sp : Sp} {f : Addr} {fd : FuncData} {p pos : Pos} {e : Expr} {es : List Expr} {t : TA}
theorem pe_gd (D : Gd X.prog X.w X.K X.mg X.base x k ps sp f fd) (hr : Room n X.A) (hk : k ≤ n) (hg : Gl X x) (ha : PA X (e :: es) t) (hdb : (x == ("__debug__" : Str)) = false := by decide) (he : starEach (e :: es) X.env = (false, eval e X.env) :: starEach es X.env := by rfl) (hpl : (backTo pos (starEach es X.env)).any (·.1) = false := by rfl) :
    PE X (.Call (.Name x p) (e :: es) [] pos) (tCall sp [] E0 t) := pe_call D.ok (hr.mono hk) hg D.g D.kp D.b .nil pass0 ha hdb he hpl
end

/-- the built-in names that the module leaves as they are -/
structure TB (mg : Str → Option Value) : Prop where
  len : mg "len" = none
  abs : mg "abs" = none
  max : mg "max" = none
  min : mg "min" = none
  int : mg "int" = none
  str : mg "str" = none
  bool : mg "bool" = none
  divmod : mg "divmod" = none
  range : mg "range" = none
  all : mg "all" = none
  any : mg "any" = none
  repr : mg "repr" = none
  isinstance : mg "isinstance" = none
  list : mg "list" = none
  tuple : mg "tuple" = none
  enumerate : mg "enumerate" = none
  zip : mg "zip" = none

/-- // by any divisor but 0 of at most some thousand digits -/
def CDivX (_ j : Int) : Prop := j ≠ 0 ∧ j.natAbs.log2 < 9000
section
variable {X : Cx}
theorem op_fdivX : OpR X (binaryOp .FloorDiv) (rI CDivX fun i j => .int (i.fdiv j)) := opI fun _ _ _ _ _ _ _ hc q => floordiv_int hc.1 q (.inl (PyProof.noPylong_of_log2 hc.2))
end
theorem mulW {i j : Int} {a b : Nat} (ha : i.natAbs < 2 ^ a) (hb : j.natAbs < 2 ^ b) (h0 : 0 < a := by decide) (h1 : 0 < b := by decide) (h : a + b ≤ 1000000 := by decide) : CMulW i j := wide_mul ha hb h0 h1 h

theorem pick_int {ns : List Int} {C : Int → Prop} (hC : ∀ n ∈ ns, C n) {i : Nat} {x : V} (h : (ns.map V.int)[i]? = some x) : ∃ n, x = .int n ∧ C n := by
  have hm := List.mem_of_getElem? h
  obtain ⟨n, hn, rfl⟩ := List.mem_map.mp hm
  exact ⟨n, rfl, hC n hn⟩
theorem Pot.ne {H : Hp} {p l : Addr} (h : Pot H p) (hl : H l = none) : l ≠ p := by
  obtain ⟨a, b, e, _⟩ := h
  exact fun z => by rw [z, e] at hl; cases hl
theorem Pot.new {H : Hp} {p l : Addr} {o : HO} (h : Pot H p) (hl : H l = none) : Pot (upd H l o) p := h.frm (M := []) (Frm.new hl) (fun z => nomatch z)
/-- a pot is no tuple -/
theorem Pot.ne_tup {H : Hp} {p t : Addr} {xs : List V} (h : Pot H p) (ht : H t = some (.tup xs)) : t ∉ [p] := by
  obtain ⟨a, b, e, _⟩ := h
  intro z
  rw [List.mem_singleton.mp z, e] at ht
  cases ht
theorem Frm.tup {H H' : Hp} {p t : Addr} {xs : List V} (f : Frm [p] H H') (h : Pot H p) (ht : H t = some (.tup xs)) : H' t = some (.tup xs) := f _ _ ht (h.ne_tup ht)
/-- plain steps of a reading -/
local macro_rules | `(tactic| walk_at "rd1") => `(tactic| first
  | with_reducible refine ⟨_, rfl, ?_⟩
  | refine ⟨_, rfl, ?_⟩)
end Mc

set_option Elab.async false
set_option linter.all false
set_option maxRecDepth 100000
set_option maxHeartbeats 4000000
namespace Mc
open PySem PySem.Spec PyProof.Rows L2
open PySem.Builtin PySem.Builtin.List

/-! ### repr of what holds objects of one's own -/
structure SubG (X : Cx) (n : Nat) (A : Around) (g : List Code) : Prop where
  room : Room n A
  fr : A.frames = X.A.frames
  gs : A.guards = some g
theorem SubG.mono {X : Cx} {n m : Nat} {A : Around} {g : List Code} (s : SubG X n A g) (h : m ≤ n) : SubG X m A g := ⟨s.room.mono h, s.fr, s.gs⟩
theorem depth_loop (A : Around) (args : Args) : (A.under (.builtin "list.__repr__.loop" args)).depth = A.depth + 1 := by
  simp [Around.under, Code.weight, Code.isCreation, Code.isGuard, Code.isCaller, Code.frames, Code.isFrame, guardIds]
theorem frames_loop (A : Around) (args : Args) : (A.under (.builtin "list.__repr__.loop" args)).frames = A.frames := by
  simp [Around.under, Code.envs, Code.isFrame, pushEnvs]
theorem SubG.loop {X : Cx} {n : Nat} {A : Around} {g : List Code} (s : SubG X (n + 1) A g) (args : Args) : SubG X n (A.under (.builtin "list.__repr__.loop" args)) (.builtin "list.__repr__.loop" args :: g) :=
  ⟨⟨s.room.hd, by have := s.room.dp; rw [depth_loop]; omega, by have := s.room.un; rw [units_under_list_loop]; omega⟩, (frames_loop A args).trans s.fr, guards_under_guard (isGuard_list_loop _) s.gs⟩

/-- repr of x is t, wherever H₀ stands -/
def RpG (X : Cx) (n : Nat) (as : List Addr) (x : V) (t : Str) (H0 : Hp) : Prop :=
  ∀ (A : Around) (g : List Code) (pins : List (Addr × Obj)) (s : Shared) (σ : L2.St) (H : Hp) (u : Value) (b : Nat), SubG X n A g → (∀ c ∈ as, Clear g c) → Inv X pins σ H s → Ext H0 H → RelV x u → b + t.length ≤ sizeLine →
    wpAny (model X.prog X.w) A (pyReprUnder b u) (fun r s' => r = t ∧ ∃ H', Inv X pins σ H' s' ∧ Ext H H') X.xe s
section
variable {X : Cx} {n m : Nat} {as as' : List Addr} {x : V} {t : Str} {H0 H1 : Hp}
theorem RpG.mono (h : RpG X n as x t H0) (hn : n ≤ m) (ha : ∀ c ∈ as, c ∈ as') (e : Ext H0 H1) : RpG X m as' x t H1 := fun A g pins s σ H u b sg hc I e' rx hb =>
  h A g pins s σ H u b (sg.mono hn) (fun c hm => hc c (ha c hm)) I (e.trans e') rx hb
theorem rpG_is (h : ∀ u, RelV x u → ReprIs X.prog X.w u t) : RpG X 0 [] x t H0 := fun A g pins s σ H u b sg hc I e rx hb =>
  h u rx b hb A X.xe s _ fun tk => ⟨rfl, H, I.tok _, Ext.rfl'⟩
theorem rpG_int {i : Int} (h : i.natAbs.log2 < 1920) : RpG X 0 [] (.int i) (toString i) H0 := rpG_is fun u ⟨t, e⟩ => by subst e; exact ReprIs.int t h
theorem rpG_bl {b : Bool} : RpG X 0 [] (.bl b) (if b then "True" else "False") H0 := rpG_is fun u e => by cases (show u = Value.bool b from e); exact ReprIs.bool b
theorem rpG_non : RpG X 0 [] .non "None" H0 := rpG_is fun u e => by cases (show u = Value.none from e); exact ReprIs.none
theorem rpG_str {y : Str} (h : (reprText y).length ≤ sizeLine) : RpG X 0 [] (.str y) (reprText y) H0 := rpG_is fun u ⟨t, e⟩ => by subst e; exact ReprIs.str y t h
end

/-- an untracked thing of ours has turned: the pin with it -/
theorem Inv.repin {X : Cx} {pins : List (Addr × Obj)} {σ : L2.St} {H : Hp} {s : Shared} {h' : Heap} {t' : Nat} {P : Addr} {o o' : Obj} (I : Inv X ((P, o) :: pins) σ H s) (hf : FpOk X pins H P) (k : ∀ b u, b ≠ P → s.heap.get? b = some u → h'.get? b = some u)
    (hn : h'.get? P = some o') (hc : ∀ v, o'.data ≠ .cell v) : Inv X ((P, o') :: pins) σ H { s with heap := h', toks := t' } := by
  have J : Inv X pins σ H s := ⟨I.ok, I.os, I.bare, I.base, I.loc, I.cell, I.free, I.freeC, fun p hp => I.pin p (by
    rcases List.mem_append.mp hp with z | z
    · exact List.mem_append.mpr (.inl z)
    · exact List.mem_append.mpr (.inr (List.mem_cons_of_mem _ z))), I.hok, I.len⟩
  have J2 := Inv.turned (h' := h') (t' := t') (it := P) J k hf.1 hf.2.1 hf.2.2.2.1 hf.2.2.2.2.1 hf.2.2.2.2.2
  refine ⟨J2.ok, J2.os, J2.bare, J2.base, J2.loc, J2.cell, J2.free, J2.freeC, fun p hp => ?_, J2.hok, J2.len⟩
  rcases List.mem_append.mp hp with z | z
  · exact J2.pin p (List.mem_append.mpr (.inl z))
  · rcases List.mem_cons.mp z with z | z
    · subst z
      exact ⟨hn, hf.1, hf.2.1, hf.2.2.1, hc⟩
    · exact J2.pin p (List.mem_append.mpr (.inr z))
theorem Inv.unpin {X : Cx} {pins : List (Addr × Obj)} {σ : L2.St} {H : Hp} {s : Shared} {p : Addr × Obj} (I : Inv X (p :: pins) σ H s) : Inv X pins σ H s :=
  ⟨I.ok, I.os, I.bare, I.base, I.loc, I.cell, I.free, I.freeC, fun q hq => I.pin q (by
    rcases List.mem_append.mp hq with z | z
    · exact List.mem_append.mpr (.inl z)
    · exact List.mem_append.mpr (.inr (List.mem_cons_of_mem _ z))), I.hok, I.len⟩

section
variable {X : Cx} {R : Result → Shared → Prop} {n : Nat} {as : List Addr} {a P : Addr} {xs : List V} {ts : List Str} {H0 H : Hp} {pins : List (Addr × Obj)} {σ : L2.St} {g : List Code} {A : Around} {b0 : Nat}
abbrev pileO (acc : Array Value) (c : Nat) : Obj := { cls := .type "list", dict := none, data := .seq acc c, slots := #[] }
theorem rp_loop (sg : SubG X (n + 1) A g) (hcl : ∀ c ∈ as, Clear g c) (hna : a ∉ as) (hl : SqL X.K H0 a xs) (hlen : ts.length = xs.length)
    (hT : ∀ (i : Nat) x, xs[i]? = some x → ∃ t, ts[i]? = some t ∧ RpG X n as x t H0) (hsz : b0 + (listText ts).length ≤ sizeLine)
    (hR : ∀ u s' H', Inv X pins σ H' s' → Ext H H' → R (.ok (.ret (.str (listText ts) u))) s') (hE : ∀ e s', X.xe e s' → R (.error e) s') (e0 : Ext H0 H) :
    ∀ (k i : Nat) (s : Shared) (acc : Array Value) (c : Nat) (done : List (Str × Tok)) (H1 : Hp), xs.length - i = k → i ≤ xs.length →
      Inv X ((P, pileO acc c) :: pins) σ H1 s → FpOk X pins H1 P → Ext H H1 → acc.toList = strValues done → done.map (·.1) = ts.take i →
      codeAny (model X.prog X.w) A (.builtin "list.__repr__.loop" ⟨[.ref a, rawInt i, .ref P, rawInt ((b0 + piled (ts.take i) : Nat) : Int)], []⟩) R s := by
  have hX : (listText ts).length = (textFrom 0 "[" ts).length + 1 := by
    show (textFrom 0 "[" ts ++ "]").length = _
    rw [strLen_append] <;> rfl
  have hL := textFrom_len ts 0 "["
  have hz1 : ts.length ≤ sizeLine := by
    have h1 := hL.1
    rw [if_neg (Nat.lt_irrefl 0)] at h1
    omega
  have hz2 : ∀ t ∈ ts, t.length ≤ sizeLine := fun t ht => by
    have h2 := hL.2.1 t ht
    omega
  have hz3 : (listText ts).length ≤ sizeLine := by omega
  have hp3 := piled_le_listText ts
  intro k
  induction k with
  | zero =>
    intro i s acc c done H1 hk hi I hf e1 hacc hdone
    have hin : i = xs.length := by omega
    obtain ⟨its, r, ⟨oa, na, ha, _, _, hda⟩, _⟩ := I.list (hl.ext (e0.trans e1))
    have hP := (I.pin (P, pileO acc c) (List.mem_append.mpr (.inr List.mem_cons_self))).1
    refine codeAny_builtin F.entry_list_repr_loop ?_
    show wpAny _ _ («list.__repr__.loop» ⟨[.ref a, .int i 0, .ref P, .int ((b0 + piled (ts.take i) : Nat) : Int) 0], []⟩) _ _ s
    rw [repr_loop_tree]
    refine wpAny_bind (wpAny_listItems ha hda ?_)
    have hnone : its.toArray[(i : Int).toNat]? = none := by
      have := r.length
      simp
      omega
    simp only [hnone]
    unfold reprEnd
    refine wpAny_bind (wpAny_listItems hP rfl ?_)
    rw [hacc, repr_fold]
    refine wpAny_bind (wpAny_pure ?_)
    have hall : done.map (·.1) = ts := by rw [hdone, hin, ← hlen, List.take_length]
    rw [hall]
    refine wpAny_bind (wpAny_mkStr (wpAny_pure ?_) hz3)
    exact hR _ _ H1 ((Inv.unpin I).tok _) e1
  | succ k ih =>
    intro i s acc c done H1 hk hi I hf e1 hacc hdone
    have hlt : i < xs.length := by omega
    obtain ⟨its, r, ⟨oa, na, ha, _, _, hda⟩, _⟩ := I.list (hl.ext (e0.trans e1))
    have hP := (I.pin (P, pileO acc c) (List.mem_append.mpr (.inr List.mem_cons_self))).1
    obtain ⟨u, hu, ru⟩ := r.get (List.getElem?_eq_getElem hlt)
    obtain ⟨t, ht, hrep⟩ := hT i xs[i] (List.getElem?_eq_getElem hlt)
    have hp1 := piled_take_succ ht
    have hp2 := piled_take_le ts (i + 1)
    refine codeAny_builtin F.entry_list_repr_loop ?_
    show wpAny _ _ («list.__repr__.loop» ⟨[.ref a, .int i 0, .ref P, .int ((b0 + piled (ts.take i) : Nat) : Int) 0], []⟩) _ _ s
    rw [repr_loop_tree]
    refine wpAny_bind (wpAny_listItems ha hda ?_)
    have hsome : its.toArray[(i : Int).toNat]? = some u := by simpa using hu
    simp only [hsome]
    rw [Int.toNat_natCast]
    refine wpAny_bind (wpAny_holding (wpAny_mono (hrep _ _ _ s σ H1 u (b0 + piled (ts.take i) + 1) (sg.loop _) (fun z hz => (hcl z hz).cons (a := a) fun q => hna (q ▸ hz)) I (e0.trans e1) ru (by omega)) (fun q s' hq => ?_) fun e s' z => hE e s' z))
    obtain ⟨rfl, H2, I2, e2⟩ := hq
    have hP2 := (I2.pin (P, pileO acc c) (List.mem_append.mpr (.inr List.mem_cons_self))).1
    have hn2 := (I2.pin (P, pileO acc c) (List.mem_append.mpr (.inr List.mem_cons_self))).2.1
    refine wpAny_bind (wpAny_mkStr ?_ (hz2 _ (List.mem_of_getElem? ht)))
    refine wpAny_bind ?_
    show wpAny _ _ (updateSeq P _) _ _ _
    have hasz : acc.size ≤ sizeLine := by
      have a1 : acc.toList.length = acc.size := by simp
      have a2 : (strValues done).length = done.length := by simp [strValues]
      have a3 : done.length = (ts.take i).length := by rw [← hdone, List.length_map]
      have a4 : (ts.take i).length ≤ i := by rw [List.length_take]; omega
      rw [hacc] at a1
      omega
    refine wpAny_updateSeq hP2 rfl (wpAny_pure ⟨F.quiet_list_repr_loop _, ?_⟩) hasz
    have b1 : ((i : Int) + 1) = ((i + 1 : Nat) : Int) := by omega
    have b2 : b0 + piled (ts.take i) + (q.length + 2) = b0 + piled (ts.take (i + 1)) := by omega
    rw [b1, b2]
    have hf2 : FpOk X pins H2 P := ⟨hn2, hf.2⟩
    refine ih (i + 1) _ (acc.push (.str q s'.toks)) _ (done ++ [(q, s'.toks)]) H2 (by omega) hlt (Inv.repin (o' := pileO (acc.push (.str q s'.toks)) _) (I2.tok _) hf2 (fun b o hb e => (Heap.get?_update_other _ _ (fun h : P = b => hb h.symm)).trans e) (Heap.get?_update_self _ hP2 rfl) (fun v z => by cases z)) hf2 (e1.trans e2) (by simp [hacc, strValues]) (by simp [List.take_add_one, ht, hdone])

theorem Inv.addpin {s : Shared} {o : Obj} (I : Inv X pins σ H s) (hg : s.heap.get? P = some o) (hf : FpOk X pins H P) (hc : ∀ v, o.data ≠ .cell v) : Inv X ((P, o) :: pins) σ H s :=
  ⟨I.ok, I.os, I.bare, I.base, I.loc, I.cell, I.free, I.freeC, fun p hp => by
    rcases List.mem_append.mp hp with z | z
    · exact I.pin p (List.mem_append.mpr (.inl z))
    · rcases List.mem_cons.mp z with z | z
      · subst z
        exact ⟨hg, hf.1, hf.2.1, hf.2.2.1, hc⟩
      · exact I.pin p (List.mem_append.mpr (.inr z)), I.hok, I.len⟩
theorem rp_listAt {s : Shared} (sg : SubG X (n + 1) A g) (hcl : ∀ c ∈ a :: as, Clear g c) (hna : a ∉ as) (hl : SqL X.K H0 a xs) (hx : xs ≠ []) (hlen : ts.length = xs.length)
    (hT : ∀ (i : Nat) x, xs[i]? = some x → ∃ t, ts[i]? = some t ∧ RpG X n as x t H0) (hsz : b0 + (listText ts).length ≤ sizeLine)
    (hR : ∀ u s' H', Inv X pins σ H' s' → Ext H H' → R (.ok (.ret (.str (listText ts) u))) s') (hE : ∀ e s', X.xe e s' → R (.error e) s') (e0 : Ext H0 H) (I : Inv X pins σ H s) :
    wpAny (model X.prog X.w) A.in1 (Builtin.listReprAt b0 ⟨[.ref a], []⟩) (fun fin s' => match fin with | .done f => R (.ok f) s' | .again c' => c'.quiet = true ∧ codeAny (model X.prog X.w) A c' R s') (fun e s' => R (.error e) s') s := by
  have hca : Clear g a := hcl a (.head _)
  obtain ⟨its, r, ⟨oa, na, ha, hc, hd, hda⟩, _⟩ := I.list (hl.ext e0)
  have hP : s.heap.objs.size ≤ s.heap.objs.size := Nat.le_refl _
  cases its with
  | nil =>
    cases r
    exact absurd rfl hx
  | cons y l =>
    refine wpAny_list_repr_head (A := A.in1) sg.gs (fun v rest kw hm => listSameRef_of_ne (hca _ _ _ _ hm)) ha hda ?_
    refine wpAny_bind (m := newList []) (wpAny_newObj_type ?_)
    refine wpAny_pure ⟨F.quiet_list_repr_loop _, ?_⟩
    have hn : H s.heap.objs.size = none := I.hok.fresh hP
    have hf : FpOk X pins H s.heap.objs.size := I.fpOk hP hn
    have I1 := I.kept (h' := s.heap.push { cls := .type "list", data := .seq #[] }) (t' := s.toks) fun b o e => Heap.get?_push_of_some _ e
    have I2 := Inv.addpin (P := s.heap.objs.size) I1 (Heap.get?_push_size _ rfl) hf (fun v z => by cases z)
    exact rp_loop sg (fun z hz => hcl z (.tail _ hz)) hna hl hlen hT hsz hR hE e0 _ 0 _ #[] _ [] H rfl (Nat.zero_le _) I2 hf Ext.rfl' rfl (by simp)
theorem rpG_list (hna : a ∉ as) (hl : SqL X.K H0 a xs) (hlen : ts.length = xs.length) (hT : ∀ (i : Nat) x, xs[i]? = some x → ∃ t, ts[i]? = some t ∧ RpG X n as x t H0) : RpG X (n + 1) (a :: as) (.ref a) (listText ts) H0 := by
  intro A g pins s σ H u b sg hcl I e0 rx hb
  cases (show u = Value.ref a from rx)
  obtain ⟨its, r, ⟨oa, na, ha, hc, hd, hda⟩, _⟩ := I.list (hl.ext e0)
  have hTy : s.TypeIs (.ref a) "list" := ⟨oa, ha, hc⟩
  refine wpAny_pyReprUnder_ref (by omega) ?_
  by_cases hx : xs = []
  · subst hx
    cases r
    have ht : ts = [] := List.length_eq_zero_iff.mp hlen
    subst ht
    exact wpAny_pyReprObjUnder_list_empty hTy sg.room.units0 ha hda ⟨_, _, rfl, rfl, H, I.tok _, Ext.rfl'⟩
  · refine wpAny_pyReprObjUnder_twin (twin := "list.__repr__.under") hTy F.slot_list_repr.toG rfl sg.room.units0 ?_
    exact call_twin_plain F.plain_list_repr_under F.entry_list_repr_under F.check_list_repr_under hTy F.slot_list_repr.toG (F.args_list_repr_1 _)
      (rp_listAt (R := callEnd _ _) sg hcl hna hl hx hlen hT hb (fun u s' H' I' e' => ⟨⟨_, _, rfl⟩, _, _, rfl, rfl, H', I', e'⟩) (fun e s' z => z) e0 I)
end
end Mc

set_option Elab.async false
set_option linter.all false
set_option maxRecDepth 100000
set_option maxHeartbeats 4000000
namespace Mc
open PySem PySem.Spec PyProof.Rows L2

/-! ### defs that are called where no repr is under way -/
structure RoomG (k : Nat) (A : Around) : Prop where
  room : Room k A
  gs : A.guards = some []
theorem RoomG.mono {j k : Nat} {A : Around} (r : RoomG k A) (h : j ≤ k) : RoomG j A := ⟨r.room.mono h, r.gs⟩
structure FnOkG (P : Program) (w : World) (K : PySem.W.Frag) (mg : Str → Option Value) (base : Heap) (CX : CXT) (k : Nat) (f : Addr) (fd : FuncData) (ps : List Str) (sp : Sp) : Prop where
  len : ∀ vs H Q E, sp vs H Q E → vs.length = ps.length
  run : ∀ (B : Around) (ou : List Env) (s : Shared) (H : Hp) (ar : Args) (us : List Value) (vs : List V) (Q : VK) (E : XK),
    RoomG k B → Env0 P w K mg base B ou s H → BindsTo s fd ar (ps.zip us) → Vals vs us → sp vs H Q E → codeAny (model P w) B (.call (.ref f) ar) (CR CX ou P w H s Q E) s
section
variable {P : Program} {w : World} {K : PySem.W.Frag} {mg : Str → Option Value} {base : Heap} {CX : CXT} {j k : Nat} {f : Addr} {fd : FuncData} {ps : List Str} {sp : Sp}
theorem FnOkG.mono (F : FnOkG P w K mg base CX j f fd ps sp) (h : j ≤ k) : FnOkG P w K mg base CX k f fd ps sp :=
  ⟨F.len, fun B ou s H ar us vs Q E r => F.run B ou s H ar us vs Q E (r.mono h)⟩
theorem toG (F : FnOk P w K mg base CX k f fd ps sp) : FnOkG P w K mg base CX k f fd ps sp :=
  ⟨F.len, fun B ou s H ar us vs Q E r => F.run B ou s H ar us vs Q E r.room⟩
/-- the rule for such a def -/
theorem okG {x qual : Str} {pa : Arguments} {bd : List Stmt} {sc : Scope} {dvs : List V} {kws : List (Str × V)} {N : List Str} (F : FunD K x qual pa bd sc dvs kws f fd) (S : FnScope N ps sc) (len : ∀ vs H Q E, sp vs H Q E → vs.length = ps.length)
    (hb : ∀ (c : Value) (B : Around) (ou : List Env) (s : Shared) (H : Hp) (vs : List V) (Q : VK) (E : XK), RoomG k (B.deeper (envOfC qual sc s.heap.objs.size f c)) → sp vs H Q E →
      ∃ t, PSs (cxOf CX P w K mg base N qual sc f c B ou s H E).nox bd t ∧ t { nx := fun _ H' => Q .non H', rt := Q } (start N vs) H) : FnOkG P w K mg base CX (k + 1) f fd ps sp := by
  obtain ⟨oc, od, dV, kV, doc, pm, an, c, ct, osl, rfl, lk, hcd, _, _⟩ := F.ex
  refine ⟨len, fun B ou s H ar us vs Q E hr e0 hbi r hsp => ?_⟩
  have KX : K.In s.heap := e0.mod.kin.keeps fun b o e => (e0.bs b o e).1
  have lim := e0.mod.nolimit.keeps fun b o e => (e0.bs b o e).1
  have hk : ∀ y ∈ ps.zip us, sc.names.lookup y.1 = some .local ∨ (sc.names.lookup y.1 = some .cell ∧ ((cellsFrom (s.heap.objs.size + 1) sc.names []).lookup y.1).isSome = true) := by
    rintro ⟨n, v⟩ hy
    rcases S.par n (List.of_mem_zip hy).1 with z | z
    · exact .inl z
    · exact .inr ⟨z, PySem.W.cellsFrom_some _ _ _ (.inl z)⟩
  refine codeAny_call_function hr.room.depth (KX _ _ lk) rfl S.co S.gen rfl (PySem.W.codeRec_of KX hcd) (hbi _ _ _ _ ?_)
  refine wpAny_newFunctionEnv_cells S.kind hk fun env he s1 x => ?_
  subst he
  refine ⟨lim.keeps x.toInCall.keep, codeAny_func ?_⟩
  obtain ⟨t, ht, hq⟩ := hb c B ou s H vs Q E ⟨hr.room.deeper _, hr.gs⟩ hsp
  have I : Inv (cxOf CX P w K mg base N qual sc f c B ou s H E) [] (start N vs) H s1 := inv_start S hr.room.hd e0 (len _ _ _ _ hsp) r x
  refine wpAny_mono (ht.nox.run [] s1 (start N vs) H _ I hq) (fun fl s' hs => ?_) fun e s' z => z
  cases fl with
  | ret u =>
    obtain ⟨v, σ', H', J, rv, q⟩ := hs
    exact ⟨v, H', J.os, J.bare, J.base, J.hok, rv, q⟩
  | next =>
    obtain ⟨σ', H', J, q⟩ := hs
    exact ⟨V.non, H', J.os, J.bare, J.base, J.hok, rfl, q⟩
  | brk =>
    obtain ⟨_, _, _, z⟩ := hs
    exact z.elim
  | cont =>
    obtain ⟨_, _, _, z⟩ := hs
    exact z.elim
end

/-- a def of the module with its promise, for calls where no repr is under way -/
structure Gg (P : Program) (w : World) (K : PySem.W.Frag) (mg : Str → Option Value) (base : Heap) (x : Str) (k : Nat) (ps : List Str) (sp : Sp) (f : Addr) (fd : FuncData) : Prop where
  g : mg x = some (.ref f)
  kp : PySem.W.keepIn K (.ref f) = true
  b : Binds K fd ps []
  ok : FnOkG P w K mg base CX0 k f fd ps sp
theorem Gd.toG {P : Program} {w : World} {K : PySem.W.Frag} {mg : Str → Option Value} {base : Heap} {x : Str} {k : Nat} {ps : List Str} {sp : Sp} {f : Addr} {fd : FuncData} (D : Gd P w K mg base x k ps sp f fd) : Gg P w K mg base x k ps sp f fd := ⟨D.g, D.kp, D.b, Mc.toG D.ok⟩
section
variable {X : Cx} {x : Str} {k n : Nat} {ps : List Str} {sp : Sp} {f : Addr} {fd : FuncData} {p pos : Pos} {e : Expr} {es : List Expr} {t : TA}
theorem run_gg {pins : List (Addr × Obj)} {σ : L2.St} {H : Hp} {s : Shared} {Q : VK} {us : List Value} {vs : List V} (D : Gg X.prog X.w X.K X.mg X.base x k ps sp f fd) (hr : RoomG k X.A) (I : Inv X pins σ H s) (r : Vals vs us) (h : sp vs H Q E0) :
    wpAny (model X.prog X.w) X.A (call (.ref f) us) (EP X pins σ Q) X.xe s := by
  have hl : (us ++ []).length = ps.length := by rw [List.append_nil, ← r.length]; exact D.ok.len _ _ _ _ h
  have hb := D.b s us I.kIn hl
  rw [List.append_nil] at hb
  refine wpAny_call (codeAny_mono (D.ok.run X.A X.stack s H ⟨us, []⟩ us vs Q E0 hr I.env0 hb r h) fun r s' hq => ?_)
  cases r with
  | error e => exact hq.elim
  | ok fl =>
    cases fl with
    | ret u => exact I.after hq
    | next => exact hq.elim
    | brk => exact hq.elim
    | cont => exact hq.elim
theorem pe_gg (D : Gg X.prog X.w X.K X.mg X.base x k ps sp f fd) (hr : RoomG n X.A) (hk : k ≤ n) (hg : Gl X x) (ha : PA X (e :: es) t) (hdb : (x == ("__debug__" : Str)) = false := by decide)
    (he : starEach (e :: es) X.env = (false, eval e X.env) :: starEach es X.env := by rfl) (hpl : (backTo pos (starEach es X.env)).any (·.1) = false := by rfl) : PE X (.Call (.Name x p) (e :: es) [] pos) (tCall sp [] E0 t) := by
  refine ⟨fun pins s σ H Q I h => ?_⟩
  refine wpAny_Call_Name_kw (ld_glob I hg D.g ?_ hdb)
  refine PySem.W.callWith_K (h₀ := X.base) I.ok.mod.kin D.kp (thn (ha.run pos pins s σ H _ I h) fun us s1 ⟨vs, H1, I1, r, q⟩ => ⟨I1.kIn, ?_⟩) he hpl
  have q2 : sp (vs ++ []) H1 Q E0 := q
  rw [List.append_nil] at q2
  exact run_gg D (hr.mono hk) I1 r q2
end

/-! ### repr, called -/
def rRepr (X : Cx) (n : Nat) : List V → Hp → VK → Prop := fun vs H Q => ∃ (x : V) (as : List Addr) (t : Str), vs = [x] ∧ RpG X n as x t H ∧ t.length ≤ sizeLine ∧ ∀ H', Ext H H' → Q (.str t) H'
section
variable {X : Cx} {n : Nat}
/-- repr of a list -/
theorem call_reprL (hr : RoomG (n + 3) X.A) : CallR X (.builtin "repr") (fun vs H Q => ∃ (a : Addr) (xs : List V) (as : List Addr) (ts : List Str), vs = [.ref a] ∧ SqL X.K H a xs ∧ a ∉ as ∧ ts.length = xs.length ∧
    (∀ (i : Nat) x, xs[i]? = some x → ∃ t, ts[i]? = some t ∧ RpG X n as x t H) ∧ (listText ts).length ≤ sizeLine ∧ ∀ H', Ext H H' → Q (.str (listText ts)) H') := by
  intro pins s σ H vs us Q I r h
  obtain ⟨a, xs, as, ts, rfl, hl, hna, hlen, hT, hz, q⟩ := h
  obtain ⟨u, rfl, ru⟩ := vals1 r
  cases (show u = Value.ref a from ru)
  obtain ⟨its, rv, ⟨oa, na, ha, hc, hd, hda⟩, _⟩ := I.list hl
  have hTy : s.TypeIs (.ref a) "list" := ⟨oa, ha, hc⟩
  have hu : X.A.units + 1 < cLine := hr.room.in1.units0
  refine call_repr_slot hu hTy F.slot_list_repr.toG ?_
  have sg : SubG X (n + 1) X.A.in1 [] := ⟨(hr.room.mono (by omega)).in1, rfl, hr.gs⟩
  by_cases hx : xs = []
  · subst hx
    cases rv
    have ht : ts = [] := List.length_eq_zero_iff.mp hlen
    subst ht
    exact call_list_repr_empty hTy ha hda ⟨_, _, rfl, .str (listText []), H, I.tok _, ⟨_, rfl⟩, q H Ext.rfl'⟩
  · exact wpAny_call (codeAny_call_builtin F.slot_list_repr.plain F.entry_list_repr (F.slot_list_repr.check _ _ _ _ _ _ _ _ hTy (F.args_list_repr_1 _)
      (rp_listAt (b0 := 0) (R := callEnd _ _) sg (fun c _ => Clear.nil c) hna hl hx hlen hT (by omega) (fun u s' H' I' e' => ⟨_, _, rfl, .str (listText ts), H', I', ⟨_, rfl⟩, q H' e'⟩) (fun e s' z => z) Ext.rfl' I)))
end
end Mc

set_option Elab.async false
set_option linter.all false
set_option maxRecDepth 100000
set_option maxHeartbeats 4000000
namespace Mc
open PySem PySem.Spec PyProof.Rows L2
open PySem.Builtin

section
variable {prog : Program} {w : World} {A : Around} {E : Value → Shared → Prop} {s : Shared} {K : PySem.W.Frag} {x C f : Addr} {ox : Obj} {od : Option Obj} {b tb : Value}
/-- a special method that is a built-in's, found in the class -/
theorem ifBoundB {M : Model} {name : Str} {id : String} {args : List Value} {Q : Option Value → Shared → Prop} (X : K.In s.heap) (I : PySem.W.InstAt s.heap x ox C od) (hs : PySem.W.findIn K (.ref C) name = some (some (.builtin id)))
    (hb : ∀ v, bindSpecial (.builtin id) v = pure (.builtin id, [v])) (h : wpAny M A (call (.builtin id) (.ref x :: args)) (fun v => Q (some v)) E s) : wpAny M A (callSpecialIfBound? (.ref x) name args) Q E s := by
  simp only [callSpecialIfBound?, bindSpecialIfBound?]
  refine wpAny_holding (wpAny_bind (wpAny_bind (wpAny_bind (I.type.here ((PySem.W.looks_findIn X hs).here ?_)))))
  refine wpAny_bind (wpAny_askSetting (wpAny_ite ?_))
  have fin : wpAny M A (call (.builtin id) ([.ref x] ++ args) >>= fun v => pure (some v)) Q E s := wpAny_bind (wpAny_mono h (fun v s' z => wpAny_pure z) fun _ _ z => z)
  split
  · exact wpAny_bind ((PySem.W.Looks.of_pure (hb _)).here (wpAny_pure (by exact fin)))
  · exact wpAny_tryCatch (wpAny_bind ((PySem.W.Looks.of_pure (hb _)).here (wpAny_pure (by exact fin))))
/-- x != b, where the class has its own == and the built-in != -/
theorem ne_own {Q : Value → Shared → Prop} (hu : A.units + 1 < cLine) (X : K.In s.heap) (I : PySem.W.InstAt s.heap x ox C od) (hb : PySem.W.Looks (model prog w) s.heap (typeOf b) tb) (hn : PySem.W.notFirst K C tb = true)
    (hne : PySem.W.findIn K (.ref C) "__ne__" = some (some (.builtin "object.__ne__"))) (heq : PySem.W.findIn K (.ref C) "__eq__" = some (some (.ref f))) (hf : PySem.W.isFn K (.ref f) = true) (hm : PySem.W.mroIn K C (.type "object") = some true)
    (h : wpAny (model prog w) A.in1 (call (.ref f) [.ref x, b]) (fun v s' => ∃ c, v = .bool c ∧ Q (.bool (!c)) s') E s) : wpAny (model prog w) A (richCompare .NotEq (.ref x) b) Q E s := by
  have one : wpAny (model prog w) A (tryCompare (.ref x) "__ne__" b) (fun r s' => ∃ v, r = some v ∧ Q v s') E s := by
    unfold tryCompare
    refine wpAny_bind (ifBoundB X I hne F.cmp_object.ne.bind (wpAny_call (codeAny_call_builtin F.cmp_object.ne.plain F.cmpEntry_ne (PySem.W.check_slot F.cmpKind_ne F.cmpSplit_ne (I.type.andThen (PySem.W.looks_mroIn X hm)) (F.cmpArgs_ne _ _) ?_))))
    unfold Builtin.«object.__ne__»
    repeat (first
      | with_reducible refine wpAny_cRoomFor (show A.in1.units < cLine from hu) ?_
      | (refine wpAny_bind (m := callSpecialIfBound? (.ref x) (Str.ofString "__eq__") [b]) (PySem.W.ifBound_K X I heq hf (wpAny_mono h (fun r s' hr => by
          obtain ⟨c, rfl, hq⟩ := hr
          repeat (first | exact ⟨_, rfl, hq⟩ | exact wpAny_pure ⟨_, rfl, hq⟩ | (refine wpAny_bind (m := truthy (.bool _)) (wpAny_truthy_bool ?_)) | wp_step)) fun _ _ e => e)))
      | wp_step)
  unfold richCompare
  simp only [oneThing_ref]
  refine wpAny_holding (wpAny_bind (wpAny_cRoomFor (Nat.lt_of_succ_lt hu) ?_))
  refine wpAny_bind (I.type.here (wpAny_bind (hb.here ?_)))
  split
  · rename_i q
    have e : PySem.W.subIn K tb (.ref C) = some false := by
      rcases Bool.or_eq_true_iff.mp hn with e | e
      · rw [beq_iff_eq.mp e] at q; simp at q
      · exact beq_iff_eq.mp e
    refine wpAny_bind ((PySem.W.looks_subIn X e).here ?_)
    simp only [Bool.false_eq_true, if_false]
    refine wpAny_bind (wpAny_mono one (fun r s' z => ?_) fun _ _ z => z)
    obtain ⟨v, rfl, hq⟩ := z
    exact wpAny_pure hq
  · refine wpAny_bind (wpAny_pure ?_)
    simp only [Bool.false_eq_true, if_false]
    refine wpAny_bind (wpAny_mono one (fun r s' z => ?_) fun _ _ z => z)
    obtain ⟨v, rfl, hq⟩ := z
    exact wpAny_pure hq
end

/-! ### == and != of instances with an own == -/
section
variable {X : Cx} {C f : Addr} {k : Nat} {fd : FuncData} {ps : List Str} {sp : Sp}
theorem run_own {A : Around} {pins : List (Addr × Obj)} {σ : L2.St} {H : Hp} {s : Shared} {Q : VK} {us : List Value} {vs : List V} (F : FnOk X.prog X.w X.K X.mg X.base CX0 k f fd ps sp) (hb : Binds X.K fd ps []) (hr : Room k A) (hf : A.frames = X.A.frames)
    (I : Inv X pins σ H s) (r : Vals vs us) (h : sp vs H Q E0) : wpAny (model X.prog X.w) A (call (.ref f) us) (EP X pins σ Q) X.xe s := by
  have hl : (us ++ []).length = ps.length := by rw [List.append_nil, ← r.length]; exact F.len _ _ _ _ h
  have hbi := hb s us I.kIn hl
  rw [List.append_nil] at hbi
  have e := I.env0
  have e0 : Env0 X.prog X.w X.K X.mg X.base A X.stack s H := ⟨by rw [hf]; exact e.frames, e.mod, e.bs, e.bsz, e.funs, e.frf, e.hok, e.bare⟩
  refine wpAny_call (codeAny_mono (F.run A X.stack s H ⟨us, []⟩ us vs Q E0 hr e0 hbi r h) fun r s' hq => ?_)
  cases r with
  | error e => exact hq.elim
  | ok fl =>
    cases fl with
    | ret u => exact I.after hq
    | next => exact hq.elim
    | brk => exact hq.elim
    | cont => exact hq.elim
/-- the other one's type -/
def rOwnC (K : PySem.W.Frag) (C : Addr) (sp : Sp) (ng : Bool) : R2 := fun x y H Q => ∃ a dx fs t, x = .ref a ∧ H a = some (.ins C dx fs) ∧ TyX K H y t ∧ PySem.W.notFirst K C t = true ∧ sp [x, y] H (fun v H' => ∃ c, v = .bl c ∧ Q (.bl (if ng then !c else c)) H') E0
theorem op_eqO (m : Meth X.K C "__eq__" f) (F : FnOk X.prog X.w X.K X.mg X.base CX0 k f fd ps sp) (hb : Binds X.K fd ps []) (hr : Room k X.A) : OpR X (compareOp .Eq) (rOwnC X.K C sp false) := by
  intro pins s σ H x y v u Q I rx ry h
  obtain ⟨a, dx, fs, t, rfl, ha, ty, hn, q⟩ := h
  cases (show v = Value.ref a from rx)
  obtain ⟨mA, J, _⟩ := ins_get I.hok ha
  obtain ⟨od, J, _⟩ := J.look
  obtain ⟨Pr, kx, hP, _⟩ := kit_of I ry ty
  obtain ⟨mm, hF⟩ := I.fr
  show wpAny (model X.prog X.w) X.A (richCompare .Eq (.ref a) u) (EP X pins σ Q) X.xe s
  refine PySem.W.cmp_K (op := .Eq) hr.units0 hF I.ok.mod.kin J (kx.ty _ _ I.kIn hP) hn m.at_ m.fn ?_
  refine wpAny_mono (run_own (vs := [V.ref a, y]) (us := [Value.ref a, u]) F hb hr rfl I (.cons rfl (.cons ry .nil)) q) (fun z s' hz => ?_) fun _ _ z => z
  obtain ⟨v', H', I', r', c, rfl, q'⟩ := hz
  cases (show z = Value.bool c from r')
  exact ⟨.bl c, H', I', rfl, q'⟩
theorem op_neO (m : Meth X.K C "__eq__" f) (hne : PySem.W.findIn X.K (.ref C) "__ne__" = some (some (.builtin "object.__ne__"))) (hm : PySem.W.mroIn X.K C (.type "object") = some true) (F : FnOk X.prog X.w X.K X.mg X.base CX0 k f fd ps sp) (hb : Binds X.K fd ps []) (hr : Room (k + 1) X.A) :
    OpR X (compareOp .NotEq) (rOwnC X.K C sp true) := by
  intro pins s σ H x y v u Q I rx ry h
  obtain ⟨a, dx, fs, t, rfl, ha, ty, hn, q⟩ := h
  cases (show v = Value.ref a from rx)
  obtain ⟨mA, J, _⟩ := ins_get I.hok ha
  obtain ⟨od, J, _⟩ := J.look
  obtain ⟨Pr, kx, hP, _⟩ := kit_of I ry ty
  show wpAny (model X.prog X.w) X.A (richCompare .NotEq (.ref a) u) (EP X pins σ Q) X.xe s
  refine ne_own hr.in1.units0 I.kIn J (kx.ty _ _ I.kIn hP) hn hne m.at_ m.fn hm ?_
  refine wpAny_mono (run_own (vs := [V.ref a, y]) (us := [Value.ref a, u]) F hb hr.in1 rfl I (.cons rfl (.cons ry .nil)) q) (fun z s' hz => ?_) fun _ _ z => z
  obtain ⟨v', H', I', r', c, rfl, q'⟩ := hz
  cases (show z = Value.bool c from r')
  exact ⟨c, rfl, .bl (!c), H', I', rfl, q'⟩
/-- str of such an instance -/
def rStrO (C : Addr) (sp : Sp) : List V → Hp → VK → Prop := fun vs H Q => ∃ a dx fs, vs = [.ref a] ∧ H a = some (.ins C dx fs) ∧ sp vs H (fun v H' => ∃ t, v = .str t ∧ Q (.str t) H') E0
theorem call_strO (m : Meth X.K C "__str__" f) (F : FnOk X.prog X.w X.K X.mg X.base CX0 k f fd ps sp) (hb : Binds X.K fd ps []) (hr : Room (k + 2) X.A) : CallR X (.type "str") (rStrO C sp) := by
  intro pins s σ H vs us Q I r h
  obtain ⟨a, dx, fs, rfl, ha, q⟩ := h
  obtain ⟨u, rfl, ru⟩ := vals1 r
  cases (show u = Value.ref a from ru)
  obtain ⟨mA, J, _⟩ := ins_get I.hok ha
  obtain ⟨od, J, _⟩ := J.look
  refine PySem.W.kso_call hr.in1.in1.units0 I.kIn J m.at_ m.fn ?_
  refine wpAny_mono (run_own (vs := [V.ref a]) (us := [Value.ref a]) F hb hr.in1.in1 rfl I (.cons rfl .nil) q) (fun z s' hz => ?_) fun _ _ z => z
  obtain ⟨v', H', I', r', t, rfl, q'⟩ := hz
  obtain ⟨tk, rfl⟩ := (show ∃ tk, z = Value.str t tk from r')
  exact ⟨.str t, H', I', ⟨tk, rfl⟩, q'⟩
/-- repr of such an instance -/
theorem call_reprO (m : Meth X.K C "__repr__" f) (F : FnOk X.prog X.w X.K X.mg X.base CX0 k f fd ps sp) (hb : Binds X.K fd ps []) (hr : Room (k + 1) X.A) : CallR X (.builtin "repr") (rStrO C sp) := by
  intro pins s σ H vs us Q I r h
  obtain ⟨a, dx, fs, rfl, ha, q⟩ := h
  obtain ⟨u, rfl, ru⟩ := vals1 r
  cases (show u = Value.ref a from ru)
  obtain ⟨mA, J, _⟩ := ins_get I.hok ha
  obtain ⟨od, J, _⟩ := J.look
  obtain ⟨mm, hF⟩ := I.fr
  refine PySem.W.repr_K hr.in1.units0 hF I.ok.mod.kin J m.at_ m.fn ?_
  refine wpAny_mono (run_own (vs := [V.ref a]) (us := [Value.ref a]) F hb hr.in1 rfl I (.cons rfl .nil) q) (fun z s' hz => ?_) fun _ _ z => z
  obtain ⟨v', H', I', r', t, rfl, q'⟩ := hz
  obtain ⟨tk, rfl⟩ := (show ∃ tk, z = Value.str t tk from r')
  exact ⟨.str t, H', I', ⟨tk, rfl⟩, q'⟩
/-- .. within a list -/
theorem rpG_own {a dx : Addr} {fs : List (Str × V)} {t : Str} {H0 : Hp} (m : Meth X.K C "__repr__" f) (F : FnOk X.prog X.w X.K X.mg X.base CX0 k f fd ps sp) (hb : Binds X.K fd ps [])
    (ha : H0 a = some (.ins C dx fs)) (hsp : ∀ H Q, Ext H0 H → (∀ H', Ext H H' → Q (.str t) H') → sp [.ref a] H Q E0) : RpG X k [] (.ref a) t H0 := by
  intro A g pins s σ H u b sg hcl I e0 rx hz
  cases (show u = Value.ref a from rx)
  obtain ⟨mA, J, _⟩ := ins_get I.hok (e0 _ _ ha)
  obtain ⟨od, J, _⟩ := J.look
  refine wpAny_pyReprUnder_ref (by omega) ?_
  unfold pyReprObjUnder pyReprObjBy
  refine wpAny_bind (wpAny_cRoomFor sg.room.units0 ?_)
  refine wpAny_bind (wpAny_bind (J.type.here ((PySem.W.looks_findIn I.kIn m.at_).here ?_)))
  show wpAny _ _ (if (some (Value.ref f)).isNone = true then _ else _) _ _ _
  rw [if_neg (by simp)]
  have run := run_own (A := A) (vs := [V.ref a]) (us := [Value.ref a]) (Q := fun v H' => v = .str t ∧ Ext H H') F hb sg.room sg.fr I (.cons rfl .nil) (hsp H _ e0 fun H' e => ⟨rfl, e⟩)
  have fin : wpAny (model X.prog X.w) A (call (.ref f) [.ref a]) (fun v s' => (∃ tk, v = Value.str t tk) ∧ ∃ H', Inv X pins σ H' s' ∧ Ext H H') X.xe s := wpAny_mono run (fun z s' hz => by
    obtain ⟨v', H', I', r', rfl, e⟩ := hz
    exact ⟨r', H', I', e⟩) fun _ _ z => z
  dsimp only
  have fin2 : ∀ (R : Option Value → Shared → Prop), (∀ v s', ((∃ tk, v = Value.str t tk) ∧ ∃ H', Inv X pins σ H' s' ∧ Ext H H') → R (some v) s') → wpAny (model X.prog X.w) A (call (.ref f) ([.ref a] ++ []) >>= fun v => pure (some v)) R X.xe s := fun R hR =>
    wpAny_bind (wpAny_mono fin (fun v s' z => wpAny_pure (hR v s' z)) fun _ _ z => z)
  refine wpAny_bind ?_
  simp only [callSpecialIfBoundBy?, bindSpecialIfBound?]
  refine wpAny_holding (wpAny_bind (wpAny_bind (wpAny_bind (J.type.here ((PySem.W.looks_findIn I.kIn m.at_).here ?_)))))
  have done : ∀ v s', ((∃ tk, v = Value.str t tk) ∧ ∃ H', Inv X pins σ H' s' ∧ Ext H H') → wpAny (model X.prog X.w) A (do
      let b ← isInstance v (Value.type "str")
      if b = true then pure v else do
        let n ← typeNameOf v
        raiseErrorMade "TypeError" (toString "__repr__ returned non-string (type " ++ toString n ++ toString ")")) (fun v s' => ∃ x u, v = Value.str x u ∧ x = t ∧ ∃ H', Inv X pins σ H' s' ∧ Ext H H') X.xe s' := by
    rintro v s' ⟨⟨tk, rfl⟩, H', I', e⟩
    refine wpAny_bind (wpAny_isInstance (T := "str") (b := true) rfl isSubtype_str_str ?_)
    rw [if_pos rfl]
    exact wpAny_pure ⟨_, _, rfl, rfl, H', I', e⟩
  refine wpAny_bind (wpAny_askSetting (wpAny_ite ?_))
  split
  · exact wpAny_bind ((PySem.W.bind_fn I.kIn _ (beq_iff_eq.mp m.fn)).here (wpAny_pure (by exact fin2 _ done)))
  · exact wpAny_tryCatch (wpAny_bind ((PySem.W.bind_fn I.kIn _ (beq_iff_eq.mp m.fn)).here (wpAny_pure (by exact fin2 _ done))))
end
end Mc

set_option Elab.async false
set_option linter.all false
set_option maxRecDepth 100000
set_option maxHeartbeats 4000000
namespace Mc
open PySem PySem.Spec PyProof.Rows L2
/-! ### static methods, methods by keywords -/
/-- C.m is a staticmethod: its record at p, its def at f -/
structure SMet (K : PySem.W.Frag) (C : Addr) (mc : Value) (m : Str) (p f : Addr) : Prop where
  at_ : PySem.W.findCls K (.ref C) mc m = some (.get (.builtin "staticmethod.__get__") (.ref p) .none (.ref C))
  rc : ∃ rest, PySem.W.recIn K p "staticmethod" = some (.ref f :: rest)
  kp : PySem.W.keepIn K (.ref f) = true
def tSm (sp : Sp) (C : Addr) (to : TE) (t : TA) : TE := fun σ H Q => to σ H fun x H0 => x = .ref C ∧ t σ H0 fun vs H1 => sp vs H1 Q E0
/-- .. by keywords alone, n values ahead of them -/
def tSmK (sp : Sp) (C : Addr) (m : Nat) (gV : List V → List V → List V) (to : TE) (tk : TA) : TE := fun σ H Q => to σ H fun x H0 => x = .ref C ∧ tk σ H0 fun zs H1 => zs.length = m ∧ sp (gV [] zs) H1 Q E0
def tMethK (sp : Sp) (C : Addr) (nm : Str) (m : Nat) (gV : List V → List V → List V) (to : TE) (tk : TA) : TE := fun σ H Q => to σ H fun x H0 => ∃ a dx fs, x = .ref a ∧ H0 a = some (.ins C dx fs) ∧ fs.lookup nm = none ∧ tk σ H0 fun zs H1 => zs.length = m ∧ sp (gV [x] zs) H1 Q E0
section
variable {X : Cx} {C p f : Addr} {mc : Value} {m : Str} {k n : Nat} {fd : FuncData} {ps ks : List Str} {sp : Sp} {o e : Expr} {es : List Expr} {to : TE} {t tk : TA} {pos apos : Pos} {pl : Sem Bool} {kws : List Keyword} {g : List Value → List Value → List Value} {gV : List V → List V → List V}
theorem getsm {pins : List (Addr × Obj)} {σ : L2.St} {H : Hp} {s : Shared} {Q : Value × List Value → Shared → Prop} {E : Value → Shared → Prop} {A : Around} (I : Inv X pins σ H s) (r : ClX.CRead X.K C mc) (c : SMet X.K C mc m p f) (h : ∀ s', Inv X pins σ H s' → Q (.ref f, []) s') :
    wpAny (model X.prog X.w) A (getMethod (.ref C) m pl) Q E s := by
  obtain ⟨rest, hp⟩ := c.rc
  refine PySem.W.method_cls I.kIn r.ga (PySem.W.cls_bind I.kIn r.rd c.at_ (wpAny_call (PySem.W.sm_get (s := { s with toks := s.toks + 1 }) I.kIn hp (PySem.W.handed_on rfl ?_))))
  exact h _ (I.tok _)
theorem pe_sm (ho : PE X o to) (r : ClX.CRead X.K C mc) (c : SMet X.K C mc m p f) (F : FnOk X.prog X.w X.K X.mg X.base CX0 k f fd ps sp) (hr : Room k X.A) (hb : Binds X.K fd ps []) (ha : PA X (e :: es) t)
    (hst : starEach (e :: es) X.env = (false, eval e X.env) :: starEach es X.env := by rfl) (hpl : (backTo pos (starEach es X.env)).any (·.1) = false := by rfl)
    (ht : eval (.Call (.Attribute o m apos) (e :: es) [] pos) X.env = (do
      let ov ← eval o X.env
      standAt apos.atName
      let (f, first) ← holding [ov] (getMethod ov m pl)
      callWith pos f first (backTo pos (starEach (e :: es) X.env)) (backToKw pos (keywordEach [] X.env))) := by rfl) : PE X (.Call (.Attribute o m apos) (e :: es) [] pos) (tSm sp C to t) := by
  refine ⟨fun pins s σ H Q I h => ?_⟩
  refine PySem.W.methodCall_KW (pl := pl) (thn (ho.run pins s σ H _ I h) fun u s1 ⟨x, H1, I1, rx, ex, q⟩ => ?_) ht
  subst ex
  cases (show u = Value.ref C from rx)
  refine getsm I1 r c fun s2 I2 => ?_
  refine PySem.W.callWith_K (h₀ := X.base) I.ok.mod.kin c.kp (thn (ha.run pos pins s2 σ H1 _ I2 q) fun us s3 ⟨vs, H2, I3, rv, q2⟩ => ⟨I3.kIn, ?_⟩) hst hpl
  exact run_own (us := us) (vs := vs) F hb hr rfl I3 rv q2
theorem pe_smK (ho : PE X o to) (r : ClX.CRead X.K C mc) (c : SMet X.K C mc m p f) (F : FnOk X.prog X.w X.K X.mg X.base CX0 k f fd ps sp) (hr : Room k X.A) (hb : KBn X.K fd ps 0 ks g gV) (hkw : PK X kws tk)
    (hall : (backToKw pos (keywordEach kws X.env)).all (·.1.isSome) = true := by rfl) (hks : (backToKw pos (keywordEach kws X.env)).filterMap (·.1) = ks := by rfl)
    (hpl : ((backTo pos (starEach [] X.env)).any (·.1) || (backToKw pos (keywordEach kws X.env)).any (·.1.isNone)) = false := by rfl)
    (ht : eval (.Call (.Attribute o m apos) [] kws pos) X.env = (do
      let ov ← eval o X.env
      standAt apos.atName
      let (f, first) ← holding [ov] (getMethod ov m pl)
      callWith pos f first (backTo pos (starEach [] X.env)) (backToKw pos (keywordEach kws X.env))) := by rfl) : PE X (.Call (.Attribute o m apos) [] kws pos) (tSmK sp C ks.length gV to tk) := by
  refine ⟨fun pins s σ H Q I h => ?_⟩
  refine PySem.W.methodCall_KW (pl := pl) (thn (ho.run pins s σ H _ I h) fun u s1 ⟨x, H1, I1, rx, ex, q⟩ => ?_) ht
  subst ex
  cases (show u = Value.ref C from rx)
  refine getsm I1 r c fun s2 I2 => ?_
  refine PySem.W.callWith_KW0 (h₀ := X.base) (first := []) I.ok.mod.kin c.kp hall ?_ hpl
  refine thn (hkw.run pos pins s2 σ H1 _ I2 q) fun ws s3 ⟨zs, H2, I3, rz, l2, q2⟩ => ⟨I3.kIn, ?_⟩
  rw [hks]
  exact run_fnN (us := []) (vs := []) F hr hb pass0 I3 .nil rz rfl l2 q2
theorem pe_methK (ho : PE X o to) (c : Cls X.K C) (hm : Meth X.K C m f) (F : FnOk X.prog X.w X.K X.mg X.base CX0 k f fd ps sp) (hr : Room k X.A) (hb : KBn X.K fd ps 1 ks g gV) (hkw : PK X kws tk)
    (hall : (backToKw pos (keywordEach kws X.env)).all (·.1.isSome) = true := by rfl) (hks : (backToKw pos (keywordEach kws X.env)).filterMap (·.1) = ks := by rfl)
    (hpl : ((backTo pos (starEach [] X.env)).any (·.1) || (backToKw pos (keywordEach kws X.env)).any (·.1.isNone)) = false := by rfl)
    (ht : eval (.Call (.Attribute o m apos) [] kws pos) X.env = (do
      let ov ← eval o X.env
      standAt apos.atName
      let (f, first) ← holding [ov] (getMethod ov m pl)
      callWith pos f first (backTo pos (starEach [] X.env)) (backToKw pos (keywordEach kws X.env))) := by rfl) : PE X (.Call (.Attribute o m apos) [] kws pos) (tMethK sp C m ks.length gV to tk) := by
  refine ⟨fun pins s σ H Q I h => ?_⟩
  refine PySem.W.methodCall_KW (pl := pl) (thn (ho.run pins s σ H _ I h) fun u s1 ⟨x, H1, I1, rx, a, dx, fs, ex, ea, l, q⟩ => ?_) ht
  subst ex
  cases (show u = Value.ref a from rx)
  refine getmeth_ok I1 ea c hm l ?_
  refine PySem.W.callWith_KW0 (h₀ := X.base) (first := [.ref a]) I.ok.mod.kin hm.kp hall ?_ hpl
  refine thn (hkw.run pos pins s1 σ H1 _ I1 q) fun ws s3 ⟨zs, H2, I3, rz, l2, q2⟩ => ⟨I3.kIn, ?_⟩
  rw [hks]
  exact run_fnN (us := [.ref a]) (vs := [.ref a]) F hr hb pass0 I3 (.cons rfl .nil) rz rfl l2 q2
end
end Mc

set_option Elab.async false
set_option linter.all false
set_option maxRecDepth 100000
set_option maxHeartbeats 4000000
namespace Mc
open PySem PySem.Spec PyProof.Rows L2
/-! ### repr of lists of plain values -/
def shT : V → Str
  | .non => Str.ofString "None"
  | .bl b => if b = true then Str.ofString "True" else Str.ofString "False"
  | .int i => Str.ofString (toString i)
  | .str y => reprText y
  | _ => Str.empty
def shOk : V → Prop
  | .non => True
  | .bl _ => True
  | .int i => i.natAbs < 2 ^ 1900
  | .str y => (reprText y).length ≤ 2000
  | _ => False
theorem big1920 {i : Int} (h : i.natAbs < 2 ^ 1900) : i.natAbs.log2 < 1920 := Nat.lt_of_lt_of_le (m := 1900) (PySem.Flt.log2_lt_of (by decide) h) (by decide)
theorem shT_len {x : V} (h : shOk x) : (shT x).length ≤ 2000 := by
  cases x with
  | non => exact (by decide +kernel : (Str.ofString "None").length ≤ 2000)
  | bl b => cases b <;> decide +kernel
  | int i => exact Nat.le_trans (int_text_len_1921 (big1920 h)) (by decide)
  | str y => exact h
  | _ => exact h.elim
theorem rpG_flat {X : Cx} {x : V} {H : Hp} (h : shOk x) : RpG X 0 [] x (shT x) H := by
  cases x with
  | non => exact rpG_non
  | bl b => exact rpG_bl
  | int i => exact rpG_int (big1920 h)
  | str y => exact rpG_str (by rw [sizeLine_eq]; exact Nat.le_trans h (by decide))
  | _ => exact h.elim
theorem listText_le : ∀ ts : List Str, (listText ts).length ≤ piled ts + 2
  | [] => by decide +kernel
  | t :: r => by
    have h := textFrom_length_pos r 1 (("[" : Str) ++ (if (0 : Nat) > 0 then ", " else "" : String) ++ t) (Nat.succ_pos 0)
    have e : ((("[" : Str) ++ (if (0 : Nat) > 0 then ", " else "" : String) ++ t)).length = 1 + t.length := by
      rw [strLen_append, strLen_append] <;> rfl
    have hX : (listText (t :: r)).length = (textFrom 0 "[" (t :: r)).length + 1 := by
      show (textFrom 0 "[" (t :: r) ++ "]").length = _
      rw [strLen_append] <;> rfl
    have hY : (textFrom 0 "[" (t :: r)).length = (textFrom 1 (("[" : Str) ++ (if (0 : Nat) > 0 then ", " else "" : String) ++ t) r).length := rfl
    rw [hX, hY, h, e, piled_cons]
    omega
theorem piled_le {c : Nat} : ∀ {ts : List Str}, (∀ t ∈ ts, t.length ≤ c) → piled ts ≤ ts.length * (c + 2)
  | [], _ => by simp [piled]
  | t :: r, h => by
    rw [piled_cons, List.length_cons, Nat.succ_mul]
    have h1 := h t List.mem_cons_self
    have h2 := piled_le (c := c) (ts := r) fun z hz => h z (List.mem_cons_of_mem _ hz)
    omega
section
variable {X : Cx} {n : Nat}
def rReprF (K : PySem.W.Frag) : List V → Hp → VK → Prop := fun vs H Q => ∃ (a : Addr) (xs : List V), vs = [.ref a] ∧ SqL K H a xs ∧ (∀ x ∈ xs, shOk x) ∧ xs.length ≤ 1000 ∧ ∀ H', Ext H H' → Q (.str (listText (xs.map shT))) H'
theorem call_reprF (hr : RoomG 3 X.A) : CallR X (.builtin "repr") (rReprF X.K) := by
  intro pins s σ H vs us Q I r h
  obtain ⟨a, xs, rfl, hl, hf, hn, q⟩ := h
  refine call_reprL (n := 0) hr pins s σ H _ us Q I r ⟨a, xs, [], xs.map shT, rfl, hl, (fun z => nomatch z), List.length_map .., fun i x hx => ⟨shT x, by rw [List.getElem?_map, hx]; rfl, rpG_flat (hf x (List.mem_of_getElem? hx))⟩, ?_, q⟩
  have h1 := listText_le (xs.map shT)
  have h2 := piled_le (c := 2000) (ts := xs.map shT) fun t ht => by
    obtain ⟨x, hx, rfl⟩ := List.mem_map.mp ht
    exact shT_len (hf x hx)
  rw [List.length_map] at h2
  rw [sizeLine_eq]
  omega
end
end Mc

set_option Elab.async false
set_option linter.all false
set_option maxRecDepth 100000
set_option maxHeartbeats 4000000
namespace Mc
open PySem PySem.Spec PyProof.Rows L2
def top (i : Nat) : Stmt := PySem.Challenge.pw_movecells_k12_ratios_compared_and_read.main.body.getD i (.Pass ⟨0, 0, 0, 0⟩)
abbrev sPot : Stmt := top 15
abbrev sDraw : Stmt := top 16
abbrev sPick : Stmt := top 17

section
variable {P : Program} {w : World} {K : PySem.W.Frag} {mg : Str → Option Value} {base : Heap} {f fd' : Addr} {fd : FuncData}

def spDraw : Sp := fun vs H Q _ => ∃ (p : Addr) (n : Int), vs = [.ref p, .int n] ∧ Pot H p ∧ 0 < n ∧ n.natAbs.log2 < 9000 ∧ ∀ (r : Int) H', 0 ≤ r → r < n → Frm [p] H H' → Pot H' p → Q (.int r) H'
abbrev nDraw : List Str := ["_law_pot_here", "_law_size", "_law_digit"]
theorem scDraw : FnScope nDraw ["_law_pot_here", "_law_size"] (defScope sDraw) := ⟨rfl, rfl, rfl, by decide +kernel, rfl, by decide +kernel, by decide +kernel⟩
theorem ok_draw (F : Fun K "_law_draw" "_law_draw" sDraw f fd) (tDm : mg "divmod" = none) (tInt : mg "int" = none) : FnOk P w K mg base CX0 1 f fd ["_law_pot_here", "_law_size"] spDraw := by
  refine F.ok scDraw (fun vs H Q E h => ?_) (fun cdv A outer s H vs Q E hr h => ?_)
  · obtain ⟨p, n, rfl, _⟩ := h
    rfl
  · obtain ⟨p, n, rfl, ⟨a, b, hp, ha, hb, hb'⟩, hn, hn', k⟩ := h
    refine ⟨_, pss_cons (ps_if (pt_cmpR op_gt (pe_ix ix_seq (pv 0) pe_int (fun _ _ => rfl)) pe_int (nomark _))
        (pss_cons (ps_asg (pe_callB call_divmodW (by rfl) tDm (by decide +kernel) (pa_cons (pe_ix ix_seq (pv 0) pe_int (fun _ _ => rfl)) (pa_cons (pv 1) pa_nil))) (pg_tup rfl (pgs_cons (pg_sub (pv 0) pe_int set_list) (pgs_cons (pg_name (i := 2) scDraw.nd rfl (.inl rfl)) pgs_nil))))
        (pss_one (ps_ret (pv 2)))) pss_nil)
      (pss_cons (ps_asg (pe_op op_mod (pe_callTy call_int1 (by rfl) tInt (by decide +kernel) (pa_cons (pe_op op_add (pe_op op_mul (pe_ix ix_seq (pv 0) pe_int (fun _ _ => rfl)) pe_int) pe_int) pa_nil)) pe_int) (pg_sub (pv 0) pe_int set_list))
      (pss_one (ps_ret (pe_op op_mod (pe_callTy call_int1 (by rfl) tInt (by decide +kernel) (pa_cons (pe_op op_fdiv (pe_op op_mod (pe_callTy call_int1 (by rfl) tInt (by decide +kernel) (pa_cons (pe_op op_mul (pe_ix ix_seq (pv 0) pe_int (fun _ _ => rfl)) (pe_ix ix_seq (pv 0) pe_int (fun _ _ => rfl))) pa_nil)) pe_int) pe_int) pa_nil)) (pv 1))))), ?_⟩
    -- pot[0] > 0
    refine ⟨_, rfl, .inl ⟨p, _, 0, _, rfl, rfl, SqL.of hp, rfl, _, _, rfl, rfl, _, rfl, ?_⟩⟩
    refine ite2 (fun h0 => ?_) (fun h0 => ?_)
    · refine ⟨_, rfl, .inl ⟨p, _, 0, _, rfl, rfl, SqL.of hp, rfl, _, rfl, a, n, rfl, plain_div a hn hn', fun t ht => ?_⟩⟩
      have hpt : (upd H t (.tup [.int (a / n), .int (a % n)])) p = some (.lst [.int a, .int b]) := by rw [upd_ne (ne_of_none hp ht)]; exact hp
      refine ⟨t, _, rfl, SqT.of upd_same, rfl, _, _, rfl, _, rfl, p, _, 0, 0, rfl, rfl, hpt, rfl, _, _, rfl, rfl, _, rfl, ?_⟩
      refine k _ _ (Int.emod_nonneg a (by omega)) (Int.emod_lt_of_pos a hn) ((Frm.new ht).trans (Frm.put (List.mem_singleton.mpr rfl))) ⟨a / n, b, upd_same, Int.ediv_nonneg ha (by omega), hb, hb'⟩
    · refine ⟨_, rfl, .inl ⟨p, _, 1, _, rfl, rfl, SqL.of hp, rfl, _, _, rfl, rfl, .inl ⟨by omega, by omega⟩, _, _, rfl, rfl, .inl ⟨_, rfl, _, _, rfl, rfl, (by show (0 : Int) < 2147483587; decide), ?_⟩⟩⟩
      have hc0 : 0 ≤ (b * 48271 + 12161) % 2147483587 := Int.emod_nonneg _ (by decide)
      have hc1 : (b * 48271 + 12161) % 2147483587 < 2147483587 := Int.emod_lt_of_pos _ (by decide)
      refine ⟨_, rfl, p, _, 1, 1, rfl, rfl, hp, rfl, ?_⟩
      refine ⟨_, rfl, .inl ⟨p, _, 1, _, rfl, rfl, SqL.of upd_same, rfl, _, rfl, .inl ⟨p, _, 1, _, rfl, rfl, SqL.of upd_same, rfl, _, _, rfl, rfl, .inl ⟨(by show -(2 ^ 64 : Int) < (b * 48271 + 12161) % 2147483587; omega), (by show (b * 48271 + 12161) % 2147483587 < (2 ^ 64 : Int); omega)⟩, .inl ⟨_, rfl, _, _, rfl, rfl, (by show (0 : Int) < 2147483549; decide), _, _, rfl, rfl, ⟨by decide, by decide⟩, .inl ⟨_, rfl, _, rfl, _, _, rfl, rfl, hn, ?_⟩⟩⟩⟩⟩
      exact k _ _ (Int.emod_nonneg _ (by omega)) (Int.emod_lt_of_pos _ hn) (Frm.put (List.mem_singleton.mpr rfl)) ⟨a, (b * 48271 + 12161) % 2147483587, upd_same, ha, hc0, hc1⟩
/-- pick: one of the items -/
def spPick : Sp := fun vs H Q _ => ∃ (p l : Addr) (xs : List V), vs = [.ref p, .ref l] ∧ Pot H p ∧ H l = some (.lst xs) ∧ l ≠ p ∧ 0 < xs.length ∧ xs.length ≤ 1000 ∧
  ∀ (i : Nat) (x : V) H', xs[i]? = some x → Frm [p] H H' → Pot H' p → Q x H'
abbrev nPick : List Str := ["_law_pot_here", "_law_some"]
theorem scPick : FnScope nPick ["_law_pot_here", "_law_some"] (defScope sPick) := ⟨rfl, rfl, rfl, by decide +kernel, rfl, by decide +kernel, by decide +kernel⟩
theorem ok_pick {fD : Addr} {fdD : FuncData} (F : Fun K "_law_pick" "_law_pick" sPick f fd) (D : Gd P w K mg base "_law_draw" 1 ["_law_pot_here", "_law_size"] spDraw fD fdD) (tLen : mg "len" = none) : FnOk P w K mg base CX0 2 f fd ["_law_pot_here", "_law_some"] spPick := by
  refine F.ok scPick (fun vs H Q E h => ?_) (fun cdv A outer s H vs Q E hr h => ?_)
  · obtain ⟨p, l, xs, rfl, _⟩ := h
    rfl
  · obtain ⟨p, l, xs, rfl, hp, hl, hne, h0, h1, k⟩ := h
    refine ⟨_, pss_one (ps_ret (pe_ix ix_seq (pv 1) (pe_gd D hr (by decide) (by rfl) (pa_cons (pv 0) (pa_cons (pe_callB call_len_seq (by rfl) tLen PySem.boot_len (pa_cons (pv 1) pa_nil)) pa_nil))) (fun _ _ => rfl))), ?_⟩
    refine ⟨_, rfl, _, rfl, _, rfl, l, _, rfl, .inl (SqL.of hl), p, _, rfl, hp, by omega, len_log h1, fun r H1 hr0 hr1 F1 hp1 => ?_⟩
    obtain ⟨i, rfl⟩ := Int.eq_ofNat_of_zero_le hr0
    have hi : i < xs.length := by omega
    exact .inl ⟨l, xs, i, xs[i], rfl, rfl, SqL.of (F1 _ _ hl (by simpa using hne)), atI_nat (List.getElem?_eq_getElem hi), k i _ _ (List.getElem?_eq_getElem hi) F1 hp1⟩
end
end Mc

set_option Elab.async false
set_option linter.all false
set_option maxRecDepth 100000
set_option maxHeartbeats 4000000
namespace Mc
open PySem PySem.Spec PyProof.Rows L2
section
variable {P : Program} {w : World} {K : PySem.W.Frag} {mg : Str → Option Value} {base : Heap} {f : Addr} {fd : FuncData}

def spPot (K : PySem.W.Frag) : Sp := fun vs H Q _ => ∃ (l : Addr) (ns : List Int) (k : Nat), vs = [.ref l, .int k] ∧ SqL K H l (ns.map V.int) ∧ k < 64 ∧ ∀ q H', H q = none → Frm [] H H' → Pot H' q → Q (.ref q) H'
theorem sc_pot : FnScope ["_law_script", "_law_k", "_law_figures"] ["_law_script", "_law_k"] (defScope sPot) := ⟨rfl, rfl, rfl, by decide +kernel, rfl, by decide +kernel, by decide +kernel⟩
theorem pot_ok (G z : Int) : PotOk (if G > 0 then G else 0) (z % 2147483477 + 1) := by
  have h1 := Int.emod_nonneg z (show (2147483477 : Int) ≠ 0 by decide)
  have h2 := Int.emod_lt_of_pos z (show (0 : Int) < 2147483477 by decide)
  refine ⟨?_, by omega, by omega⟩
  split <;> omega
theorem ok_pot (F : Fun K "_law_pot" "_law_pot" sPot f fd) (T : TB mg) : FnOk P w K mg base CX0 1 f fd ["_law_script", "_law_k"] (spPot K) := by
  refine F.ok sc_pot (fun vs H Q E h => ?_) (fun cdv A outer s H vs Q E hr h => ?_)
  · obtain ⟨l, ns, k, rfl, _⟩ := h
    rfl
  · obtain ⟨l, ns, k, rfl, hl, hk, q⟩ := h
    refine ⟨_, pss_cons (ps_set (i := 2) sc_pot.nd rfl (.inl rfl) (pe_op op_add (pe_op op_mul pe_int (pv 1)) pe_int))
      (pss_cons (ps_if (pt_cmpR op_lt (pv 1) (pe_callB call_len_seq (by rfl) T.len PySem.boot_len (pa_cons (pv 0) pa_nil)) (nomark _)) (pss_one (ps_set (i := 2) sc_pot.nd rfl (.inl rfl) (pe_callB call_abs (by rfl) T.abs (by decide +kernel) (pa_cons (pe_ix ix_seq (pv 0) (pv 1) (fun _ _ => rfl)) pa_nil)))) pss_nil)
      (pss_one (ps_ret (pe_lst (pa_cons (pe_callB (call_max2 rfl) (by rfl) T.max (by decide +kernel) (pa_cons pe_int (pa_cons (pe_op op_sub (pv 2) (pe_op op_pow pe_int pe_int)) pa_nil))) (pa_cons (pe_op op_add (pe_op op_mod (pe_op op_mul (pe_callTy call_int1 (by rfl) T.int (by decide +kernel) (pa_cons (pe_op op_add (pe_op op_mod (pe_callTy call_int1 (by rfl) T.int (by decide +kernel) (pa_cons (pv 2) pa_nil)) pe_int) pe_int) pa_nil)) (pe_op op_pow (pe_op op_add (pe_op op_mul pe_int (pv 1)) pe_int) pe_int)) pe_int) pe_int) pa_nil)))))), ?_⟩
    refine ⟨_, rfl, _, _, rfl, rfl, .inl ⟨by decide, by decide⟩, _, _, rfl, rfl, ?_⟩
    refine ⟨_, rfl, _, rfl, l, _, rfl, .inl hl, _, _, rfl, rfl, _, rfl, ?_⟩
    have hk3 : ((2 * (k : Int) + 3) : Int).natAbs < 2 ^ 64 := by omega
    refine ite2 (fun h0 => ?_) (fun h0 => ?_)
    · have hk2 : k < ns.length := by
        have := of_decide_eq_true h0
        rw [List.length_map] at this
        omega
      refine ⟨_, rfl, _, rfl, .inl ⟨l, _, _, V.int ns[k], rfl, rfl, hl, atI_nat (by rw [List.getElem?_map, List.getElem?_eq_getElem hk2]; rfl), _, rfl, ?_⟩⟩
      refine ⟨_, rfl, _, _, rfl, rfl, ⟨by decide, by decide, by decide⟩, _, _, rfl, rfl, _, _, rfl, ?_⟩
      refine ⟨_, rfl, .inl ⟨_, rfl, _, _, rfl, rfl, (by show (0 : Int) < 2147483549; decide), _, _, rfl, rfl, .inl ⟨_, rfl, ?_⟩⟩⟩
      refine ⟨_, rfl, _, _, rfl, rfl, .inl ⟨by decide, by decide⟩, _, _, rfl, rfl, _, _, rfl, rfl, ⟨by decide, by decide, hk3⟩, ?_⟩
      have hF := fun F : Int => (⟨Int.emod_nonneg F (show (2147483549 : Int) ≠ 0 by decide), Int.emod_lt_of_pos F (show (0 : Int) < 2147483549 by decide)⟩ : 0 ≤ F % 2147483549 ∧ F % 2147483549 < 2147483549)
      refine ⟨_, _, rfl, rfl, .inl ⟨?_, ?_⟩, _, _, rfl, rfl, (by show (0 : Int) < 2147483477; decide), _, _, rfl, rfl, (by show 2 ≤ sizeLine; decide), fun p hp => ?_⟩
      · exact Int.lt_of_lt_of_le (by decide) (Int.add_nonneg (hF _).1 (by decide))
      · exact Int.lt_of_lt_of_le (Int.add_lt_add_right (hF _).2 13) (by decide)
      · exact q p _ hp (Frm.new hp) ⟨_, _, upd_same, pot_ok _ _⟩
    · refine ⟨_, rfl, _, _, rfl, rfl, ⟨by decide, by decide, by decide⟩, _, _, rfl, rfl, _, _, rfl, ?_⟩
      refine ⟨_, rfl, .inl ⟨_, rfl, _, _, rfl, rfl, (by show (0 : Int) < 2147483549; decide), _, _, rfl, rfl, .inl ⟨_, rfl, ?_⟩⟩⟩
      refine ⟨_, rfl, _, _, rfl, rfl, .inl ⟨by decide, by decide⟩, _, _, rfl, rfl, _, _, rfl, rfl, ⟨by decide, by decide, hk3⟩, ?_⟩
      have hF := fun F : Int => (⟨Int.emod_nonneg F (show (2147483549 : Int) ≠ 0 by decide), Int.emod_lt_of_pos F (show (0 : Int) < 2147483549 by decide)⟩ : 0 ≤ F % 2147483549 ∧ F % 2147483549 < 2147483549)
      refine ⟨_, _, rfl, rfl, .inl ⟨?_, ?_⟩, _, _, rfl, rfl, (by show (0 : Int) < 2147483477; decide), _, _, rfl, rfl, (by show 2 ≤ sizeLine; decide), fun p hp => ?_⟩
      · exact Int.lt_of_lt_of_le (by decide) (Int.add_nonneg (hF _).1 (by decide))
      · exact Int.lt_of_lt_of_le (Int.add_lt_add_right (hF _).2 13) (by decide)
      · exact q p _ hp (Frm.new hp) ⟨_, _, upd_same, pot_ok _ _⟩
end
end Mc

set_option Elab.async false
set_option linter.all false
set_option maxRecDepth 100000
set_option maxHeartbeats 4000000
namespace Mc
open PySem PySem.Spec PyProof.Rows L2
abbrev s_integer : Stmt := top 18
abbrev s_parts : Stmt := top 19
abbrev s_near : Stmt := top 20
abbrev s_order : Stmt := top 21
section
variable {P : Program} {w : World} {K : PySem.W.Frag} {mg : Str → Option Value} {base : Heap} {f : Addr} {fd : FuncData}
theorem sc_integer : FnScope ["_law_pot_here", "_law_most", "_law_found"] ["_law_pot_here", "_law_most"] (defScope s_integer) := ⟨rfl, rfl, rfl, by decide +kernel, rfl, by decide +kernel, by decide +kernel⟩
def spInteger : Sp := fun vs H Q _ => ∃ (p : Addr) (most : Int) (m : Nat), vs = [.ref p, .int most] ∧ Pot H p ∧ 0 < most ∧ most.natAbs < 2 ^ m ∧ 10 ≤ m ∧ m ≤ 1000 ∧
  ∀ (r : Int) H', r.natAbs < 2 ^ m → Frm [p] H H' → Pot H' p → Q (.int r) H'
theorem ok_integer (F : Fun K "_law_integer" "_law_integer" s_integer f fd) (T : TB mg) {f_draw : Addr} {fd_draw : FuncData} (Ddraw : Gd P w K mg base "_law_draw" 1 ["_law_pot_here", "_law_size"] (spDraw) f_draw fd_draw) {f_pick : Addr} {fd_pick : FuncData} (Dpick : Gd P w K mg base "_law_pick" 2 ["_law_pot_here", "_law_some"] (spPick) f_pick fd_pick) : FnOk P w K mg base CX0 3 f fd ["_law_pot_here", "_law_most"] (spInteger) := by
  refine F.ok sc_integer (fun vs H Q E h => ?_) (fun cdv A outer s H vs Q E hr h => ?_)
  · obtain ⟨p, most, m, rfl, hp, h0, hm, h10, h1000, k⟩ := h
    rfl
  · obtain ⟨p, most, m, rfl, hp, h0, hm, h10, h1000, k⟩ := h
    refine ⟨_, (pss_cons (ps_set (i := 2) sc_integer.nd rfl (.inl rfl) (pe_gd Ddraw hr (by decide) (by rfl) (pa_cons (pv 0) (pa_cons (pe_gd Dpick hr (by decide) (by rfl) (pa_cons (pv 0) (pa_cons (pe_lst (pa_cons pe_int (pa_cons pe_int (pa_cons pe_int (pa_cons pe_int (pa_cons (pv 1) pa_nil)))))) pa_nil))) pa_nil))))
      (pss_one (ps_ret (pe_ifExp (pt_cmpR op_eq (pe_gd Ddraw hr (by decide) (by rfl) (pa_cons (pv 0) (pa_cons pe_int pa_nil))) pe_int (nomark _)) (pv 2) (pe_un un_neg (pv 2)))))), ?_⟩
    refine ⟨_, rfl, _, rfl, _, rfl, (by show 5 ≤ sizeLine; decide), fun l hl => ?_⟩
    have h2 : 2 ^ 10 ≤ 2 ^ m := Nat.pow_le_pow_right (by decide) h10
    refine ⟨p, l, _, rfl, hp.new hl, upd_same, hp.ne hl, (by show 0 < 5; decide), (by show 5 ≤ 1000; decide), fun i x H1 hx F1 hp1 => ?_⟩
    obtain ⟨n, rfl, hn0, hnm⟩ := pick_int (ns := [2, 4, 13, 1000, most]) (C := fun n => 0 < n ∧ n.natAbs < 2 ^ m) (by
      intro n hn
      simp only [List.mem_cons, List.not_mem_nil, or_false] at hn
      rcases hn with rfl | rfl | rfl | rfl | rfl <;> omega) hx
    refine ⟨p, n, rfl, hp1, hn0, small_log hnm (by omega) (by omega), fun r H2 hr0 hr1 F2 hp2 => ?_⟩
    refine ⟨_, rfl, p, 2, rfl, hp2, by decide, by decide, fun r2 H3 _ _ F3 hp3 => ?_⟩
    have FF := (((Frm.new hl).trans F1).trans F2).trans F3
    refine ⟨rfl, _, rfl, ite2 (fun _ => ?_) (fun _ => ?_)⟩
    · exact ⟨_, rfl, k r _ (by omega) FF hp3⟩
    · exact ⟨_, rfl, _, rfl, k (-r) _ (by omega) FF hp3⟩
theorem sc_parts : FnScope ["_law_pot_here", "_law_most", "_law_upper", "_law_lower"] ["_law_pot_here", "_law_most"] (defScope s_parts) := ⟨rfl, rfl, rfl, by decide +kernel, rfl, by decide +kernel, by decide +kernel⟩
def spParts : Sp := fun vs H Q _ => ∃ (p : Addr) (most : Int) (m : Nat), vs = [.ref p, .int most] ∧ Pot H p ∧ 0 < most ∧ most.natAbs < 2 ^ m ∧ 10 ≤ m ∧ m ≤ 1000 ∧
  ∀ (t : Addr) (a b : Int) H', a.natAbs < 2 ^ m → b.natAbs < 2 ^ m → b ≠ 0 → Frm [p] H H' → Pot H' p → H' t = some (.tup [.int a, .int b]) → Q (.ref t) H'
theorem ok_parts (F : Fun K "_law_parts" "_law_parts" s_parts f fd) (T : TB mg) {f_integer : Addr} {fd_integer : FuncData} (Dinteger : Gd P w K mg base "_law_integer" 3 ["_law_pot_here", "_law_most"] (spInteger) f_integer fd_integer) {f_pick : Addr} {fd_pick : FuncData} (Dpick : Gd P w K mg base "_law_pick" 2 ["_law_pot_here", "_law_some"] (spPick) f_pick fd_pick) : FnOk P w K mg base CX0 4 f fd ["_law_pot_here", "_law_most"] (spParts) := by
  refine F.ok sc_parts (fun vs H Q E h => ?_) (fun cdv A outer s H vs Q E hr h => ?_)
  · obtain ⟨p, most, m, rfl, hp, h0, hm, h10, h1000, k⟩ := h
    rfl
  · obtain ⟨p, most, m, rfl, hp, h0, hm, h10, h1000, k⟩ := h
    refine ⟨_, (pss_cons (ps_par (i := 2) (j := 3) (by rfl) sc_parts.nd rfl rfl (by decide) rfl rfl (pa_cons (pe_gd Dinteger hr (by decide) (by rfl) (pa_cons (pv 0) (pa_cons (pv 1) pa_nil))) (pa_cons (pe_gd Dinteger hr (by decide) (by rfl) (pa_cons (pv 0) (pa_cons (pv 1) pa_nil))) pa_nil)) (by rfl))
      (pss_one (ps_ret (pe_tup (pa_cons (pv 2) (pa_cons (pe_ifExp (pt_cmpR op_ne (pv 3) pe_int (nomark _)) (pv 3) (pe_gd Dpick hr (by decide) (by rfl) (pa_cons (pv 0) (pa_cons (pe_lst (pa_cons pe_int (pa_cons (pe_un un_neg pe_int) (pa_cons pe_int pa_nil)))) pa_nil)))) pa_nil)))))), ?_⟩
    refine ⟨_, rfl, _, rfl, p, most, m, rfl, hp, h0, hm, h10, h1000, fun a H1 ha F1 hp1 => ?_⟩
    refine ⟨_, rfl, _, rfl, p, most, m, rfl, hp1, h0, hm, h10, h1000, fun b H2 hb F2 hp2 => ?_⟩
    refine ⟨_, _, rfl, _, rfl, _, rfl, rfl, _, rfl, ite2 (fun hz => ?_) (fun hz => ?_)⟩
    · have hb0 : b ≠ 0 := by
        intro e
        subst e
        exact absurd hz (by decide)
      refine ⟨_, rfl, (by show 2 ≤ sizeLine; decide), fun t ht => ?_⟩
      exact k t a b _ ha hb hb0 ((F1.trans F2).trans (Frm.new ht)) (hp2.new ht) upd_same
    · have h2 : 2 ^ 10 ≤ 2 ^ m := Nat.pow_le_pow_right (by decide) h10
      refine ⟨_, rfl, _, rfl, (by show 3 ≤ sizeLine; decide), fun l hl => ?_⟩
      refine ⟨p, l, _, rfl, hp2.new hl, upd_same, hp2.ne hl, (by show 0 < 3; decide), (by show 3 ≤ 1000; decide), fun i x H3 hx F3 hp3 => ?_⟩
      obtain ⟨c, rfl, hc0, hcm⟩ := pick_int (ns := [1, -1, 6]) (C := fun n => n ≠ 0 ∧ n.natAbs < 2 ^ m) (by
        intro n hn
        simp only [List.mem_cons, List.not_mem_nil, or_false] at hn
        rcases hn with rfl | rfl | rfl <;> omega) hx
      refine ⟨(by show 2 ≤ sizeLine; decide), fun t ht => ?_⟩
      exact k t a c _ ha hcm hc0 ((((F1.trans F2).trans (Frm.new hl)).trans F3).trans (Frm.new ht)) (hp3.new ht) upd_same
theorem sc_near : FnScope ["_law_pot_here", "_law_pair", "_law_upper", "_law_lower", "_law_mode", "_law_by"] ["_law_pot_here", "_law_pair"] (defScope s_near) := ⟨rfl, rfl, rfl, by decide +kernel, rfl, by decide +kernel, by decide +kernel⟩
theorem fdiv_size (a b : Int) : (a.fdiv b).natAbs ≤ a.natAbs + 1 := by
  rw [Int.fdiv_eq_ediv]
  have := Int.natAbs_ediv_le_natAbs a b
  split <;> omega
def spNear : Sp := fun vs H Q _ => ∃ (p t : Addr) (a b : Int), vs = [.ref p, .ref t] ∧ Pot H p ∧ H t = some (.tup [.int a, .int b]) ∧ a.natAbs < 2 ^ 97 ∧ b.natAbs < 2 ^ 97 ∧ b ≠ 0 ∧
  ∀ (t' : Addr) (c d : Int) H', c.natAbs < 2 ^ 200 → d.natAbs < 2 ^ 200 → d ≠ 0 → Frm [p] H H' → Pot H' p → H' t' = some (.tup [.int c, .int d]) → Q (.ref t') H'
theorem ok_near (F : Fun K "_law_near" "_law_near" s_near f fd) (T : TB mg) {f_draw : Addr} {fd_draw : FuncData} (Ddraw : Gd P w K mg base "_law_draw" 1 ["_law_pot_here", "_law_size"] (spDraw) f_draw fd_draw) {f_pick : Addr} {fd_pick : FuncData} (Dpick : Gd P w K mg base "_law_pick" 2 ["_law_pot_here", "_law_some"] (spPick) f_pick fd_pick) {f_parts : Addr} {fd_parts : FuncData} (Dparts : Gd P w K mg base "_law_parts" 4 ["_law_pot_here", "_law_most"] (spParts) f_parts fd_parts) : FnOk P w K mg base CX0 5 f fd ["_law_pot_here", "_law_pair"] (spNear) := by
  refine F.ok sc_near (fun vs H Q E h => ?_) (fun cdv A outer s H vs Q E hr h => ?_)
  · obtain ⟨p, t, a, b, rfl, hp, ht, ha, hb, hb0, k⟩ := h
    rfl
  · obtain ⟨p, t, a, b, rfl, hp, ht, ha, hb, hb0, k⟩ := h
    refine ⟨_, (pss_cons (ps_asg (pv 1) (pg_tup rfl (pgs_cons (pg_name (i := 2) sc_near.nd rfl (.inl rfl)) (pgs_cons (pg_name (i := 3) sc_near.nd rfl (.inl rfl)) pgs_nil))))
      (pss_cons (ps_par (i := 4) (j := 5) (by rfl) sc_near.nd rfl rfl (by decide) rfl rfl (pa_cons (pe_gd Ddraw hr (by decide) (by rfl) (pa_cons (pv 0) (pa_cons pe_int pa_nil))) (pa_cons (pe_op op_add pe_int (pe_gd Ddraw hr (by decide) (by rfl) (pa_cons (pv 0) (pa_cons (pe_gd Dpick hr (by decide) (by rfl) (pa_cons (pv 0) (pa_cons (pe_lst (pa_cons pe_int (pa_cons (pe_op op_pow pe_int pe_int) pa_nil))) pa_nil))) pa_nil)))) pa_nil)) (by rfl))
      (pss_cons (ps_if (pt_cmpR op_eq (pv 4) pe_int (nomark _)) (pss_one (ps_ret (pe_tup (pa_cons (pe_op op_mulW (pv 2) (pv 5)) (pa_cons (pe_op op_mulW (pv 3) (pv 5)) pa_nil))))) pss_nil)
      (pss_cons (ps_if (pt_cmpR op_eq (pv 4) pe_int (nomark _)) (pss_one (ps_ret (pe_tup (pa_cons (pe_op op_mulW (pe_un un_neg (pv 2)) (pv 5)) (pa_cons (pe_op op_mulW (pe_un un_neg (pv 3)) (pv 5)) pa_nil))))) pss_nil)
      (pss_cons (ps_if (pt_cmpR op_eq (pv 4) pe_int (nomark _)) (pss_one (ps_ret (pe_tup (pa_cons (pe_op op_add (pe_op op_mulW (pv 2) (pv 5)) (pe_gd Dpick hr (by decide) (by rfl) (pa_cons (pv 0) (pa_cons (pe_lst (pa_cons pe_int (pa_cons (pe_un un_neg pe_int) pa_nil))) pa_nil)))) (pa_cons (pe_op op_mulW (pv 3) (pv 5)) pa_nil))))) pss_nil)
      (pss_cons (ps_if (pt_cmpR op_eq (pv 4) pe_int (nomark _)) (pss_one (ps_ret (pe_tup (pa_cons (pe_un un_neg (pv 2)) (pa_cons (pv 3) pa_nil))))) pss_nil)
      (pss_cons (ps_if (pt_cmpR op_eq (pv 4) pe_int (nomark _)) (pss_one (ps_ret (pe_tup (pa_cons (pe_op op_add (pe_op op_fdivX (pv 2) (pv 3)) (pe_gd Ddraw hr (by decide) (by rfl) (pa_cons (pv 0) (pa_cons pe_int pa_nil)))) (pa_cons pe_int pa_nil))))) pss_nil)
      (pss_one (ps_ret (pe_gd Dparts hr (by decide) (by rfl) (pa_cons (pv 0) (pa_cons (pe_op op_pow pe_int pe_int) pa_nil)))))))))))), ?_⟩
    refine ⟨_, rfl, t, _, rfl, SqT.of ht, rfl, _, _, rfl, _, _, rfl, rfl, ?_⟩
    refine ⟨_, rfl, p, 6, rfl, hp, by decide, by decide, fun mode H1 hm0 hm1 F1 hp1 => ?_⟩
    refine ⟨_, rfl, _, rfl, _, _, rfl, rfl, ⟨by decide, by decide, by decide⟩, (by show 2 ≤ sizeLine; decide), fun l hl => ?_⟩
    refine ⟨p, l, _, rfl, hp1.new hl, upd_same, hp1.ne hl, (by show 0 < 2; decide), (by show 2 ≤ 1000; decide), fun i x H2 hx F2 hp2 => ?_⟩
    obtain ⟨n, rfl, hn0, hn1⟩ := pick_int (ns := [3, 10 ^ (29 : Int).toNat]) (C := fun n => 0 < n ∧ n ≤ 10 ^ 29) (by
      intro n hn
      simp only [List.mem_cons, List.not_mem_nil, or_false] at hn
      rcases hn with rfl | rfl <;> decide) hx
    refine ⟨p, n, rfl, hp2, hn0, small_log (n := 97) (by omega) (by decide) (by decide), fun r H3 hr0 hr1 F3 hp3 => ?_⟩
    refine ⟨_, _, rfl, rfl, _, _, rfl, ?_⟩
    have FF : Frm [p] H H3 := ((F1.trans (Frm.new hl)).trans F2).trans F3
    have hby : (1 + r).natAbs < 2 ^ 97 := by omega
    have hby0 : 1 + r ≠ 0 := by omega
    clear hx hn0 hn1 hr0 hr1
    have hA : (a * (1 + r)).natAbs < 2 ^ 194 := wide_lt ha hby
    have hB : (b * (1 + r)).natAbs < 2 ^ 194 := wide_lt hb hby
    have hB0 : b * (1 + r) ≠ 0 := Int.mul_ne_zero hb0 hby0
    have hnA : (-a).natAbs < 2 ^ 97 := by omega
    have hnB : (-b).natAbs < 2 ^ 97 := by omega
    refine ⟨_, rfl, rfl, _, rfl, ite2 (fun _ => ?_) (fun _ => ?_)⟩
    · refine ⟨_, rfl, _, rfl, _, _, rfl, rfl, mulW ha hby, _, rfl, _, rfl, _, _, rfl, rfl, mulW hb hby, (by show 2 ≤ sizeLine; decide), fun t' ht' => ?_⟩
      exact k t' _ _ _ (by omega) (by omega) hB0 (FF.trans (Frm.new ht')) (hp3.new ht') upd_same
    refine ⟨_, rfl, rfl, _, rfl, ite2 (fun _ => ?_) (fun _ => ?_)⟩
    · refine ⟨_, rfl, _, rfl, _, rfl, _, _, rfl, rfl, mulW hnA hby, _, rfl, _, rfl, _, rfl, _, _, rfl, rfl, mulW hnB hby, (by show 2 ≤ sizeLine; decide), fun t' ht' => ?_⟩
      exact k t' _ _ _ (by rw [Int.neg_mul]; omega) (by rw [Int.neg_mul]; omega) (by rw [Int.neg_mul]; omega) (FF.trans (Frm.new ht')) (hp3.new ht') upd_same
    refine ⟨_, rfl, rfl, _, rfl, ite2 (fun _ => ?_) (fun _ => ?_)⟩
    · refine ⟨_, rfl, _, rfl, _, _, rfl, rfl, mulW ha hby, _, rfl, _, rfl, (by show 2 ≤ sizeLine; decide), fun l2 hl2 => ?_⟩
      refine ⟨p, l2, _, rfl, hp3.new hl2, upd_same, hp3.ne hl2, (by show 0 < 2; decide), (by show 2 ≤ 1000; decide), fun i x H4 hx F4 hp4 => ?_⟩
      obtain ⟨n, rfl, hn⟩ := pick_int (ns := [1, -1]) (C := fun n => n.natAbs ≤ 1) (by
        intro n hn
        simp only [List.mem_cons, List.not_mem_nil, or_false] at hn
        rcases hn with rfl | rfl <;> decide) hx
      refine ⟨_, _, rfl, rfl, _, rfl, _, rfl, _, _, rfl, rfl, mulW hb hby, (by show 2 ≤ sizeLine; decide), fun t' ht' => ?_⟩
      exact k t' _ _ _ (by omega) (by omega) hB0 (((FF.trans (Frm.new hl2)).trans F4).trans (Frm.new ht')) (hp4.new ht') upd_same
    refine ⟨_, rfl, rfl, _, rfl, ite2 (fun _ => ?_) (fun _ => ?_)⟩
    · refine ⟨_, rfl, _, rfl, _, rfl, (by show 2 ≤ sizeLine; decide), fun t' ht' => ?_⟩
      exact k t' _ _ _ (by omega) (by omega) hb0 (FF.trans (Frm.new ht')) (hp3.new ht') upd_same
    refine ⟨_, rfl, rfl, _, rfl, ite2 (fun _ => ?_) (fun _ => ?_)⟩
    · refine ⟨_, rfl, _, rfl, _, _, rfl, rfl, ⟨hb0, small_log hb (by decide) (by decide)⟩, _, rfl, p, 2, rfl, hp3, by decide, by decide, fun c H4 hc0 hc1 F4 hp4 => ?_⟩
      refine ⟨_, _, rfl, rfl, (by show 2 ≤ sizeLine; decide), fun t' ht' => ?_⟩
      have hfd := fdiv_size a b
      exact k t' _ _ _ (by omega) (by decide) (by decide) ((FF.trans F4).trans (Frm.new ht')) (hp4.new ht') upd_same
    refine ⟨_, rfl, _, _, rfl, rfl, ⟨by decide, by decide, by decide⟩, p, _, 200, rfl, hp3, by decide, by decide, by decide, by decide, fun t' c d H4 hc hd hd0 F4 hp4 ht' => ?_⟩
    exact k t' c d _ hc hd hd0 (FF.trans F4) hp4 ht'
theorem sc_order : FnScope ["_law_one", "_law_fellow", "_law_less", "_law_more"] ["_law_one", "_law_fellow"] (defScope s_order) := ⟨rfl, rfl, rfl, by decide +kernel, rfl, by decide +kernel, by decide +kernel⟩
def sw (x y : Int) : Int := (if decide (y < x) = true then 1 else 0) - (if decide (x < y) = true then 1 else 0)
/-- the order of a / b and c / d, as the law reckons it -/
def ordI (a b c d : Int) : Int := if (b < 0 ↔ d < 0) then sw (a * d) (c * b) else sw (c * b) (a * d)
def spOrder : Sp := fun vs H Q _ => ∃ (t u : Addr) (a b c d : Int), vs = [.ref t, .ref u] ∧ H t = some (.tup [.int a, .int b]) ∧ H u = some (.tup [.int c, .int d]) ∧ a.natAbs < 2 ^ 400 ∧ b.natAbs < 2 ^ 400 ∧ c.natAbs < 2 ^ 400 ∧ d.natAbs < 2 ^ 400 ∧ b ≠ 0 ∧ d ≠ 0 ∧
  Q (.int (ordI a b c d)) H
theorem ok_order (F : Fun K "_law_order" "_law_order" s_order f fd) (T : TB mg) : FnOk P w K mg base CX0 1 f fd ["_law_one", "_law_fellow"] (spOrder) := by
  refine F.ok sc_order (fun vs H Q E h => ?_) (fun cdv A outer s H vs Q E hr h => ?_)
  · obtain ⟨t, u, a, b, c, d, rfl, ht, hu, ha, hb, hc, hd, hb0, hd0, k⟩ := h
    rfl
  · obtain ⟨t, u, a, b, c, d, rfl, ht, hu, ha, hb, hc, hd, hb0, hd0, k⟩ := h
    refine ⟨_, (pss_cons (ps_par (i := 2) (j := 3) (by rfl) sc_order.nd rfl rfl (by decide) rfl rfl (pa_cons (pe_op op_mulW (pe_ix ix_seq (pv 0) pe_int (fun _ _ => rfl)) (pe_ix ix_seq (pv 1) pe_int (fun _ _ => rfl))) (pa_cons (pe_op op_mulW (pe_ix ix_seq (pv 1) pe_int (fun _ _ => rfl)) (pe_ix ix_seq (pv 0) pe_int (fun _ _ => rfl))) pa_nil)) (by rfl))
      (pss_cons (ps_if (pt_cmpR op_ne (pe_cmpR op_lt (pe_ix ix_seq (pv 0) pe_int (fun _ _ => rfl)) pe_int (nomark _)) (pe_cmpR op_lt (pe_ix ix_seq (pv 1) pe_int (fun _ _ => rfl)) pe_int (nomark _)) (nomark _)) (pss_one (ps_par (i := 2) (j := 3) (by rfl) sc_order.nd rfl rfl (by decide) rfl rfl (pa_cons (pv 3) (pa_cons (pv 2) pa_nil)) (by rfl))) pss_nil)
      (pss_one (ps_ret (pe_op op_sub (pe_callTy call_int1 (by rfl) T.int (by decide +kernel) (pa_cons (pe_cmpR op_gt (pv 2) (pv 3) (nomark _)) pa_nil)) (pe_callTy call_int1 (by rfl) T.int (by decide +kernel) (pa_cons (pe_cmpR op_lt (pv 2) (pv 3) (nomark _)) pa_nil))))))), ?_⟩
    refine ⟨_, rfl, .inr (.inl ⟨t, _, 0, _, rfl, rfl, SqT.of ht, rfl, _, rfl, .inr (.inl ⟨u, _, 1, _, rfl, rfl, SqT.of hu, rfl, _, _, rfl, rfl, mulW ha hd, ?_⟩)⟩)⟩
    refine ⟨_, rfl, .inr (.inl ⟨u, _, 0, _, rfl, rfl, SqT.of hu, rfl, _, rfl, .inr (.inl ⟨t, _, 1, _, rfl, rfl, SqT.of ht, rfl, _, _, rfl, rfl, mulW hc hb, _, _, rfl, ?_⟩)⟩)⟩
    refine ⟨_, rfl, .inr (.inl ⟨t, _, 1, _, rfl, rfl, SqT.of ht, rfl, _, _, rfl, rfl, ?_⟩)⟩
    refine ⟨_, rfl, .inr (.inl ⟨u, _, 1, _, rfl, rfl, SqT.of hu, rfl, _, _, rfl, rfl, rfl, _, rfl, ?_⟩)⟩
    refine ite2 (fun hz => ?_) (fun hz => ?_)
    · have e : ¬ (b < 0 ↔ d < 0) := by simpa using hz
      refine ⟨_, rfl, _, rfl, _, _, rfl, ?_⟩
      refine ⟨_, rfl, _, rfl, _, _, rfl, rfl, .inr ⟨_, rfl, _, rfl, _, rfl, _, _, rfl, rfl, .inr ⟨_, rfl, _, _, rfl, rfl, ?_⟩⟩⟩
      rw [ordI, if_neg e] at k
      exact k
    · have e : (b < 0 ↔ d < 0) := by simpa using hz
      refine ⟨_, rfl, _, rfl, _, _, rfl, rfl, .inr ⟨_, rfl, _, rfl, _, rfl, _, _, rfl, rfl, .inr ⟨_, rfl, _, _, rfl, rfl, ?_⟩⟩⟩
      rw [ordI, if_pos e] at k
      exact k
end
end Mc

set_option Elab.async false
set_option linter.all false
set_option maxRecDepth 100000
set_option maxHeartbeats 4000000
set_option exponentiation.threshold 20000
namespace Mc
open PySem PySem.Spec PyProof.Rows L2
abbrev s_is_int : Stmt := top 7
abbrev s_Ratio___init : Stmt := inClass (top 10) 0
abbrev s_Ratio_bottom : Stmt := inClass (top 10) 3
abbrev s_Ratio_top : Stmt := inClass (top 10) 2
abbrev s_as_ratio : Stmt := top 11
abbrev s_Ratio_is_below : Stmt := inClass (top 10) 13
abbrev s_Ratio_floor : Stmt := inClass (top 10) 14
abbrev s_Ratio___eq : Stmt := inClass (top 10) 15
abbrev s_Ratio___str : Stmt := inClass (top 10) 16
abbrev s_Ratio___repr : Stmt := inClass (top 10) 17
abbrev s_is_digits : Stmt := top 13
abbrev s_bottom_of : Stmt := top 12
abbrev s_Ratio_read : Stmt := inClass (top 10) 1
/-- what the text says of Ratio -/
structure RatT (K : PySem.W.Frag) (mg : Str → Option Value) (R0 : Addr) : Prop where
  cl : Cls K R0
  nT : NoAttr K R0 "_top"
  nB : NoAttr K R0 "_bottom"
  mgR : mg "Ratio" = some (.ref R0)
  gcd : mg "gcd" = some (.builtin "math.gcd")
  md : ∃ t, mg "MOST_DIGITS" = some (.int 4000 t)
  ca : PySem.W.findIn K (.ref R0) "__class__" = some (some (.builtin "object.__class__"))
  cn : PySem.W.specialIn K (.builtin "object.__class__") "__get__" = some (some (.builtin "getset_descriptor.__get__"))
  ct : PySem.W.takesIn K (.builtin "object.__class__") = some true
  cm : PySem.W.mroIn K R0 (.type "object") = some true
  ne : PySem.W.findIn K (.ref R0) "__ne__" = some (some (.builtin "object.__ne__"))
  kR : PySem.W.kitOne K (.ref R0) (.ref R0) = some true
  kk : ∀ x ∈ (["NoneType", "bool", "int", "str", "list", "tuple", "dict"] : List String), PySem.W.kitOne K (.type x) (.ref R0) = some false
  nf : ∀ x ∈ (["NoneType", "bool", "int", "str", "list", "tuple", "dict"] : List String), PySem.W.notFirst K R0 (.type x) = true
section
variable {P : Program} {w : World} {K : PySem.W.Frag} {mg : Str → Option Value} {base : Heap} {f R0 : Addr} {fd : FuncData}
theorem sc_is_int : FnScope ["value"] ["value"] (defScope s_is_int) := ⟨rfl, rfl, rfl, by decide +kernel, rfl, by decide +kernel, by decide +kernel⟩
/-- of ints alone -/
def spIsInt : Sp := fun vs H Q _ => ∃ i : Int, vs = [.int i] ∧ Q (.bl true) H
theorem ok_is_int (F : FunD K "is_int" "is_int" (defArgs s_is_int) (defBody s_is_int) (defScope s_is_int) [] [] f fd) (T : TB mg) : FnOk P w K mg base CX0 1 f fd ["value"] (spIsInt) := by
  refine F.ok sc_is_int (fun vs H Q E h => ?_) (fun cdv A outer s H vs Q E hr h => ?_)
  · obtain ⟨i, rfl, k⟩ := h
    rfl
  · obtain ⟨i, rfl, k⟩ := h
    refine ⟨_, (pss_one (ps_ret (pe_and (pe_callB call_isi (by rfl) T.isinstance (by decide +kernel) (pa_cons (pv 0) (pa_cons (pe_bltn (v := .ty "int") (by rfl) T.int (by decide +kernel) rfl) pa_nil))) (pe_one (pe_not (pe_callB call_isi (by rfl) T.isinstance (by decide +kernel) (pa_cons (pv 0) (pa_cons (pe_bltn (v := .ty "bool") (by rfl) T.bool (by decide +kernel) rfl) pa_nil)))))))), ?_⟩
    refine ⟨_, rfl, .int i, _, _, _, true, rfl, .ty "int", .base (.int i), kit_ty (by decide +kernel), true, rfl, iteT ?_⟩
    exact ⟨_, rfl, .int i, _, _, _, false, rfl, .ty "bool", .base (.int i), kit_ty (by decide +kernel), false, rfl, k⟩
theorem sc_Ratio___init : FnScope ["self", "top", "bottom", "divisor"] ["self", "top", "bottom"] (defScope s_Ratio___init) := ⟨rfl, rfl, rfl, by decide +kernel, rfl, by decide +kernel, by decide +kernel⟩
/-- what a fraction a / b is cut by -/
def dv (a b : Int) : Int := if b < 0 then -((Nat.gcd a.natAbs b.natAbs : Nat) : Int) else ((Nat.gcd a.natAbs b.natAbs : Nat) : Int)
def redN (a b : Int) : Int := a.fdiv (dv a b)
def redD (a b : Int) : Int := b.fdiv (dv a b)
def fl (n d : Int) : List (Str × V) := [("_top", .int n), ("_bottom", .int d)]
theorem fl_put (n d : Int) : putF "_bottom" (.int d) (putF "_top" (.int n) []) = fl n d := by
  show (if ("_top" : Str) = "_bottom" then _ else (("_top" : Str), V.int n) :: putF "_bottom" (V.int d) []) = fl n d
  rw [if_neg (by decide +kernel)]
  rfl
def spInit (R0 : Addr) : Sp := fun vs H Q _ => ∃ (p dx : Addr) (a b : Int), vs = [.ref p, .int a, .int b] ∧ H p = some (.ins R0 dx []) ∧ b ≠ 0 ∧ b.natAbs < 2 ^ 8000 ∧
  ∀ H', Frm [p] H H' → H' p = some (.ins R0 dx (fl (redN a b) (redD a b))) → Q .non H'
theorem ok_Ratio___init (F : FunD K "__init__" "Ratio.__init__" (defArgs s_Ratio___init) (defBody s_Ratio___init) (defScope s_Ratio___init) [.int 1] [] f fd) (T : TB mg) (R : RatT K mg R0) {fII : Addr} {fdII : FuncData} (Dis_int : Gd P w K mg base "is_int" 1 ["value"] spIsInt fII fdII) : FnOk P w K mg base CX0 2 f fd ["self", "top", "bottom"] (spInit R0) := by
  refine F.ok sc_Ratio___init (fun vs H Q E h => ?_) (fun cdv A outer s H vs Q E hr h => ?_)
  · obtain ⟨p, dx, a, b, rfl, hp, hb, hbz, k⟩ := h
    rfl
  · obtain ⟨p, dx, a, b, rfl, hp, hb, hbz, k⟩ := h
    refine ⟨_, (pss_cons (ps_if (pt_not (pt_val (pe_gd Dis_int hr (by decide) (by rfl) (pa_cons (pv 1) pa_nil)))) (pss_one ps_never) pss_nil)
      (pss_cons (ps_if (PW.pt (pw_or (pt_not (pt_val (pe_gd Dis_int hr (by decide) (by rfl) (pa_cons (pv 2) pa_nil)))) (pw_or1 (pt_cmpR op_eq (pv 2) pe_int (nomark _))))) (pss_one ps_never) pss_nil)
      (pss_cons (ps_set (i := 3) sc_Ratio___init.nd rfl (.inl rfl) (pe_callBfun cr_gcd (by rfl) R.gcd (pa_cons (pv 1) (pa_cons (pv 2) pa_nil))))
      (pss_cons (ps_if (pt_cmpR op_lt (pv 2) pe_int (nomark _)) (pss_one (ps_set (i := 3) sc_Ratio___init.nd rfl (.inl rfl) (pe_un un_neg (pv 3)))) pss_nil)
      (pss_cons (ps_fld (pv 0) (pe_op op_fdivX (pv 1) (pv 3)) rfl)
      (pss_one (ps_fld (pv 0) (pe_op op_fdivX (pv 2) (pv 3)) rfl))))))), ?_⟩
    refine ⟨_, rfl, a, rfl, _, rfl, iteF ?_⟩
    refine ⟨_, rfl, b, rfl, _, rfl, iteF ⟨_, rfl, rfl, _, rfl, ?_⟩⟩
    refine ite2 (fun hz => absurd (V.int.inj (of_decide_eq_true hz)) hb) (fun _ => ?_)
    refine ⟨_, rfl, _, rfl, a, b, rfl, ?_⟩
    have hg0 : Nat.gcd a.natAbs b.natAbs ≠ 0 := fun z => hb (by have := Nat.eq_zero_of_gcd_eq_zero_right z; omega)
    have hgl : Nat.gcd a.natAbs b.natAbs ≤ b.natAbs := Nat.gcd_le_right _ (by omega)
    have hgz : Nat.gcd a.natAbs b.natAbs < 2 ^ 8000 := Nat.lt_of_le_of_lt hgl hbz
    have e0 : ¬ (("_top" : Str) = "_bottom") := by decide +kernel
    refine ⟨_, rfl, _, _, rfl, rfl, _, rfl, ?_⟩
    refine ite2 (fun hs => ?_) (fun hs => ?_)
    · have hd : dv a b = -((Nat.gcd a.natAbs b.natAbs : Nat) : Int) := if_pos (of_decide_eq_true hs)
      have hz : dv a b ≠ 0 := by omega
      have hw : (dv a b).natAbs < 2 ^ 8000 := by omega
      refine ⟨_, rfl, _, rfl, ?_⟩
      refine ⟨_, rfl, _, rfl, _, _, rfl, rfl, ⟨by rw [← hd]; exact hz, by rw [← hd]; exact small_log hw (by decide) (by decide)⟩, _, rfl, p, R0, dx, [], rfl, hp, R.cl, R.nT, (by show 0 < 1000; decide), ?_⟩
      refine ⟨_, rfl, _, rfl, _, _, rfl, rfl, ⟨by rw [← hd]; exact hz, by rw [← hd]; exact small_log hw (by decide) (by decide)⟩, _, rfl, p, R0, dx, _, rfl, upd_same, R.cl, R.nB, (by show 1 < 1000; decide), ?_⟩
      rw [upd_upd, ← hd]
      exact k _ (Frm.put (List.mem_singleton.mpr rfl)) (by rw [upd_same]; exact congrArg (fun l => some (HO.ins R0 dx l)) (fl_put _ _))
    · have hd : dv a b = ((Nat.gcd a.natAbs b.natAbs : Nat) : Int) := if_neg (fun z => hs (decide_eq_true z))
      have hz : dv a b ≠ 0 := by omega
      have hw : (dv a b).natAbs < 2 ^ 8000 := by omega
      refine ⟨_, rfl, _, rfl, _, _, rfl, rfl, ⟨by rw [← hd]; exact hz, by rw [← hd]; exact small_log hw (by decide) (by decide)⟩, _, rfl, p, R0, dx, [], rfl, hp, R.cl, R.nT, (by show 0 < 1000; decide), ?_⟩
      refine ⟨_, rfl, _, rfl, _, _, rfl, rfl, ⟨by rw [← hd]; exact hz, by rw [← hd]; exact small_log hw (by decide) (by decide)⟩, _, rfl, p, R0, dx, _, rfl, upd_same, R.cl, R.nB, (by show 1 < 1000; decide), ?_⟩
      rw [upd_upd, ← hd]
      exact k _ (Frm.put (List.mem_singleton.mpr rfl)) (by rw [upd_same]; exact congrArg (fun l => some (HO.ins R0 dx l)) (fl_put _ _))
theorem sc_Ratio_top : FnScope ["self"] ["self"] (defScope s_Ratio_top) := ⟨rfl, rfl, rfl, by decide +kernel, rfl, by decide +kernel, by decide +kernel⟩
/-- a number n / d stands at p -/
def RatAt (R0 : Addr) (H : Hp) (p : Addr) (n d : Int) : Prop := ∃ dx, H p = some (.ins R0 dx (fl n d))
theorem RatAt.frm {R0 : Addr} {M : List Addr} {H H' : Hp} {p : Addr} {n d : Int} (h : RatAt R0 H p n d) (f : Frm M H H') (hp : p ∉ M) : RatAt R0 H' p n d := h.elim fun dx e => ⟨dx, f _ _ e hp⟩
theorem RatAt.ext {R0 : Addr} {H H' : Hp} {p : Addr} {n d : Int} (h : RatAt R0 H p n d) (f : Ext H H') : RatAt R0 H' p n d := h.elim fun dx e => ⟨dx, f _ _ e⟩
theorem fl_top (n d : Int) : (fl n d).lookup ("_top" : Str) = some (.int n) := rfl
theorem fl_bottom (n d : Int) : (fl n d).lookup ("_bottom" : Str) = some (.int d) := rfl
def spTop (R0 : Addr) : Sp := fun vs H Q _ => ∃ (p : Addr) (n d : Int), vs = [.ref p] ∧ RatAt R0 H p n d ∧ Q (.int n) H
def spBot (R0 : Addr) : Sp := fun vs H Q _ => ∃ (p : Addr) (n d : Int), vs = [.ref p] ∧ RatAt R0 H p n d ∧ Q (.int d) H
theorem ok_Ratio_top (F : FunD K "top" "Ratio.top" (defArgs s_Ratio_top) (defBody s_Ratio_top) (defScope s_Ratio_top) [] [] f fd) (T : TB mg) (R : RatT K mg R0) : FnOk P w K mg base CX0 1 f fd ["self"] (spTop R0) := by
  refine F.ok sc_Ratio_top (fun vs H Q E h => ?_) (fun cdv A outer s H vs Q E hr h => ?_)
  · obtain ⟨p, n, d, rfl, ⟨dx, hp⟩, k⟩ := h
    rfl
  · obtain ⟨p, n, d, rfl, ⟨dx, hp⟩, k⟩ := h
    refine ⟨_, (pss_one (ps_ret (pe_fld (pv 0) rfl))), ?_⟩
    exact ⟨_, rfl, p, R0, dx, _, _, rfl, hp, R.cl, R.nT, fl_top _ _, k⟩
theorem sc_Ratio_bottom : FnScope ["self"] ["self"] (defScope s_Ratio_bottom) := ⟨rfl, rfl, rfl, by decide +kernel, rfl, by decide +kernel, by decide +kernel⟩
theorem ok_Ratio_bottom (F : FunD K "bottom" "Ratio.bottom" (defArgs s_Ratio_bottom) (defBody s_Ratio_bottom) (defScope s_Ratio_bottom) [] [] f fd) (T : TB mg) (R : RatT K mg R0) : FnOk P w K mg base CX0 1 f fd ["self"] (spBot R0) := by
  refine F.ok sc_Ratio_bottom (fun vs H Q E h => ?_) (fun cdv A outer s H vs Q E hr h => ?_)
  · obtain ⟨p, n, d, rfl, ⟨dx, hp⟩, k⟩ := h
    rfl
  · obtain ⟨p, n, d, rfl, ⟨dx, hp⟩, k⟩ := h
    refine ⟨_, (pss_one (ps_ret (pe_fld (pv 0) rfl))), ?_⟩
    exact ⟨_, rfl, p, R0, dx, _, _, rfl, hp, R.cl, R.nB, fl_bottom _ _, k⟩
end
end Mc

set_option Elab.async false
set_option linter.all false
set_option maxRecDepth 100000
set_option maxHeartbeats 4000000
set_option exponentiation.threshold 20000
namespace Mc
open PySem PySem.Spec PyProof.Rows L2 TL
/-! ### texts of numbers -/
theorem log1920 {i : Int} (h : i.natAbs < 2 ^ 1900) : i.natAbs.log2 < 1920 := Nat.lt_of_lt_of_le (PySem.Flt.log2_lt_of (by decide) h) (by decide)
def stI (i : Int) : Str := Str.ofString (toString i)
theorem stI_len {i : Int} (h : i.natAbs < 2 ^ 1900) : (stI i).length ≤ 1921 := int_text_len_1921 (log1920 h)
theorem stI_len6 {i : Int} (h : i.natAbs < 2 ^ 600) : (stI i).length ≤ 601 := by
  have := int_text_length_le (a := i) (k := 600) (by decide) (PySem.Flt.log2_lt_of (by decide) h)
  have e : (stI i).length = (toString i).length := by
    unfold stI
    exact PySem.ofString_length _
  omega
def strR (n d : Int) : Str := if d = 1 then stI n else Str.empty ++ stI n ++ Str.ofString "/" ++ stI d
def repR (n d : Int) : Str := Str.empty ++ Str.ofString "Ratio(" ++ stI n ++ Str.ofString ", " ++ stI d ++ Str.ofString ")"
theorem stI_tl (m : Nat) : tl (stI (m : Int)) = numL m := tl_num m
theorem stI_neg {n : Int} (h : n < 0) : tl (stI n) = 45 :: numL n.natAbs := by
  rw [← stI_tl n.natAbs]
  unfold stI tl
  rw [toString_neg h, show (0 - n : Int) = (n.natAbs : Int) by omega]
  rw [PyProof.Rows.signs_ofString, PyProof.Rows.signs_ofString, String.toList_append, List.map_append]
  rfl
theorem numL_head : ∀ m : Nat, 0 < m → (numL m).head? ≠ some 48 := by
  intro m
  induction m using Nat.strongRecOn with
  | _ m ih =>
    intro h0
    by_cases h : m < 10
    · rw [numL_lt h]
      simp
      omega
    · rw [numL_step (by omega)]
      have := ih (m / 10) (by omega) (by omega)
      cases e : numL (m / 10) with
      | nil => exact absurd e (numL_ne _)
      | cons c r =>
        rw [e] at this
        simpa using this
theorem dig_ascii (m : Nat) : Txt.isascii (stI (m : Int)) = true := by
  unfold Txt.isascii
  rw [← Array.all_toList, List.all_eq_true]
  intro c hc
  have := numL_digits m c (by rw [← stI_tl]; exact hc)
  exact decide_eq_true (by omega)
theorem dig_digit (m : Nat) : Txt.isdigit (stI (m : Int)) = true := by
  unfold Txt.isdigit
  rw [← Array.all_toList, Bool.and_eq_true, List.all_eq_true]
  refine ⟨?_, fun c hc => ?_⟩
  · have := numL_ne m
    rw [← stI_tl] at this
    have h2 : 0 < (tl (stI (m : Int))).length := List.length_pos_iff.mpr this
    rw [len_tl]
    exact decide_eq_true h2
  · have hd := numL_digits m c (by rw [← stI_tl]; exact hc)
    obtain ⟨k, hk, rfl⟩ : ∃ k, k < 10 ∧ c = 48 + k := ⟨c - 48, by omega, by omega⟩
    have : ∀ k < 10, Unicode.isDigit (48 + k) = true := by decide +kernel
    exact this k hk
theorem dig_start {m : Nat} (h : 0 < m) : Txt.startswith (stI (m : Int)) (Str.ofString "0") = false := by
  cases e : Txt.startswith (stI (m : Int)) (Str.ofString "0") with
  | false => rfl
  | true =>
    exfalso
    unfold Txt.startswith at e
    rw [Bool.and_eq_true] at e
    have e2 := e.2
    unfold Builtin.Str.subAt at e2
    have e3 := eq_of_beq e2
    have e4 := congrArg Array.toList e3
    have h1 : (stI (m : Int)).cps.toList = numL m := stI_tl m
    rw [Array.toList_extract, h1] at e4
    have hh := numL_head m h
    cases q : numL m with
    | nil => exact absurd q (numL_ne _)
    | cons c r =>
      rw [q] at e4 hh
      have : c = 48 := by
        have z : (Str.ofString "0").cps.toList = [48] := by decide +kernel
        rw [z] at e4
        have z2 : (0 + (Str.ofString "0").length) = 1 := by decide +kernel
        rw [z2] at e4
        simpa using e4
      subst this
      exact hh rfl

theorem stI_free (n : Int) : 47 ∉ tl (stI n) := by
  by_cases h0 : n < 0
  · rw [stI_neg h0]
    intro z
    rcases List.mem_cons.mp z with z | z
    · cases z
    · exact numL_free (.inl (by decide)) z
  · obtain ⟨m, rfl⟩ := Int.eq_ofNat_of_zero_le (Int.not_lt.mp h0)
    rw [stI_tl]
    exact numL_free (.inl (by decide))
/-- a text without the sign in front, if there is one -/
theorem cut_minus {x : Str} {cs : List Nat} (h : tl x = 45 :: cs) : tl (Txt.removeprefix x (Str.ofString "-")) = cs := by
  have hx : x.cps.toList = 45 :: cs := h
  have z : (Str.ofString "-").cps.toList = [45] := by decide +kernel
  have z2 : (Str.ofString "-").length = 1 := by decide +kernel
  have hl : x.length = cs.length + 1 := by rw [len_tl, h] <;> rfl
  have hs : Builtin.Str.subAt x (Str.ofString "-") 0 = true := by
    unfold Builtin.Str.subAt
    rw [z2]
    refine beq_iff_eq.mpr (Array.toList_inj.mp ?_)
    rw [Array.toList_extract, hx, z]
    rfl
  unfold Txt.removeprefix
  rw [hs, if_pos rfl, z2]
  show tl (if x.length - 1 == x.length then x else Builtin.Str.strSub x 1 x.length) = cs
  rw [if_neg (by simp; omega)]
  show (x.cps.extract 1 x.length).toList = cs
  rw [Array.toList_extract, hx, hl]
  simp [List.extract]
theorem cut_stI {n : Int} : Txt.removeprefix (stI n) (Str.ofString "-") = stI (n.natAbs : Int) ∨ 0 ≤ n := by
  by_cases h0 : n < 0
  · refine .inl (PyProof.Rows.ext_toList ?_)
    show tl _ = tl _
    rw [cut_minus (stI_neg h0), stI_tl]
  · exact .inr (by omega)
theorem cut_none {m : Nat} : Txt.removeprefix (stI (m : Int)) (Str.ofString "-") = stI (m : Int) := by
  unfold Txt.removeprefix
  have : Builtin.Str.subAt (stI (m : Int)) (Str.ofString "-") 0 = false := by
    cases e : Builtin.Str.subAt (stI (m : Int)) (Str.ofString "-") 0 with
    | false => rfl
    | true =>
      exfalso
      unfold Builtin.Str.subAt at e
      have e4 := congrArg Array.toList (eq_of_beq e)
      have h1 : (stI (m : Int)).cps.toList = numL m := stI_tl m
      rw [Array.toList_extract, h1] at e4
      cases q : numL m with
      | nil => exact absurd q (numL_ne _)
      | cons c r =>
        rw [q] at e4
        have : c = 45 := by
          have z : (Str.ofString "-").cps.toList = [45] := by decide +kernel
          rw [z] at e4
          have z2 : (0 + (Str.ofString "-").length) = 1 := by decide +kernel
          rw [z2] at e4
          simpa using e4
        have := numL_digits m c (by rw [q]; exact List.mem_cons_self)
        omega
  rw [this] <;> rfl
theorem cut_all (n : Int) : Txt.removeprefix (stI n) (Str.ofString "-") = stI (n.natAbs : Int) := by
  rcases cut_stI (n := n) with h | h
  · exact h
  · obtain ⟨m, rfl⟩ := Int.eq_ofNat_of_zero_le h
    exact cut_none
/-- int of such a text -/
theorem int_stI {i : Int} (h : i.natAbs < 2 ^ 600) : intText? (stI i) = some i := by
  have hl := stI_len6 h
  by_cases h0 : i < 0
  · have e := PySem.intText_neg (x := stI i) (stI_neg h0) (numL_digits _) (numL_ne _) (by omega)
    rw [numL_val] at e
    rw [e]
    exact congrArg some (by omega)
  · obtain ⟨m, rfl⟩ := Int.eq_ofNat_of_zero_le (Int.not_lt.mp h0)
    have e : (numL m).length ≤ 4300 := by
      have := len_tl (stI (m : Int))
      rw [stI_tl] at this
      omega
    exact int_num e
theorem part_stI (n d : Int) (y : Str) : Txt.partition (stI n ++ Str.ofString "/" ++ y) (Str.ofString "/") = (stI n, Str.ofString "/", y) :=
  partition_app (s := 47) (S := []) (by decide +kernel) (stI_free n)
end Mc

set_option Elab.async false
set_option linter.all false
set_option maxRecDepth 100000
set_option maxHeartbeats 4000000
set_option exponentiation.threshold 20000
namespace Mc
open PySem PySem.Spec PyProof.Rows L2
section
variable {P : Program} {w : World} {K : PySem.W.Frag} {mg : Str → Option Value} {base : Heap} {f R0 : Addr} {fd : FuncData}
theorem sc_as_ratio : FnScope ["value"] ["value"] (defScope s_as_ratio) := ⟨rfl, rfl, rfl, by decide +kernel, rfl, by decide +kernel, by decide +kernel⟩
def Num (R0 : Addr) (H : Hp) (x : V) (n d : Int) : Prop := (∃ p, x = .ref p ∧ RatAt R0 H p n d) ∨ (x = .int n ∧ d = 1)
theorem red_one (n : Int) : redN n 1 = n ∧ redD n 1 = 1 := by
  have e : dv n 1 = 1 := by
    unfold dv
    rw [if_neg (by decide), show (1 : Int).natAbs = 1 from rfl, Nat.gcd_one_right]
    rfl
  unfold redN redD
  rw [e]
  exact ⟨Int.fdiv_one n, rfl⟩
def spAs (R0 : Addr) : Sp := fun vs H Q _ => ∃ (x : V) (n d : Int), vs = [x] ∧ Num R0 H x n d ∧ ∀ p H', Ext H H' → RatAt R0 H' p n d → Q (.ref p) H'
theorem ok_as_ratio (F : FunD K "as_ratio" "as_ratio" (defArgs s_as_ratio) (defBody s_as_ratio) (defScope s_as_ratio) [] [] f fd) (T : TB mg) (R : RatT K mg R0) {fI : Addr} {fdI : FuncData} {dsI : List Value} (MI : Mk K R0 fI) (GI : FnOk P w K mg base CX0 2 fI fdI ["self", "top", "bottom"] (spInit R0)) (bI2 : Binds K fdI ["self", "top", "bottom"] []) (hdI : Vals [.int 1] dsI) (bI1 : Binds K fdI ["self", "top", "bottom"] dsI) : FnOk P w K mg base CX0 4 f fd ["value"] (spAs R0) := by
  refine F.ok sc_as_ratio (fun vs H Q E h => ?_) (fun cdv A outer s H vs Q E hr h => ?_)
  · obtain ⟨x, n, d, rfl, hx, k⟩ := h
    rfl
  · obtain ⟨x, n, d, rfl, hx, k⟩ := h
    refine ⟨_, (pss_cons (ps_if (pt_val (pe_callB call_isi (by rfl) T.isinstance (by decide +kernel) (pa_cons (pv 0) (pa_cons (pe_glob (v := .ref R0) (by rfl) R.mgR rfl) pa_nil)))) (pss_one (ps_ret (pv 0))) pss_nil)
      (pss_one (ps_ret (pe_make MI GI (hr.mono (by decide)) (by rfl) R.mgR bI1 hdI pass0 (pa_cons (pv 0) pa_nil))))), ?_⟩
    rcases hx with ⟨p, rfl, dx, hp⟩ | ⟨rfl, rfl⟩
    · refine ⟨_, rfl, .ref p, _, _, _, true, rfl, .own R0, .base (.ins hp R.cl R.ca R.cn R.ct R.cm), R.kR, true, rfl, iteT ?_⟩
      exact ⟨_, rfl, k p H Ext.rfl' ⟨dx, hp⟩⟩
    · refine ⟨_, rfl, .int n, _, _, _, false, rfl, .own R0, .base (.int n), R.kk "int" (by decide), false, rfl, iteF ?_⟩
      refine ⟨_, rfl, fun x dx hx hdx ne => ⟨x, dx, n, 1, rfl, upd_same, by decide, by decide, fun H' F1 h1 => ⟨rfl, ?_⟩⟩⟩
      refine k x H' (fun a o e => F1 a o ?_ (fun z => ?_)) ⟨dx, by rw [h1, (red_one n).1, (red_one n).2]⟩
      · rw [upd_ne (ne_of_none e hx), upd_ne (ne_of_none e hdx)]
        exact e
      · rw [List.mem_singleton.mp z, hx] at e
        cases e
theorem sc_Ratio_is_below : FnScope ["self", "other", "number"] ["self", "other"] (defScope s_Ratio_is_below) := ⟨rfl, rfl, rfl, by decide +kernel, rfl, by decide +kernel, by decide +kernel⟩
def spBelow (R0 : Addr) : Sp := fun vs H Q _ => ∃ (p : Addr) (x : V) (n d n2 d2 : Int), vs = [.ref p, x] ∧ RatAt R0 H p n d ∧ Num R0 H x n2 d2 ∧ n.natAbs < 2 ^ 4000 ∧ d.natAbs < 2 ^ 4000 ∧ n2.natAbs < 2 ^ 4000 ∧ d2.natAbs < 2 ^ 4000 ∧
  ∀ H', Ext H H' → Q (.bl (decide (n * d2 < n2 * d))) H'
theorem ok_Ratio_is_below (F : FunD K "is_below" "Ratio.is_below" (defArgs s_Ratio_is_below) (defBody s_Ratio_is_below) (defScope s_Ratio_is_below) [] [] f fd) (T : TB mg) (R : RatT K mg R0) {fTop pTop fBot pBot : Addr} {fdTop fdBot : FuncData} (pT : PropOf K R0 "top" pTop fTop) (Gtop : FnOk P w K mg base CX0 1 fTop fdTop ["self"] (spTop R0)) (bTop : Binds K fdTop ["self"] []) (pB : PropOf K R0 "bottom" pBot fBot) (Gbot : FnOk P w K mg base CX0 1 fBot fdBot ["self"] (spBot R0)) (bBot : Binds K fdBot ["self"] []) {fAs : Addr} {fdAs : FuncData} (Das_ratio : Gd P w K mg base "as_ratio" 4 ["value"] (spAs R0) fAs fdAs) : FnOk P w K mg base CX0 5 f fd ["self", "other"] (spBelow R0) := by
  refine F.ok sc_Ratio_is_below (fun vs H Q E h => ?_) (fun cdv A outer s H vs Q E hr h => ?_)
  · obtain ⟨p, x, n, d, n2, d2, rfl, hp, hx, hn, hd, hn2, hd2, k⟩ := h
    rfl
  · obtain ⟨p, x, n, d, n2, d2, rfl, hp, hx, hn, hd, hn2, hd2, k⟩ := h
    refine ⟨_, (pss_cons (ps_set (i := 2) sc_Ratio_is_below.nd rfl (.inl rfl) (pe_gd Das_ratio hr (by decide) (by rfl) (pa_cons (pv 1) pa_nil)))
      (pss_one (ps_ret (pe_cmpR op_lt (pe_op op_mulW (pe_fld (pv 0) rfl) (pe_prop (pv 2) R.cl pB Gbot (hr.mono (by decide)) bBot .nil pass0 rfl)) (pe_op op_mulW (pe_prop (pv 2) R.cl pT Gtop (hr.mono (by decide)) bTop .nil pass0 rfl) (pe_fld (pv 0) rfl)) (nomark _))))), ?_⟩
    refine ⟨_, rfl, x, n2, d2, rfl, hx, fun q H1 e1 hq => ?_⟩
    obtain ⟨dx, hp1⟩ := hp.ext e1
    obtain ⟨dq, hq1⟩ := id hq
    refine ⟨_, rfl, p, R0, dx, _, _, rfl, hp1, R.cl, R.nT, fl_top _ _, _, rfl, q, dq, _, rfl, hq1, q, n2, d2, rfl, hq, _, _, rfl, rfl, mulW hn hd2, ?_⟩
    refine ⟨_, rfl, q, dq, _, rfl, hq1, q, n2, d2, rfl, hq, _, rfl, p, R0, dx, _, _, rfl, hp1, R.cl, R.nB, fl_bottom _ _, _, _, rfl, rfl, mulW hn2 hd, ?_⟩
    exact ⟨_, _, rfl, rfl, k H1 e1⟩
theorem sc_Ratio_floor : FnScope ["self"] ["self"] (defScope s_Ratio_floor) := ⟨rfl, rfl, rfl, by decide +kernel, rfl, by decide +kernel, by decide +kernel⟩
def spFloor (R0 : Addr) : Sp := fun vs H Q _ => ∃ (p : Addr) (n d : Int), vs = [.ref p] ∧ RatAt R0 H p n d ∧ d ≠ 0 ∧ d.natAbs < 2 ^ 8000 ∧ Q (.int (n.fdiv d)) H
theorem ok_Ratio_floor (F : FunD K "floor" "Ratio.floor" (defArgs s_Ratio_floor) (defBody s_Ratio_floor) (defScope s_Ratio_floor) [] [] f fd) (T : TB mg) (R : RatT K mg R0) : FnOk P w K mg base CX0 1 f fd ["self"] (spFloor R0) := by
  refine F.ok sc_Ratio_floor (fun vs H Q E h => ?_) (fun cdv A outer s H vs Q E hr h => ?_)
  · obtain ⟨p, n, d, rfl, ⟨dx, hp⟩, hd0, hd, k⟩ := h
    rfl
  · obtain ⟨p, n, d, rfl, ⟨dx, hp⟩, hd0, hd, k⟩ := h
    refine ⟨_, (pss_one (ps_ret (pe_op op_fdivX (pe_fld (pv 0) rfl) (pe_fld (pv 0) rfl)))), ?_⟩
    exact ⟨_, rfl, p, R0, dx, _, _, rfl, hp, R.cl, R.nT, fl_top _ _, _, rfl, p, R0, dx, _, _, rfl, hp, R.cl, R.nB, fl_bottom _ _, _, _, rfl, rfl, ⟨hd0, small_log hd (by decide) (by decide)⟩, k⟩
theorem sc_Ratio___eq : FnScope ["self", "other"] ["self", "other"] (defScope s_Ratio___eq) := ⟨rfl, rfl, rfl, by decide +kernel, rfl, by decide +kernel, by decide +kernel⟩
def spEqR (K : PySem.W.Frag) (R0 : Addr) : Sp := fun vs H Q _ => ∃ (p : Addr) (y : V) (n d : Int), vs = [.ref p, y] ∧ RatAt R0 H p n d ∧
  ((∃ (q : Addr) (n2 d2 : Int), y = .ref q ∧ RatAt R0 H q n2 d2 ∧ Q (.bl (decide (n = n2) && decide (d = d2))) H) ∨ (∃ t, TyX K H y t ∧ PySem.W.kitOne K t (.ref R0) = some false ∧ Q (.bl false) H))
theorem ok_Ratio___eq (F : FunD K "__eq__" "Ratio.__eq__" (defArgs s_Ratio___eq) (defBody s_Ratio___eq) (defScope s_Ratio___eq) [] [] f fd) (T : TB mg) (R : RatT K mg R0) : FnOk P w K mg base CX0 1 f fd ["self", "other"] (spEqR K R0) := by
  refine F.ok sc_Ratio___eq (fun vs H Q E h => ?_) (fun cdv A outer s H vs Q E hr h => ?_)
  · obtain ⟨p, y, n, d, rfl, ⟨dx, hp⟩, hy⟩ := h
    rfl
  · obtain ⟨p, y, n, d, rfl, ⟨dx, hp⟩, hy⟩ := h
    refine ⟨_, (pss_one (ps_ret (pe_and (pe_callB call_isi (by rfl) T.isinstance (by decide +kernel) (pa_cons (pv 1) (pa_cons (pe_glob (v := .ref R0) (by rfl) R.mgR rfl) pa_nil))) (pe_and (pe_cmpR op_eq (pe_fld (pv 0) rfl) (pe_fld (pv 1) rfl) (nomark _)) (pe_one (pe_cmpR op_eq (pe_fld (pv 0) rfl) (pe_fld (pv 1) rfl) (nomark _))))))), ?_⟩
    rcases hy with ⟨q, n2, d2, rfl, ⟨dq, hq⟩, k⟩ | ⟨t, ty, hk, k⟩
    · refine ⟨_, rfl, .ref q, _, _, _, true, rfl, .own R0, .base (.ins hq R.cl R.ca R.cn R.ct R.cm), R.kR, true, rfl, iteT ?_⟩
      refine ⟨_, rfl, p, R0, dx, _, _, rfl, hp, R.cl, R.nT, fl_top _ _, _, rfl, q, R0, dq, _, _, rfl, hq, R.cl, R.nT, fl_top _ _, rfl, _, rfl, ?_⟩
      rw [dec_int] at *
      by_cases e : n = n2
      · subst e
        rw [show (n == n) = true from beq_self_eq_true n]
        refine iteT ⟨_, rfl, p, R0, dx, _, _, rfl, hp, R.cl, R.nB, fl_bottom _ _, _, rfl, q, R0, dq, _, _, rfl, hq, R.cl, R.nB, fl_bottom _ _, rfl, ?_⟩
        rw [dec_int, Bool.beq_eq_decide_eq d d2]
        simpa using k
      · rw [show (n == n2) = false from beq_eq_false_iff_ne.mpr e]
        refine iteF ?_
        simpa [e] using k
    · exact ⟨_, rfl, y, _, _, _, false, rfl, .own R0, ty, hk, false, rfl, iteF k⟩
theorem sc_Ratio___str : FnScope ["self"] ["self"] (defScope s_Ratio___str) := ⟨rfl, rfl, rfl, by decide +kernel, rfl, by decide +kernel, by decide +kernel⟩
def spStr (R0 : Addr) : Sp := fun vs H Q _ => ∃ (p : Addr) (n d : Int), vs = [.ref p] ∧ RatAt R0 H p n d ∧ n.natAbs < 2 ^ 1900 ∧ d.natAbs < 2 ^ 1900 ∧ Q (.str (strR n d)) H
def spRepr (R0 : Addr) : Sp := fun vs H Q _ => ∃ (p : Addr) (n d : Int), vs = [.ref p] ∧ RatAt R0 H p n d ∧ n.natAbs < 2 ^ 1900 ∧ d.natAbs < 2 ^ 1900 ∧ Q (.str (repR n d)) H
theorem ok_Ratio___str (F : FunD K "__str__" "Ratio.__str__" (defArgs s_Ratio___str) (defBody s_Ratio___str) (defScope s_Ratio___str) [] [] f fd) (T : TB mg) (R : RatT K mg R0) : FnOk P w K mg base CX0 1 f fd ["self"] (spStr R0) := by
  refine F.ok sc_Ratio___str (fun vs H Q E h => ?_) (fun cdv A outer s H vs Q E hr h => ?_)
  · obtain ⟨p, n, d, rfl, ⟨dx, hp⟩, hn, hd, k⟩ := h
    rfl
  · obtain ⟨p, n, d, rfl, ⟨dx, hp⟩, hn, hd, k⟩ := h
    refine ⟨_, (pss_cons (ps_if (pt_cmpR op_eq (pe_fld (pv 0) rfl) pe_int (nomark _)) (pss_one (ps_ret (pe_callTy call_str_int (by rfl) T.str (by decide +kernel) (pa_cons (pe_fld (pv 0) rfl) pa_nil)))) pss_nil)
      (pss_one (ps_ret (pe_joined (PJ.cons (pe_fmt (pe_fld (pv 0) rfl)) (PJ.cons pe_str (PJ.cons (pe_fmt (pe_fld (pv 0) rfl)) PJ.nil))))))), ?_⟩
    refine ⟨_, rfl, p, R0, dx, _, _, rfl, hp, R.cl, R.nB, fl_bottom _ _, rfl, _, rfl, ite2 (fun hz => ?_) (fun hz => ?_)⟩
    · have e : d = 1 := V.int.inj (of_decide_eq_true hz)
      refine ⟨_, rfl, p, R0, dx, _, _, rfl, hp, R.cl, R.nT, fl_top _ _, n, rfl, log1920 hn, ?_⟩
      rw [strR, if_pos e] at k
      exact k
    · have e : d ≠ 1 := fun z => hz (decide_eq_true (by rw [z]))
      have l1 := stI_len hn
      have l2 := stI_len hd
      have c0 : (Str.empty : Str).length = 0 := rfl
      have c1 : (Str.ofString "/").length = 1 := rfl
      rw [strR, if_neg e] at k
      refine ⟨_, rfl, p, R0, dx, _, _, rfl, hp, R.cl, R.nT, fl_top _ _, .inr ⟨n, rfl, log1920 hn, _, rfl, ?_, _, rfl, ?_, ?_⟩⟩
      · show (Str.empty ++ stI n).length ≤ sizeLine
        rw [Str.length_append, sizeLine_eq]
        omega
      · show (Str.empty ++ stI n ++ Str.ofString "/").length ≤ sizeLine
        rw [Str.length_append, Str.length_append, sizeLine_eq]
        omega
      · refine ⟨_, rfl, p, R0, dx, _, _, rfl, hp, R.cl, R.nB, fl_bottom _ _, .inr ⟨d, rfl, log1920 hd, _, rfl, ?_, k⟩⟩
        show (Str.empty ++ stI n ++ Str.ofString "/" ++ stI d).length ≤ sizeLine
        rw [Str.length_append, Str.length_append, Str.length_append, sizeLine_eq]
        omega
theorem sc_Ratio___repr : FnScope ["self"] ["self"] (defScope s_Ratio___repr) := ⟨rfl, rfl, rfl, by decide +kernel, rfl, by decide +kernel, by decide +kernel⟩
theorem ok_Ratio___repr (F : FunD K "__repr__" "Ratio.__repr__" (defArgs s_Ratio___repr) (defBody s_Ratio___repr) (defScope s_Ratio___repr) [] [] f fd) (T : TB mg) (R : RatT K mg R0) : FnOk P w K mg base CX0 1 f fd ["self"] (spRepr R0) := by
  refine F.ok sc_Ratio___repr (fun vs H Q E h => ?_) (fun cdv A outer s H vs Q E hr h => ?_)
  · obtain ⟨p, n, d, rfl, ⟨dx, hp⟩, hn, hd, k⟩ := h
    rfl
  · obtain ⟨p, n, d, rfl, ⟨dx, hp⟩, hn, hd, k⟩ := h
    refine ⟨_, (pss_one (ps_ret (pe_joined (PJ.cons pe_str (PJ.cons (pe_fmt (pe_fld (pv 0) rfl)) (PJ.cons pe_str (PJ.cons (pe_fmt (pe_fld (pv 0) rfl)) (PJ.cons pe_str PJ.nil)))))))), ?_⟩
    have l1 := stI_len hn
    have l2 := stI_len hd
    have c0 : (Str.empty : Str).length = 0 := rfl
    have c1 : (Str.ofString "Ratio(").length = 6 := rfl
    have c2 : (Str.ofString ", ").length = 2 := rfl
    have c3 : (Str.ofString ")").length = 1 := rfl
    refine ⟨_, rfl, ?_, _, rfl, p, R0, dx, _, _, rfl, hp, R.cl, R.nT, fl_top _ _, .inr ⟨n, rfl, log1920 hn, _, rfl, ?_, _, rfl, ?_, ?_⟩⟩
    · show (Str.empty ++ Str.ofString "Ratio(").length ≤ sizeLine
      rw [Str.length_append, sizeLine_eq]
      omega
    · show (Str.empty ++ Str.ofString "Ratio(" ++ stI n).length ≤ sizeLine
      rw [Str.length_append, Str.length_append, sizeLine_eq]
      omega
    · show (Str.empty ++ Str.ofString "Ratio(" ++ stI n ++ Str.ofString ", ").length ≤ sizeLine
      rw [Str.length_append, Str.length_append, Str.length_append, sizeLine_eq]
      omega
    · refine ⟨_, rfl, p, R0, dx, _, _, rfl, hp, R.cl, R.nB, fl_bottom _ _, .inr ⟨d, rfl, log1920 hd, _, rfl, ?_, _, rfl, ?_, k⟩⟩
      · show (Str.empty ++ Str.ofString "Ratio(" ++ stI n ++ Str.ofString ", " ++ stI d).length ≤ sizeLine
        rw [Str.length_append, Str.length_append, Str.length_append, Str.length_append, sizeLine_eq]
        omega
      · show (Str.empty ++ Str.ofString "Ratio(" ++ stI n ++ Str.ofString ", " ++ stI d ++ Str.ofString ")").length ≤ sizeLine
        rw [Str.length_append, Str.length_append, Str.length_append, Str.length_append, Str.length_append, sizeLine_eq]
        omega
end
end Mc

set_option Elab.async false
set_option linter.all false
set_option maxRecDepth 100000
set_option maxHeartbeats 4000000
set_option exponentiation.threshold 20000
namespace Mc
open PySem PySem.Spec PyProof.Rows L2
section
variable {P : Program} {w : World} {K : PySem.W.Frag} {mg : Str → Option Value} {base : Heap} {f R0 : Addr} {fd : FuncData}
theorem sc_is_digits : FnScope ["text"] ["text"] (defScope s_is_digits) := ⟨rfl, rfl, rfl, by decide +kernel, rfl, by decide +kernel, by decide +kernel⟩
def spDigits : Sp := fun vs H Q _ => ∃ m : Nat, vs = [.str (stI m)] ∧ m < 2 ^ 600 ∧ Q (.bl true) H
theorem ok_is_digits (F : FunD K "_is_digits" "_is_digits" (defArgs s_is_digits) (defBody s_is_digits) (defScope s_is_digits) [] [] f fd) (T : TB mg) (R : RatT K mg R0) : FnOk P w K mg base CX0 1 f fd ["text"] (spDigits) := by
  refine F.ok sc_is_digits (fun vs H Q E h => ?_) (fun cdv A outer s H vs Q E hr h => ?_)
  · obtain ⟨m, rfl, hm, k⟩ := h
    rfl
  · obtain ⟨m, rfl, hm, k⟩ := h
    refine ⟨_, (pss_cons (ps_if (PW.pt (pw_or (pt_not (PW.pt (pw_and (pt_val (pe_m0 PySem.F.slot_str_isascii PySem.F.type_str_isascii mt_isascii (pv 0))) (pw_and1 (pt_val (pe_m0 PySem.F.slot_str_isdigit PySem.F.type_str_isdigit mt_isdigit (pv 0))))))) (pw_or1 (pt_cmpR op_gt (pe_callB call_len (by rfl) T.len PySem.boot_len (pa_cons (pv 0) pa_nil)) (pe_glob (v := .int 4000) (by rfl) R.md.choose_spec ⟨_, rfl⟩) (nomark _))))) (pss_one (ps_ret pe_bl)) pss_nil)
      (pss_one (ps_ret (pe_or (pe_cmpR op_eq (pv 0) pe_str (nomark _)) (pe_one (pe_not (pe_m1 PySem.F.slot_str_startswith PySem.F.type_str_startswith mt_startswith (pv 0) pe_str))))))), ?_⟩
    have hl := stI_len6 (i := (m : Int)) (by omega)
    refine ⟨_, rfl, ⟨_, rfl⟩, stI m, rfl, rfl, True.intro, _, rfl, ?_⟩
    rw [dig_ascii]
    refine iteT ⟨_, rfl, ⟨_, rfl⟩, stI m, rfl, rfl, True.intro, _, rfl, ?_⟩
    rw [dig_digit]
    refine iteF ⟨_, rfl, .str (stI m), (stI m).length, rfl, ⟨by rw [sizeLine_eq]; omega, rfl⟩, _, _, rfl, rfl, _, rfl, ?_⟩
    refine ite2 (fun hz => absurd (of_decide_eq_true hz) (by show ¬ ((4000 : Int) < ((stI m).length : Int)); omega)) (fun _ => ?_)
    refine ⟨_, rfl, rfl, _, rfl, ite2 (fun _ => k) (fun hz => ?_)⟩
    have h0 : 0 < m := by
      rcases Nat.eq_zero_or_pos m with e | e
      · subst e
        exact absurd (decide_eq_true (by rw [show stI ((0 : Nat) : Int) = Str.ofString "0" from rfl])) hz
      · exact e
    refine ⟨_, rfl, ⟨_, rfl⟩, stI m, Str.ofString "0", rfl, rfl, _, rfl, ?_⟩
    rw [dig_start h0]
    exact k
theorem sc_bottom_of : FnScope ["slash", "text"] ["slash", "text"] (defScope s_bottom_of) := ⟨rfl, rfl, rfl, by decide +kernel, rfl, by decide +kernel, by decide +kernel⟩
def spBottom : Sp := fun vs H Q _ => ∃ (x y : Str) (d : Nat), vs = [.str x, .str y] ∧ d < 2 ^ 600 ∧ 0 < d ∧ ((x = Str.ofString "" ∧ d = 1) ∨ (x = Str.ofString "/" ∧ y = stI d)) ∧ Q (.int d) H
theorem ok_bottom_of (F : FunD K "_bottom_of" "_bottom_of" (defArgs s_bottom_of) (defBody s_bottom_of) (defScope s_bottom_of) [] [] f fd) (T : TB mg) (R : RatT K mg R0) {fDi : Addr} {fdDi : FuncData} (Dis_digits : Gd P w K mg base "_is_digits" 1 ["text"] spDigits fDi fdDi) : FnOk P w K mg base CX0 2 f fd ["slash", "text"] (spBottom) := by
  refine F.ok sc_bottom_of (fun vs H Q E h => ?_) (fun cdv A outer s H vs Q E hr h => ?_)
  · obtain ⟨x, y, d, rfl, hd, hd0, hy, k⟩ := h
    rfl
  · obtain ⟨x, y, d, rfl, hd, hd0, hy, k⟩ := h
    refine ⟨_, (pss_cons (ps_if (pt_cmpR op_eq (pv 0) pe_str (nomark _)) (pss_one (ps_ret pe_int)) pss_nil)
      (pss_cons (ps_if (PW.pt (pw_or (pt_not (pt_val (pe_gd Dis_digits hr (by decide) (by rfl) (pa_cons (pv 1) pa_nil)))) (pw_or1 (pt_cmpR op_eq (pv 1) pe_str (nomark _))))) (pss_one ps_never) pss_nil)
      (pss_one (ps_ret (pe_callTy call_int_str (by rfl) T.int (by decide +kernel) (pa_cons (pv 1) pa_nil)))))), ?_⟩
    rcases hy with ⟨rfl, rfl⟩ | ⟨rfl, rfl⟩
    · exact ⟨_, rfl, rfl, _, rfl, ite2 (fun _ => k) (fun hz => absurd (by decide +kernel) hz)⟩
    · refine ⟨_, rfl, rfl, _, rfl, ite2 (fun hz => absurd hz (by decide +kernel)) (fun _ => ?_)⟩
      refine ⟨_, rfl, d, rfl, hd, _, rfl, iteF ⟨_, rfl, rfl, _, rfl, ?_⟩⟩
      refine ite2 (fun hz => ?_) (fun _ => ?_)
      · have e := V.str.inj (of_decide_eq_true hz)
        have e2 := congrArg TL.tl e
        rw [stI_tl, show TL.tl (Str.ofString "0") = TL.numL 0 by decide +kernel] at e2
        exact absurd (TL.numL_inj e2) (by omega)
      · have hl := stI_len6 (i := (d : Int)) (by omega)
        exact ⟨_, rfl, stI d, d, rfl, int_stI (i := (d : Int)) (by omega), by omega, k⟩
theorem sc_Ratio_read : FnScope ["text", "top", "slash", "bottom", "number"] ["text"] (defScope s_Ratio_read) := ⟨rfl, rfl, rfl, by decide +kernel, rfl, by decide +kernel, by decide +kernel⟩
theorem fresh_of {H : Hp} {p t : Addr} {o : HO} (h : (upd H t o) p = none) (ht : H t = none) : H p = none := by
  by_cases e : p = t
  · rw [e]
    exact ht
  · rwa [upd_ne e] at h
/-- of a text that str tells -/
def spRead (R0 : Addr) : Sp := fun vs H Q _ => ∃ (n d : Int), vs = [.str (strR n d)] ∧ n.natAbs < 2 ^ 600 ∧ d.natAbs < 2 ^ 600 ∧ 0 < d ∧ redN n d = n ∧ redD n d = d ∧ ∀ p H', Ext H H' → RatAt R0 H' p n d → Q (.ref p) H'
theorem ok_Ratio_read (F : FunD K "read" "Ratio.read" (defArgs s_Ratio_read) (defBody s_Ratio_read) (defScope s_Ratio_read) [] [] f fd) (T : TB mg) (R : RatT K mg R0) {fI : Addr} {fdI : FuncData} {dsI : List Value} (MI : Mk K R0 fI) (GI : FnOk P w K mg base CX0 2 fI fdI ["self", "top", "bottom"] (spInit R0)) (bI2 : Binds K fdI ["self", "top", "bottom"] []) (hdI : Vals [.int 1] dsI) (bI1 : Binds K fdI ["self", "top", "bottom"] dsI) {fDi : Addr} {fdDi : FuncData} (Dis_digits : Gd P w K mg base "_is_digits" 1 ["text"] spDigits fDi fdDi) {fBo : Addr} {fdBo : FuncData} (Dbottom_of : Gd P w K mg base "_bottom_of" 2 ["slash", "text"] spBottom fBo fdBo) {fSt : Addr} {fdSt : FuncData} (mStr : Meth K R0 "__str__" fSt) (Gstr : FnOk P w K mg base CX0 1 fSt fdSt ["self"] (spStr R0)) (bStr : Binds K fdSt ["self"] []) : FnOk P w K mg base CX0 5 f fd ["text"] (spRead R0) := by
  refine F.ok sc_Ratio_read (fun vs H Q E h => ?_) (fun cdv A outer s H vs Q E hr h => ?_)
  · obtain ⟨n, d, rfl, hn, hd, hd0, c1, c2, k⟩ := h
    rfl
  · obtain ⟨n, d, rfl, hn, hd, hd0, c1, c2, k⟩ := h
    refine ⟨_, (pss_cons (ps_if (pt_not (pt_val (pe_callB call_isi (by rfl) T.isinstance (by decide +kernel) (pa_cons (pv 0) (pa_cons (pe_bltn (v := .ty "str") (by rfl) T.str (by decide +kernel) rfl) pa_nil))))) (pss_one ps_never) pss_nil)
      (pss_cons (ps_asg (pe_partition (pv 0) pe_str) (pg_tup rfl (pgs_cons (pg_name (i := 1) sc_Ratio_read.nd rfl (.inl rfl)) (pgs_cons (pg_name (i := 2) sc_Ratio_read.nd rfl (.inl rfl)) (pgs_cons (pg_name (i := 3) sc_Ratio_read.nd rfl (.inl rfl)) pgs_nil)))))
      (pss_cons (ps_if (pt_not (pt_val (pe_gd Dis_digits hr (by decide) (by rfl) (pa_cons (pe_m1 PySem.F.slot_str_removeprefix PySem.F.type_str_removeprefix mt_removeprefix (pv 1) pe_str) pa_nil)))) (pss_one ps_never) pss_nil)
      (pss_cons (ps_set (i := 4) sc_Ratio_read.nd rfl (.inl rfl) (pe_make MI GI (hr.mono (by decide)) (by rfl) R.mgR bI2 .nil pass0 (pa_cons (pe_callTy call_int_str (by rfl) T.int (by decide +kernel) (pa_cons (pv 1) pa_nil)) (pa_cons (pe_gd Dbottom_of hr (by decide) (by rfl) (pa_cons (pv 2) (pa_cons (pv 3) pa_nil))) pa_nil))))
      (pss_cons (ps_if (pt_cmpR op_ne (pe_callTy (call_strO mStr Gstr bStr (hr.mono (by decide))) (by rfl) T.str (by decide +kernel) (pa_cons (pv 4) pa_nil)) (pv 0) (nomark _)) (pss_one ps_never) pss_nil)
      (pss_one (ps_ret (pv 4)))))))), ?_⟩
    refine ⟨_, rfl, .str (strR n d), _, _, _, true, rfl, .ty "str", .base (.str _), kit_ty (by decide +kernel), _, rfl, iteF ?_⟩
    have l1 := stI_len6 hn
    have l2 := stI_len6 hd
    have ls : (strR n d).length ≤ sizeLine := by
      have c0 : (Str.empty : Str).length = 0 := rfl
      have c1 : (Str.ofString "/").length = 1 := rfl
      rw [sizeLine_eq]
      unfold strR
      split
      · omega
      · rw [Str.length_append, Str.length_append, Str.length_append]
        omega
    obtain ⟨x, y, hp, hxy⟩ : ∃ x y, Txt.partition (strR n d) (Str.ofString "/") = (stI n, x, y) ∧ ((x = Str.ofString "" ∧ d.natAbs = 1) ∨ (x = Str.ofString "/" ∧ y = stI (d.natAbs : Int))) := by
      unfold strR
      split
      · rename_i e
        exact ⟨_, _, TL.partition_none (s := 47) (S := []) (by decide +kernel) (stI_free n), .inl ⟨by decide +kernel, by omega⟩⟩
      · refine ⟨_, _, ?_, .inr ⟨rfl, rfl⟩⟩
        rw [show (Str.empty ++ stI n : Str) = stI n from TL.ext_tl (by rw [TL.tl_append]; rfl), show ((d.natAbs : Nat) : Int) = d by omega]
        exact part_stI n d (stI d)
    refine ⟨_, rfl, ⟨_, rfl⟩, strR n d, Str.ofString "/", rfl, rfl, rfl, ls, fun t ht => ?_⟩
    refine ⟨t, _, rfl, SqT.of upd_same, rfl, _, _, rfl, _, _, rfl, _, _, rfl, rfl, ?_⟩
    rw [hp]
    refine ⟨_, rfl, ⟨_, rfl⟩, stI n, Str.ofString "-", rfl, rfl, by rw [sizeLine_eq]; omega, ?_⟩
    rw [cut_all]
    refine ⟨n.natAbs, rfl, hn, _, rfl, iteF ?_⟩
    refine ⟨_, rfl, stI n, n, rfl, int_stI hn, by omega, ?_⟩
    refine ⟨_, rfl, _, rfl, x, y, d.natAbs, rfl, hd, by omega, hxy, ?_⟩
    rw [show ((d.natAbs : Nat) : Int) = d by omega]
    intro p dx hx hdx ne
    refine ⟨p, dx, n, d, rfl, upd_same, by omega, Nat.lt_of_lt_of_le hd (Nat.pow_le_pow_right (by decide) (by decide)), fun H' F1 h1 => ⟨rfl, ?_⟩⟩
    rw [c1, c2] at h1
    have e1 : Ext H H' := fun a o e => F1 a o (by rw [upd_ne (ne_of_none e (fresh_of hx ht)), upd_ne (ne_of_none e (fresh_of hdx ht)), upd_ne (ne_of_none e ht)]; exact e) (fun z => by
      rw [List.mem_singleton.mp z, fresh_of hx ht] at e
      cases e)
    have up : ∀ i : Int, i.natAbs < 2 ^ 600 → i.natAbs < 2 ^ 1900 := fun i h => Nat.lt_of_lt_of_le h (Nat.pow_le_pow_right (by decide) (by decide))
    refine ⟨_, rfl, p, dx, _, rfl, h1, p, n, d, rfl, ⟨dx, h1⟩, up _ hn, up _ hd, _, rfl, _, rfl, rfl, _, rfl, ?_⟩
    refine ite2 (fun hz => ?_) (fun _ => ?_)
    · rw [decide_eq_true (show V.str (strR n d) = V.str (strR n d) from rfl)] at hz
      cases hz
    · exact ⟨_, rfl, k p H' e1 ⟨dx, h1⟩⟩
end
end Mc

set_option Elab.async false
set_option linter.all false
set_option maxRecDepth 100000
set_option maxHeartbeats 4000000
set_option exponentiation.threshold 20000
namespace Mc
open PySem PySem.Spec PyProof.Rows L2
/-! ### fractions in lowest terms -/
theorem dv_ne {a b : Int} (h : b ≠ 0) : dv a b ≠ 0 := by
  have hg0 : Nat.gcd a.natAbs b.natAbs ≠ 0 := fun z => h (by have := Nat.eq_zero_of_gcd_eq_zero_right z; omega)
  unfold dv
  split <;> omega
theorem dv_dvd (a b : Int) : dv a b ∣ a ∧ dv a b ∣ b := by
  have h1 : ((Nat.gcd a.natAbs b.natAbs : Nat) : Int) ∣ a := Int.ofNat_dvd_left.mpr (Nat.gcd_dvd_left _ _)
  have h2 : ((Nat.gcd a.natAbs b.natAbs : Nat) : Int) ∣ b := Int.ofNat_dvd_left.mpr (Nat.gcd_dvd_right _ _)
  unfold dv
  split
  · exact ⟨Int.neg_dvd.mpr h1, Int.neg_dvd.mpr h2⟩
  · exact ⟨h1, h2⟩
theorem red_mul {a b : Int} (h : b ≠ 0) : redN a b * dv a b = a ∧ redD a b * dv a b = b := by
  obtain ⟨h1, h2⟩ := dv_dvd a b
  exact ⟨Int.fdiv_mul_cancel h1, Int.fdiv_mul_cancel h2⟩
theorem dv_sign {a b : Int} (h : b ≠ 0) : (b < 0 ↔ dv a b < 0) := by
  have hg0 : Nat.gcd a.natAbs b.natAbs ≠ 0 := fun z => h (by have := Nat.eq_zero_of_gcd_eq_zero_right z; omega)
  unfold dv
  split <;> omega
theorem redD_pos {a b : Int} (h : b ≠ 0) : 0 < redD a b := by
  have e := (red_mul (a := a) h).2
  have s := dv_sign (a := a) h
  have n := dv_ne (a := a) h
  by_cases hb : b < 0
  · have hd := s.mp hb
    refine Int.not_le.mp fun z => ?_
    have := Int.mul_nonneg_of_nonpos_of_nonpos z (Int.le_of_lt hd)
    omega
  · have hd : 0 < dv a b := by omega
    refine Int.not_le.mp fun z => ?_
    have := Int.mul_nonpos_of_nonpos_of_nonneg z (Int.le_of_lt hd)
    omega
theorem dv_abs (a b : Int) : (dv a b).natAbs = Nat.gcd a.natAbs b.natAbs := by
  unfold dv
  split <;> omega
theorem red_gcd {a b : Int} (h : b ≠ 0) : Nat.gcd (redN a b).natAbs (redD a b).natAbs = 1 := by
  obtain ⟨e1, e2⟩ := red_mul (a := a) h
  have f1 := congrArg Int.natAbs e1
  have f2 := congrArg Int.natAbs e2
  rw [Int.natAbs_mul, dv_abs] at f1 f2
  have g0 : 0 < Nat.gcd a.natAbs b.natAbs := by
    have := dv_abs a b
    have := dv_ne (a := a) h
    omega
  have e : Nat.gcd ((redN a b).natAbs * Nat.gcd a.natAbs b.natAbs) ((redD a b).natAbs * Nat.gcd a.natAbs b.natAbs) = Nat.gcd a.natAbs b.natAbs := by rw [f1, f2]
  rw [Nat.gcd_mul_right] at e
  exact Nat.eq_of_mul_eq_mul_right g0 (by rw [e, Nat.one_mul])
theorem red_le (a b : Int) : (redN a b).natAbs ≤ a.natAbs ∧ (redD a b).natAbs ≤ b.natAbs := ⟨Int.natAbs_fdiv_le_natAbs _ _, Int.natAbs_fdiv_le_natAbs _ _⟩
/-- a fraction in lowest terms stays as it is -/
theorem red_low {n d : Int} (hd : 0 < d) (hg : Nat.gcd n.natAbs d.natAbs = 1) : redN n d = n ∧ redD n d = d := by
  have e : dv n d = 1 := by
    unfold dv
    rw [if_neg (by omega), hg]
    rfl
  unfold redN redD
  rw [e]
  exact ⟨Int.fdiv_one n, Int.fdiv_one d⟩
theorem low_inj {n d n2 d2 : Int} (hd : 0 < d) (hd2 : 0 < d2) (hg : Nat.gcd n.natAbs d.natAbs = 1) (hg2 : Nat.gcd n2.natAbs d2.natAbs = 1) (e : n * d2 = n2 * d) : n = n2 ∧ d = d2 := by
  have en : n.natAbs * d2.natAbs = n2.natAbs * d.natAbs := by rw [← Int.natAbs_mul, ← Int.natAbs_mul, e]
  have h1 : d.natAbs ∣ d2.natAbs := by
    have : d.natAbs ∣ n.natAbs * d2.natAbs := ⟨n2.natAbs, by rw [en, Nat.mul_comm]⟩
    exact Nat.Coprime.dvd_of_dvd_mul_left (show Nat.Coprime d.natAbs n.natAbs from (Nat.gcd_comm _ _).trans hg) this
  have h2 : d2.natAbs ∣ d.natAbs := by
    have : d2.natAbs ∣ n2.natAbs * d.natAbs := ⟨n.natAbs, by rw [← en, Nat.mul_comm]⟩
    exact Nat.Coprime.dvd_of_dvd_mul_left (show Nat.Coprime d2.natAbs n2.natAbs from (Nat.gcd_comm _ _).trans hg2) this
  have h3 : d = d2 := by
    have := Nat.dvd_antisymm h1 h2
    omega
  subst h3
  exact ⟨Int.eq_of_mul_eq_mul_right (by omega) e, rfl⟩
theorem lt_mulp {x y m : Int} (h : 0 < m) : (x * m < y * m ↔ x < y) := ⟨fun z => Int.lt_of_mul_lt_mul_right z (Int.le_of_lt h), fun z => Int.mul_lt_mul_of_pos_right z h⟩
theorem lt_muln {x y m : Int} (h : m < 0) : (x * m < y * m ↔ y < x) := by
  have e := lt_mulp (x := y) (y := x) (m := -m) (by omega)
  rw [Int.mul_neg, Int.mul_neg] at e
  rw [← e]
  omega
theorem sw_congr {x y x' y' : Int} (h1 : y < x ↔ y' < x') (h2 : x < y ↔ x' < y') : sw x y = sw x' y' := by
  unfold sw
  rw [decide_eq_decide.mpr h1, decide_eq_decide.mpr h2]
/-- the law's order is that of the lowest terms -/
theorem ord_eq {a b c d : Int} (hb : b ≠ 0) (hd : d ≠ 0) : ordI a b c d = sw (redN a b * redD c d) (redN c d * redD a b) := by
  obtain ⟨e1, e2⟩ := red_mul (a := a) hb
  obtain ⟨e3, e4⟩ := red_mul (a := c) hd
  have s1 := dv_sign (a := a) hb
  have s2 := dv_sign (a := c) hd
  have n1 := dv_ne (a := a) hb
  have n2 := dv_ne (a := c) hd
  have x1 : a * d = redN a b * redD c d * (dv a b * dv c d) := by
    rw [show a * d = (redN a b * dv a b) * (redD c d * dv c d) by rw [e1, e4]]
    simp only [Int.mul_comm, Int.mul_left_comm, Int.mul_assoc]
  have x2 : c * b = redN c d * redD a b * (dv a b * dv c d) := by
    rw [show c * b = (redN c d * dv c d) * (redD a b * dv a b) by rw [e3, e2]]
    simp only [Int.mul_comm, Int.mul_left_comm, Int.mul_assoc]
  unfold ordI
  by_cases h : (b < 0 ↔ d < 0)
  · rw [if_pos h, x1, x2]
    have hm : 0 < dv a b * dv c d := by
      by_cases hb0 : b < 0
      · exact Int.mul_pos_of_neg_of_neg (s1.mp hb0) (s2.mp (h.mp hb0))
      · have : ¬ d < 0 := fun z => hb0 (h.mpr z)
        exact Int.mul_pos (by omega) (by omega)
    exact sw_congr (lt_mulp hm) (lt_mulp hm)
  · rw [if_neg h, x1, x2]
    have hm : dv a b * dv c d < 0 := by
      by_cases hb0 : b < 0
      · have : ¬ d < 0 := fun z => h ⟨fun _ => z, fun _ => hb0⟩
        exact Int.mul_neg_of_neg_of_pos (s1.mp hb0) (by omega)
      · have : d < 0 := by
          by_cases z : d < 0
          · exact z
          · exact absurd ⟨fun y => absurd y hb0, fun y => absurd y z⟩ h
        exact Int.mul_neg_of_pos_of_neg (by omega) (s2.mp this)
    exact sw_congr (lt_muln hm) (lt_muln hm)
theorem sw_lt (x y : Int) : (sw x y < 0 ↔ x < y) ∧ (0 < sw x y ↔ y < x) ∧ (sw x y = 0 ↔ x = y) := by
  unfold sw
  by_cases h1 : y < x
  · rw [if_pos (decide_eq_true h1), if_neg (by simp; omega)]
    omega
  · rw [if_neg (by simpa using h1)]
    by_cases h2 : x < y
    · rw [if_pos (decide_eq_true h2)]
      omega
    · rw [if_neg (by simpa using h2)]
      omega
end Mc

set_option Elab.async false
set_option linter.all false
set_option maxRecDepth 100000
set_option maxHeartbeats 4000000
set_option exponentiation.threshold 20000
namespace Mc
open PySem PySem.Spec PyProof.Rows L2
abbrev s_pair_right : Stmt := top 22
abbrev s_whole_right : Stmt := top 23
abbrev s_read_right : Stmt := top 24
abbrev s_right : Stmt := top 25
abbrev s_law : Stmt := top 26
/-- all that Ratio does -/
structure RM (P : Program) (w : World) (K : PySem.W.Frag) (mg : Str → Option Value) (base : Heap) (R0 : Addr) where
  R : RatT K mg R0
  fI : Addr
  fdI : FuncData
  dsI : List Value
  mkI : Mk K R0 fI
  gI : FnOk P w K mg base CX0 2 fI fdI ["self", "top", "bottom"] (spInit R0)
  bI : Binds K fdI ["self", "top", "bottom"] []
  hI : Vals [.int 1] dsI
  bI1 : Binds K fdI ["self", "top", "bottom"] dsI
  kI : KBn K fdI ["self", "top", "bottom"] 1 ["bottom", "top"] (fun us ws => us ++ ws.reverse) (fun vs zs => vs ++ zs.reverse)
  pT : Addr
  fT : Addr
  fdT : FuncData
  oT : PropOf K R0 "top" pT fT
  gT : FnOk P w K mg base CX0 1 fT fdT ["self"] (spTop R0)
  bT : Binds K fdT ["self"] []
  pB : Addr
  fB : Addr
  fdB : FuncData
  oB : PropOf K R0 "bottom" pB fB
  gB : FnOk P w K mg base CX0 1 fB fdB ["self"] (spBot R0)
  bB : Binds K fdB ["self"] []
  fW : Addr
  fdW : FuncData
  mW : Meth K R0 "is_below" fW
  gW : FnOk P w K mg base CX0 5 fW fdW ["self", "other"] (spBelow R0)
  bW : Binds K fdW ["self", "other"] []
  kW : KBn K fdW ["self", "other"] 1 ["other"] (fun us ws => us ++ ws) (fun vs zs => vs ++ zs)
  fF : Addr
  fdF : FuncData
  mF : Meth K R0 "floor" fF
  gF : FnOk P w K mg base CX0 1 fF fdF ["self"] (spFloor R0)
  bF : Binds K fdF ["self"] []
  fE : Addr
  fdE : FuncData
  mE : Meth K R0 "__eq__" fE
  gE : FnOk P w K mg base CX0 1 fE fdE ["self", "other"] (spEqR K R0)
  bE : Binds K fdE ["self", "other"] []
  fS : Addr
  fdS : FuncData
  mS : Meth K R0 "__str__" fS
  gS : FnOk P w K mg base CX0 1 fS fdS ["self"] (spStr R0)
  bS : Binds K fdS ["self"] []
  fP : Addr
  fdP : FuncData
  mP : Meth K R0 "__repr__" fP
  gP : FnOk P w K mg base CX0 1 fP fdP ["self"] (spRepr R0)
  bP : Binds K fdP ["self"] []
  mc : Value
  pR : Addr
  fR : Addr
  fdR : FuncData
  cR : ClX.CRead K R0 mc
  sR : SMet K R0 mc "read" pR fR
  gR : FnOk P w K mg base CX0 5 fR fdR ["text"] (spRead R0)
  bR : Binds K fdR ["text"] []
  kR : KBn K fdR ["text"] 0 ["text"] (fun us ws => us ++ ws) (fun vs zs => vs ++ zs)
section
variable {P : Program} {w : World} {K : PySem.W.Frag} {mg : Str → Option Value} {base : Heap} {f R0 : Addr} {fd : FuncData}
theorem sc_pair_right : FnScope ["_law_one", "_law_fellow", "_law_a", "_law_b", "_law_order_here", "_law_told"] ["_law_one", "_law_fellow", "_law_a", "_law_b"] (defScope s_pair_right) := ⟨rfl, rfl, rfl, by decide +kernel, rfl, by decide +kernel, by decide +kernel⟩
/-- Ratio at p, made of the pair at t -/
def RatOf (R0 : Addr) (H : Hp) (p t : Addr) (a b : Int) : Prop := RatAt R0 H p (redN a b) (redD a b) ∧ H t = some (.tup [.int a, .int b]) ∧ b ≠ 0 ∧ a.natAbs < 2 ^ 200 ∧ b.natAbs < 2 ^ 200
theorem red_sz {a b : Int} (ha : a.natAbs < 2 ^ 200) (hb : b.natAbs < 2 ^ 200) : (redN a b).natAbs < 2 ^ 4000 ∧ (redD a b).natAbs < 2 ^ 4000 :=
  have up : ∀ i : Nat, i < 2 ^ 200 → i < 2 ^ 4000 := fun i h => Nat.lt_of_lt_of_le h (Nat.pow_le_pow_right (by decide) (by decide))
  ⟨up _ (Nat.lt_of_le_of_lt (red_le a b).1 ha), up _ (Nat.lt_of_le_of_lt (red_le a b).2 hb)⟩
def allSh : List V → Prop
  | [] => True
  | x :: r => shOk x ∧ allSh r
theorem allSh_mem : ∀ {xs : List V}, allSh xs → ∀ x ∈ xs, shOk x
  | [], _, _, h => nomatch h
  | _ :: _, ⟨a, b⟩, x, h => by
    rcases List.mem_cons.mp h with rfl | h
    · exact a
    · exact allSh_mem b x h
theorem eq_rr (M : RM P w K mg base R0) {H : Hp} {p q : Addr} {n d n2 d2 : Int} {Q : VK} {ng : Bool} (h1 : RatAt R0 H p n d) (h2 : RatAt R0 H q n2 d2)
    (k : Q (.bl (if ng then !(decide (n = n2) && decide (d = d2)) else (decide (n = n2) && decide (d = d2)))) H) : rOwnC K R0 (spEqR K R0) ng (.ref p) (.ref q) H Q := by
  obtain ⟨dx, hp⟩ := id h1
  obtain ⟨dy, hq⟩ := id h2
  exact ⟨p, dx, _, _, rfl, hp, .base (.ins hq M.R.cl M.R.ca M.R.cn M.R.ct M.R.cm), by simp [PySem.W.notFirst], p, .ref q, n, d, rfl, h1, .inl ⟨q, n2, d2, rfl, h2, _, rfl, k⟩⟩
theorem eq_rx (M : RM P w K mg base R0) {H : Hp} {p : Addr} {y : V} {n d : Int} {Q : VK} {ng : Bool} {t : String} (h1 : RatAt R0 H p n d) (ty : TyX K H y (.type t)) (ht : t ∈ (["NoneType", "bool", "int", "str", "list", "tuple", "dict"] : List String))
    (k : Q (.bl ng) H) : rOwnC K R0 (spEqR K R0) ng (.ref p) y H Q := by
  obtain ⟨dx, hp⟩ := id h1
  refine ⟨p, dx, _, _, rfl, hp, ty, M.R.nf t ht, p, y, n, d, rfl, h1, .inr ⟨_, ty, M.R.kk t ht, _, rfl, ?_⟩⟩
  cases ng <;> exact k
def spPair (R0 : Addr) : Sp := fun vs H Q _ => ∃ (p1 p2 t1 t2 : Addr) (a b c d : Int), vs = [.ref p1, .ref p2, .ref t1, .ref t2] ∧ RatOf R0 H p1 t1 a b ∧ RatOf R0 H p2 t2 c d ∧ ∀ H', Ext H H' → Q (.bl true) H'
theorem ok_pair_right (F : FunD K "_law_pair_right" "_law_pair_right" (defArgs s_pair_right) (defBody s_pair_right) (defScope s_pair_right) [] [] f fd) (T : TB mg) (M : RM P w K mg base R0) {forder : Addr} {fdorder : FuncData} (Dorder : Gg P w K mg base "_law_order" 1 ["_law_one", "_law_fellow"] (spOrder) forder fdorder) : FnOkG P w K mg base CX0 7 f fd ["_law_one", "_law_fellow", "_law_a", "_law_b"] (spPair R0) := by
  refine okG F sc_pair_right (fun vs H Q E h => ?_) (fun cdv A outer s H vs Q E hr h => ?_)
  · obtain ⟨p1, p2, t1, t2, a, b, c, d, rfl, r1, r2, k⟩ := h
    rfl
  · obtain ⟨p1, p2, t1, t2, a, b, c, d, rfl, r1, r2, k⟩ := h
    refine ⟨_, (pss_cons (ps_set (i := 4) sc_pair_right.nd rfl (.inl rfl) (pe_gg Dorder hr (by decide) (by rfl) (pa_cons (pv 2) (pa_cons (pv 3) pa_nil))))
      (pss_cons (ps_set (i := 5) sc_pair_right.nd rfl (.inl rfl) (pe_lst (pa_cons (pe_meth (pv 0) M.R.cl M.mW M.gW (hr.room.mono (by decide)) M.bW .nil pass0 (pa_cons (pv 1) pa_nil)) (pa_cons (pe_meth (pv 1) M.R.cl M.mW M.gW (hr.room.mono (by decide)) M.bW .nil pass0 (pa_cons (pv 0) pa_nil)) (pa_cons (pe_cmpR (op_eqO M.mE M.gE M.bE (hr.room.mono (by decide))) (pv 0) (pv 1) (nomark _)) (pa_cons (pe_cmpR (op_eqO M.mE M.gE M.bE (hr.room.mono (by decide))) (pv 1) (pv 0) (nomark _)) (pa_cons (pe_cmpR (op_neO M.mE M.R.ne M.R.cm M.gE M.bE (hr.room.mono (by decide))) (pv 0) (pv 1) (nomark _)) (pa_cons (pe_cmpR (op_neO M.mE M.R.ne M.R.cm M.gE M.bE (hr.room.mono (by decide))) (pv 1) (pv 0) (nomark _)) pa_nil))))))))
      (pss_cons (ps_if (pt_cmpR op_ne (pe_callB (call_reprF (hr.mono (by decide))) (by rfl) T.repr (by decide +kernel) (pa_cons (pv 5) pa_nil)) (pe_callB (call_reprF (hr.mono (by decide))) (by rfl) T.repr (by decide +kernel) (pa_cons (pe_lst (pa_cons (pe_cmpR op_lt (pv 4) pe_int (nomark _)) (pa_cons (pe_cmpR op_gt (pv 4) pe_int (nomark _)) (pa_cons (pe_cmpR op_eq (pv 4) pe_int (nomark _)) (pa_cons (pe_cmpR op_eq (pv 4) pe_int (nomark _)) (pa_cons (pe_cmpR op_ne (pv 4) pe_int (nomark _)) (pa_cons (pe_cmpR op_ne (pv 4) pe_int (nomark _)) pa_nil))))))) pa_nil)) (nomark _)) (pss_one (ps_ret pe_bl)) pss_nil)
      (pss_one (ps_ret (pe_and (pe_not (pe_meth (pv 0) M.R.cl M.mW M.gW (hr.room.mono (by decide)) M.bW .nil pass0 (pa_cons (pv 0) pa_nil))) (pe_one (pe_cmpR (op_eqO M.mE M.gE M.bE (hr.room.mono (by decide))) (pv 0) (pv 0) (nomark _))))))))), ?_⟩
    obtain ⟨h1, g1, hb, az, bz⟩ := r1
    obtain ⟨h2, g2, hd, cz, dz⟩ := r2
    have up : ∀ i : Int, i.natAbs < 2 ^ 200 → i.natAbs < 2 ^ 400 := fun i h => Nat.lt_of_lt_of_le h (Nat.pow_le_pow_right (by decide) (by decide))
    have z1 := red_sz (a := a) (b := b) az bz
    have z2 := red_sz (a := c) (b := d) cz dz
    obtain ⟨dx1, hp1⟩ := id h1
    obtain ⟨dx2, hp2⟩ := id h2
    refine ⟨_, rfl, _, rfl, t1, t2, a, b, c, d, rfl, g1, g2, up _ az, up _ bz, up _ cz, up _ dz, hb, hd, ?_⟩
    rw [ord_eq hb hd]
    have sl := sw_lt (redN a b * redD c d) (redN c d * redD a b)
    generalize ho : sw (redN a b * redD c d) (redN c d * redD a b) = o at sl
    have low : redN a b * redD c d = redN c d * redD a b ↔ (redN a b = redN c d ∧ redD a b = redD c d) := ⟨fun e => low_inj (redD_pos hb) (redD_pos hd) (red_gcd hb) (red_gcd hd) e, fun ⟨e, e'⟩ => by rw [e, e']⟩
    generalize redN a b = n1 at *
    generalize redD a b = d1 at *
    generalize redN c d = n2 at *
    generalize redD c d = d2 at *
    refine ⟨_, rfl, p1, dx1, _, rfl, hp1, rfl, _, rfl, p1, .ref p2, n1, d1, n2, d2, rfl, h1, .inl ⟨p2, rfl, h2⟩, z1.1, z1.2, z2.1, z2.2, fun H1 e1 => ?_⟩
    refine ⟨_, rfl, p2, dx2, _, rfl, e1 _ _ hp2, rfl, _, rfl, p2, .ref p1, n2, d2, n1, d1, rfl, h2.ext e1, .inl ⟨p1, rfl, h1.ext e1⟩, z2.1, z2.2, z1.1, z1.2, fun H2 e2 => ?_⟩
    have k1 : RatAt R0 H2 p1 n1 d1 := (h1.ext e1).ext e2
    have k2 : RatAt R0 H2 p2 n2 d2 := (h2.ext e1).ext e2
    refine ⟨_, rfl, _, rfl, eq_rr M k1 k2 ?_⟩
    refine ⟨_, rfl, _, rfl, eq_rr M k2 k1 ?_⟩
    refine ⟨_, rfl, _, rfl, eq_rr M k1 k2 ?_⟩
    refine ⟨_, rfl, _, rfl, eq_rr M k2 k1 ?_⟩
    refine ⟨(by show 6 ≤ sizeLine; decide), fun l hl => ?_⟩
    refine ⟨_, rfl, l, _, rfl, SqL.of upd_same, allSh_mem ⟨trivial, trivial, trivial, trivial, trivial, trivial, trivial⟩, (by show 6 ≤ 1000; decide), fun H3 e3 => ?_⟩
    refine ⟨_, rfl, _, _, rfl, rfl, _, rfl, _, _, rfl, rfl, _, rfl, rfl, _, rfl, rfl, _, rfl, rfl, _, rfl, rfl, (by show 6 ≤ sizeLine; decide), fun l2 hl2 => ?_⟩
    refine ⟨l2, _, rfl, SqL.of upd_same, allSh_mem ⟨trivial, trivial, trivial, trivial, trivial, trivial, trivial⟩, (by show 6 ≤ 1000; decide), fun H4 e4 => ?_⟩
    refine ⟨rfl, _, rfl, ?_⟩
    have q1 : decide (n1 * d2 < n2 * d1) = decide (o < 0) := decide_eq_decide.mpr sl.1.symm
    have q2 : decide (n2 * d1 < n1 * d2) = decide (0 < o) := decide_eq_decide.mpr sl.2.1.symm
    have q3 : (decide (n1 = n2) && decide (d1 = d2)) = decide (V.int o = V.int 0) := by
      rw [← Bool.decide_and]
      refine decide_eq_decide.mpr ⟨fun z => by rw [sl.2.2.mpr (low.mpr z)], fun z => low.mp (sl.2.2.mp (V.int.inj z))⟩
    have q4 : (decide (n2 = n1) && decide (d2 = d1)) = decide (V.int o = V.int 0) := by
      rw [← q3, decide_eq_decide.mpr (eq_comm (a := n2)), decide_eq_decide.mpr (eq_comm (a := d2))]
    refine ite2 (fun hz => ?_) (fun _ => ?_)
    · rw [q1, q2, q3, q4] at hz
      simp at hz
    have e34 : Ext H H4 := fun x y z => e4 _ _ (Ext.upd hl2 _ _ (e3 _ _ (Ext.upd hl _ _ (e2 _ _ (e1 _ _ z)))))
    refine ⟨_, rfl, p1, dx1, _, rfl, e34 _ _ hp1, rfl, _, rfl, p1, .ref p1, n1, d1, n1, d1, rfl, h1.ext e34, .inl ⟨p1, rfl, h1.ext e34⟩, z1.1, z1.2, z1.1, z1.2, fun H5 e5 => ?_⟩
    have e50 : Ext H H5 := fun x y z => e5 _ _ (e34 _ _ z)
    refine ⟨_, rfl, ?_⟩
    rw [decide_eq_false (Int.lt_irrefl _)]
    refine ⟨_, rfl, iteT ⟨_, rfl, _, rfl, eq_rr M (h1.ext e50) (h1.ext e50) ?_⟩⟩
    rw [decide_eq_true (rfl : n1 = n1), decide_eq_true (rfl : d1 = d1)]
    exact k H5 e50
theorem sc_whole_right : FnScope ["_law_one", "_law_a", "_law_least", "_law_n", "_law_order_here"] ["_law_one", "_law_a"] (defScope s_whole_right) := ⟨rfl, rfl, rfl, by decide +kernel, rfl, by decide +kernel, by decide +kernel⟩
theorem floor_red {a b : Int} (h : b ≠ 0) : (redN a b).fdiv (redD a b) = a.fdiv b := by
  obtain ⟨e1, e2⟩ := red_mul (a := a) h
  have n := dv_ne (a := a) h
  generalize redN a b = x at *
  generalize redD a b = y at *
  generalize dv a b = g at *
  subst e1 e2
  by_cases hg : 0 < g
  · exact (Int.mul_fdiv_mul_of_pos_left x y hg).symm
  · have := Int.mul_fdiv_mul_of_pos_left x y (show 0 < -g by omega)
    rw [Int.mul_neg, Int.mul_neg, Int.neg_fdiv_neg] at this
    exact this.symm
theorem made_ext {H H' : Hp} {x dx : Addr} {o o' : HO} (hx : H x = none) (hdx : H dx = none) (F : Frm [x] (upd (upd H dx o) x o') H') : Ext H H' := fun a u e => F a u (by
  rw [upd_ne (ne_of_none e hx), upd_ne (ne_of_none e hdx)]
  exact e) fun z => by
    rw [List.mem_singleton.mp z, hx] at e
    cases e
def spWhole (R0 : Addr) : Sp := fun vs H Q _ => ∃ (p1 t1 : Addr) (a b : Int), vs = [.ref p1, .ref t1] ∧ RatOf R0 H p1 t1 a b ∧ ∀ H', Ext H H' → Q (.bl true) H'
theorem ok_whole_right (F : FunD K "_law_whole_right" "_law_whole_right" (defArgs s_whole_right) (defBody s_whole_right) (defScope s_whole_right) [] [] f fd) (T : TB mg) (M : RM P w K mg base R0) {forder : Addr} {fdorder : FuncData} (Dorder : Gg P w K mg base "_law_order" 1 ["_law_one", "_law_fellow"] (spOrder) forder fdorder) : FnOkG P w K mg base CX0 7 f fd ["_law_one", "_law_a"] (spWhole R0) := by
  refine okG F sc_whole_right (fun vs H Q E h => ?_) (fun cdv A outer s H vs Q E hr h => ?_)
  · obtain ⟨p1, t1, a, b, rfl, r1, k⟩ := h
    rfl
  · obtain ⟨p1, t1, a, b, rfl, r1, k⟩ := h
    refine ⟨_, (pss_cons (ps_set (i := 2) sc_whole_right.nd rfl (.inl rfl) (pe_op op_fdivX (pe_ix ix_seq (pv 1) pe_int (fun _ _ => rfl)) (pe_ix ix_seq (pv 1) pe_int (fun _ _ => rfl))))
      (pss_cons (ps_if (pt_cmpR op_ne (pe_callB (call_reprF (hr.mono (by decide))) (by rfl) T.repr (by decide +kernel) (pa_cons (pe_lst (pa_cons (pe_meth0 (pv 0) M.R.cl M.mF M.gF (hr.room.mono (by decide)) M.bF .nil pass0) (pa_cons (pe_meth0 (pv 0) M.R.cl M.mF M.gF (hr.room.mono (by decide)) M.bF .nil pass0) pa_nil))) pa_nil)) (pe_callB (call_reprF (hr.mono (by decide))) (by rfl) T.repr (by decide +kernel) (pa_cons (pe_lst (pa_cons (pv 2) (pa_cons (pv 2) pa_nil))) pa_nil)) (nomark _)) (pss_one (ps_ret pe_bl)) pss_nil)
      (pss_cons (ps_for PassesOwn.never rfl (pi_list (pe_lst (pa_cons (pe_op op_sub (pv 2) pe_int) (pa_cons (pv 2) (pa_cons (pe_op op_add (pv 2) pe_int) (pa_cons pe_int pa_nil)))))) (pg_name (i := 3) sc_whole_right.nd rfl (.inl rfl)) (pss_cons (ps_set (i := 4) sc_whole_right.nd rfl (.inl rfl) (pe_gg Dorder hr (by decide) (by rfl) (pa_cons (pv 1) (pa_cons (pe_tup (pa_cons (pv 3) (pa_cons pe_int pa_nil))) pa_nil))))
      (pss_cons (ps_if (pt_cmpR op_ne (pe_callB (call_reprF (hr.mono (by decide))) (by rfl) T.repr (by decide +kernel) (pa_cons (pe_lst (pa_cons (pe_meth (pv 0) M.R.cl M.mW M.gW (hr.room.mono (by decide)) M.bW .nil pass0 (pa_cons (pv 3) pa_nil)) (pa_cons (pe_methK (pv 0) M.R.cl M.mW M.gW (hr.room.mono (by decide)) M.kW (pk_cons (pv 3) pk_nil)) pa_nil))) pa_nil)) (pe_callB (call_reprF (hr.mono (by decide))) (by rfl) T.repr (by decide +kernel) (pa_cons (pe_lst (pa_cons (pe_cmpR op_lt (pv 4) pe_int (nomark _)) (pa_cons (pe_cmpR op_lt (pv 4) pe_int (nomark _)) pa_nil))) pa_nil)) (nomark _)) (pss_one (ps_ret pe_bl)) pss_nil)
      (pss_cons (ps_if (PW.pt (pw_or (pt_cmpR (op_eqO M.mE M.gE M.bE (hr.room.mono (by decide))) (pv 0) (pv 3) (nomark _)) (pw_or (pt_not (pt_cmpR (op_neO M.mE M.R.ne M.R.cm M.gE M.bE (hr.room.mono (by decide))) (pv 0) (pv 3) (nomark _))) (pw_or1 (pt_cmpR (op_eqO M.mE M.gE M.bE (hr.room.mono (by decide))) (pe_make M.mkI M.gI (hr.room.mono (by decide)) (by rfl) M.R.mgR M.bI1 M.hI pass0 (pa_cons (pv 3) pa_nil)) (pv 3) (nomark _)))))) (pss_one (ps_ret pe_bl)) pss_nil)
      (pss_one (ps_if (pt_cmpR op_ne (pe_cmpR (op_eqO M.mE M.gE M.bE (hr.room.mono (by decide))) (pv 0) (pe_make M.mkI M.gI (hr.room.mono (by decide)) (by rfl) M.R.mgR M.bI1 M.hI pass0 (pa_cons (pv 3) pa_nil)) (nomark _)) (pe_cmpR op_eq (pv 4) pe_int (nomark _)) (nomark _)) (pss_one (ps_ret pe_bl)) pss_nil))))))
      (pss_one (ps_ret pe_bl))))), ?_⟩
    obtain ⟨h1, g1, hb, az, bz⟩ := r1
    have z1 := red_sz (a := a) (b := b) az bz
    obtain ⟨dx1, hp1⟩ := id h1
    have hD := redD_pos (a := a) hb
    have hG := red_gcd (a := a) hb
    have hfl := floor_red (a := a) hb
    have hord : ∀ n, ordI a b n 1 = sw (redN a b * 1) (n * redD a b) := fun n => by
      rw [ord_eq hb (by decide), (red_one n).1, (red_one n).2]
    have hlz : (a.fdiv b).natAbs < 2 ^ 201 := by
      have := Int.natAbs_fdiv_le_natAbs a b
      omega
    refine ⟨_, rfl, .inr (.inl ⟨t1, _, 0, _, rfl, rfl, SqT.of g1, rfl, _, rfl, .inr (.inl ⟨t1, _, 1, _, rfl, rfl, SqT.of g1, rfl, _, _, rfl, rfl, ⟨hb, small_log bz (by decide) (by decide)⟩, ?_⟩)⟩)⟩
    generalize redN a b = n1 at *
    generalize redD a b = d1 at *
    have dz : d1.natAbs < 2 ^ 8000 := Nat.lt_of_lt_of_le z1.2 (Nat.pow_le_pow_right (by decide) (by decide))
    have fz : (a.fdiv b).natAbs < 2 ^ 1900 := Nat.lt_of_lt_of_le hlz (Nat.pow_le_pow_right (by decide) (by decide))
    refine ⟨_, rfl, p1, dx1, _, rfl, hp1, rfl, p1, n1, d1, rfl, h1, by omega, dz, _, rfl, p1, dx1, _, rfl, hp1, rfl, p1, n1, d1, rfl, h1, by omega, dz, (by show 2 ≤ sizeLine; decide), fun l hl => ?_⟩
    rw [hfl]
    refine ⟨l, _, rfl, SqL.of upd_same, allSh_mem ⟨fz, fz, trivial⟩, (by show 2 ≤ 1000; decide), fun H1 e1 => ?_⟩
    refine ⟨_, rfl, _, rfl, (by show 2 ≤ sizeLine; decide), fun l2 hl2 => ⟨l2, _, rfl, SqL.of upd_same, allSh_mem ⟨fz, fz, trivial⟩, (by show 2 ≤ 1000; decide), fun H2 e2 => ⟨rfl, _, rfl, ?_⟩⟩⟩
    refine ite2 (fun hz => by simp at hz) (fun _ => ?_)
    have e02 : Ext H H2 := fun x y z => e2 _ _ (Ext.upd hl2 _ _ (e1 _ _ (Ext.upd hl _ _ z)))
    refine ⟨_, rfl, _, _, rfl, rfl, _, rfl, _, rfl, _, _, rfl, rfl, (by show 4 ≤ sizeLine; decide), fun l3 hl3 => ?_⟩
    have e03 : Ext H (upd H2 l3 (.lst [.int ((a.fdiv b) - 1), .int (a.fdiv b), .int ((a.fdiv b) + 1), .int 0])) := e02.trans (Ext.upd hl3)
    refine ⟨l3, rfl, ⟨_, SqL.of upd_same⟩, for_list (K := K) (a := l3) (xs := [.int ((a.fdiv b) - 1), .int (a.fdiv b), .int ((a.fdiv b) + 1), .int 0]) (fun i σ H' => ∃ (u v : Option V), σ = [some (.ref p1), some (.ref t1), some (.int (a.fdiv b)), u, v] ∧ Ext (upd H2 l3 (.lst [.int ((a.fdiv b) - 1), .int (a.fdiv b), .int ((a.fdiv b) + 1), .int 0])) H') ⟨none, none, rfl, Ext.rfl'⟩ (fun i σ H' _ ⟨_, _, _, e⟩ => SqL.of (e _ _ upd_same)) ?_ ?_⟩
    · rintro i x σ H' hx ⟨u, v, rfl, e3⟩
      obtain ⟨n, rfl, hn⟩ := pick_int (ns := [(a.fdiv b) - 1, (a.fdiv b), (a.fdiv b) + 1, 0]) (C := fun n => n.natAbs < 2 ^ 300) (by
        intro n hn
        simp only [List.mem_cons, List.not_mem_nil, or_false] at hn
        rcases hn with rfl | rfl | rfl | rfl <;> omega) hx
      have e0 : Ext H H' := e03.trans e3
      have nz : n.natAbs < 2 ^ 4000 := Nat.lt_of_lt_of_le hn (Nat.pow_le_pow_right (by decide) (by decide))
      have up : ∀ i : Int, i.natAbs < 2 ^ 200 → i.natAbs < 2 ^ 400 := fun i h => Nat.lt_of_lt_of_le h (Nat.pow_le_pow_right (by decide) (by decide))
      refine ⟨_, rfl, _, rfl, (by show 2 ≤ sizeLine; decide), fun t ht => ?_⟩
      refine ⟨t1, t, a, b, n, 1, rfl, Ext.upd ht _ _ (e0 _ _ g1), upd_same, up _ az, up _ bz, Nat.lt_of_lt_of_le hn (Nat.pow_le_pow_right (by decide) (by decide)), by decide, hb, by decide, ?_⟩
      rw [hord n]
      have sl := sw_lt (n1 * 1) (n * d1)
      generalize sw (n1 * 1) (n * d1) = o at sl
      have low : n1 * 1 = n * d1 ↔ (n1 = n ∧ d1 = 1) := ⟨fun e => low_inj hD (by decide) hG (Nat.gcd_one_right _) e, fun ⟨e, e'⟩ => by rw [e, e']⟩
      have e4 : Ext H (upd H' t (.tup [.int n, .int 1])) := e0.trans (Ext.upd ht)
      refine ⟨_, rfl, p1, dx1, _, rfl, e4 _ _ hp1, rfl, _, rfl, p1, .int n, n1, d1, n, 1, rfl, h1.ext e4, .inr ⟨rfl, rfl⟩, z1.1, z1.2, nz, by decide, fun H5 e5 => ?_⟩
      refine ⟨_, rfl, p1, dx1, _, rfl, e5 _ _ (e4 _ _ hp1), rfl, _, rfl, rfl, p1, .int n, n1, d1, n, 1, rfl, (h1.ext e4).ext e5, .inr ⟨rfl, rfl⟩, z1.1, z1.2, nz, by decide, fun H6 e6 => ?_⟩
      refine ⟨(by show 2 ≤ sizeLine; decide), fun l5 hl5 => ⟨l5, _, rfl, SqL.of upd_same, allSh_mem ⟨trivial, trivial, trivial⟩, (by show 2 ≤ 1000; decide), fun H7 e7 => ?_⟩⟩
      refine ⟨_, rfl, _, _, rfl, rfl, _, rfl, _, _, rfl, rfl, (by show 2 ≤ sizeLine; decide), fun l6 hl6 => ⟨l6, _, rfl, SqL.of upd_same, allSh_mem ⟨trivial, trivial, trivial⟩, (by show 2 ≤ 1000; decide), fun H8 e8 => ⟨rfl, _, rfl, ?_⟩⟩⟩
      have q1 : decide (n1 * 1 < n * d1) = decide (o < 0) := decide_eq_decide.mpr sl.1.symm
      refine ite2 (fun hz => by rw [q1] at hz; simp at hz) (fun _ => ?_)
      have e84 : Ext (upd H' t (.tup [.int n, .int 1])) H8 := fun x y z => e8 _ _ (Ext.upd hl6 _ _ (e7 _ _ (Ext.upd hl5 _ _ (e6 _ _ (e5 _ _ z)))))
      have k8 : RatAt R0 H8 p1 n1 d1 := h1.ext (e4.trans e84)
      refine ⟨_, rfl, _, rfl, eq_rx M k8 (.base (.int n)) (by decide) ⟨_, rfl, iteF ?_⟩⟩
      refine ⟨_, rfl, _, rfl, eq_rx M k8 (.base (.int n)) (by decide) ⟨_, rfl, iteF ?_⟩⟩
      refine ⟨_, rfl, fun q dq hq hdq ne => ⟨q, dq, n, 1, rfl, upd_same, by decide, by decide, fun H9 F9 h9 => ⟨rfl, ?_⟩⟩⟩
      have e9 : Ext H8 H9 := made_ext hq hdq F9
      rw [(red_one n).1, (red_one n).2] at h9
      refine ⟨_, rfl, eq_rx M ⟨dq, h9⟩ (.base (.int n)) (by decide) ⟨_, rfl, iteF ?_⟩⟩
      refine ⟨_, rfl, _, rfl, fun q2 dq2 hq2 hdq2 ne2 => ⟨q2, dq2, n, 1, rfl, upd_same, by decide, by decide, fun Ha Fa ha => ⟨rfl, ?_⟩⟩⟩
      have ea : Ext H9 Ha := made_ext hq2 hdq2 Fa
      rw [(red_one n).1, (red_one n).2] at ha
      refine eq_rr M ((k8.ext e9).ext ea) ⟨dq2, ha⟩ ⟨_, rfl, rfl, rfl, _, rfl, ?_⟩
      have q3 : (decide (n1 = n) && decide (d1 = 1)) = decide (V.int o = V.int 0) := by
        rw [← Bool.decide_and]
        exact decide_eq_decide.mpr ⟨fun z => by rw [sl.2.2.mpr (low.mpr z)], fun z => low.mp (sl.2.2.mp (V.int.inj z))⟩
      refine ite2 (fun hz => ?_) (fun _ => ?_)
      · rw [if_neg Bool.false_ne_true, q3] at hz
        simp at hz
      · exact ⟨_, _, rfl, (((e3.trans (Ext.upd ht)).trans e84).trans e9).trans ea⟩
    · rintro σ H' ⟨u, v, rfl, e3⟩
      exact k H' (e03.trans e3)
end
end Mc

set_option Elab.async false
set_option linter.all false
set_option maxRecDepth 100000
set_option maxHeartbeats 4000000
set_option exponentiation.threshold 20000
namespace Mc
open PySem PySem.Spec PyProof.Rows L2
section
variable {P : Program} {w : World} {K : PySem.W.Frag} {mg : Str → Option Value} {base : Heap} {f R0 : Addr} {fd : FuncData}
theorem sc_read_right : FnScope ["_law_one", "_law_letters", "_law_told", "_law_others", "_law_made", "_law_fellow"] ["_law_one"] (defScope s_read_right) := ⟨rfl, rfl, rfl, by decide +kernel, rfl, by decide +kernel, by decide +kernel⟩
theorem boot_isinst : bootBuiltins (Str.ofString "isinstance") = some (.builtin "isinstance") := by decide +kernel
theorem le16 : 1 ≤ 6 := by decide
theorem le26 : 2 ≤ 6 := by decide
theorem le36 : 3 ≤ 6 := by decide
def spReadR (R0 : Addr) : Sp := fun vs H Q _ => ∃ (p : Addr) (n d : Int), vs = [.ref p] ∧ RatAt R0 H p n d ∧ n.natAbs < 2 ^ 200 ∧ d.natAbs < 2 ^ 200 ∧ redN n d = n ∧ redD n d = d ∧ 0 < d ∧ ∀ H', Ext H H' → Q (.bl true) H'
theorem op_neK {X : Cx} {K : PySem.W.Frag} {C f : Addr} {k : Nat} {fd : FuncData} {ps : List Str} {sp : Sp} (m : Meth K C "__eq__" f) (hne : PySem.W.findIn K (.ref C) "__ne__" = some (some (.builtin "object.__ne__"))) (hm : PySem.W.mroIn K C (.type "object") = some true) (F : FnOk X.prog X.w K X.mg X.base CX0 k f fd ps sp) (hb : Binds K fd ps []) (hr : Room (k + 1) X.A) (e : X.K = K) :
    OpR X (compareOp .NotEq) (rOwnC K C sp true) := by
  subst e
  exact op_neO m hne hm F hb hr
theorem op_eqK {X : Cx} {K : PySem.W.Frag} {C f : Addr} {k : Nat} {fd : FuncData} {ps : List Str} {sp : Sp} (m : Meth K C "__eq__" f) (F : FnOk X.prog X.w K X.mg X.base CX0 k f fd ps sp) (hb : Binds K fd ps []) (hr : Room k X.A) (e : X.K = K) :
    OpR X (compareOp .Eq) (rOwnC K C sp false) := by
  subst e
  exact op_eqO m F hb hr
theorem call_strK {X : Cx} {K : PySem.W.Frag} {C f : Addr} {k : Nat} {fd : FuncData} {ps : List Str} {sp : Sp} (m : Meth K C "__str__" f) (F : FnOk X.prog X.w K X.mg X.base CX0 k f fd ps sp) (hb : Binds K fd ps []) (hr : Room (k + 2) X.A) (e : X.K = K) : CallR X (.type "str") (rStrO C sp) := by
  subst e
  exact call_strO m F hb hr
theorem call_isiKK {X : Cx} {K : PySem.W.Frag} (e : X.K = K) : CallR X (.builtin "isinstance") (rIsi K) := by
  subst e
  exact call_isi
theorem ext_put {H H' : Hp} {D : Addr} {o : HO} (e : Ext H H') (h : H D = none) : Ext H (upd H' D o) := fun a u z => by
  rw [upd_ne (ne_of_none z h)]
  exact e _ _ z
theorem rep_put (i : Nat) (x : V) : List.replicate i x ++ [x] = List.replicate (i + 1) x := List.replicate_succ'.symm
theorem eq_rs (M : RM P w K mg base R0) {H : Hp} {p q : Addr} {n d : Int} {Q : VK} {ng : Bool} (h1 : RatAt R0 H p n d) (h2 : RatAt R0 H q n d) (k : Q (.bl (!ng)) H) : rOwnC K R0 (spEqR K R0) ng (.ref p) (.ref q) H Q :=
  eq_rr M h1 h2 (by
    rw [decide_eq_true (rfl : n = n), decide_eq_true (rfl : d = d)]
    cases ng <;> exact k)
/-- what is none of Ratio's -/
def OtherX (K : PySem.W.Frag) (H : Hp) (y : V) : Prop := ∃ t : String, TyX K H y (.type t) ∧ t ∈ (["NoneType", "bool", "int", "str", "list", "tuple", "dict"] : List String)
def allOt (K : PySem.W.Frag) (H : Hp) : List V → Prop
  | [] => True
  | x :: r => OtherX K H x ∧ allOt K H r
theorem allOt_mem {H : Hp} : ∀ {xs : List V}, allOt K H xs → ∀ x ∈ xs, OtherX K H x
  | [], _, _, h => nomatch h
  | _ :: _, ⟨a, b⟩, x, h => by
    rcases List.mem_cons.mp h with rfl | h
    · exact a
    · exact allOt_mem b x h
theorem lc_yes {σ : L2.St} {H : Hp} {T B : Hp → Prop} (h : T H) : tYes σ H (fun b H3 => if b = true then T H3 else B H3) := by
  show (if true = true then T H else B H)
  rw [if_pos (rfl : true = true)]
  exact h
theorem ok_read_right (F : FunD K "_law_read_right" "_law_read_right" (defArgs s_read_right) (defBody s_read_right) (defScope s_read_right) [] [] f fd) (T : TB mg) (M : RM P w K mg base R0) : FnOkG P w K mg base CX0 7 f fd ["_law_one"] (spReadR R0) := by
  refine okG F sc_read_right (fun vs H Q E h => ?_) (fun cdv A outer s H vs Q E hr h => ?_)
  · obtain ⟨p, n, d, rfl, r1, hn, hd, c1, c2, hd0, k⟩ := h
    rfl
  · obtain ⟨p, n, d, rfl, r1, hn, hd, c1, c2, hd0, k⟩ := h
    refine ⟨_, (pss_cons (ps_set (i := 1) sc_read_right.nd rfl (.inr rfl) (pe_callTy (call_strO M.mS M.gS M.bS (hr.room.mono (by decide))) (by rfl) T.str (by decide +kernel) (pa_cons (pv 0) pa_nil)))
      (pss_cons (ps_set (i := 2) sc_read_right.nd rfl (.inl rfl) (pe_lst (pa_cons (pe_sm (pe_glob (v := .ref R0) (by rfl) M.R.mgR rfl) M.cR M.sR M.gR (hr.room.mono (by decide)) M.bR (pa_cons (pv 1) pa_nil)) (pa_cons (pe_smK (pe_glob (v := .ref R0) (by rfl) M.R.mgR rfl) M.cR M.sR M.gR (hr.room.mono (by decide)) M.kR (pk_cons (pv 1) pk_nil)) pa_nil))))
      (pss_cons (ps_if (pt_not (pt_val (pe_callB (cr_all rfl) (by rfl) T.all (by decide +kernel) (pa_cons (pe_lc (own := [("_law_made", 4)]) (g := gName 4) (tt := tYes) rfl sc_read_right.nd (pi_list (pv 2)) (blkOk_by (own := [("_law_made", 4)]) (N := ["_law_one", "_law_letters", "_law_told", "_law_others", "_law_made", "_law_fellow"]) (sc := defScope s_read_right) (by decide +kernel)) (fun _ _ _ _ _ => (pg_name (i := 4) sc_read_right.nd rfl (.inl rfl))) (fun _ _ _ _ _ => pts_nil) (fun _ _ _ _ _ => (pe_and (pe_cmpR (op_eqK M.mE M.gE M.bE (hr.room.mono le16) rfl) (pv 4) (pv 0) (nomark _)) (pe_and (pe_callB (call_isiKK (K := K) rfl) (by rfl) T.isinstance boot_isinst (pa_cons (pv 4) (pa_cons (pe_glob (v := .ref R0) (by rfl) M.R.mgR rfl) pa_nil))) (pe_one (pe_cmpR op_eq (pe_callTy (call_strK M.mS M.gS M.bS (hr.room.mono le36) rfl) (by rfl) T.str (by decide +kernel) (pa_cons (pv 4) pa_nil)) (pv 1) (nomark _))))))) pa_nil)))) (pss_one (ps_ret pe_bl)) pss_nil)
      (pss_cons (ps_set (i := 3) sc_read_right.nd rfl (.inl rfl) (pe_lst (pa_cons pe_non (pa_cons (pv 1) (pa_cons (pe_callB (call_reprO M.mP M.gP M.bP (hr.room.mono (by decide))) (by rfl) T.repr (by decide +kernel) (pa_cons (pv 0) pa_nil)) (pa_cons (pe_tup (pa_cons (pe_prop (pv 0) M.R.cl M.oT M.gT (hr.room.mono (by decide)) M.bT .nil pass0 rfl) (pa_cons (pe_prop (pv 0) M.R.cl M.oB M.gB (hr.room.mono (by decide)) M.bB .nil pass0 rfl) pa_nil))) (pa_cons (pe_lst (pa_cons (pe_prop (pv 0) M.R.cl M.oT M.gT (hr.room.mono (by decide)) M.bT .nil pass0 rfl) (pa_cons (pe_prop (pv 0) M.R.cl M.oB M.gB (hr.room.mono (by decide)) M.bB .nil pass0 rfl) pa_nil))) (pa_cons pe_dnewK (pa_cons pe_bl (pa_cons pe_bl (pa_cons (pe_lst (pa_cons (pv 0) pa_nil)) (pa_cons (pe_tup (pa_cons (pv 0) pa_nil)) pa_nil))))))))))))
      (pss_one (ps_ret (pe_and (pe_not (pe_callB (cr_any rfl) (by rfl) T.any (by decide +kernel) (pa_cons (pe_lc (own := [("_law_fellow", 5)]) (g := gName 5) (tt := tYes) rfl sc_read_right.nd (pi_list (pv 3)) (blkOk_by (own := [("_law_fellow", 5)]) (N := ["_law_one", "_law_letters", "_law_told", "_law_others", "_law_made", "_law_fellow"]) (sc := defScope s_read_right) (by decide +kernel)) (fun _ _ _ _ _ => (pg_name (i := 5) sc_read_right.nd rfl (.inl rfl))) (fun _ _ _ _ _ => pts_nil) (fun _ _ _ _ _ => (pe_cmpR (op_eqK M.mE M.gE M.bE (hr.room.mono le16) rfl) (pv 0) (pv 5) (nomark _)))) pa_nil))) (pe_one (pe_callB (cr_all rfl) (by rfl) T.all (by decide +kernel) (pa_cons (pe_lc (own := [("_law_fellow", 5)]) (g := gName 5) (tt := tYes) rfl sc_read_right.nd (pi_list (pv 3)) (blkOk_by (own := [("_law_fellow", 5)]) (N := ["_law_one", "_law_letters", "_law_told", "_law_others", "_law_made", "_law_fellow"]) (sc := defScope s_read_right) (by decide +kernel)) (fun _ _ _ _ _ => (pg_name (i := 5) sc_read_right.nd rfl (.inl rfl))) (fun _ _ _ _ _ => pts_nil) (fun _ _ _ _ _ => (pe_cmpR (op_neK M.mE M.R.ne M.R.cm M.gE M.bE (hr.room.mono le26) rfl) (pv 0) (pv 5) (nomark _)))) pa_nil)))))))))), ?_⟩
    obtain ⟨dx, hp⟩ := id r1
    have u19 : ∀ i : Int, i.natAbs < 2 ^ 200 → i.natAbs < 2 ^ 1900 := fun i h => Nat.lt_of_lt_of_le h (Nat.pow_le_pow_right (by decide) (by decide))
    have u6 : ∀ i : Int, i.natAbs < 2 ^ 200 → i.natAbs < 2 ^ 600 := fun i h => Nat.lt_of_lt_of_le h (Nat.pow_le_pow_right (by decide) (by decide))
    refine ⟨_, rfl, p, dx, _, rfl, hp, p, n, d, rfl, r1, u19 _ hn, u19 _ hd, _, rfl, ?_⟩
    refine ⟨rfl, _, rfl, n, d, rfl, u6 _ hn, u6 _ hd, hd0, c1, c2, fun q1 H1 e1 h1 => ?_⟩
    refine ⟨rfl, _, rfl, rfl, n, d, rfl, u6 _ hn, u6 _ hd, hd0, c1, c2, fun q2 H2 e2 h2 => ?_⟩
    refine ⟨(by show 2 ≤ sizeLine; decide), fun l hl => ?_⟩
    have e3 : Ext H (upd H2 l (.lst [.ref q1, .ref q2])) := (e1.trans e2).trans (Ext.upd hl)
    have h13 : RatAt R0 (upd H2 l (.lst [.ref q1, .ref q2])) q1 n d := (h1.ext e2).ext (Ext.upd hl)
    have h23 : RatAt R0 (upd H2 l (.lst [.ref q1, .ref q2])) q2 n d := h2.ext (Ext.upd hl)
    have l3 : (upd H2 l (.lst [.ref q1, .ref q2])) l = some (.lst [.ref q1, .ref q2]) := upd_same
    generalize upd H2 l (.lst [.ref q1, .ref q2]) = H3 at *
    refine ⟨_, rfl, l, rfl, ⟨_, SqL.of l3⟩, fun D hD => lc_list (K := K) (a := l) (xs := [.ref q1, .ref q2]) (fun i H' => H' D = some (.lst (List.replicate i (.bl true))) ∧ Ext H3 H') ⟨upd_same, Ext.upd hD⟩ (fun i H' _ ⟨_, e⟩ => SqL.of (e _ _ l3)) ?_ ?_⟩
    · rintro i x H' hx ⟨hD', e⟩
      have hq : ∃ q, x = .ref q ∧ RatAt R0 H' q n d := by
        have := List.mem_of_getElem? hx
        rcases List.mem_cons.mp this with rfl | this
        · exact ⟨q1, rfl, h13.ext e⟩
        · rcases List.mem_cons.mp this with rfl | this
          · exact ⟨q2, rfl, h23.ext e⟩
          · exact nomatch this
      obtain ⟨q, rfl, hq⟩ := hq
      have r3 : RatAt R0 H' p n d := (r1.ext e3).ext e
      obtain ⟨dq, hq'⟩ := id hq
      refine ⟨rfl, lc_yes ⟨_, rfl, _, rfl, eq_rs M hq r3 ⟨_, rfl, iteT ?_⟩⟩⟩
      refine ⟨_, rfl, .ref q, _, _, _, true, rfl, .own R0, .base (.ins hq' M.R.cl M.R.ca M.R.cn M.R.ct M.R.cm), M.R.kR, true, rfl, iteT ?_⟩
      refine ⟨_, rfl, q, dq, _, rfl, hq', q, n, d, rfl, hq, u19 _ hn, u19 _ hd, _, rfl, _, rfl, rfl, ?_⟩
      refine ⟨_, hD', (by rw [List.length_replicate]; have := (List.getElem?_eq_some_iff.mp hx).1; exact Nat.lt_trans this (by show 2 < sizeLine; decide)), ?_, ext_put e hD⟩
      rw [upd_same, decide_eq_true (rfl : V.str (strR n d) = V.str (strR n d)), rep_put]
    rintro H4 ⟨hD4, e4⟩
    refine ⟨D, [true, true], rfl, SqL.of hD4, _, rfl, ?_⟩
    refine ite2 (fun hz => absurd hz (by decide)) (fun _ => ?_)
    have e5 := e3.trans e4
    have r5 := r1.ext e5
    obtain ⟨dx5, hp5⟩ := id r5
    refine ⟨_, rfl, _, rfl, p, dx5, _, rfl, hp5, p, n, d, rfl, r5, u19 _ hn, u19 _ hd, _, rfl, ?_⟩
    refine ⟨_, rfl, p, dx5, _, rfl, hp5, p, n, d, rfl, r5, _, rfl, p, dx5, _, rfl, hp5, p, n, d, rfl, r5, (by show 2 ≤ sizeLine; decide), fun t ht => ?_⟩
    have hpt := Ext.upd (o := .tup [.int n, .int d]) ht _ _ hp5
    have rt := r5.ext (Ext.upd (o := .tup [.int n, .int d]) ht)
    refine ⟨_, rfl, p, dx5, _, rfl, hpt, p, n, d, rfl, rt, _, rfl, p, dx5, _, rfl, hpt, p, n, d, rfl, rt, (by show 2 ≤ sizeLine; decide), fun l2 hl2 => ?_⟩
    refine fun dc hdc => ?_
    refine ⟨_, rfl, (by show 1 ≤ sizeLine; decide), fun o1 ho1 => ?_⟩
    refine ⟨_, rfl, (by show 1 ≤ sizeLine; decide), fun o2 ho2 => ?_⟩
    refine ⟨(by show 10 ≤ sizeLine; decide), fun lo hlo => ?_⟩
    have a1 : Ext H4 (upd H4 t (.tup [.int n, .int d])) := Ext.upd ht
    have g1 : (upd H4 t (.tup [.int n, .int d])) t = some (.tup [.int n, .int d]) := upd_same
    generalize upd H4 t (.tup [.int n, .int d]) = G1 at *
    have a2 : Ext G1 (upd G1 l2 (.lst [.int n, .int d])) := Ext.upd hl2
    have g2 : (upd G1 l2 (.lst [.int n, .int d])) l2 = some (.lst [.int n, .int d]) := upd_same
    generalize upd G1 l2 (.lst [.int n, .int d]) = G2 at *
    have a3 : Ext G2 (upd G2 dc (.dK [])) := Ext.upd hdc
    have g3 : (upd G2 dc (.dK [])) dc = some (.dK []) := upd_same
    generalize upd G2 dc (.dK []) = G3 at *
    have a4 : Ext G3 (upd G3 o1 (.lst [.ref p])) := Ext.upd ho1
    have g4 : (upd G3 o1 (.lst [.ref p])) o1 = some (.lst [.ref p]) := upd_same
    generalize upd G3 o1 (.lst [.ref p]) = G4 at *
    have a5 : Ext G4 (upd G4 o2 (.tup [.ref p])) := Ext.upd ho2
    have g5 : (upd G4 o2 (.tup [.ref p])) o2 = some (.tup [.ref p]) := upd_same
    generalize upd G4 o2 (.tup [.ref p]) = G5 at *
    have ot : ∀ H', Ext G5 H' → allOt K H' [.non, .str (strR n d), .str (repR n d), .ref t, .ref l2, .ref dc, .bl true, .bl false, .ref o1, .ref o2] := fun H' b =>
      ⟨⟨_, .base .non, by decide⟩, ⟨_, .base (.str _), by decide⟩, ⟨_, .base (.str _), by decide⟩, ⟨_, .base (.tup (b _ _ (a5 _ _ (a4 _ _ (a3 _ _ (a2 _ _ g1)))))), by decide⟩, ⟨_, .base (.lst (b _ _ (a5 _ _ (a4 _ _ (a3 _ _ g2))))), by decide⟩,
       ⟨_, .base (.dK (b _ _ (a5 _ _ (a4 _ _ g3)))), by decide⟩, ⟨_, .base (.bl _), by decide⟩, ⟨_, .base (.bl _), by decide⟩, ⟨_, .base (.lst (b _ _ (a5 _ _ g4))), by decide⟩, ⟨_, .base (.tup (b _ _ g5)), by decide⟩, trivial⟩
    have ez : ([.non, .str (strR n d), .str (repR n d), .ref t, .ref l2, .ref dc, .bl true, .bl false, .ref o1, .ref o2] : List V).length = 10 := rfl
    generalize ([.non, .str (strR n d), .str (repR n d), .ref t, .ref l2, .ref dc, .bl true, .bl false, .ref o1, .ref o2] : List V) = zs at *
    have e6 : Ext H (upd G5 lo (.lst zs)) := fun x y z => Ext.upd hlo _ _ (a5 _ _ (a4 _ _ (a3 _ _ (a2 _ _ (a1 _ _ (e5 _ _ z))))))
    have b6 : Ext G5 (upd G5 lo (.lst zs)) := Ext.upd hlo
    have l6 : (upd G5 lo (.lst zs)) lo = some (.lst zs) := upd_same
    generalize upd G5 lo (.lst zs) = G6 at *
    refine ⟨_, rfl, lo, rfl, ⟨_, SqL.of l6⟩, fun D2 hD2 => lc_list (K := K) (a := lo) (xs := zs) (fun i H' => H' D2 = some (.lst (List.replicate i (.bl false))) ∧ Ext G6 H') ⟨upd_same, Ext.upd hD2⟩ (fun i H' _ ⟨_, e⟩ => SqL.of (e _ _ l6)) ?_ ?_⟩
    · rintro i x H' hx ⟨hD', e⟩
      obtain ⟨tt, ty, hm⟩ := allOt_mem (ot H' (b6.trans e)) x (List.mem_of_getElem? hx)
      refine ⟨rfl, lc_yes ⟨_, rfl, _, rfl, eq_rx M (r1.ext (e6.trans e)) ty hm ?_⟩⟩
      refine ⟨_, hD', (by rw [List.length_replicate]; have := (List.getElem?_eq_some_iff.mp hx).1; exact Nat.lt_trans this (by rw [ez]; decide)), ?_, ext_put e hD2⟩
      rw [upd_same, rep_put]
    rintro H7 ⟨hD7, e7⟩
    rw [ez] at hD7
    refine ⟨D2, List.replicate 10 false, rfl, SqL.of hD7, _, rfl, _, rfl, ite2 (fun _ => ?_) (fun hz => absurd (by decide) hz)⟩
    have e8 := e6.trans e7
    refine ⟨_, rfl, lo, rfl, ⟨_, SqL.of (e7 _ _ l6)⟩, fun D3 hD3 => lc_list (K := K) (a := lo) (xs := zs) (fun i H' => H' D3 = some (.lst (List.replicate i (.bl true))) ∧ Ext H7 H') ⟨upd_same, Ext.upd hD3⟩ (fun i H' _ ⟨_, e⟩ => SqL.of (e _ _ (e7 _ _ l6))) ?_ ?_⟩
    · rintro i x H' hx ⟨hD', e⟩
      obtain ⟨tt, ty, hm⟩ := allOt_mem (ot H' ((b6.trans e7).trans e)) x (List.mem_of_getElem? hx)
      refine ⟨rfl, lc_yes ⟨_, rfl, _, rfl, eq_rx M (r1.ext (e8.trans e)) ty hm ?_⟩⟩
      refine ⟨_, hD', (by rw [List.length_replicate]; have := (List.getElem?_eq_some_iff.mp hx).1; exact Nat.lt_trans this (by rw [ez]; decide)), ?_, ext_put e hD3⟩
      rw [upd_same, rep_put]
    rintro H9 ⟨hD9, e9⟩
    rw [ez] at hD9
    exact ⟨D3, List.replicate 10 true, rfl, SqL.of hD9, k H9 (e8.trans e9)⟩
end
end Mc

set_option Elab.async false
set_option linter.all false
set_option maxRecDepth 100000
set_option maxHeartbeats 4000000
set_option exponentiation.threshold 20000
namespace Mc
open PySem PySem.Spec PyProof.Rows L2
section
variable {P : Program} {w : World} {K : PySem.W.Frag} {mg : Str → Option Value} {base : Heap} {f R0 : Addr} {fd : FuncData}
theorem sc_right : FnScope ["_law_pot_here", "_law_a", "_law_b", "_law_one", "_law_fellow", "_law_shown", "_law_turn"] ["_law_pot_here"] (defScope s_right) := ⟨rfl, rfl, rfl, by decide +kernel, rfl, by decide +kernel, by decide +kernel⟩
def spRight : Sp := fun vs H Q _ => ∃ p : Addr, vs = [.ref p] ∧ Pot H p ∧ ∀ H', Frm [p] H H' → Pot H' p → Q (.bl true) H'
theorem repR_len {n d : Int} (hn : n.natAbs < 2 ^ 600) (hd : d.natAbs < 2 ^ 600) : (repR n d).length ≤ 1250 := by
  have l1 := stI_len6 hn
  have l2 := stI_len6 hd
  have c0 : (Str.empty : Str).length = 0 := rfl
  have c1 : (Str.ofString "Ratio(").length = 6 := rfl
  have c2 : (Str.ofString ", ").length = 2 := rfl
  have c3 : (Str.ofString ")").length = 1 := rfl
  unfold repR
  rw [Str.length_append, Str.length_append, Str.length_append, Str.length_append, Str.length_append]
  omega
theorem rp_rat {X : Cx} {H : Hp} {q : Addr} {n d : Int} (M : RM X.prog X.w X.K X.mg X.base R0) (h : RatAt R0 H q n d) (hn : n.natAbs < 2 ^ 200) (hd : d.natAbs < 2 ^ 200) : RpG X 1 [] (.ref q) (repR n d) H := by
  have u19 : ∀ i : Int, i.natAbs < 2 ^ 200 → i.natAbs < 2 ^ 1900 := fun i h => Nat.lt_of_lt_of_le h (Nat.pow_le_pow_right (by decide) (by decide))
  obtain ⟨dx, hq⟩ := id h
  exact rpG_own M.mP M.gP M.bP hq fun H' Q e k => ⟨q, n, d, rfl, h.ext e, u19 _ hn, u19 _ hd, k H' Ext.rfl'⟩
theorem rp_two {X : Cx} {n : Nat} {as : List Addr} {x y : V} {t u : Str} {H : Hp} (h1 : RpG X n as x t H) (h2 : RpG X n as y u H) : ∀ (i : Nat) z, [x, y][i]? = some z → ∃ v, [t, u][i]? = some v ∧ RpG X n as z v H := fun i z h =>
  match i, h with
  | 0, h => by cases h; exact ⟨t, rfl, h1⟩
  | 1, h => by cases h; exact ⟨u, rfl, h2⟩
theorem rp_sz {a b c d : Int} (ha : a.natAbs < 2 ^ 200) (hb : b.natAbs < 2 ^ 200) (hc : c.natAbs < 2 ^ 200) (hd : d.natAbs < 2 ^ 200) : (listText [repR a b, repR c d]).length ≤ sizeLine := by
  have u6 : ∀ i : Int, i.natAbs < 2 ^ 200 → i.natAbs < 2 ^ 600 := fun i h => Nat.lt_of_lt_of_le h (Nat.pow_le_pow_right (by decide) (by decide))
  have h1 := listText_le [repR a b, repR c d]
  have h2 := piled_le (c := 1250) (ts := [repR a b, repR c d]) fun t ht => by
    rcases List.mem_cons.mp ht with rfl | ht
    · exact repR_len (u6 _ ha) (u6 _ hb)
    · rcases List.mem_cons.mp ht with rfl | ht
      · exact repR_len (u6 _ hc) (u6 _ hd)
      · exact nomatch ht
  have e : [repR a b, repR c d].length = 2 := rfl
  rw [e] at h2
  rw [sizeLine_eq]
  omega
theorem ok_right (F : FunD K "_law_right" "_law_right" (defArgs s_right) (defBody s_right) (defScope s_right) [] [] f fd) (T : TB mg) (M : RM P w K mg base R0) {fparts : Addr} {fdparts : FuncData} (Dparts : Gg P w K mg base "_law_parts" 4 ["_law_pot_here", "_law_most"] (spParts) fparts fdparts) {fnear : Addr} {fdnear : FuncData} (Dnear : Gg P w K mg base "_law_near" 5 ["_law_pot_here", "_law_pair"] (spNear) fnear fdnear) {fpair_right : Addr} {fdpair_right : FuncData} (Dpair_right : Gg P w K mg base "_law_pair_right" 7 ["_law_one", "_law_fellow", "_law_a", "_law_b"] (spPair R0) fpair_right fdpair_right) {fwhole_right : Addr} {fdwhole_right : FuncData} (Dwhole_right : Gg P w K mg base "_law_whole_right" 7 ["_law_one", "_law_a"] (spWhole R0) fwhole_right fdwhole_right) {fread_right : Addr} {fdread_right : FuncData} (Dread_right : Gg P w K mg base "_law_read_right" 7 ["_law_one"] (spReadR R0) fread_right fdread_right) : FnOkG P w K mg base CX0 8 f fd ["_law_pot_here"] (spRight) := by
  refine okG F sc_right (fun vs H Q E h => ?_) (fun cdv A outer s H vs Q E hr h => ?_)
  · obtain ⟨p, rfl, hp, k⟩ := h
    rfl
  · obtain ⟨p, rfl, hp, k⟩ := h
    refine ⟨_, (pss_cons (ps_set (i := 1) sc_right.nd rfl (.inl rfl) (pe_gg Dparts hr (by decide) (by rfl) (pa_cons (pv 0) (pa_cons (pe_op op_pow pe_int pe_int) pa_nil))))
      (pss_cons (ps_set (i := 2) sc_right.nd rfl (.inl rfl) (pe_gg Dnear hr (by decide) (by rfl) (pa_cons (pv 0) (pa_cons (pv 1) pa_nil))))
      (pss_cons (ps_par (i := 3) (j := 4) (by rfl) sc_right.nd rfl rfl (by decide) rfl rfl (pa_cons (pe_make M.mkI M.gI (hr.room.mono (by decide)) (by rfl) M.R.mgR M.bI .nil pass0 (pa_cons (pe_ix ix_seq (pv 1) pe_int (fun _ _ => rfl)) (pa_cons (pe_ix ix_seq (pv 1) pe_int (fun _ _ => rfl)) pa_nil))) (pa_cons (pe_makeK0 M.mkI M.gI (hr.room.mono (by decide)) (by rfl) M.R.mgR M.kI pass0 (pk_cons (pe_ix ix_seq (pv 2) pe_int (fun _ _ => rfl)) (pk_cons (pe_ix ix_seq (pv 2) pe_int (fun _ _ => rfl)) pk_nil))) pa_nil)) (by rfl))
      (pss_cons (ps_set (i := 5) sc_right.nd rfl (.inl rfl) (pe_callB (call_reprL (n := 1) (hr.mono (by decide))) (by rfl) T.repr (by decide +kernel) (pa_cons (pe_lst (pa_cons (pv 3) (pa_cons (pv 4) pa_nil))) pa_nil)))
      (pss_cons (ps_for PassesOwn.never rfl (pi_range1 (by rfl) T.range (pa_cons pe_int pa_nil)) (pg_name (i := 6) sc_right.nd rfl (.inl rfl)) (pss_cons (ps_if (PW.pt (pw_or (pt_not (pt_val (pe_gg Dpair_right hr (by decide) (by rfl) (pa_cons (pv 3) (pa_cons (pv 4) (pa_cons (pv 1) (pa_cons (pv 2) pa_nil))))))) (pw_or (pt_not (pt_val (pe_gg Dwhole_right hr (by decide) (by rfl) (pa_cons (pv 3) (pa_cons (pv 1) pa_nil))))) (pw_or1 (pt_not (pt_val (pe_gg Dwhole_right hr (by decide) (by rfl) (pa_cons (pv 4) (pa_cons (pv 2) pa_nil))))))))) (pss_one (ps_ret pe_bl)) pss_nil)
      (pss_one (ps_if (PW.pt (pw_or (pt_not (pt_val (pe_gg Dread_right hr (by decide) (by rfl) (pa_cons (pv 3) pa_nil)))) (pw_or1 (pt_not (pt_val (pe_gg Dread_right hr (by decide) (by rfl) (pa_cons (pv 4) pa_nil))))))) (pss_one (ps_ret pe_bl)) pss_nil))))
      (pss_one (ps_ret (pe_cmpR op_eq (pe_callB (call_reprL (n := 1) (hr.mono (by decide))) (by rfl) T.repr (by decide +kernel) (pa_cons (pe_lst (pa_cons (pv 3) (pa_cons (pv 4) pa_nil))) pa_nil)) (pv 5) (nomark _))))))))), ?_⟩
    refine ⟨_, rfl, _, _, rfl, rfl, ⟨by decide, by decide, by decide⟩, p, _, 97, rfl, hp, by decide, by decide, by decide, by decide, fun t a b H1 ha hb hb0 F1 hp1 ht => ?_⟩
    refine ⟨_, rfl, _, rfl, p, t, a, b, rfl, hp1, ht, ha, hb, hb0, fun t2 c d H2 hc hd hd0 F2 hp2 ht2 => ?_⟩
    have ht' : H2 t = some (.tup [.int a, .int b]) := F2 _ _ ht (by simpa using hp1.ne_tup ht)
    refine ⟨_, rfl, .inr (.inl ⟨t, _, 0, _, rfl, rfl, SqT.of ht', rfl, _, rfl, .inr (.inl ⟨t, _, 1, _, rfl, rfl, SqT.of ht', rfl, ?_⟩)⟩)⟩
    refine fun q dq hq hdq ne => ⟨q, dq, a, b, rfl, upd_same, hb0, Nat.lt_of_lt_of_le hb (Nat.pow_le_pow_right (by decide) (by decide)), fun H3 F3 h3 => ⟨rfl, ?_⟩⟩
    have e3 : Ext H2 H3 := made_ext hq hdq F3
    refine ⟨_, rfl, .inr (.inl ⟨t2, _, 1, _, rfl, rfl, SqT.of (e3 _ _ ht2), rfl, ?_⟩)⟩
    refine ⟨_, rfl, .inr (.inl ⟨t2, _, 0, _, rfl, rfl, SqT.of (e3 _ _ ht2), rfl, ?_⟩)⟩
    refine ⟨rfl, rfl, fun q2 dq2 hq2 hdq2 ne2 => ⟨q2, dq2, c, d, rfl, upd_same, hd0, Nat.lt_of_lt_of_le hd (Nat.pow_le_pow_right (by decide) (by decide)), fun H4 F4 h4 => ⟨rfl, ?_⟩⟩⟩
    have e4 : Ext H3 H4 := made_ext hq2 hdq2 F4
    refine ⟨_, _, rfl, ?_⟩
    have z1 : a.natAbs < 2 ^ 200 := Nat.lt_of_lt_of_le ha (Nat.pow_le_pow_right (by decide) (by decide))
    have z2 : b.natAbs < 2 ^ 200 := Nat.lt_of_lt_of_le hb (Nat.pow_le_pow_right (by decide) (by decide))
    have y1 : (redN a b).natAbs < 2 ^ 200 := Nat.lt_of_le_of_lt (red_le a b).1 z1
    have y2 : (redD a b).natAbs < 2 ^ 200 := Nat.lt_of_le_of_lt (red_le a b).2 z2
    have y3 : (redN c d).natAbs < 2 ^ 200 := Nat.lt_of_le_of_lt (red_le c d).1 hc
    have y4 : (redD c d).natAbs < 2 ^ 200 := Nat.lt_of_le_of_lt (red_le c d).2 hd
    have r1 : RatAt R0 H4 q (redN a b) (redD a b) := RatAt.ext ⟨dq, h3⟩ e4
    have r2 : RatAt R0 H4 q2 (redN c d) (redD c d) := ⟨dq2, h4⟩
    have k1 : H4 t = some (.tup [.int a, .int b]) := e4 _ _ (e3 _ _ ht')
    have k2 : H4 t2 = some (.tup [.int c, .int d]) := e4 _ _ (e3 _ _ ht2)
    refine ⟨_, rfl, _, rfl, (by show 2 ≤ sizeLine; decide), fun l hl => ?_⟩
    have a1 := Ext.upd (o := .lst [.ref q, .ref q2]) hl
    refine ⟨l, [.ref q, .ref q2], [], [repR (redN a b) (redD a b), repR (redN c d) (redD c d)], rfl, SqL.of upd_same, (fun z => nomatch z), rfl, rp_two (rp_rat M (r1.ext a1) y1 y2) (rp_rat M (r2.ext a1) y3 y4), rp_sz y1 y2 y3 y4, fun H5 e5 => ?_⟩
    have e45 : Ext H4 H5 := a1.trans e5
    refine ⟨2, rfl, by decide, by decide, for_range (lo := 0) (n := 2) (fun i σ H' => ∃ u, σ = [some (.ref p), some (.ref t), some (.ref t2), some (.ref q), some (.ref q2), some (.str (listText [repR (redN a b) (redD a b), repR (redN c d) (redD c d)])), u] ∧ Ext H5 H') ⟨none, rfl, Ext.rfl'⟩ ?_ ?_⟩
    · rintro i σ H' hi ⟨u, rfl, e⟩
      have ee : ∀ H6, Ext H' H6 → RatOf R0 H6 q t a b ∧ RatOf R0 H6 q2 t2 c d := fun H6 e6 =>
        ⟨⟨r1.ext ((e45.trans e).trans e6), ((e45.trans e).trans e6) _ _ k1, hb0, z1, z2⟩, ⟨r2.ext ((e45.trans e).trans e6), ((e45.trans e).trans e6) _ _ k2, hd0, hc, hd⟩⟩
      refine ⟨_, rfl, _, rfl, _, rfl, _, rfl, q, q2, t, t2, a, b, c, d, rfl, (ee _ Ext.rfl').1, (ee _ Ext.rfl').2, fun H6 e6 => ⟨_, rfl, iteF ?_⟩⟩
      refine ⟨_, rfl, _, rfl, q, t, a, b, rfl, (ee _ e6).1, fun H7 e7 => ⟨_, rfl, iteF ?_⟩⟩
      have e67 := e6.trans e7
      refine ⟨_, rfl, _, rfl, q2, t2, c, d, rfl, (ee _ e67).2, fun H8 e8 => ⟨_, rfl, iteF ?_⟩⟩
      have e68 := e67.trans e8
      refine ⟨_, rfl, q, _, _, rfl, (ee _ e68).1.1, y1, y2, (red_low (redD_pos hb0) (red_gcd hb0)).1, (red_low (redD_pos hb0) (red_gcd hb0)).2, redD_pos hb0, fun H9 e9 => ⟨_, rfl, iteF ?_⟩⟩
      have e69 := e68.trans e9
      refine ⟨_, rfl, q2, _, _, rfl, (ee _ e69).2.1, y3, y4, (red_low (redD_pos hd0) (red_gcd hd0)).1, (red_low (redD_pos hd0) (red_gcd hd0)).2, redD_pos hd0, fun Ha ea => ⟨_, rfl, iteF ?_⟩⟩
      exact ⟨_, rfl, (e.trans e69).trans ea⟩
    rintro σ H' ⟨u, rfl, e⟩
    have e4p := e45.trans e
    refine ⟨_, rfl, _, rfl, (by show 2 ≤ sizeLine; decide), fun l2 hl2 => ?_⟩
    have a2 := e4p.trans (Ext.upd (o := .lst [.ref q, .ref q2]) hl2)
    refine ⟨l2, [.ref q, .ref q2], [], [repR (redN a b) (redD a b), repR (redN c d) (redD c d)], rfl, SqL.of upd_same, (fun z => nomatch z), rfl, rp_two (rp_rat M (r1.ext a2) y1 y2) (rp_rat M (r2.ext a2) y3 y4), rp_sz y1 y2 y3 y4, fun H6 e6 => ⟨_, rfl, rfl, ?_⟩⟩
    rw [decide_eq_true (rfl : V.str (listText [repR (redN a b) (redD a b), repR (redN c d) (redD c d)]) = V.str (listText [repR (redN a b) (redD a b), repR (redN c d) (redD c d)]))]
    have eA : Ext H2 H6 := (e3.trans e4).trans (a2.trans e6)
    exact k H6 ((F1.trans F2).trans (Frm.ext eA)) (hp2.frm (Frm.ext (M := []) eA) (fun z => nomatch z))
theorem sc_law : FnScope ["_law_script", "_law_k", "_law_pot_here", "_law_turn"] ["_law_script"] (defScope s_law) := ⟨rfl, rfl, rfl, by decide +kernel, rfl, by decide +kernel, by decide +kernel⟩
def spLaw (K : PySem.W.Frag) : Sp := fun vs H Q _ => ∃ (l : Addr) (ns : List Int), vs = [.ref l] ∧ SqL K H l (ns.map V.int) ∧ ∀ H', Q (.bl true) H'
theorem span (n : Int) : 1 ≤ (if (if 4 < n then 4 else n) > 1 then (if 4 < n then 4 else n) else 1) ∧ (if (if 4 < n then 4 else n) > 1 then (if 4 < n then 4 else n) else 1) ≤ 4 := by
  split <;> split <;> omega
theorem ext_frm {H H1 H2 : Hp} {q : Addr} (e : Ext H H1) (f : Frm [q] H1 H2) (h : H q = none) : Ext H H2 := fun a o z => f _ _ (e _ _ z) fun m => by
  rw [List.mem_singleton.mp m, h] at z
  cases z
theorem ok_law (F : FunD K "law" "law" (defArgs s_law) (defBody s_law) (defScope s_law) [] [] f fd) (T : TB mg) {fpot : Addr} {fdpot : FuncData} (Dpot : Gg P w K mg base "_law_pot" 1 ["_law_script", "_law_k"] (spPot K) fpot fdpot) {fright : Addr} {fdright : FuncData} (Dright : Gg P w K mg base "_law_right" 8 ["_law_pot_here"] (spRight) fright fdright) : FnOkG P w K mg base CX0 9 f fd ["_law_script"] (spLaw K) := by
  refine okG F sc_law (fun vs H Q E h => ?_) (fun cdv A outer s H vs Q E hr h => ?_)
  · obtain ⟨l, ns, rfl, hl, k⟩ := h
    rfl
  · obtain ⟨l, ns, rfl, hl, k⟩ := h
    refine ⟨_, (pss_cons (ps_for PassesOwn.never rfl (pi_range1 (by rfl) T.range (pa_cons (pe_callB (call_max2 rfl) (by rfl) T.max (by decide +kernel) (pa_cons pe_int (pa_cons (pe_callB (call_min2 rfl) (by rfl) T.min (by decide +kernel) (pa_cons (pe_callB call_len_seq (by rfl) T.len PySem.boot_len (pa_cons (pv 0) pa_nil)) (pa_cons pe_int pa_nil))) pa_nil))) pa_nil)) (pg_name (i := 1) sc_law.nd rfl (.inl rfl)) (pss_cons (ps_set (i := 2) sc_law.nd rfl (.inr rfl) (pe_gg Dpot hr (by decide) (by rfl) (pa_cons (pv 0) (pa_cons (pv 1) pa_nil))))
      (pss_one (ps_if (pt_not (pt_val (pe_callB (cr_all rfl) (by rfl) T.all (by decide +kernel) (pa_cons (pe_lc (own := [("_law_turn", 3)]) (g := gName 3) (tt := tYes) rfl sc_law.nd (pi_range1 (by rfl) T.range (pa_cons pe_int pa_nil)) (blkOk_by (own := [("_law_turn", 3)]) (N := ["_law_script", "_law_k", "_law_pot_here", "_law_turn"]) (sc := defScope s_law) (by decide +kernel)) (fun _ _ _ _ _ => (pg_name (i := 3) sc_law.nd rfl (.inl rfl))) (fun _ _ _ _ _ => pts_nil) (fun _ _ _ _ _ => (pe_gg Dright hr (by decide) (by rfl) (pa_cons (pv 2) pa_nil)))) pa_nil)))) (pss_one (ps_ret pe_bl)) pss_nil))))
      (pss_one (ps_ret pe_bl))), ?_⟩
    refine ⟨_, rfl, l, _, rfl, .inl hl, _, _, rfl, _, _, rfl, _, rfl, Int.le_trans (by decide) (span _).1, Int.lt_of_le_of_lt (span _).2 (by decide), for_range (lo := 0) (fun i σ H' => ∃ u v, σ = [some (.ref l), u, v, none] ∧ Ext H H') ⟨none, none, rfl, Ext.rfl'⟩ ?_ ?_⟩
    · rintro i σ H' hi ⟨u, v, rfl, e⟩
      have hs := (span ((List.map V.int ns).length : Int)).2
      have hi4 : i < 64 := by
        refine Nat.lt_of_lt_of_le hi (Nat.le_trans (Int.toNat_le.mpr hs) (by decide))
      rw [Int.zero_add]
      refine ⟨_, rfl, _, rfl, l, ns, i, rfl, hl.ext e, hi4, fun q H1 hq F1 hp1 => ?_⟩
      have e1 : Ext H' H1 := fun a o z => F1 a o z (fun m => nomatch m)
      refine ⟨3, rfl, by decide, by decide, fun D hD => lc_range (lo := 0) (n := 3) (fun i H2 => H2 D = some (.lst (List.replicate i (.bl true))) ∧ Pot H2 q ∧ Ext H' H2) ⟨upd_same, hp1.new hD, e1.trans (Ext.upd hD)⟩ ?_ ?_⟩
      · rintro j H2 hj ⟨hD2, hp2, e2⟩
        have hqD : q ≠ D := (hp1.ne hD).symm
        have hD0 : H' D = none := F1.free hD (fun m => nomatch m)
        refine ⟨rfl, lc_yes ⟨_, rfl, q, rfl, hp2, fun H3 F3 hp3 => ?_⟩⟩
        refine ⟨_, F3 _ _ hD2 (fun m => hqD (List.mem_singleton.mp m).symm), (by rw [List.length_replicate]; exact Nat.lt_trans hj (by show 3 < sizeLine; decide)), ?_, hp3.frm (M := [D]) (Frm.put (List.mem_singleton.mpr rfl)) (fun m => hqD (List.mem_singleton.mp m)), ext_put (ext_frm e2 F3 hq) hD0⟩
        rw [upd_same, rep_put]
      · rintro H2 ⟨hD2, hp2, e2⟩
        refine ⟨D, List.replicate 3 true, rfl, SqL.of hD2, _, rfl, ite2 (fun hz => absurd hz (by decide)) (fun _ => ?_)⟩
        exact ⟨_, _, rfl, e.trans e2⟩
    · rintro σ H' ⟨u, v, rfl, e⟩
      exact k H'
end
end Mc

set_option Elab.async false
set_option linter.all false
set_option maxRecDepth 100000
set_option maxHeartbeats 4000000
namespace Mc
open PySem PySem.Spec PyProof.Rows L2
/-! ### what the top has made, def by def -/
/-- a def of the text: no default -/
abbrev FD (K : PySem.W.Frag) (x qual : Str) (st : Stmt) (f : Addr) (fd : FuncData) : Prop := FunD K x qual (defArgs st) (defBody st) (defScope st) [] [] f fd
abbrev FD1 (K : PySem.W.Frag) (x qual : Str) (st : Stmt) (f : Addr) (fd : FuncData) : Prop := FunD K x qual (defArgs st) (defBody st) (defScope st) [.int 1] [] f fd
def GloD (K : PySem.W.Frag) (x : Str) (st : Stmt) : Prop := ∃ f fd, PySem.W.nsIn K mainGlobals x = some (some (.ref f)) ∧ FD K x x st f fd
def MetD (K : PySem.W.Frag) (C : Addr) (x qual : Str) (st : Stmt) : Prop := ∃ f fd, Meth K C x f ∧ FD K x qual st f fd
def PrpD (K : PySem.W.Frag) (C : Addr) (x qual : Str) (st : Stmt) : Prop := ∃ p f fd, PropOf K C x p f ∧ FD K x qual st f fd
def StaD (K : PySem.W.Frag) (C : Addr) (mc : Value) (x qual : Str) (st : Stmt) : Prop := ∃ p f fd, SMet K C mc x p f ∧ FD K x qual st f fd
def IniD (K : PySem.W.Frag) (C : Addr) (qual : Str) (st : Stmt) : Prop := ∃ f fd, Mk K C f ∧ FD1 K "__init__" qual st f fd
section
variable {K : PySem.W.Frag} {C f p : Addr} {mc : Value} {x qual : Str} {st : Stmt} {od an : Option Addr} {sl : Array (Option Value)} {oc dV kV dc pm cd ct : Value} {rest : List Value}
theorem fd_mk (l : K.lookup f = some ⟨oc, od, .func (PySem.W.fnOf x qual (defArgs st) (defBody st) (defScope st) .none kV dc pm an cd ct), sl⟩) (c : PySem.W.codeIn K cd qual = true) (k : PySem.W.keepIn K (.ref f) = true) :
    FD K x qual st f (PySem.W.fnOf x qual (defArgs st) (defBody st) (defScope st) .none kV dc pm an cd ct) :=
  ⟨⟨oc, od, .none, kV, dc, pm, an, cd, ct, sl, rfl, l, c, .inl ⟨rfl, rfl⟩, .inl rfl⟩, k⟩
theorem md_mk {mg : Str → Option Value} {t : Tok} {n : Int} {y : Str} (h : mg y = some (.int n t)) : ∃ t, mg y = some (.int n t) := ⟨t, h⟩
theorem glo_mk (a : PySem.W.nsIn K mainGlobals x = some (some (.ref f))) (l : K.lookup f = some ⟨oc, od, .func (PySem.W.fnOf x x (defArgs st) (defBody st) (defScope st) .none kV dc pm an cd ct), sl⟩) (c : PySem.W.codeIn K cd x = true) (k : PySem.W.keepIn K (.ref f) = true) : GloD K x st :=
  ⟨f, _, a, fd_mk l c k⟩
theorem met_mk (a : PySem.W.findIn K (.ref C) x = some (some (.ref f))) (i : PySem.W.isFn K (.ref f) = true) (l : K.lookup f = some ⟨oc, od, .func (PySem.W.fnOf x qual (defArgs st) (defBody st) (defScope st) .none kV dc pm an cd ct), sl⟩) (c : PySem.W.codeIn K cd qual = true) (k : PySem.W.keepIn K (.ref f) = true) : MetD K C x qual st :=
  ⟨f, _, ⟨a, i, k⟩, fd_mk l c k⟩
theorem prp_mk (a : PySem.W.findIn K (.ref C) x = some (some (.ref p))) (g : PySem.W.specialIn K (.ref p) "__get__" = some (some (.builtin "property.__get__"))) (t : PySem.W.takesIn K (.ref p) = some true) (r : PySem.W.recIn K p "property" = some (.ref f :: rest))
    (l : K.lookup f = some ⟨oc, od, .func (PySem.W.fnOf x qual (defArgs st) (defBody st) (defScope st) .none kV dc pm an cd ct), sl⟩) (c : PySem.W.codeIn K cd qual = true) (k : PySem.W.keepIn K (.ref f) = true) : PrpD K C x qual st :=
  ⟨p, f, _, ⟨a, g, t, ⟨_, r⟩⟩, fd_mk l c k⟩
theorem sta_mk (a : PySem.W.findCls K (.ref C) mc x = some (.get (.builtin "staticmethod.__get__") (.ref p) .none (.ref C))) (r : PySem.W.recIn K p "staticmethod" = some (.ref f :: rest))
    (l : K.lookup f = some ⟨oc, od, .func (PySem.W.fnOf x qual (defArgs st) (defBody st) (defScope st) .none kV dc pm an cd ct), sl⟩) (c : PySem.W.codeIn K cd qual = true) (k : PySem.W.keepIn K (.ref f) = true) : StaD K C mc x qual st :=
  ⟨p, f, _, ⟨a, ⟨_, r⟩, k⟩, fd_mk l c k⟩
theorem ini_mk {T : Addr} {to : Obj} {it : Value} {n : Nat} (m : PySem.W.makesIn K C = true) (a : PySem.W.findIn K (.ref C) "__init__" = some (some (.ref f))) (i : PySem.W.isFn K (.ref f) = true) (kc : PySem.W.keepIn K (.ref C) = true)
    (l : K.lookup f = some ⟨oc, od, .func (PySem.W.fnOf "__init__" qual (defArgs st) (defBody st) (defScope st) (.ref T) kV dc pm an cd ct), sl⟩) (lt : K.lookup T = some to) (ht : to.data = .seq #[it] n) (hi : RelV (.int 1) it) (c : PySem.W.codeIn K cd qual = true) (k : PySem.W.keepIn K (.ref f) = true) : IniD K C qual st :=
  ⟨f, _, ⟨m, a, i, kc⟩, ⟨⟨oc, od, .ref T, kV, dc, pm, an, cd, ct, sl, rfl, l, c, .inr ⟨by simp, T, to, [it], n, rfl, lt, ht, .cons hi .nil⟩, .inl rfl⟩, k⟩⟩
end
end Mc

set_option Elab.async false
set_option linter.all false
set_option maxRecDepth 100000
set_option maxHeartbeats 4000000
namespace Mc
open PySem PySem.Spec PyProof.Rows L2
/-! ### the call of a law whose def asks that no repr is under way -/
section
variable {P : Program} {w : World} {K : PySem.W.Frag} {mg mb : Str → Option Value} {k : Nat} {fa a : Addr} {fd : FuncData} {x : Str} {sp : Sp} {s1 : Shared} {us : List Value} {ns : List Int}
/-- the script's object -/
abbrev scO (us : List Value) : Obj := { cls := .type "list", data := .seq us.toArray }
theorem envG {H : Hp} (KX : K.In s1.heap) (g1 : s1.heap.Ns mainGlobals mg) (g2 : s1.heap.Ns builtinsNs mb) (g3 : ∀ y : Str, y ≠ "__name__" → mb y = bootBuiltins y) (nl : s1.heap.NoLimit) (gn : s1.gens = #[]) (ea : s1.heap.get? a = some (scO us))
    (only : ∀ b, H b ≠ none → b = a ∧ K.lookup a = none) (ok : HOk P w H s1.heap) : K.In (hidT s1.heap H) ∧ (hidT s1.heap H).Ns mainGlobals mg ∧ Env0 P w K mg (hidT s1.heap H) callerA [] s1 H := by
  have seen : ∀ b o, s1.heap.get? b = some o → ¬ b = a → (hidT s1.heap H).get? b = some o := fun b o e n => hidT_get e (Classical.byContradiction fun z => n (only b z).1)
  have dicts : ∀ {b : Addr} {m : Str → Option Value}, s1.heap.Ns b m → (hidT s1.heap H).Ns b m := by
    rintro b m ⟨o, es, ep, e, d, r⟩
    refine ⟨o, es, ep, seen b o e fun z => ?_, d, r⟩
    rw [z, ea] at e
    rw [← Option.some.inj e] at d
    cases (show Data.seq us.toArray _ = Data.dict es ep from d)
  have inK : K.In (hidT s1.heap H) := fun b o e => by
    by_cases z : H b = none
    · exact hidT_get (KX b o e) z
    · obtain ⟨rfl, n⟩ := only b z
      rw [n] at e
      cases e
  obtain ⟨mc, n1, n2⟩ := nl
  exact ⟨inK, dicts g1, rfl, ⟨inK, dicts g1, ⟨mb, dicts g2, g3⟩, mc, dicts n1, n2⟩, fun b o e => of_hidT e, Nat.le_of_eq (hidT_size _ _), trivial, fun b m => (nomatch m), ok, .of_eq gn⟩
theorem callG (KX : K.In s1.heap) (g1 : s1.heap.Ns mainGlobals mg) (g2 : s1.heap.Ns builtinsNs mb) (g3 : ∀ y : Str, y ≠ "__name__" → mb y = bootBuiltins y) (nl : s1.heap.NoLimit) (gn : s1.gens = #[]) (ea : s1.heap.get? a = some (scO us)) (hi : IntsAre us ns) (hz : ns.length ≤ sizeLine) (hr : RoomG k callerA)
    (F : ∀ base : Heap, K.In base → base.Ns mainGlobals mg → FnOkG P w K mg base CX0 k fa fd [x] sp) (hb : ∀ (s : Shared) (u : Value), BindsTo s fd ⟨[u], []⟩ [(x, u)])
    (hsp : ∀ H : Hp, SqL K H a (ns.map V.int) → sp [.ref a] H (fun v _ => v = .bl true) fun _ _ _ => False) :
    codeAny (model P w) callerA (.call (.ref fa) ⟨[.ref a], []⟩) (fun r s' => r = .ok (.ret (.bool true)) ∧ OldK s1.heap s'.heap ∧ s'.os = s1.os ∧ AllBare s'.gens) s1 := by
  have rv : Vals (ns.map V.int) us := vals_ints hi
  have ln : us.length = ns.length := hi.length
  suffices go : ∃ H : Hp, SqL K H a (ns.map V.int) ∧ HOk P w H s1.heap ∧ (∀ b, H b ≠ none → b = a ∧ K.lookup a = none) ∧ ∀ b, H b ≠ none → ∃ o xs, H b = some (.frz o (.lst xs)) by
    obtain ⟨H, hS, ok, only, fz⟩ := go
    obtain ⟨k1, k2, env⟩ := envG KX g1 g2 g3 nl gn ea only ok
    refine codeAny_mono ((F _ k1 k2).run callerA [] s1 H ⟨[.ref a], []⟩ [.ref a] [.ref a] _ _ hr env (hb s1 _) (.cons rfl .nil) (hsp H hS)) fun r s2 e => ?_
    rcases r with e2 | fl
    · exact e.elim
    · cases fl with
      | ret u =>
        obtain ⟨v, H2, os, bare, un, ok2, r2, q⟩ := e
        subst q
        cases (show u = Value.bool true from r2)
        refine ⟨rfl, OldK.of_keep fun b o eo => ?_, os, bare⟩
        by_cases z : H b = none
        · exact un.keep b o eo z (fun m => (nomatch m)) (by simp)
        · obtain ⟨ob, xs, z2⟩ := fz b z
          have t1 := (ok b _ z2).1
          rw [eo] at t1
          rw [Option.some.inj t1]
          exact (ok2 b _ (un.frzs b ob _ z2)).1
      | next => exact e.elim
      | brk => exact e.elim
      | cont => exact e.elim
  by_cases hk : K.lookup a = none
  · have at_ : (fun b => if b = a then some (HO.frz (scO us) (.lst (ns.map V.int))) else none : Hp) a = some (HO.frz (scO us) (.lst (ns.map V.int))) := if_pos rfl
    have no : ∀ b, ¬ b = a → (fun b => if b = a then some (HO.frz (scO us) (.lst (ns.map V.int))) else none : Hp) b = none := fun b n => if_neg n
    generalize (fun b => if b = a then some (HO.frz (scO us) (.lst (ns.map V.int))) else none : Hp) = H at at_ no
    refine ⟨H, .inl (.inr ⟨_, at_⟩), fun b u e => ?_, fun b z => ⟨Classical.byContradiction fun n => z (no b n), hk⟩, fun b z => ?_⟩
    · by_cases n : b = a
      · rw [n, at_] at e
        cases e
        rw [n]
        exact ⟨ea, by rw [List.length_map]; exact hz, us, _, rv, ea⟩
      · rw [no b n] at e
        cases e
    · by_cases n : b = a
      · exact ⟨_, _, by rw [n]; exact at_⟩
      · exact absurd (no b n) z
  · obtain ⟨o, ho⟩ := Option.ne_none_iff_exists'.mp hk
    have e := KX a o ho
    rw [ea] at e
    cases e
    refine ⟨fun _ => none, .inr ⟨_, us.toArray, _, ho, rfl, rfl, rfl, ?_, by simpa using rv⟩, fun b u z => (nomatch z), fun b z => absurd rfl z, fun b z => absurd rfl z⟩
    rw [List.size_toArray, ln]
    exact hz
end
theorem walkG {l : PySem.W.OpenLaw} {n k : Nat} {q : Program} {loose : List Str} {XP : (Str → Option Value) → Heap → Prop} {YP : World → Heap → Prop} {d : DefRec} {K : Params → PySem.W.Frag} {x : Str} (hn : l.most = some n) (hz : n ≤ sizeLine) (hdf : d.params.defaults = []) (hr : RoomG k callerA)
    (hY : ∀ (w : World) (h : Heap), YP w h → (K w.params).In h)
    (F : ∀ (w : World) (mg : Str → Option Value) (fa : Addr) (h : Heap), (K w.params).In h → h.Ns mainGlobals mg → mg d.name = some (.ref fa) →
      ∃ fd : FuncData, (∀ (s : Shared) (u : Value), BindsTo s fd ⟨[u], []⟩ [(x, u)]) ∧ ∀ base : Heap, (K w.params).In base → base.Ns mainGlobals mg → FnOkG l.prog w (K w.params) mg base CX0 k fa fd [x] (spLaw (K w.params))) :
    PySem.W.WalkO q loose XP YP l.row.toRowW d [] (fun f vs => PySem.call f vs) := by
  refine Att.attach_call hn hdf fun w s0 s1 mg mb fa o pm cd doc a us ns G Y ho hd hcd hmg hobj hints hlen hg => ?_
  have KX := hY w _ Y
  obtain ⟨fd, hb, hF⟩ := F w mg fa _ KX G.T.g hmg
  exact callG KX G.T.g G.T.b G.T.builtins G.T.nolimit hg hobj hints (Nat.le_trans hlen hz) hr hF hb fun H hS => ⟨a, ns, rfl, hS, fun _ => rfl⟩
end Mc

set_option Elab.async false
set_option linter.all false
set_option maxRecDepth 100000
set_option maxHeartbeats 4000000
namespace Mc
open PySem PySem.Spec PyProof.Rows L2
section
variable {K : PySem.W.Frag} {x qual : Str} {st : Stmt} {f : Addr} {fd : FuncData} {ps : List Str}
theorem FD.fun (F : FD K x qual st f fd) : L2.Fun K x qual st f fd := by
  obtain ⟨oc, od, dV, kV, doc, pm, an, c, ct, osl, e, lk, hc, hD, _⟩ := F.ex
  rcases hD with ⟨_, rfl⟩ | ⟨z, _⟩
  · exact ⟨⟨oc, od, kV, doc, pm, an, c, ct, osl, e, lk, hc⟩, F.kp⟩
  · exact absurd rfl z
theorem FD.kb (F : FD K x qual st f fd) (n : Nat) (ks : List Str) {g : List Value → List Value → List Value} {gV : List V → List V → List V}
    (h : ∀ (kV doc pm : Value) (an : Option Addr) (cdv ct : Value) (us ws : List Value), us.length = n → ws.length = ks.length → bindArgs (PySem.W.fnOf x qual (defArgs st) (defBody st) (defScope st) .none kV doc pm an cdv ct) ⟨us, ks.zip ws⟩ = pure (ps.zip (g us ws)))
    (rel : ∀ {vs : List V} {us : List Value} {zs : List V} {ws : List Value}, Vals vs us → Vals zs ws → Vals (gV vs zs) (g us ws)) : KBn K fd ps n ks g gV := by
  obtain ⟨oc, od, dV, kV, doc, pm, an, c, ct, osl, rfl, lk, hc, hD, _⟩ := F.ex
  rcases hD with ⟨_, rfl⟩ | ⟨z, _⟩
  · exact ⟨fun s us ws _ h1 h2 => .of_eq (h kV doc pm an c ct us ws h1 h2), rel⟩
  · exact absurd rfl z
end
section
variable {P : Program} {w : World} {K : PySem.W.Frag} {mg : Str → Option Value} {base h : Heap} {R0 : Addr} {mc : Value}
theorem rm_of (X : K.In h) (G : h.Ns mainGlobals mg) (T : TB mg) (R : RatT K mg R0) (cr : ClX.CRead K R0 mc) (Gis : GloD K "is_int" s_is_int) (Gas : GloD K "as_ratio" s_as_ratio) (Gdi : GloD K "_is_digits" s_is_digits) (Gbo : GloD K "_bottom_of" s_bottom_of)
    (Mi : IniD K R0 "Ratio.__init__" s_Ratio___init) (Mt : PrpD K R0 "top" "Ratio.top" s_Ratio_top) (Mb : PrpD K R0 "bottom" "Ratio.bottom" s_Ratio_bottom) (Mw : MetD K R0 "is_below" "Ratio.is_below" s_Ratio_is_below) (Mf : MetD K R0 "floor" "Ratio.floor" s_Ratio_floor)
    (Me : MetD K R0 "__eq__" "Ratio.__eq__" s_Ratio___eq) (Ms : MetD K R0 "__str__" "Ratio.__str__" s_Ratio___str) (Mr : MetD K R0 "__repr__" "Ratio.__repr__" s_Ratio___repr) (Mrd : StaD K R0 mc "read" "Ratio.read" s_Ratio_read) (hK : K.In base) (hG : base.Ns mainGlobals mg) : Nonempty (RM P w K mg base R0) := by
  obtain ⟨fis, fdis, ais, Fis⟩ := Gis
  obtain ⟨fas, fdas, aas, Fas⟩ := Gas
  obtain ⟨fdi, fddi, adi, Fdi⟩ := Gdi
  obtain ⟨fbo, fdbo, abo, Fbo⟩ := Gbo
  obtain ⟨fI, fdI, mkI, FI⟩ := Mi
  obtain ⟨pT, fT, fdT, oT, FT⟩ := Mt
  obtain ⟨pB, fB, fdB, oB, FB⟩ := Mb
  obtain ⟨fW, fdW, mW, FW⟩ := Mw
  obtain ⟨fF, fdF, mF, FF⟩ := Mf
  obtain ⟨fE, fdE, mE, FE⟩ := Me
  obtain ⟨fS, fdS, mS, FS⟩ := Ms
  obtain ⟨fP, fdP, mP, FP⟩ := Mr
  obtain ⟨pR, fR, fdR, sR, FR⟩ := Mrd
  have Dis : Gd P w K mg base "is_int" 1 ["value"] spIsInt fis fdis := ⟨PySem.W.mg_of X G ais, Fis.kp, Fis.bindsN fun _ _ _ _ _ _ us hl => match us, hl with | [_], _ => rfl, ok_is_int Fis T⟩
  have Ddi : Gd P w K mg base "_is_digits" 1 ["text"] spDigits fdi fddi := ⟨PySem.W.mg_of X G adi, Fdi.kp, Fdi.bindsN fun _ _ _ _ _ _ us hl => match us, hl with | [_], _ => rfl, ok_is_digits Fdi T R⟩
  have Dbo : Gd P w K mg base "_bottom_of" 2 ["slash", "text"] spBottom fbo fdbo := ⟨PySem.W.mg_of X G abo, Fbo.kp, Fbo.bindsN fun _ _ _ _ _ _ us hl => match us, hl with | [_, _], _ => rfl, ok_bottom_of Fbo T R Ddi⟩
  have gI : FnOk P w K mg base CX0 2 fI fdI ["self", "top", "bottom"] (spInit R0) := ok_Ratio___init FI T R Dis
  obtain ⟨d0, v0, bI⟩ := FI.binds1 (ps := ["self", "top", "bottom"]) 3 1 (by simp) rfl fun _ _ _ _ _ _ _ us its h1 h2 => match us, h1, its, h2 with | [_, _, _], _, [_], _ => ⟨_, rfl, rfl⟩
  cases v0
  obtain ⟨dsI, hI, bI1⟩ := FI.binds1 (ps := ["self", "top", "bottom"]) 2 0 (by simp) rfl fun _ _ _ _ _ _ _ us its h1 h2 => match us, h1, its, h2 with | [_, _], _, [_], _ => ⟨_, rfl, rfl⟩
  obtain ⟨_, kI⟩ := FI.kbindsD (ps := ["self", "top", "bottom"]) 1 ["bottom", "top"] (fun us _ ws => us ++ ws.reverse) (by simp) (fun a _ c => a.append c.reverse) fun _ _ _ _ _ _ _ us its ws h1 h2 h3 => match us, h1, its, h2, ws, h3 with | [_], _, [_], _, [_, _], _ => ⟨_, rfl, rfl⟩
  have bT := FT.bindsN (ps := ["self"]) fun _ _ _ _ _ _ us hl => match us, hl with | [_], _ => rfl
  have bB := FB.bindsN (ps := ["self"]) fun _ _ _ _ _ _ us hl => match us, hl with | [_], _ => rfl
  have bW := FW.bindsN (ps := ["self", "other"]) fun _ _ _ _ _ _ us hl => match us, hl with | [_, _], _ => rfl
  have bF := FF.bindsN (ps := ["self"]) fun _ _ _ _ _ _ us hl => match us, hl with | [_], _ => rfl
  have bE := FE.bindsN (ps := ["self", "other"]) fun _ _ _ _ _ _ us hl => match us, hl with | [_, _], _ => rfl
  have bS := FS.bindsN (ps := ["self"]) fun _ _ _ _ _ _ us hl => match us, hl with | [_], _ => rfl
  have bP := FP.bindsN (ps := ["self"]) fun _ _ _ _ _ _ us hl => match us, hl with | [_], _ => rfl
  have bR := FR.bindsN (ps := ["text"]) fun _ _ _ _ _ _ us hl => match us, hl with | [_], _ => rfl
  have Das : Gd P w K mg base "as_ratio" 4 ["value"] (spAs R0) fas fdas := ⟨PySem.W.mg_of X G aas, Fas.kp, Fas.bindsN fun _ _ _ _ _ _ us hl => match us, hl with | [_], _ => rfl, ok_as_ratio Fas T R mkI gI bI hI bI1⟩
  have gT := ok_Ratio_top (P := P) (w := w) (base := base) FT T R
  have gB := ok_Ratio_bottom (P := P) (w := w) (base := base) FB T R
  have gS := ok_Ratio___str (P := P) (w := w) (base := base) FS T R
  exact ⟨{ R, fI, fdI, dsI, mkI, gI, bI, hI, bI1, kI, pT, fT, fdT, oT, gT, bT, pB, fB, fdB, oB, gB, bB, fW, fdW, mW, bW, fF, fdF, mF, bF, fE, fdE, mE, bE, fS, fdS, mS, gS, bS, fP, fdP, mP, bP, mc, pR, fR, fdR, sR, bR
           gW := ok_Ratio_is_below FW T R oT gT bT oB gB bB Das
           gF := ok_Ratio_floor FF T R
           gE := ok_Ratio___eq FE T R
           gP := ok_Ratio___repr FP T R
           cR := cr
           gR := ok_Ratio_read FR T R mkI gI bI hI bI1 Ddi Dbo mS gS bS
           kW := FW.kb 1 ["other"] (fun _ _ _ _ _ _ us ws h1 h2 => match us, h1, ws, h2 with | [_], _, [_], _ => rfl) fun a b => a.append b
           kR := FR.kb 0 ["text"] (fun _ _ _ _ _ _ us ws h1 h2 => match us, h1, ws, h2 with | [], _, [_], _ => rfl) fun a b => a.append b }⟩
theorem all12 {fa : Addr} (X : K.In h) (G : h.Ns mainGlobals mg) (hfa : mg "law" = some (.ref fa)) (T : TB mg) (R : RatT K mg R0) (cr : ClX.CRead K R0 mc) (Gis : GloD K "is_int" s_is_int) (Gas : GloD K "as_ratio" s_as_ratio) (Gdi : GloD K "_is_digits" s_is_digits) (Gbo : GloD K "_bottom_of" s_bottom_of)
    (Mi : IniD K R0 "Ratio.__init__" s_Ratio___init) (Mt : PrpD K R0 "top" "Ratio.top" s_Ratio_top) (Mb : PrpD K R0 "bottom" "Ratio.bottom" s_Ratio_bottom) (Mw : MetD K R0 "is_below" "Ratio.is_below" s_Ratio_is_below) (Mf : MetD K R0 "floor" "Ratio.floor" s_Ratio_floor)
    (Me : MetD K R0 "__eq__" "Ratio.__eq__" s_Ratio___eq) (Ms : MetD K R0 "__str__" "Ratio.__str__" s_Ratio___str) (Mr : MetD K R0 "__repr__" "Ratio.__repr__" s_Ratio___repr) (Mrd : StaD K R0 mc "read" "Ratio.read" s_Ratio_read)
    (Lpot : GloD K "_law_pot" sPot) (Ldraw : GloD K "_law_draw" sDraw) (Lpick : GloD K "_law_pick" sPick) (Lint : GloD K "_law_integer" s_integer) (Lparts : GloD K "_law_parts" s_parts) (Lnear : GloD K "_law_near" s_near) (Lorder : GloD K "_law_order" s_order)
    (Lpair : GloD K "_law_pair_right" s_pair_right) (Lwhole : GloD K "_law_whole_right" s_whole_right) (Lread : GloD K "_law_read_right" s_read_right) (Lright : GloD K "_law_right" s_right) (Llaw : GloD K "law" s_law) :
    ∃ fd : FuncData, (∀ (s : Shared) (v : Value), BindsTo s fd ⟨[v], []⟩ [("_law_script", v)]) ∧ ∀ base : Heap, K.In base → base.Ns mainGlobals mg → FnOkG P w K mg base CX0 9 fa fd ["_law_script"] (spLaw K) := by
  obtain ⟨fl, fdl, al, Fl⟩ := Llaw
  have e := hfa.symm.trans (PySem.W.mg_of X G al)
  cases e
  refine ⟨fdl, fun s v => Fl.bindsA (ps := ["_law_script"]) (fun _ _ _ _ _ _ us hl => match us, hl with | [_], _ => rfl) s [v] rfl, fun base hK hG => ?_⟩
  obtain ⟨M⟩ := rm_of (P := P) (w := w) X G T R cr Gis Gas Gdi Gbo Mi Mt Mb Mw Mf Me Ms Mr Mrd hK hG
  obtain ⟨f1, fd1, a1, F1⟩ := Lpot
  obtain ⟨f2, fd2, a2, F2⟩ := Ldraw
  obtain ⟨f3, fd3, a3, F3⟩ := Lpick
  obtain ⟨f4, fd4, a4, F4⟩ := Lint
  obtain ⟨f5, fd5, a5, F5⟩ := Lparts
  obtain ⟨f6, fd6, a6, F6⟩ := Lnear
  obtain ⟨f7, fd7, a7, F7⟩ := Lorder
  obtain ⟨f8, fd8, a8, F8⟩ := Lpair
  obtain ⟨f9, fd9, a9, F9⟩ := Lwhole
  obtain ⟨f10, fd10, a10, F10⟩ := Lread
  obtain ⟨f11, fd11, a11, F11⟩ := Lright
  have D1 : Gd P w K mg base "_law_pot" 1 ["_law_script", "_law_k"] (spPot K) f1 fd1 := ⟨PySem.W.mg_of X G a1, F1.kp, F1.bindsN fun _ _ _ _ _ _ us hl => match us, hl with | [_, _], _ => rfl, ok_pot F1.fun T⟩
  have D2 : Gd P w K mg base "_law_draw" 1 ["_law_pot_here", "_law_size"] spDraw f2 fd2 := ⟨PySem.W.mg_of X G a2, F2.kp, F2.bindsN fun _ _ _ _ _ _ us hl => match us, hl with | [_, _], _ => rfl, ok_draw F2.fun T.divmod T.int⟩
  have D3 : Gd P w K mg base "_law_pick" 2 ["_law_pot_here", "_law_some"] spPick f3 fd3 := ⟨PySem.W.mg_of X G a3, F3.kp, F3.bindsN fun _ _ _ _ _ _ us hl => match us, hl with | [_, _], _ => rfl, ok_pick F3.fun D2 T.len⟩
  have D4 : Gd P w K mg base "_law_integer" 3 ["_law_pot_here", "_law_most"] spInteger f4 fd4 := ⟨PySem.W.mg_of X G a4, F4.kp, F4.bindsN fun _ _ _ _ _ _ us hl => match us, hl with | [_, _], _ => rfl, ok_integer F4.fun T D2 D3⟩
  have D5 : Gd P w K mg base "_law_parts" 4 ["_law_pot_here", "_law_most"] spParts f5 fd5 := ⟨PySem.W.mg_of X G a5, F5.kp, F5.bindsN fun _ _ _ _ _ _ us hl => match us, hl with | [_, _], _ => rfl, ok_parts F5.fun T D4 D3⟩
  have D6 : Gd P w K mg base "_law_near" 5 ["_law_pot_here", "_law_pair"] spNear f6 fd6 := ⟨PySem.W.mg_of X G a6, F6.kp, F6.bindsN fun _ _ _ _ _ _ us hl => match us, hl with | [_, _], _ => rfl, ok_near F6.fun T D2 D3 D5⟩
  have D7 : Gd P w K mg base "_law_order" 1 ["_law_one", "_law_fellow"] spOrder f7 fd7 := ⟨PySem.W.mg_of X G a7, F7.kp, F7.bindsN fun _ _ _ _ _ _ us hl => match us, hl with | [_, _], _ => rfl, ok_order F7.fun T⟩
  have D8 : Gg P w K mg base "_law_pair_right" 7 ["_law_one", "_law_fellow", "_law_a", "_law_b"] (spPair R0) f8 fd8 := ⟨PySem.W.mg_of X G a8, F8.kp, F8.bindsN fun _ _ _ _ _ _ us hl => match us, hl with | [_, _, _, _], _ => rfl, ok_pair_right F8 T M D7.toG⟩
  have D9 : Gg P w K mg base "_law_whole_right" 7 ["_law_one", "_law_a"] (spWhole R0) f9 fd9 := ⟨PySem.W.mg_of X G a9, F9.kp, F9.bindsN fun _ _ _ _ _ _ us hl => match us, hl with | [_, _], _ => rfl, ok_whole_right F9 T M D7.toG⟩
  have D10 : Gg P w K mg base "_law_read_right" 7 ["_law_one"] (spReadR R0) f10 fd10 := ⟨PySem.W.mg_of X G a10, F10.kp, F10.bindsN fun _ _ _ _ _ _ us hl => match us, hl with | [_], _ => rfl, ok_read_right F10 T M⟩
  have D11 : Gg P w K mg base "_law_right" 8 ["_law_pot_here"] spRight f11 fd11 := ⟨PySem.W.mg_of X G a11, F11.kp, F11.bindsN fun _ _ _ _ _ _ us hl => match us, hl with | [_], _ => rfl, ok_right F11 T M D5.toG D6.toG D8 D9 D10⟩
  exact ok_law Fl T D1.toG D11
end
end Mc

open PySem PySem.W PyProof.Rows
set_option maxRecDepth 100000
set_option maxHeartbeats 0
theorem PySem.Challenge.cw_movecells_k12_ratios_compared_and_read_holds : PySem.Challenge.rw_movecells_k12_ratios_compared_and_read.Holds := by
  refine head ?_
  k_fill
  refine Mc.walkG (n := 63) (k := 9) (x := "_law_script") (l := PySem.Challenge.rw_movecells_k12_ratios_compared_and_read) rfl (by decide) rfl ⟨⟨rfl, by decide, by decide⟩, rfl⟩ (fun w h Y => PySem.W.kIn_of Y) ?F
  case F =>
    intro w mg fa h KX G hmg
    have gis : Mc.GloD (head.heap_39 w.params) "is_int" Mc.s_is_int := by
      refine' Mc.glo_mk ?a ?l ?c ?k
      (case a => k_is); (case l => k_is); (case c => k_is); (case k => k_is)
    have gas : Mc.GloD (head.heap_39 w.params) "as_ratio" Mc.s_as_ratio := by
      refine' Mc.glo_mk ?a ?l ?c ?k
      (case a => k_is); (case l => k_is); (case c => k_is); (case k => k_is)
    have gdi : Mc.GloD (head.heap_39 w.params) "_is_digits" Mc.s_is_digits := by
      refine' Mc.glo_mk ?a ?l ?c ?k
      (case a => k_is); (case l => k_is); (case c => k_is); (case k => k_is)
    have gbo : Mc.GloD (head.heap_39 w.params) "_bottom_of" Mc.s_bottom_of := by
      refine' Mc.glo_mk ?a ?l ?c ?k
      (case a => k_is); (case l => k_is); (case c => k_is); (case k => k_is)
    have g_law_pot : Mc.GloD (head.heap_39 w.params) "_law_pot" Mc.sPot := by
      refine' Mc.glo_mk ?a ?l ?c ?k
      (case a => k_is); (case l => k_is); (case c => k_is); (case k => k_is)
    have g_law_draw : Mc.GloD (head.heap_39 w.params) "_law_draw" Mc.sDraw := by
      refine' Mc.glo_mk ?a ?l ?c ?k
      (case a => k_is); (case l => k_is); (case c => k_is); (case k => k_is)
    have g_law_pick : Mc.GloD (head.heap_39 w.params) "_law_pick" Mc.sPick := by
      refine' Mc.glo_mk ?a ?l ?c ?k
      (case a => k_is); (case l => k_is); (case c => k_is); (case k => k_is)
    have g_law_integer : Mc.GloD (head.heap_39 w.params) "_law_integer" Mc.s_integer := by
      refine' Mc.glo_mk ?a ?l ?c ?k
      (case a => k_is); (case l => k_is); (case c => k_is); (case k => k_is)
    have g_law_parts : Mc.GloD (head.heap_39 w.params) "_law_parts" Mc.s_parts := by
      refine' Mc.glo_mk ?a ?l ?c ?k
      (case a => k_is); (case l => k_is); (case c => k_is); (case k => k_is)
    have g_law_near : Mc.GloD (head.heap_39 w.params) "_law_near" Mc.s_near := by
      refine' Mc.glo_mk ?a ?l ?c ?k
      (case a => k_is); (case l => k_is); (case c => k_is); (case k => k_is)
    have g_law_order : Mc.GloD (head.heap_39 w.params) "_law_order" Mc.s_order := by
      refine' Mc.glo_mk ?a ?l ?c ?k
      (case a => k_is); (case l => k_is); (case c => k_is); (case k => k_is)
    have g_law_pair_right : Mc.GloD (head.heap_39 w.params) "_law_pair_right" Mc.s_pair_right := by
      refine' Mc.glo_mk ?a ?l ?c ?k
      (case a => k_is); (case l => k_is); (case c => k_is); (case k => k_is)
    have g_law_whole_right : Mc.GloD (head.heap_39 w.params) "_law_whole_right" Mc.s_whole_right := by
      refine' Mc.glo_mk ?a ?l ?c ?k
      (case a => k_is); (case l => k_is); (case c => k_is); (case k => k_is)
    have g_law_read_right : Mc.GloD (head.heap_39 w.params) "_law_read_right" Mc.s_read_right := by
      refine' Mc.glo_mk ?a ?l ?c ?k
      (case a => k_is); (case l => k_is); (case c => k_is); (case k => k_is)
    have g_law_right : Mc.GloD (head.heap_39 w.params) "_law_right" Mc.s_right := by
      refine' Mc.glo_mk ?a ?l ?c ?k
      (case a => k_is); (case l => k_is); (case c => k_is); (case k => k_is)
    have glaw : Mc.GloD (head.heap_39 w.params) "law" Mc.s_law := by
      refine' Mc.glo_mk ?a ?l ?c ?k
      (case a => k_is); (case l => k_is); (case c => k_is); (case k => k_is)
    have Mw : Mc.MetD (head.heap_39 w.params) 250 "is_below" "Ratio.is_below" Mc.s_Ratio_is_below := by
      refine' Mc.met_mk ?a ?i ?l ?c ?k
      (case a => k_is); (case i => k_is); (case l => k_is); (case c => k_is); (case k => k_is)
    have Mf : Mc.MetD (head.heap_39 w.params) 250 "floor" "Ratio.floor" Mc.s_Ratio_floor := by
      refine' Mc.met_mk ?a ?i ?l ?c ?k
      (case a => k_is); (case i => k_is); (case l => k_is); (case c => k_is); (case k => k_is)
    have Me : Mc.MetD (head.heap_39 w.params) 250 "__eq__" "Ratio.__eq__" Mc.s_Ratio___eq := by
      refine' Mc.met_mk ?a ?i ?l ?c ?k
      (case a => k_is); (case i => k_is); (case l => k_is); (case c => k_is); (case k => k_is)
    have Ms : Mc.MetD (head.heap_39 w.params) 250 "__str__" "Ratio.__str__" Mc.s_Ratio___str := by
      refine' Mc.met_mk ?a ?i ?l ?c ?k
      (case a => k_is); (case i => k_is); (case l => k_is); (case c => k_is); (case k => k_is)
    have Mr : Mc.MetD (head.heap_39 w.params) 250 "__repr__" "Ratio.__repr__" Mc.s_Ratio___repr := by
      refine' Mc.met_mk ?a ?i ?l ?c ?k
      (case a => k_is); (case i => k_is); (case l => k_is); (case c => k_is); (case k => k_is)
    have Mt : Mc.PrpD (head.heap_39 w.params) 250 "top" "Ratio.top" Mc.s_Ratio_top := by
      refine' Mc.prp_mk ?a ?g ?t ?r ?l ?c ?k
      (case a => k_is); (case g => k_is); (case t => k_is); (case r => k_is); (case l => k_is); (case c => k_is); (case k => k_is)
    have Mb : Mc.PrpD (head.heap_39 w.params) 250 "bottom" "Ratio.bottom" Mc.s_Ratio_bottom := by
      refine' Mc.prp_mk ?a ?g ?t ?r ?l ?c ?k
      (case a => k_is); (case g => k_is); (case t => k_is); (case r => k_is); (case l => k_is); (case c => k_is); (case k => k_is)
    have Mrd : Mc.StaD (head.heap_39 w.params) 250 (.type "type") "read" "Ratio.read" Mc.s_Ratio_read := by
      refine' Mc.sta_mk ?a ?r ?l ?c ?k
      (case a => k_is); (case r => k_is); (case l => k_is); (case c => k_is); (case k => k_is)
    have Mi : Mc.IniD (head.heap_39 w.params) 250 "Ratio.__init__" Mc.s_Ratio___init := by
      refine' Mc.ini_mk ?m ?a ?i ?kc ?l ?lt ?ht ?hi ?c ?k
      (case m => k_is); (case a => k_is); (case i => k_is); (case kc => k_is); (case l => k_is); (case lt => k_is)
      (case ht => rfl)
      (case hi => exact ⟨_, rfl⟩)
      (case c => k_is); (case k => k_is)
    have T : Mc.TB mg := by
      refine' ⟨PySem.W.mg_none_of KX G ?z0, PySem.W.mg_none_of KX G ?z1, PySem.W.mg_none_of KX G ?z2, PySem.W.mg_none_of KX G ?z3, PySem.W.mg_none_of KX G ?z4, PySem.W.mg_none_of KX G ?z5, PySem.W.mg_none_of KX G ?z6, PySem.W.mg_none_of KX G ?z7, PySem.W.mg_none_of KX G ?z8, PySem.W.mg_none_of KX G ?z9, PySem.W.mg_none_of KX G ?z10, PySem.W.mg_none_of KX G ?z11, PySem.W.mg_none_of KX G ?z12, PySem.W.mg_none_of KX G ?z13, PySem.W.mg_none_of KX G ?z14, PySem.W.mg_none_of KX G ?z15, PySem.W.mg_none_of KX G ?z16⟩
      all_goals k_is
    have R : Mc.RatT (head.heap_39 w.params) mg 250 := by
      refine' ⟨⟨?pg, ?hd, ?po, ?sa⟩, ?nT, ?nB, PySem.W.mg_of KX G ?mR, PySem.W.mg_of KX G ?gc, Mc.md_mk (PySem.W.mg_of KX G ?md), ?ca, ?cn, ?ct, ?cm, ?ne, ?kR, ?kk, ?nf⟩
      (case pg => k_is); (case hd => k_is); (case po => k_is); (case sa => k_is)
      (case nT => unfold L2.NoAttr; k_is); (case nB => unfold L2.NoAttr; k_is)
      (case mR => k_is); (case gc => k_is); (case md => k_is); (case ca => k_is); (case cn => k_is); (case ct => k_is); (case cm => k_is); (case ne => k_is)
      (case kR => kit_is)
      case kk =>
        intro x hx
        simp only [List.mem_cons, List.not_mem_nil, or_false] at hx
        rcases hx with rfl | rfl | rfl | rfl | rfl | rfl | rfl <;> kit_is
      case nf =>
        intro x hx
        simp only [List.mem_cons, List.not_mem_nil, or_false] at hx
        rcases hx with rfl | rfl | rfl | rfl | rfl | rfl | rfl <;> k_is
    have cr : ClX.CRead (head.heap_39 w.params) 250 (.type "type") := by
      refine' ⟨?a, ?b⟩
      (case a => k_is); (case b => k_is)
    exact Mc.all12 KX G hmg T R cr gis gas gdi gbo Mi Mt Mb Mw Mf Me Ms Mr Mrd g_law_pot g_law_draw g_law_pick g_law_integer g_law_parts g_law_near g_law_order g_law_pair_right g_law_whole_right g_law_read_right g_law_right glaw
