import PyProof.Rows.All
import Wide.All
import OpenK.AllK
import Wide.FinOn
import HandS.ForDict
import KE.RegKIsAll
import KE.KStateDown
import HandS.ForMost
import HandS.Wide
import HandS.WideBits
import HandS.Gcd
import HandS.Defaults
import HandS.Property
import HandS.OwnEq
import HandS.IsInst
import HandS.FStr
import HandS.StrMore
import HandS.RaiseMore
import HandS.EndBits
import HandS.MakeKw
import HandS.ClsMeth
import PyProof.ReprNest
import PyProof.ReprHeads
import PyProof.ReprHeadsEmpty
import PyProof.ReprHeadsTuple
import KE.KFmtOwn
import KE.KCallOwn
import KE.KIsAll
import HandS.SlotsOwn
import PyProof.InstEq
import PyProof.InstNe
import HandS.MakeKwOnly
import HandS.Iter
import KE.GoesMore
import HandS.Star
import HandS.Deep
import HandS.Style
import HandS.TupAny
import HandS.TupLe
import HandS.Text
import HandS.Comp
import HandS.RevRange
import HandS.RevTup
import PyProof.Rows.TupMore
import HandS.Strs
import HandS.Zip
import HandS.Small
import PyProof.ReprText
import PySem.Challenge.RW_movecells_k14_plans_told
set_option Elab.async false
section
open PySem PySem.W PyProof.Rows
set_option maxRecDepth 100000 in
set_option maxHeartbeats 0 in
open_top head for PySem.Challenge.rw_movecells_k14_plans_told
end
set_option Elab.async false
set_option linter.all false
set_option maxRecDepth 100000
set_option maxHeartbeats 4000000
/-! a layer of my own over HandS: frames, deep data, pots -/
namespace Mc
open PySem PySem.Spec PyProof.Rows L2

/-! ### frames -/
/-- what was tracked is as it was, but at M -/
def Frm (M : List Addr) (H H' : Hp) : Prop := ∀ a o, H a = some o → a ∉ M → H' a = some o
theorem Frm.refl (M : List Addr) (H : Hp) : Frm M H H := fun _ _ h _ => h
theorem Frm.trans {M : List Addr} {H H1 H2 : Hp} (a : Frm M H H1) (b : Frm M H1 H2) : Frm M H H2 := fun x o h n => b x o (a x o h n) n
theorem Frm.more {M M' : List Addr} {H H1 : Hp} (a : Frm M H H1) (s : ∀ x ∈ M, x ∈ M') : Frm M' H H1 := fun x o h n => a x o h fun z => n (s x z)
theorem Frm.new {M : List Addr} {H : Hp} {p : Addr} {o : HO} (h : H p = none) : Frm M H (upd H p o) := fun a u e _ => by
  rw [upd_ne (ne_of_none e h)]
  exact e
theorem Frm.put {M : List Addr} {H : Hp} {p : Addr} {o : HO} (h : p ∈ M) : Frm M H (upd H p o) := fun a u e n => by
  have : a ≠ p := fun z => n (z ▸ h)
  rw [upd_ne this]
  exact e
theorem Frm.ext {M : List Addr} {H H1 : Hp} (e : Ext H H1) : Frm M H H1 := fun a o h _ => e a o h
theorem Frm.free {M : List Addr} {H H' : Hp} (e : Frm M H H') {l : Addr} (h : H' l = none) (n : l ∉ M) : H l = none := by
  cases q : H l with
  | none => rfl
  | some o =>
    rw [e l o q n] at h
    cases h

/-! ### a pot: two numbers -/
def PotOk (a b : Int) : Prop := 0 ≤ a ∧ 0 ≤ b ∧ b < 2147483587
def Pot (H : Hp) (p : Addr) : Prop := ∃ a b : Int, H p = some (.lst [.int a, .int b]) ∧ PotOk a b
theorem Pot.frm {M : List Addr} {H H' : Hp} {p : Addr} (h : Pot H p) (f : Frm M H H') (n : p ∉ M) : Pot H' p := by
  obtain ⟨a, b, e, o⟩ := h
  exact ⟨a, b, f _ _ e n, o⟩
/-- divisors that go by the plain way, whatever is divided -/
theorem plain_div (i : Int) {j : Int} (h : 0 < j) (hb : j.natAbs.log2 < 9000) : CDivP i j := ⟨h, PyProof.noPylong_of_log2 hb⟩
theorem log2_lt {j : Int} {n : Nat} (h0 : 0 < n) (h : j.natAbs < 2 ^ n) : j.natAbs.log2 < n := PySem.Flt.log2_lt_of h0 h

theorem small_log {j : Int} {n : Nat} (h : j.natAbs < 2 ^ n) (h0 : 0 < n) (h1 : n ≤ 9000) : j.natAbs.log2 < 9000 := Nat.lt_of_lt_of_le (PySem.Flt.log2_lt_of h0 h) h1
theorem len_log {n : Nat} (h : n ≤ 1000) : ((n : Nat) : Int).natAbs.log2 < 9000 := small_log (n := 10) (by omega) (by decide) (by decide)
/-! ### a def of the module, with its promise -/
structure Gd (P : Program) (w : World) (K : PySem.W.Frag) (mg : Str → Option Value) (base : Heap) (x : Str) (k : Nat) (ps : List Str) (sp : Sp) (f : Addr) (fd : FuncData) : Prop where
  g : mg x = some (.ref f)
  kp : PySem.W.keepIn K (.ref f) = true
  b : Binds K fd ps []
  ok : FnOk P w K mg base CX0 k f fd ps sp
theorem Gd.mono {P : Program} {w : World} {K : PySem.W.Frag} {mg : Str → Option Value} {base : Heap} {x : Str} {k n : Nat} {ps : List Str} {sp : Sp} {f : Addr} {fd : FuncData} (D : Gd P w K mg base x k ps sp f fd) (h : k ≤ n) : Gd P w K mg base x n ps sp f fd := ⟨D.g, D.kp, D.b, D.ok.mono h⟩
section
variable {X : Cx} {x : Str} {k n : Nat} {ps : List Str} {sp : Sp} {f : Addr} {fd : FuncData} {p pos : Pos} {e : Expr} {es : List Expr} {t : TA}
theorem pe_gd (D : Gd X.prog X.w X.K X.mg X.base x k ps sp f fd) (hr : Room n X.A) (hk : k ≤ n) (hg : Gl X x) (ha : PA X (e :: es) t) (hdb : (x == ("__debug__" : Str)) = false := by decide) (he : starEach (e :: es) X.env = (false, eval e X.env) :: starEach es X.env := by rfl) (hpl : (backTo pos (starEach es X.env)).any (·.1) = false := by rfl) :
    PE X (.Call (.Name x p) (e :: es) [] pos) (tCall sp [] E0 t) := pe_call D.ok (hr.mono hk) hg D.g D.kp D.b .nil pass0 ha hdb he hpl
end

/-- the built-in names that the module leaves as they are -/
structure TB (mg : Str → Option Value) : Prop where
  len : mg "len" = none
  abs : mg "abs" = none
  max : mg "max" = none
  min : mg "min" = none
  int : mg "int" = none
  str : mg "str" = none
  bool : mg "bool" = none
  divmod : mg "divmod" = none
  range : mg "range" = none
  all : mg "all" = none
  any : mg "any" = none
  repr : mg "repr" = none
  isinstance : mg "isinstance" = none
  list : mg "list" = none
  tuple : mg "tuple" = none
  enumerate : mg "enumerate" = none
  zip : mg "zip" = none

/-- // by any divisor but 0 of at most some thousand digits -/
def CDivX (_ j : Int) : Prop := j ≠ 0 ∧ j.natAbs.log2 < 9000
section
variable {X : Cx}
theorem op_fdivX : OpR X (binaryOp .FloorDiv) (rI CDivX fun i j => .int (i.fdiv j)) := opI fun _ _ _ _ _ _ _ hc q => floordiv_int hc.1 q (.inl (PyProof.noPylong_of_log2 hc.2))
end
theorem mulW {i j : Int} {a b : Nat} (ha : i.natAbs < 2 ^ a) (hb : j.natAbs < 2 ^ b) (h0 : 0 < a := by decide) (h1 : 0 < b := by decide) (h : a + b ≤ 1000000 := by decide) : CMulW i j := wide_mul ha hb h0 h1 h

theorem pick_int {ns : List Int} {C : Int → Prop} (hC : ∀ n ∈ ns, C n) {i : Nat} {x : V} (h : (ns.map V.int)[i]? = some x) : ∃ n, x = .int n ∧ C n := by
  have hm := List.mem_of_getElem? h
  obtain ⟨n, hn, rfl⟩ := List.mem_map.mp hm
  exact ⟨n, rfl, hC n hn⟩
theorem Pot.ne {H : Hp} {p l : Addr} (h : Pot H p) (hl : H l = none) : l ≠ p := by
  obtain ⟨a, b, e, _⟩ := h
  exact fun z => by rw [z, e] at hl; cases hl
theorem Pot.new {H : Hp} {p l : Addr} {o : HO} (h : Pot H p) (hl : H l = none) : Pot (upd H l o) p := h.frm (M := []) (Frm.new hl) (fun z => nomatch z)
/-- a pot is no tuple -/
theorem Pot.ne_tup {H : Hp} {p t : Addr} {xs : List V} (h : Pot H p) (ht : H t = some (.tup xs)) : t ∉ [p] := by
  obtain ⟨a, b, e, _⟩ := h
  intro z
  rw [List.mem_singleton.mp z, e] at ht
  cases ht
theorem Frm.tup {H H' : Hp} {p t : Addr} {xs : List V} (f : Frm [p] H H') (h : Pot H p) (ht : H t = some (.tup xs)) : H' t = some (.tup xs) := f _ _ ht (h.ne_tup ht)
/-- plain steps of a reading -/
local macro_rules | `(tactic| walk_at "rd1") => `(tactic| first
  | with_reducible refine ⟨_, rfl, ?_⟩
  | refine ⟨_, rfl, ?_⟩)
end Mc

set_option Elab.async false
set_option linter.all false
set_option maxRecDepth 100000
set_option maxHeartbeats 4000000
namespace Mc
open PySem PySem.Spec PyProof.Rows L2
open PySem.Builtin PySem.Builtin.List

/-! ### repr of what holds objects of one's own -/
structure SubG (X : Cx) (n : Nat) (A : Around) (g : List Code) : Prop where
  room : Room n A
  fr : A.frames = X.A.frames
  gs : A.guards = some g
theorem SubG.mono {X : Cx} {n m : Nat} {A : Around} {g : List Code} (s : SubG X n A g) (h : m ≤ n) : SubG X m A g := ⟨s.room.mono h, s.fr, s.gs⟩
theorem depth_loop (A : Around) (args : Args) : (A.under (.builtin "list.__repr__.loop" args)).depth = A.depth + 1 := by
  simp [Around.under, Code.weight, Code.isCreation, Code.isGuard, Code.isCaller, Code.frames, Code.isFrame, guardIds]
theorem frames_loop (A : Around) (args : Args) : (A.under (.builtin "list.__repr__.loop" args)).frames = A.frames := by
  simp [Around.under, Code.envs, Code.isFrame, pushEnvs]
theorem SubG.loop {X : Cx} {n : Nat} {A : Around} {g : List Code} (s : SubG X (n + 1) A g) (args : Args) : SubG X n (A.under (.builtin "list.__repr__.loop" args)) (.builtin "list.__repr__.loop" args :: g) :=
  ⟨⟨s.room.hd, by have := s.room.dp; rw [depth_loop]; omega, by have := s.room.un; rw [units_under_list_loop]; omega⟩, (frames_loop A args).trans s.fr, guards_under_guard (isGuard_list_loop _) s.gs⟩

/-- repr of x is t, wherever H₀ stands -/
def RpG (X : Cx) (n : Nat) (as : List Addr) (x : V) (t : Str) (H0 : Hp) : Prop :=
  ∀ (A : Around) (g : List Code) (pins : List (Addr × Obj)) (s : Shared) (σ : L2.St) (H : Hp) (u : Value) (b : Nat), SubG X n A g → (∀ c ∈ as, Clear g c) → Inv X pins σ H s → Ext H0 H → RelV x u → b + t.length ≤ sizeLine →
    wpAny (model X.prog X.w) A (pyReprUnder b u) (fun r s' => r = t ∧ ∃ H', Inv X pins σ H' s' ∧ Ext H H') X.xe s
section
variable {X : Cx} {n m : Nat} {as as' : List Addr} {x : V} {t : Str} {H0 H1 : Hp}
theorem RpG.mono (h : RpG X n as x t H0) (hn : n ≤ m) (ha : ∀ c ∈ as, c ∈ as') (e : Ext H0 H1) : RpG X m as' x t H1 := fun A g pins s σ H u b sg hc I e' rx hb =>
  h A g pins s σ H u b (sg.mono hn) (fun c hm => hc c (ha c hm)) I (e.trans e') rx hb
theorem rpG_is (h : ∀ u, RelV x u → ReprIs X.prog X.w u t) : RpG X 0 [] x t H0 := fun A g pins s σ H u b sg hc I e rx hb =>
  h u rx b hb A X.xe s _ fun tk => ⟨rfl, H, I.tok _, Ext.rfl'⟩
theorem rpG_int {i : Int} (h : i.natAbs.log2 < 1920) : RpG X 0 [] (.int i) (toString i) H0 := rpG_is fun u ⟨t, e⟩ => by subst e; exact ReprIs.int t h
theorem rpG_bl {b : Bool} : RpG X 0 [] (.bl b) (if b then "True" else "False") H0 := rpG_is fun u e => by cases (show u = Value.bool b from e); exact ReprIs.bool b
theorem rpG_non : RpG X 0 [] .non "None" H0 := rpG_is fun u e => by cases (show u = Value.none from e); exact ReprIs.none
theorem rpG_str {y : Str} (h : (reprText y).length ≤ sizeLine) : RpG X 0 [] (.str y) (reprText y) H0 := rpG_is fun u ⟨t, e⟩ => by subst e; exact ReprIs.str y t h
end

/-- an untracked thing of ours has turned: the pin with it -/
theorem Inv.repin {X : Cx} {pins : List (Addr × Obj)} {σ : L2.St} {H : Hp} {s : Shared} {h' : Heap} {t' : Nat} {P : Addr} {o o' : Obj} (I : Inv X ((P, o) :: pins) σ H s) (hf : FpOk X pins H P) (k : ∀ b u, b ≠ P → s.heap.get? b = some u → h'.get? b = some u)
    (hn : h'.get? P = some o') (hc : ∀ v, o'.data ≠ .cell v) : Inv X ((P, o') :: pins) σ H { s with heap := h', toks := t' } := by
  have J : Inv X pins σ H s := ⟨I.ok, I.os, I.bare, I.base, I.loc, I.cell, I.free, I.freeC, fun p hp => I.pin p (by
    rcases List.mem_append.mp hp with z | z
    · exact List.mem_append.mpr (.inl z)
    · exact List.mem_append.mpr (.inr (List.mem_cons_of_mem _ z))), I.hok, I.len⟩
  have J2 := Inv.turned (h' := h') (t' := t') (it := P) J k hf.1 hf.2.1 hf.2.2.2.1 hf.2.2.2.2.1 hf.2.2.2.2.2
  refine ⟨J2.ok, J2.os, J2.bare, J2.base, J2.loc, J2.cell, J2.free, J2.freeC, fun p hp => ?_, J2.hok, J2.len⟩
  rcases List.mem_append.mp hp with z | z
  · exact J2.pin p (List.mem_append.mpr (.inl z))
  · rcases List.mem_cons.mp z with z | z
    · subst z
      exact ⟨hn, hf.1, hf.2.1, hf.2.2.1, hc⟩
    · exact J2.pin p (List.mem_append.mpr (.inr z))
theorem Inv.unpin {X : Cx} {pins : List (Addr × Obj)} {σ : L2.St} {H : Hp} {s : Shared} {p : Addr × Obj} (I : Inv X (p :: pins) σ H s) : Inv X pins σ H s :=
  ⟨I.ok, I.os, I.bare, I.base, I.loc, I.cell, I.free, I.freeC, fun q hq => I.pin q (by
    rcases List.mem_append.mp hq with z | z
    · exact List.mem_append.mpr (.inl z)
    · exact List.mem_append.mpr (.inr (List.mem_cons_of_mem _ z))), I.hok, I.len⟩

section
variable {X : Cx} {R : Result → Shared → Prop} {n : Nat} {as : List Addr} {a P : Addr} {xs : List V} {ts : List Str} {H0 H : Hp} {pins : List (Addr × Obj)} {σ : L2.St} {g : List Code} {A : Around} {b0 : Nat}
abbrev pileO (acc : Array Value) (c : Nat) : Obj := { cls := .type "list", dict := none, data := .seq acc c, slots := #[] }
theorem rp_loop (sg : SubG X (n + 1) A g) (hcl : ∀ c ∈ as, Clear g c) (hna : a ∉ as) (hl : SqL X.K H0 a xs) (hlen : ts.length = xs.length)
    (hT : ∀ (i : Nat) x, xs[i]? = some x → ∃ t, ts[i]? = some t ∧ RpG X n as x t H0) (hsz : b0 + (listText ts).length ≤ sizeLine)
    (hR : ∀ u s' H', Inv X pins σ H' s' → Ext H H' → R (.ok (.ret (.str (listText ts) u))) s') (hE : ∀ e s', X.xe e s' → R (.error e) s') (e0 : Ext H0 H) :
    ∀ (k i : Nat) (s : Shared) (acc : Array Value) (c : Nat) (done : List (Str × Tok)) (H1 : Hp), xs.length - i = k → i ≤ xs.length →
      Inv X ((P, pileO acc c) :: pins) σ H1 s → FpOk X pins H1 P → Ext H H1 → acc.toList = strValues done → done.map (·.1) = ts.take i →
      codeAny (model X.prog X.w) A (.builtin "list.__repr__.loop" ⟨[.ref a, rawInt i, .ref P, rawInt ((b0 + piled (ts.take i) : Nat) : Int)], []⟩) R s := by
  have hX : (listText ts).length = (textFrom 0 "[" ts).length + 1 := by
    show (textFrom 0 "[" ts ++ "]").length = _
    rw [strLen_append] <;> rfl
  have hL := textFrom_len ts 0 "["
  have hz1 : ts.length ≤ sizeLine := by
    have h1 := hL.1
    rw [if_neg (Nat.lt_irrefl 0)] at h1
    omega
  have hz2 : ∀ t ∈ ts, t.length ≤ sizeLine := fun t ht => by
    have h2 := hL.2.1 t ht
    omega
  have hz3 : (listText ts).length ≤ sizeLine := by omega
  have hp3 := piled_le_listText ts
  intro k
  induction k with
  | zero =>
    intro i s acc c done H1 hk hi I hf e1 hacc hdone
    have hin : i = xs.length := by omega
    obtain ⟨its, r, ⟨oa, na, ha, _, _, hda⟩, _⟩ := I.list (hl.ext (e0.trans e1))
    have hP := (I.pin (P, pileO acc c) (List.mem_append.mpr (.inr List.mem_cons_self))).1
    refine codeAny_builtin F.entry_list_repr_loop ?_
    show wpAny _ _ («list.__repr__.loop» ⟨[.ref a, .int i 0, .ref P, .int ((b0 + piled (ts.take i) : Nat) : Int) 0], []⟩) _ _ s
    rw [repr_loop_tree]
    refine wpAny_bind (wpAny_listItems ha hda ?_)
    have hnone : its.toArray[(i : Int).toNat]? = none := by
      have := r.length
      simp
      omega
    simp only [hnone]
    unfold reprEnd
    refine wpAny_bind (wpAny_listItems hP rfl ?_)
    rw [hacc, repr_fold]
    refine wpAny_bind (wpAny_pure ?_)
    have hall : done.map (·.1) = ts := by rw [hdone, hin, ← hlen, List.take_length]
    rw [hall]
    refine wpAny_bind (wpAny_mkStr (wpAny_pure ?_) hz3)
    exact hR _ _ H1 ((Inv.unpin I).tok _) e1
  | succ k ih =>
    intro i s acc c done H1 hk hi I hf e1 hacc hdone
    have hlt : i < xs.length := by omega
    obtain ⟨its, r, ⟨oa, na, ha, _, _, hda⟩, _⟩ := I.list (hl.ext (e0.trans e1))
    have hP := (I.pin (P, pileO acc c) (List.mem_append.mpr (.inr List.mem_cons_self))).1
    obtain ⟨u, hu, ru⟩ := r.get (List.getElem?_eq_getElem hlt)
    obtain ⟨t, ht, hrep⟩ := hT i xs[i] (List.getElem?_eq_getElem hlt)
    have hp1 := piled_take_succ ht
    have hp2 := piled_take_le ts (i + 1)
    refine codeAny_builtin F.entry_list_repr_loop ?_
    show wpAny _ _ («list.__repr__.loop» ⟨[.ref a, .int i 0, .ref P, .int ((b0 + piled (ts.take i) : Nat) : Int) 0], []⟩) _ _ s
    rw [repr_loop_tree]
    refine wpAny_bind (wpAny_listItems ha hda ?_)
    have hsome : its.toArray[(i : Int).toNat]? = some u := by simpa using hu
    simp only [hsome]
    rw [Int.toNat_natCast]
    refine wpAny_bind (wpAny_holding (wpAny_mono (hrep _ _ _ s σ H1 u (b0 + piled (ts.take i) + 1) (sg.loop _) (fun z hz => (hcl z hz).cons (a := a) fun q => hna (q ▸ hz)) I (e0.trans e1) ru (by omega)) (fun q s' hq => ?_) fun e s' z => hE e s' z))
    obtain ⟨rfl, H2, I2, e2⟩ := hq
    have hP2 := (I2.pin (P, pileO acc c) (List.mem_append.mpr (.inr List.mem_cons_self))).1
    have hn2 := (I2.pin (P, pileO acc c) (List.mem_append.mpr (.inr List.mem_cons_self))).2.1
    refine wpAny_bind (wpAny_mkStr ?_ (hz2 _ (List.mem_of_getElem? ht)))
    refine wpAny_bind ?_
    show wpAny _ _ (updateSeq P _) _ _ _
    have hasz : acc.size ≤ sizeLine := by
      have a1 : acc.toList.length = acc.size := by simp
      have a2 : (strValues done).length = done.length := by simp [strValues]
      have a3 : done.length = (ts.take i).length := by rw [← hdone, List.length_map]
      have a4 : (ts.take i).length ≤ i := by rw [List.length_take]; omega
      rw [hacc] at a1
      omega
    refine wpAny_updateSeq hP2 rfl (wpAny_pure ⟨F.quiet_list_repr_loop _, ?_⟩) hasz
    have b1 : ((i : Int) + 1) = ((i + 1 : Nat) : Int) := by omega
    have b2 : b0 + piled (ts.take i) + (q.length + 2) = b0 + piled (ts.take (i + 1)) := by omega
    rw [b1, b2]
    have hf2 : FpOk X pins H2 P := ⟨hn2, hf.2⟩
    refine ih (i + 1) _ (acc.push (.str q s'.toks)) _ (done ++ [(q, s'.toks)]) H2 (by omega) hlt (Inv.repin (o' := pileO (acc.push (.str q s'.toks)) _) (I2.tok _) hf2 (fun b o hb e => (Heap.get?_update_other _ _ (fun h : P = b => hb h.symm)).trans e) (Heap.get?_update_self _ hP2 rfl) (fun v z => by cases z)) hf2 (e1.trans e2) (by simp [hacc, strValues]) (by simp [List.take_add_one, ht, hdone])

theorem Inv.addpin {s : Shared} {o : Obj} (I : Inv X pins σ H s) (hg : s.heap.get? P = some o) (hf : FpOk X pins H P) (hc : ∀ v, o.data ≠ .cell v) : Inv X ((P, o) :: pins) σ H s :=
  ⟨I.ok, I.os, I.bare, I.base, I.loc, I.cell, I.free, I.freeC, fun p hp => by
    rcases List.mem_append.mp hp with z | z
    · exact I.pin p (List.mem_append.mpr (.inl z))
    · rcases List.mem_cons.mp z with z | z
      · subst z
        exact ⟨hg, hf.1, hf.2.1, hf.2.2.1, hc⟩
      · exact I.pin p (List.mem_append.mpr (.inr z)), I.hok, I.len⟩
theorem rp_listAt {s : Shared} (sg : SubG X (n + 1) A g) (hcl : ∀ c ∈ a :: as, Clear g c) (hna : a ∉ as) (hl : SqL X.K H0 a xs) (hx : xs ≠ []) (hlen : ts.length = xs.length)
    (hT : ∀ (i : Nat) x, xs[i]? = some x → ∃ t, ts[i]? = some t ∧ RpG X n as x t H0) (hsz : b0 + (listText ts).length ≤ sizeLine)
    (hR : ∀ u s' H', Inv X pins σ H' s' → Ext H H' → R (.ok (.ret (.str (listText ts) u))) s') (hE : ∀ e s', X.xe e s' → R (.error e) s') (e0 : Ext H0 H) (I : Inv X pins σ H s) :
    wpAny (model X.prog X.w) A.in1 (Builtin.listReprAt b0 ⟨[.ref a], []⟩) (fun fin s' => match fin with | .done f => R (.ok f) s' | .again c' => c'.quiet = true ∧ codeAny (model X.prog X.w) A c' R s') (fun e s' => R (.error e) s') s := by
  have hca : Clear g a := hcl a (.head _)
  obtain ⟨its, r, ⟨oa, na, ha, hc, hd, hda⟩, _⟩ := I.list (hl.ext e0)
  have hP : s.heap.objs.size ≤ s.heap.objs.size := Nat.le_refl _
  cases its with
  | nil =>
    cases r
    exact absurd rfl hx
  | cons y l =>
    refine wpAny_list_repr_head (A := A.in1) sg.gs (fun v rest kw hm => listSameRef_of_ne (hca _ _ _ _ hm)) ha hda ?_
    refine wpAny_bind (m := newList []) (wpAny_newObj_type ?_)
    refine wpAny_pure ⟨F.quiet_list_repr_loop _, ?_⟩
    have hn : H s.heap.objs.size = none := I.hok.fresh hP
    have hf : FpOk X pins H s.heap.objs.size := I.fpOk hP hn
    have I1 := I.kept (h' := s.heap.push { cls := .type "list", data := .seq #[] }) (t' := s.toks) fun b o e => Heap.get?_push_of_some _ e
    have I2 := Inv.addpin (P := s.heap.objs.size) I1 (Heap.get?_push_size _ rfl) hf (fun v z => by cases z)
    exact rp_loop sg (fun z hz => hcl z (.tail _ hz)) hna hl hlen hT hsz hR hE e0 _ 0 _ #[] _ [] H rfl (Nat.zero_le _) I2 hf Ext.rfl' rfl (by simp)
theorem rpG_list (hna : a ∉ as) (hl : SqL X.K H0 a xs) (hlen : ts.length = xs.length) (hT : ∀ (i : Nat) x, xs[i]? = some x → ∃ t, ts[i]? = some t ∧ RpG X n as x t H0) : RpG X (n + 1) (a :: as) (.ref a) (listText ts) H0 := by
  intro A g pins s σ H u b sg hcl I e0 rx hb
  cases (show u = Value.ref a from rx)
  obtain ⟨its, r, ⟨oa, na, ha, hc, hd, hda⟩, _⟩ := I.list (hl.ext e0)
  have hTy : s.TypeIs (.ref a) "list" := ⟨oa, ha, hc⟩
  refine wpAny_pyReprUnder_ref (by omega) ?_
  by_cases hx : xs = []
  · subst hx
    cases r
    have ht : ts = [] := List.length_eq_zero_iff.mp hlen
    subst ht
    exact wpAny_pyReprObjUnder_list_empty hTy sg.room.units0 ha hda ⟨_, _, rfl, rfl, H, I.tok _, Ext.rfl'⟩
  · refine wpAny_pyReprObjUnder_twin (twin := "list.__repr__.under") hTy F.slot_list_repr.toG rfl sg.room.units0 ?_
    exact call_twin_plain F.plain_list_repr_under F.entry_list_repr_under F.check_list_repr_under hTy F.slot_list_repr.toG (F.args_list_repr_1 _)
      (rp_listAt (R := callEnd _ _) sg hcl hna hl hx hlen hT hb (fun u s' H' I' e' => ⟨⟨_, _, rfl⟩, _, _, rfl, rfl, H', I', e'⟩) (fun e s' z => z) e0 I)
end
end Mc

set_option Elab.async false
set_option linter.all false
set_option maxRecDepth 100000
set_option maxHeartbeats 4000000
namespace Mc
open PySem PySem.Spec PyProof.Rows L2

/-! ### defs that are called where no repr is under way -/
structure RoomG (k : Nat) (A : Around) : Prop where
  room : Room k A
  gs : A.guards = some []
theorem RoomG.mono {j k : Nat} {A : Around} (r : RoomG k A) (h : j ≤ k) : RoomG j A := ⟨r.room.mono h, r.gs⟩
structure FnOkG (P : Program) (w : World) (K : PySem.W.Frag) (mg : Str → Option Value) (base : Heap) (CX : CXT) (k : Nat) (f : Addr) (fd : FuncData) (ps : List Str) (sp : Sp) : Prop where
  len : ∀ vs H Q E, sp vs H Q E → vs.length = ps.length
  run : ∀ (B : Around) (ou : List Env) (s : Shared) (H : Hp) (ar : Args) (us : List Value) (vs : List V) (Q : VK) (E : XK),
    RoomG k B → Env0 P w K mg base B ou s H → BindsTo s fd ar (ps.zip us) → Vals vs us → sp vs H Q E → codeAny (model P w) B (.call (.ref f) ar) (CR CX ou P w H s Q E) s
section
variable {P : Program} {w : World} {K : PySem.W.Frag} {mg : Str → Option Value} {base : Heap} {CX : CXT} {j k : Nat} {f : Addr} {fd : FuncData} {ps : List Str} {sp : Sp}
theorem FnOkG.mono (F : FnOkG P w K mg base CX j f fd ps sp) (h : j ≤ k) : FnOkG P w K mg base CX k f fd ps sp :=
  ⟨F.len, fun B ou s H ar us vs Q E r => F.run B ou s H ar us vs Q E (r.mono h)⟩
theorem toG (F : FnOk P w K mg base CX k f fd ps sp) : FnOkG P w K mg base CX k f fd ps sp :=
  ⟨F.len, fun B ou s H ar us vs Q E r => F.run B ou s H ar us vs Q E r.room⟩
/-- the rule for such a def -/
theorem okG {x qual : Str} {pa : Arguments} {bd : List Stmt} {sc : Scope} {dvs : List V} {kws : List (Str × V)} {N : List Str} (F : FunD K x qual pa bd sc dvs kws f fd) (S : FnScope N ps sc) (len : ∀ vs H Q E, sp vs H Q E → vs.length = ps.length)
    (hb : ∀ (c : Value) (B : Around) (ou : List Env) (s : Shared) (H : Hp) (vs : List V) (Q : VK) (E : XK), RoomG k (B.deeper (envOfC qual sc s.heap.objs.size f c)) → sp vs H Q E →
      ∃ t, PSs (cxOf CX P w K mg base N qual sc f c B ou s H E).nox bd t ∧ t { nx := fun _ H' => Q .non H', rt := Q } (start N vs) H) : FnOkG P w K mg base CX (k + 1) f fd ps sp := by
  obtain ⟨oc, od, dV, kV, doc, pm, an, c, ct, osl, rfl, lk, hcd, _, _⟩ := F.ex
  refine ⟨len, fun B ou s H ar us vs Q E hr e0 hbi r hsp => ?_⟩
  have KX : K.In s.heap := e0.mod.kin.keeps fun b o e => (e0.bs b o e).1
  have lim := e0.mod.nolimit.keeps fun b o e => (e0.bs b o e).1
  have hk : ∀ y ∈ ps.zip us, sc.names.lookup y.1 = some .local ∨ (sc.names.lookup y.1 = some .cell ∧ ((cellsFrom (s.heap.objs.size + 1) sc.names []).lookup y.1).isSome = true) := by
    rintro ⟨n, v⟩ hy
    rcases S.par n (List.of_mem_zip hy).1 with z | z
    · exact .inl z
    · exact .inr ⟨z, PySem.W.cellsFrom_some _ _ _ (.inl z)⟩
  refine codeAny_call_function hr.room.depth (KX _ _ lk) rfl S.co S.gen rfl (PySem.W.codeRec_of KX hcd) (hbi _ _ _ _ ?_)
  refine wpAny_newFunctionEnv_cells S.kind hk fun env he s1 x => ?_
  subst he
  refine ⟨lim.keeps x.toInCall.keep, codeAny_func ?_⟩
  obtain ⟨t, ht, hq⟩ := hb c B ou s H vs Q E ⟨hr.room.deeper _, hr.gs⟩ hsp
  have I : Inv (cxOf CX P w K mg base N qual sc f c B ou s H E) [] (start N vs) H s1 := inv_start S hr.room.hd e0 (len _ _ _ _ hsp) r x
  refine wpAny_mono (ht.nox.run [] s1 (start N vs) H _ I hq) (fun fl s' hs => ?_) fun e s' z => z
  cases fl with
  | ret u =>
    obtain ⟨v, σ', H', J, rv, q⟩ := hs
    exact ⟨v, H', J.os, J.bare, J.base, J.hok, rv, q⟩
  | next =>
    obtain ⟨σ', H', J, q⟩ := hs
    exact ⟨V.non, H', J.os, J.bare, J.base, J.hok, rfl, q⟩
  | brk =>
    obtain ⟨_, _, _, z⟩ := hs
    exact z.elim
  | cont =>
    obtain ⟨_, _, _, z⟩ := hs
    exact z.elim
end

/-- a def of the module with its promise, for calls where no repr is under way -/
structure Gg (P : Program) (w : World) (K : PySem.W.Frag) (mg : Str → Option Value) (base : Heap) (x : Str) (k : Nat) (ps : List Str) (sp : Sp) (f : Addr) (fd : FuncData) : Prop where
  g : mg x = some (.ref f)
  kp : PySem.W.keepIn K (.ref f) = true
  b : Binds K fd ps []
  ok : FnOkG P w K mg base CX0 k f fd ps sp
theorem Gd.toG {P : Program} {w : World} {K : PySem.W.Frag} {mg : Str → Option Value} {base : Heap} {x : Str} {k : Nat} {ps : List Str} {sp : Sp} {f : Addr} {fd : FuncData} (D : Gd P w K mg base x k ps sp f fd) : Gg P w K mg base x k ps sp f fd := ⟨D.g, D.kp, D.b, Mc.toG D.ok⟩
section
variable {X : Cx} {x : Str} {k n : Nat} {ps : List Str} {sp : Sp} {f : Addr} {fd : FuncData} {p pos : Pos} {e : Expr} {es : List Expr} {t : TA}
theorem run_gg {pins : List (Addr × Obj)} {σ : L2.St} {H : Hp} {s : Shared} {Q : VK} {us : List Value} {vs : List V} (D : Gg X.prog X.w X.K X.mg X.base x k ps sp f fd) (hr : RoomG k X.A) (I : Inv X pins σ H s) (r : Vals vs us) (h : sp vs H Q E0) :
    wpAny (model X.prog X.w) X.A (call (.ref f) us) (EP X pins σ Q) X.xe s := by
  have hl : (us ++ []).length = ps.length := by rw [List.append_nil, ← r.length]; exact D.ok.len _ _ _ _ h
  have hb := D.b s us I.kIn hl
  rw [List.append_nil] at hb
  refine wpAny_call (codeAny_mono (D.ok.run X.A X.stack s H ⟨us, []⟩ us vs Q E0 hr I.env0 hb r h) fun r s' hq => ?_)
  cases r with
  | error e => exact hq.elim
  | ok fl =>
    cases fl with
    | ret u => exact I.after hq
    | next => exact hq.elim
    | brk => exact hq.elim
    | cont => exact hq.elim
theorem pe_gg (D : Gg X.prog X.w X.K X.mg X.base x k ps sp f fd) (hr : RoomG n X.A) (hk : k ≤ n) (hg : Gl X x) (ha : PA X (e :: es) t) (hdb : (x == ("__debug__" : Str)) = false := by decide)
    (he : starEach (e :: es) X.env = (false, eval e X.env) :: starEach es X.env := by rfl) (hpl : (backTo pos (starEach es X.env)).any (·.1) = false := by rfl) : PE X (.Call (.Name x p) (e :: es) [] pos) (tCall sp [] E0 t) := by
  refine ⟨fun pins s σ H Q I h => ?_⟩
  refine wpAny_Call_Name_kw (ld_glob I hg D.g ?_ hdb)
  refine PySem.W.callWith_K (h₀ := X.base) I.ok.mod.kin D.kp (thn (ha.run pos pins s σ H _ I h) fun us s1 ⟨vs, H1, I1, r, q⟩ => ⟨I1.kIn, ?_⟩) he hpl
  have q2 : sp (vs ++ []) H1 Q E0 := q
  rw [List.append_nil] at q2
  exact run_gg D (hr.mono hk) I1 r q2
end

/-! ### repr, called -/
def rRepr (X : Cx) (n : Nat) : List V → Hp → VK → Prop := fun vs H Q => ∃ (x : V) (as : List Addr) (t : Str), vs = [x] ∧ RpG X n as x t H ∧ t.length ≤ sizeLine ∧ ∀ H', Ext H H' → Q (.str t) H'
section
variable {X : Cx} {n : Nat}
/-- repr of a list -/
theorem call_reprL (hr : RoomG (n + 3) X.A) : CallR X (.builtin "repr") (fun vs H Q => ∃ (a : Addr) (xs : List V) (as : List Addr) (ts : List Str), vs = [.ref a] ∧ SqL X.K H a xs ∧ a ∉ as ∧ ts.length = xs.length ∧
    (∀ (i : Nat) x, xs[i]? = some x → ∃ t, ts[i]? = some t ∧ RpG X n as x t H) ∧ (listText ts).length ≤ sizeLine ∧ ∀ H', Ext H H' → Q (.str (listText ts)) H') := by
  intro pins s σ H vs us Q I r h
  obtain ⟨a, xs, as, ts, rfl, hl, hna, hlen, hT, hz, q⟩ := h
  obtain ⟨u, rfl, ru⟩ := vals1 r
  cases (show u = Value.ref a from ru)
  obtain ⟨its, rv, ⟨oa, na, ha, hc, hd, hda⟩, _⟩ := I.list hl
  have hTy : s.TypeIs (.ref a) "list" := ⟨oa, ha, hc⟩
  have hu : X.A.units + 1 < cLine := hr.room.in1.units0
  refine call_repr_slot hu hTy F.slot_list_repr.toG ?_
  have sg : SubG X (n + 1) X.A.in1 [] := ⟨(hr.room.mono (by omega)).in1, rfl, hr.gs⟩
  by_cases hx : xs = []
  · subst hx
    cases rv
    have ht : ts = [] := List.length_eq_zero_iff.mp hlen
    subst ht
    exact call_list_repr_empty hTy ha hda ⟨_, _, rfl, .str (listText []), H, I.tok _, ⟨_, rfl⟩, q H Ext.rfl'⟩
  · exact wpAny_call (codeAny_call_builtin F.slot_list_repr.plain F.entry_list_repr (F.slot_list_repr.check _ _ _ _ _ _ _ _ hTy (F.args_list_repr_1 _)
      (rp_listAt (b0 := 0) (R := callEnd _ _) sg (fun c _ => Clear.nil c) hna hl hx hlen hT (by omega) (fun u s' H' I' e' => ⟨_, _, rfl, .str (listText ts), H', I', ⟨_, rfl⟩, q H' e'⟩) (fun e s' z => z) Ext.rfl' I)))
end
end Mc

set_option Elab.async false
set_option linter.all false
set_option maxRecDepth 100000
set_option maxHeartbeats 4000000
namespace Mc
open PySem PySem.Spec PyProof.Rows L2
open PySem.Builtin

section
variable {prog : Program} {w : World} {A : Around} {E : Value → Shared → Prop} {s : Shared} {K : PySem.W.Frag} {x C f : Addr} {ox : Obj} {od : Option Obj} {b tb : Value}
/-- a special method that is a built-in's, found in the class -/
theorem ifBoundB {M : Model} {name : Str} {id : String} {args : List Value} {Q : Option Value → Shared → Prop} (X : K.In s.heap) (I : PySem.W.InstAt s.heap x ox C od) (hs : PySem.W.findIn K (.ref C) name = some (some (.builtin id)))
    (hb : ∀ v, bindSpecial (.builtin id) v = pure (.builtin id, [v])) (h : wpAny M A (call (.builtin id) (.ref x :: args)) (fun v => Q (some v)) E s) : wpAny M A (callSpecialIfBound? (.ref x) name args) Q E s := by
  simp only [callSpecialIfBound?, bindSpecialIfBound?]
  refine wpAny_holding (wpAny_bind (wpAny_bind (wpAny_bind (I.type.here ((PySem.W.looks_findIn X hs).here ?_)))))
  refine wpAny_bind (wpAny_askSetting (wpAny_ite ?_))
  have fin : wpAny M A (call (.builtin id) ([.ref x] ++ args) >>= fun v => pure (some v)) Q E s := wpAny_bind (wpAny_mono h (fun v s' z => wpAny_pure z) fun _ _ z => z)
  split
  · exact wpAny_bind ((PySem.W.Looks.of_pure (hb _)).here (wpAny_pure (by exact fin)))
  · exact wpAny_tryCatch (wpAny_bind ((PySem.W.Looks.of_pure (hb _)).here (wpAny_pure (by exact fin))))
/-- x != b, where the class has its own == and the built-in != -/
theorem ne_own {Q : Value → Shared → Prop} (hu : A.units + 1 < cLine) (X : K.In s.heap) (I : PySem.W.InstAt s.heap x ox C od) (hb : PySem.W.Looks (model prog w) s.heap (typeOf b) tb) (hn : PySem.W.notFirst K C tb = true)
    (hne : PySem.W.findIn K (.ref C) "__ne__" = some (some (.builtin "object.__ne__"))) (heq : PySem.W.findIn K (.ref C) "__eq__" = some (some (.ref f))) (hf : PySem.W.isFn K (.ref f) = true) (hm : PySem.W.mroIn K C (.type "object") = some true)
    (h : wpAny (model prog w) A.in1 (call (.ref f) [.ref x, b]) (fun v s' => ∃ c, v = .bool c ∧ Q (.bool (!c)) s') E s) : wpAny (model prog w) A (richCompare .NotEq (.ref x) b) Q E s := by
  have one : wpAny (model prog w) A (tryCompare (.ref x) "__ne__" b) (fun r s' => ∃ v, r = some v ∧ Q v s') E s := by
    unfold tryCompare
    refine wpAny_bind (ifBoundB X I hne F.cmp_object.ne.bind (wpAny_call (codeAny_call_builtin F.cmp_object.ne.plain F.cmpEntry_ne (PySem.W.check_slot F.cmpKind_ne F.cmpSplit_ne (I.type.andThen (PySem.W.looks_mroIn X hm)) (F.cmpArgs_ne _ _) ?_))))
    unfold Builtin.«object.__ne__»
    repeat (first
      | with_reducible refine wpAny_cRoomFor (show A.in1.units < cLine from hu) ?_
      | (refine wpAny_bind (m := callSpecialIfBound? (.ref x) (Str.ofString "__eq__") [b]) (PySem.W.ifBound_K X I heq hf (wpAny_mono h (fun r s' hr => by
          obtain ⟨c, rfl, hq⟩ := hr
          repeat (first | exact ⟨_, rfl, hq⟩ | exact wpAny_pure ⟨_, rfl, hq⟩ | (refine wpAny_bind (m := truthy (.bool _)) (wpAny_truthy_bool ?_)) | wp_step)) fun _ _ e => e)))
      | wp_step)
  unfold richCompare
  simp only [oneThing_ref]
  refine wpAny_holding (wpAny_bind (wpAny_cRoomFor (Nat.lt_of_succ_lt hu) ?_))
  refine wpAny_bind (I.type.here (wpAny_bind (hb.here ?_)))
  split
  · rename_i q
    have e : PySem.W.subIn K tb (.ref C) = some false := by
      rcases Bool.or_eq_true_iff.mp hn with e | e
      · rw [beq_iff_eq.mp e] at q; simp at q
      · exact beq_iff_eq.mp e
    refine wpAny_bind ((PySem.W.looks_subIn X e).here ?_)
    simp only [Bool.false_eq_true, if_false]
    refine wpAny_bind (wpAny_mono one (fun r s' z => ?_) fun _ _ z => z)
    obtain ⟨v, rfl, hq⟩ := z
    exact wpAny_pure hq
  · refine wpAny_bind (wpAny_pure ?_)
    simp only [Bool.false_eq_true, if_false]
    refine wpAny_bind (wpAny_mono one (fun r s' z => ?_) fun _ _ z => z)
    obtain ⟨v, rfl, hq⟩ := z
    exact wpAny_pure hq
end

/-! ### == and != of instances with an own == -/
section
variable {X : Cx} {C f : Addr} {k : Nat} {fd : FuncData} {ps : List Str} {sp : Sp}
theorem run_own {A : Around} {pins : List (Addr × Obj)} {σ : L2.St} {H : Hp} {s : Shared} {Q : VK} {us : List Value} {vs : List V} (F : FnOk X.prog X.w X.K X.mg X.base CX0 k f fd ps sp) (hb : Binds X.K fd ps []) (hr : Room k A) (hf : A.frames = X.A.frames)
    (I : Inv X pins σ H s) (r : Vals vs us) (h : sp vs H Q E0) : wpAny (model X.prog X.w) A (call (.ref f) us) (EP X pins σ Q) X.xe s := by
  have hl : (us ++ []).length = ps.length := by rw [List.append_nil, ← r.length]; exact F.len _ _ _ _ h
  have hbi := hb s us I.kIn hl
  rw [List.append_nil] at hbi
  have e := I.env0
  have e0 : Env0 X.prog X.w X.K X.mg X.base A X.stack s H := ⟨by rw [hf]; exact e.frames, e.mod, e.bs, e.bsz, e.funs, e.frf, e.hok, e.bare⟩
  refine wpAny_call (codeAny_mono (F.run A X.stack s H ⟨us, []⟩ us vs Q E0 hr e0 hbi r h) fun r s' hq => ?_)
  cases r with
  | error e => exact hq.elim
  | ok fl =>
    cases fl with
    | ret u => exact I.after hq
    | next => exact hq.elim
    | brk => exact hq.elim
    | cont => exact hq.elim
/-- the other one's type -/
def rOwnC (K : PySem.W.Frag) (C : Addr) (sp : Sp) (ng : Bool) : R2 := fun x y H Q => ∃ a dx fs t, x = .ref a ∧ H a = some (.ins C dx fs) ∧ TyX K H y t ∧ PySem.W.notFirst K C t = true ∧ sp [x, y] H (fun v H' => ∃ c, v = .bl c ∧ Q (.bl (if ng then !c else c)) H') E0
theorem op_eqO (m : Meth X.K C "__eq__" f) (F : FnOk X.prog X.w X.K X.mg X.base CX0 k f fd ps sp) (hb : Binds X.K fd ps []) (hr : Room k X.A) : OpR X (compareOp .Eq) (rOwnC X.K C sp false) := by
  intro pins s σ H x y v u Q I rx ry h
  obtain ⟨a, dx, fs, t, rfl, ha, ty, hn, q⟩ := h
  cases (show v = Value.ref a from rx)
  obtain ⟨mA, J, _⟩ := ins_get I.hok ha
  obtain ⟨od, J, _⟩ := J.look
  obtain ⟨Pr, kx, hP, _⟩ := kit_of I ry ty
  obtain ⟨mm, hF⟩ := I.fr
  show wpAny (model X.prog X.w) X.A (richCompare .Eq (.ref a) u) (EP X pins σ Q) X.xe s
  refine PySem.W.cmp_K (op := .Eq) hr.units0 hF I.ok.mod.kin J (kx.ty _ _ I.kIn hP) hn m.at_ m.fn ?_
  refine wpAny_mono (run_own (vs := [V.ref a, y]) (us := [Value.ref a, u]) F hb hr rfl I (.cons rfl (.cons ry .nil)) q) (fun z s' hz => ?_) fun _ _ z => z
  obtain ⟨v', H', I', r', c, rfl, q'⟩ := hz
  cases (show z = Value.bool c from r')
  exact ⟨.bl c, H', I', rfl, q'⟩
theorem op_neO (m : Meth X.K C "__eq__" f) (hne : PySem.W.findIn X.K (.ref C) "__ne__" = some (some (.builtin "object.__ne__"))) (hm : PySem.W.mroIn X.K C (.type "object") = some true) (F : FnOk X.prog X.w X.K X.mg X.base CX0 k f fd ps sp) (hb : Binds X.K fd ps []) (hr : Room (k + 1) X.A) :
    OpR X (compareOp .NotEq) (rOwnC X.K C sp true) := by
  intro pins s σ H x y v u Q I rx ry h
  obtain ⟨a, dx, fs, t, rfl, ha, ty, hn, q⟩ := h
  cases (show v = Value.ref a from rx)
  obtain ⟨mA, J, _⟩ := ins_get I.hok ha
  obtain ⟨od, J, _⟩ := J.look
  obtain ⟨Pr, kx, hP, _⟩ := kit_of I ry ty
  show wpAny (model X.prog X.w) X.A (richCompare .NotEq (.ref a) u) (EP X pins σ Q) X.xe s
  refine ne_own hr.in1.units0 I.kIn J (kx.ty _ _ I.kIn hP) hn hne m.at_ m.fn hm ?_
  refine wpAny_mono (run_own (vs := [V.ref a, y]) (us := [Value.ref a, u]) F hb hr.in1 rfl I (.cons rfl (.cons ry .nil)) q) (fun z s' hz => ?_) fun _ _ z => z
  obtain ⟨v', H', I', r', c, rfl, q'⟩ := hz
  cases (show z = Value.bool c from r')
  exact ⟨c, rfl, .bl (!c), H', I', rfl, q'⟩
/-- str of such an instance -/
def rStrO (C : Addr) (sp : Sp) : List V → Hp → VK → Prop := fun vs H Q => ∃ a dx fs, vs = [.ref a] ∧ H a = some (.ins C dx fs) ∧ sp vs H (fun v H' => ∃ t, v = .str t ∧ Q (.str t) H') E0
theorem call_strO (m : Meth X.K C "__str__" f) (F : FnOk X.prog X.w X.K X.mg X.base CX0 k f fd ps sp) (hb : Binds X.K fd ps []) (hr : Room (k + 2) X.A) : CallR X (.type "str") (rStrO C sp) := by
  intro pins s σ H vs us Q I r h
  obtain ⟨a, dx, fs, rfl, ha, q⟩ := h
  obtain ⟨u, rfl, ru⟩ := vals1 r
  cases (show u = Value.ref a from ru)
  obtain ⟨mA, J, _⟩ := ins_get I.hok ha
  obtain ⟨od, J, _⟩ := J.look
  refine PySem.W.kso_call hr.in1.in1.units0 I.kIn J m.at_ m.fn ?_
  refine wpAny_mono (run_own (vs := [V.ref a]) (us := [Value.ref a]) F hb hr.in1.in1 rfl I (.cons rfl .nil) q) (fun z s' hz => ?_) fun _ _ z => z
  obtain ⟨v', H', I', r', t, rfl, q'⟩ := hz
  obtain ⟨tk, rfl⟩ := (show ∃ tk, z = Value.str t tk from r')
  exact ⟨.str t, H', I', ⟨tk, rfl⟩, q'⟩
/-- repr of such an instance -/
theorem call_reprO (m : Meth X.K C "__repr__" f) (F : FnOk X.prog X.w X.K X.mg X.base CX0 k f fd ps sp) (hb : Binds X.K fd ps []) (hr : Room (k + 1) X.A) : CallR X (.builtin "repr") (rStrO C sp) := by
  intro pins s σ H vs us Q I r h
  obtain ⟨a, dx, fs, rfl, ha, q⟩ := h
  obtain ⟨u, rfl, ru⟩ := vals1 r
  cases (show u = Value.ref a from ru)
  obtain ⟨mA, J, _⟩ := ins_get I.hok ha
  obtain ⟨od, J, _⟩ := J.look
  obtain ⟨mm, hF⟩ := I.fr
  refine PySem.W.repr_K hr.in1.units0 hF I.ok.mod.kin J m.at_ m.fn ?_
  refine wpAny_mono (run_own (vs := [V.ref a]) (us := [Value.ref a]) F hb hr.in1 rfl I (.cons rfl .nil) q) (fun z s' hz => ?_) fun _ _ z => z
  obtain ⟨v', H', I', r', t, rfl, q'⟩ := hz
  obtain ⟨tk, rfl⟩ := (show ∃ tk, z = Value.str t tk from r')
  exact ⟨.str t, H', I', ⟨tk, rfl⟩, q'⟩
/-- .. within a list -/
theorem rpG_own {a dx : Addr} {fs : List (Str × V)} {t : Str} {H0 : Hp} (m : Meth X.K C "__repr__" f) (F : FnOk X.prog X.w X.K X.mg X.base CX0 k f fd ps sp) (hb : Binds X.K fd ps [])
    (ha : H0 a = some (.ins C dx fs)) (hsp : ∀ H Q, Ext H0 H → (∀ H', Ext H H' → Q (.str t) H') → sp [.ref a] H Q E0) : RpG X k [] (.ref a) t H0 := by
  intro A g pins s σ H u b sg hcl I e0 rx hz
  cases (show u = Value.ref a from rx)
  obtain ⟨mA, J, _⟩ := ins_get I.hok (e0 _ _ ha)
  obtain ⟨od, J, _⟩ := J.look
  refine wpAny_pyReprUnder_ref (by omega) ?_
  unfold pyReprObjUnder pyReprObjBy
  refine wpAny_bind (wpAny_cRoomFor sg.room.units0 ?_)
  refine wpAny_bind (wpAny_bind (J.type.here ((PySem.W.looks_findIn I.kIn m.at_).here ?_)))
  show wpAny _ _ (if (some (Value.ref f)).isNone = true then _ else _) _ _ _
  rw [if_neg (by simp)]
  have run := run_own (A := A) (vs := [V.ref a]) (us := [Value.ref a]) (Q := fun v H' => v = .str t ∧ Ext H H') F hb sg.room sg.fr I (.cons rfl .nil) (hsp H _ e0 fun H' e => ⟨rfl, e⟩)
  have fin : wpAny (model X.prog X.w) A (call (.ref f) [.ref a]) (fun v s' => (∃ tk, v = Value.str t tk) ∧ ∃ H', Inv X pins σ H' s' ∧ Ext H H') X.xe s := wpAny_mono run (fun z s' hz => by
    obtain ⟨v', H', I', r', rfl, e⟩ := hz
    exact ⟨r', H', I', e⟩) fun _ _ z => z
  dsimp only
  have fin2 : ∀ (R : Option Value → Shared → Prop), (∀ v s', ((∃ tk, v = Value.str t tk) ∧ ∃ H', Inv X pins σ H' s' ∧ Ext H H') → R (some v) s') → wpAny (model X.prog X.w) A (call (.ref f) ([.ref a] ++ []) >>= fun v => pure (some v)) R X.xe s := fun R hR =>
    wpAny_bind (wpAny_mono fin (fun v s' z => wpAny_pure (hR v s' z)) fun _ _ z => z)
  refine wpAny_bind ?_
  simp only [callSpecialIfBoundBy?, bindSpecialIfBound?]
  refine wpAny_holding (wpAny_bind (wpAny_bind (wpAny_bind (J.type.here ((PySem.W.looks_findIn I.kIn m.at_).here ?_)))))
  have done : ∀ v s', ((∃ tk, v = Value.str t tk) ∧ ∃ H', Inv X pins σ H' s' ∧ Ext H H') → wpAny (model X.prog X.w) A (do
      let b ← isInstance v (Value.type "str")
      if b = true then pure v else do
        let n ← typeNameOf v
        raiseErrorMade "TypeError" (toString "__repr__ returned non-string (type " ++ toString n ++ toString ")")) (fun v s' => ∃ x u, v = Value.str x u ∧ x = t ∧ ∃ H', Inv X pins σ H' s' ∧ Ext H H') X.xe s' := by
    rintro v s' ⟨⟨tk, rfl⟩, H', I', e⟩
    refine wpAny_bind (wpAny_isInstance (T := "str") (b := true) rfl isSubtype_str_str ?_)
    rw [if_pos rfl]
    exact wpAny_pure ⟨_, _, rfl, rfl, H', I', e⟩
  refine wpAny_bind (wpAny_askSetting (wpAny_ite ?_))
  split
  · exact wpAny_bind ((PySem.W.bind_fn I.kIn _ (beq_iff_eq.mp m.fn)).here (wpAny_pure (by exact fin2 _ done)))
  · exact wpAny_tryCatch (wpAny_bind ((PySem.W.bind_fn I.kIn _ (beq_iff_eq.mp m.fn)).here (wpAny_pure (by exact fin2 _ done))))
end
end Mc

set_option Elab.async false
set_option linter.all false
set_option maxRecDepth 100000
set_option maxHeartbeats 4000000
namespace Mc
open PySem PySem.Spec PyProof.Rows L2
/-! ### static methods, methods by keywords -/
/-- C.m is a staticmethod: its record at p, its def at f -/
structure SMet (K : PySem.W.Frag) (C : Addr) (mc : Value) (m : Str) (p f : Addr) : Prop where
  at_ : PySem.W.findCls K (.ref C) mc m = some (.get (.builtin "staticmethod.__get__") (.ref p) .none (.ref C))
  rc : ∃ rest, PySem.W.recIn K p "staticmethod" = some (.ref f :: rest)
  kp : PySem.W.keepIn K (.ref f) = true
def tSm (sp : Sp) (C : Addr) (to : TE) (t : TA) : TE := fun σ H Q => to σ H fun x H0 => x = .ref C ∧ t σ H0 fun vs H1 => sp vs H1 Q E0
/-- .. by keywords alone, n values ahead of them -/
def tSmK (sp : Sp) (C : Addr) (m : Nat) (gV : List V → List V → List V) (to : TE) (tk : TA) : TE := fun σ H Q => to σ H fun x H0 => x = .ref C ∧ tk σ H0 fun zs H1 => zs.length = m ∧ sp (gV [] zs) H1 Q E0
def tMethK (sp : Sp) (C : Addr) (nm : Str) (m : Nat) (gV : List V → List V → List V) (to : TE) (tk : TA) : TE := fun σ H Q => to σ H fun x H0 => ∃ a dx fs, x = .ref a ∧ H0 a = some (.ins C dx fs) ∧ fs.lookup nm = none ∧ tk σ H0 fun zs H1 => zs.length = m ∧ sp (gV [x] zs) H1 Q E0
section
variable {X : Cx} {C p f : Addr} {mc : Value} {m : Str} {k n : Nat} {fd : FuncData} {ps ks : List Str} {sp : Sp} {o e : Expr} {es : List Expr} {to : TE} {t tk : TA} {pos apos : Pos} {pl : Sem Bool} {kws : List Keyword} {g : List Value → List Value → List Value} {gV : List V → List V → List V}
theorem getsm {pins : List (Addr × Obj)} {σ : L2.St} {H : Hp} {s : Shared} {Q : Value × List Value → Shared → Prop} {E : Value → Shared → Prop} {A : Around} (I : Inv X pins σ H s) (r : ClX.CRead X.K C mc) (c : SMet X.K C mc m p f) (h : ∀ s', Inv X pins σ H s' → Q (.ref f, []) s') :
    wpAny (model X.prog X.w) A (getMethod (.ref C) m pl) Q E s := by
  obtain ⟨rest, hp⟩ := c.rc
  refine PySem.W.method_cls I.kIn r.ga (PySem.W.cls_bind I.kIn r.rd c.at_ (wpAny_call (PySem.W.sm_get (s := { s with toks := s.toks + 1 }) I.kIn hp (PySem.W.handed_on rfl ?_))))
  exact h _ (I.tok _)
theorem pe_sm (ho : PE X o to) (r : ClX.CRead X.K C mc) (c : SMet X.K C mc m p f) (F : FnOk X.prog X.w X.K X.mg X.base CX0 k f fd ps sp) (hr : Room k X.A) (hb : Binds X.K fd ps []) (ha : PA X (e :: es) t)
    (hst : starEach (e :: es) X.env = (false, eval e X.env) :: starEach es X.env := by rfl) (hpl : (backTo pos (starEach es X.env)).any (·.1) = false := by rfl)
    (ht : eval (.Call (.Attribute o m apos) (e :: es) [] pos) X.env = (do
      let ov ← eval o X.env
      standAt apos.atName
      let (f, first) ← holding [ov] (getMethod ov m pl)
      callWith pos f first (backTo pos (starEach (e :: es) X.env)) (backToKw pos (keywordEach [] X.env))) := by rfl) : PE X (.Call (.Attribute o m apos) (e :: es) [] pos) (tSm sp C to t) := by
  refine ⟨fun pins s σ H Q I h => ?_⟩
  refine PySem.W.methodCall_KW (pl := pl) (thn (ho.run pins s σ H _ I h) fun u s1 ⟨x, H1, I1, rx, ex, q⟩ => ?_) ht
  subst ex
  cases (show u = Value.ref C from rx)
  refine getsm I1 r c fun s2 I2 => ?_
  refine PySem.W.callWith_K (h₀ := X.base) I.ok.mod.kin c.kp (thn (ha.run pos pins s2 σ H1 _ I2 q) fun us s3 ⟨vs, H2, I3, rv, q2⟩ => ⟨I3.kIn, ?_⟩) hst hpl
  exact run_own (us := us) (vs := vs) F hb hr rfl I3 rv q2
theorem pe_smK (ho : PE X o to) (r : ClX.CRead X.K C mc) (c : SMet X.K C mc m p f) (F : FnOk X.prog X.w X.K X.mg X.base CX0 k f fd ps sp) (hr : Room k X.A) (hb : KBn X.K fd ps 0 ks g gV) (hkw : PK X kws tk)
    (hall : (backToKw pos (keywordEach kws X.env)).all (·.1.isSome) = true := by rfl) (hks : (backToKw pos (keywordEach kws X.env)).filterMap (·.1) = ks := by rfl)
    (hpl : ((backTo pos (starEach [] X.env)).any (·.1) || (backToKw pos (keywordEach kws X.env)).any (·.1.isNone)) = false := by rfl)
    (ht : eval (.Call (.Attribute o m apos) [] kws pos) X.env = (do
      let ov ← eval o X.env
      standAt apos.atName
      let (f, first) ← holding [ov] (getMethod ov m pl)
      callWith pos f first (backTo pos (starEach [] X.env)) (backToKw pos (keywordEach kws X.env))) := by rfl) : PE X (.Call (.Attribute o m apos) [] kws pos) (tSmK sp C ks.length gV to tk) := by
  refine ⟨fun pins s σ H Q I h => ?_⟩
  refine PySem.W.methodCall_KW (pl := pl) (thn (ho.run pins s σ H _ I h) fun u s1 ⟨x, H1, I1, rx, ex, q⟩ => ?_) ht
  subst ex
  cases (show u = Value.ref C from rx)
  refine getsm I1 r c fun s2 I2 => ?_
  refine PySem.W.callWith_KW0 (h₀ := X.base) (first := []) I.ok.mod.kin c.kp hall ?_ hpl
  refine thn (hkw.run pos pins s2 σ H1 _ I2 q) fun ws s3 ⟨zs, H2, I3, rz, l2, q2⟩ => ⟨I3.kIn, ?_⟩
  rw [hks]
  exact run_fnN (us := []) (vs := []) F hr hb pass0 I3 .nil rz rfl l2 q2
theorem pe_methK (ho : PE X o to) (c : Cls X.K C) (hm : Meth X.K C m f) (F : FnOk X.prog X.w X.K X.mg X.base CX0 k f fd ps sp) (hr : Room k X.A) (hb : KBn X.K fd ps 1 ks g gV) (hkw : PK X kws tk)
    (hall : (backToKw pos (keywordEach kws X.env)).all (·.1.isSome) = true := by rfl) (hks : (backToKw pos (keywordEach kws X.env)).filterMap (·.1) = ks := by rfl)
    (hpl : ((backTo pos (starEach [] X.env)).any (·.1) || (backToKw pos (keywordEach kws X.env)).any (·.1.isNone)) = false := by rfl)
    (ht : eval (.Call (.Attribute o m apos) [] kws pos) X.env = (do
      let ov ← eval o X.env
      standAt apos.atName
      let (f, first) ← holding [ov] (getMethod ov m pl)
      callWith pos f first (backTo pos (starEach [] X.env)) (backToKw pos (keywordEach kws X.env))) := by rfl) : PE X (.Call (.Attribute o m apos) [] kws pos) (tMethK sp C m ks.length gV to tk) := by
  refine ⟨fun pins s σ H Q I h => ?_⟩
  refine PySem.W.methodCall_KW (pl := pl) (thn (ho.run pins s σ H _ I h) fun u s1 ⟨x, H1, I1, rx, a, dx, fs, ex, ea, l, q⟩ => ?_) ht
  subst ex
  cases (show u = Value.ref a from rx)
  refine getmeth_ok I1 ea c hm l ?_
  refine PySem.W.callWith_KW0 (h₀ := X.base) (first := [.ref a]) I.ok.mod.kin hm.kp hall ?_ hpl
  refine thn (hkw.run pos pins s1 σ H1 _ I1 q) fun ws s3 ⟨zs, H2, I3, rz, l2, q2⟩ => ⟨I3.kIn, ?_⟩
  rw [hks]
  exact run_fnN (us := [.ref a]) (vs := [.ref a]) F hr hb pass0 I3 (.cons rfl .nil) rz rfl l2 q2
end
end Mc

set_option Elab.async false
set_option linter.all false
set_option maxRecDepth 100000
set_option maxHeartbeats 4000000
namespace Mc
open PySem PySem.Spec PyProof.Rows L2
/-! ### repr of lists of plain values -/
def shT : V → Str
  | .non => Str.ofString "None"
  | .bl b => if b = true then Str.ofString "True" else Str.ofString "False"
  | .int i => Str.ofString (toString i)
  | .str y => reprText y
  | _ => Str.empty
def shOk : V → Prop
  | .non => True
  | .bl _ => True
  | .int i => i.natAbs < 2 ^ 1900
  | .str y => (reprText y).length ≤ 2000
  | _ => False
theorem big1920 {i : Int} (h : i.natAbs < 2 ^ 1900) : i.natAbs.log2 < 1920 := Nat.lt_of_lt_of_le (m := 1900) (PySem.Flt.log2_lt_of (by decide) h) (by decide)
theorem shT_len {x : V} (h : shOk x) : (shT x).length ≤ 2000 := by
  cases x with
  | non => exact (by decide +kernel : (Str.ofString "None").length ≤ 2000)
  | bl b => cases b <;> decide +kernel
  | int i => exact Nat.le_trans (int_text_len_1921 (big1920 h)) (by decide)
  | str y => exact h
  | _ => exact h.elim
theorem rpG_flat {X : Cx} {x : V} {H : Hp} (h : shOk x) : RpG X 0 [] x (shT x) H := by
  cases x with
  | non => exact rpG_non
  | bl b => exact rpG_bl
  | int i => exact rpG_int (big1920 h)
  | str y => exact rpG_str (by rw [sizeLine_eq]; exact Nat.le_trans h (by decide))
  | _ => exact h.elim
theorem listText_le : ∀ ts : List Str, (listText ts).length ≤ piled ts + 2
  | [] => by decide +kernel
  | t :: r => by
    have h := textFrom_length_pos r 1 (("[" : Str) ++ (if (0 : Nat) > 0 then ", " else "" : String) ++ t) (Nat.succ_pos 0)
    have e : ((("[" : Str) ++ (if (0 : Nat) > 0 then ", " else "" : String) ++ t)).length = 1 + t.length := by
      rw [strLen_append, strLen_append] <;> rfl
    have hX : (listText (t :: r)).length = (textFrom 0 "[" (t :: r)).length + 1 := by
      show (textFrom 0 "[" (t :: r) ++ "]").length = _
      rw [strLen_append] <;> rfl
    have hY : (textFrom 0 "[" (t :: r)).length = (textFrom 1 (("[" : Str) ++ (if (0 : Nat) > 0 then ", " else "" : String) ++ t) r).length := rfl
    rw [hX, hY, h, e, piled_cons]
    omega
theorem piled_le {c : Nat} : ∀ {ts : List Str}, (∀ t ∈ ts, t.length ≤ c) → piled ts ≤ ts.length * (c + 2)
  | [], _ => by simp [piled]
  | t :: r, h => by
    rw [piled_cons, List.length_cons, Nat.succ_mul]
    have h1 := h t List.mem_cons_self
    have h2 := piled_le (c := c) (ts := r) fun z hz => h z (List.mem_cons_of_mem _ hz)
    omega
section
variable {X : Cx} {n : Nat}
def rReprF (K : PySem.W.Frag) : List V → Hp → VK → Prop := fun vs H Q => ∃ (a : Addr) (xs : List V), vs = [.ref a] ∧ SqL K H a xs ∧ (∀ x ∈ xs, shOk x) ∧ xs.length ≤ 1000 ∧ ∀ H', Ext H H' → Q (.str (listText (xs.map shT))) H'
theorem call_reprF (hr : RoomG 3 X.A) : CallR X (.builtin "repr") (rReprF X.K) := by
  intro pins s σ H vs us Q I r h
  obtain ⟨a, xs, rfl, hl, hf, hn, q⟩ := h
  refine call_reprL (n := 0) hr pins s σ H _ us Q I r ⟨a, xs, [], xs.map shT, rfl, hl, (fun z => nomatch z), List.length_map .., fun i x hx => ⟨shT x, by rw [List.getElem?_map, hx]; rfl, rpG_flat (hf x (List.mem_of_getElem? hx))⟩, ?_, q⟩
  have h1 := listText_le (xs.map shT)
  have h2 := piled_le (c := 2000) (ts := xs.map shT) fun t ht => by
    obtain ⟨x, hx, rfl⟩ := List.mem_map.mp ht
    exact shT_len (hf x hx)
  rw [List.length_map] at h2
  rw [sizeLine_eq]
  omega
end
end Mc

set_option Elab.async false
set_option linter.all false
set_option maxRecDepth 100000
set_option maxHeartbeats 4000000
namespace Mc
open PySem PySem.Spec PyProof.Rows L2
/-! ### walks over a list or a tuple alike -/
/-- J walks xs, as long as S holds -/
structure WalkJ (J : It) (S : Hp → Prop) (xs : List V) : Prop where
  go : ∀ i H, S H → i < xs.length → J.go i H
  stop : ∀ i H, S H → xs.length ≤ i → J.stop i H
  yld : ∀ i H x H', S H → i < xs.length → J.yld i H x H' → H' = H ∧ xs[i]? = some x
def SqA (K : PySem.W.Frag) (H : Hp) (a : Addr) (xs : List V) : Prop := SqL K H a xs ∨ SqT K H a xs
theorem walk_l {K : PySem.W.Frag} {a : Addr} {xs : List V} : WalkJ (Itl K a) (fun H => SqL K H a xs) xs :=
  ⟨fun i H h n => ⟨xs, xs[i], h, List.getElem?_eq_getElem n⟩, fun i H h n => ⟨xs, h, n⟩, fun i H x H' h _ y => ⟨y.1, y.2 xs h⟩⟩
theorem walk_t {K : PySem.W.Frag} {a : Addr} {xs : List V} : WalkJ (Itt K a) (fun H => SqT K H a xs) xs :=
  ⟨fun i H h n => ⟨xs, xs[i], h, List.getElem?_eq_getElem n⟩, fun i H h n => ⟨xs, h, n⟩, fun i H x H' h _ y => ⟨y.1, y.2 xs h⟩⟩
theorem walk_r {lo : Int} {n : Nat} : WalkJ (Itr lo n) (fun _ => True) ((List.range n).map fun k => .int (lo + (k : Nat))) where
  go i H _ h := by simpa [Itr] using h
  stop i H _ h := by simpa [Itr] using h
  yld i H x H' _ h y := by
    obtain ⟨rfl, rfl⟩ := y
    refine ⟨rfl, ?_⟩
    rw [List.length_map, List.length_range] at h
    rw [List.getElem?_map, List.getElem?_range h]
    rfl
theorem walk_a {K : PySem.W.Frag} {H : Hp} {a : Addr} {xs : List V} (h : SqA K H a xs) : ∃ (J : It) (S : Hp → Prop), (J = Itl K a ∨ J = Itt K a) ∧ WalkJ J S xs ∧ ∀ H', Ext H H' → S H' := by
  rcases h with h | h
  · exact ⟨_, _, .inl rfl, walk_l, fun _ e => h.ext e⟩
  · exact ⟨_, _, .inr rfl, walk_t, fun _ e => h.ext e⟩
section
variable {J J1 : It} {S S1 : Hp → Prop} {xs : List V} {g g1 : TG} {tb : TS} {tt tt1 : TT} {te : TE} {vs vs1 : List Nat} {E : Ends} {σ : L2.St} {H H1 : Hp} {D : Addr} {Qd : Hp → Prop}
theorem for_walk (w : WalkJ J S xs) (Pv : Nat → L2.St → Hp → Prop) (h0 : Pv 0 σ H) (hS : ∀ i σ H, Pv i σ H → S H)
    (hs : ∀ i x σ H, xs[i]? = some x → Pv i σ H → g x σ H fun σ2 H2 => tb { E with nx := Pv (i + 1), ct := Pv (i + 1), bk := E.nx } σ2 H2) (hd : ∀ σ H, Pv xs.length σ H → E.nx σ H) : ∃ W : Nat → Nat → L2.St → Hp → Prop, (∃ m, W 0 m σ H) ∧ ∀ i m σ H, W i m σ H →
      (J.stop i H ∧ E.nx σ H) ∨ (J.go i H ∧ ∃ N : L2.St → Hp → Prop, (∀ σ' H', N σ' H' → ∃ m', m' < m ∧ W (i + 1) m' σ' H') ∧ ∀ x H', J.yld i H x H' → g x σ H' fun σ2 H2 => tb { E with nx := N, ct := N, bk := E.nx } σ2 H2) := by
  refine ⟨fun i m σ H => i + m = xs.length ∧ Pv i σ H, ⟨xs.length, Nat.zero_add _, h0⟩, fun i m σ H ⟨hm, p⟩ => ?_⟩
  rcases Nat.eq_zero_or_pos m with z | z
  · have e : i = xs.length := by omega
    exact .inl ⟨w.stop i H (hS i σ H p) (Nat.le_of_eq e.symm), hd σ H (e ▸ p)⟩
  · have lt : i < xs.length := by omega
    refine .inr ⟨w.go i H (hS i σ H p) lt, Pv (i + 1), fun _ _ q => ⟨m - 1, by omega, by omega, q⟩, fun x H' y => ?_⟩
    obtain ⟨rfl, hx⟩ := w.yld i H x H' (hS i σ H p) lt y
    exact hs i x σ _ hx p
theorem lc_walk (w : WalkJ J S xs) (Pv : Nat → Hp → Prop) (h0 : Pv 0 (upd H1 D (.lst []))) (hS : ∀ i H, Pv i H → S H) (hs : ∀ i x H, xs[i]? = some x → Pv i H → g x (wipe σ vs) H fun σ2 H2 => wipe σ2 vs = wipe σ vs ∧ tt σ2 H2 fun b H3 => if b = true then te σ2 H3 fun y H4 => ∃ acc, H4 D = some (.lst acc) ∧ acc.length < sizeLine ∧ Pv (i + 1) (upd H4 D (.lst (acc ++ [y]))) else Pv (i + 1) H3) (hd : ∀ H, Pv xs.length H → Qd H) : ∃ W : Nat → Nat → Hp → Prop, (∃ m, W 0 m (upd H1 D (.lst []))) ∧ ∀ i m H, W i m H → (J.stop i H ∧ Qd H) ∨ (J.go i H ∧ ∃ Nx : Hp → Prop, (∀ H', Nx H' → ∃ m', m' < m ∧ W (i + 1) m' H') ∧ ∀ x H', J.yld i H x H' → g x (wipe σ vs) H' fun σ2 H2 => wipe σ2 vs = wipe σ vs ∧ tt σ2 H2 fun b H3 => if b = true then te σ2 H3 fun y H4 => ∃ acc, H4 D = some (.lst acc) ∧ acc.length < sizeLine ∧ Nx (upd H4 D (.lst (acc ++ [y]))) else Nx H3) := by
  refine ⟨fun i m H => i + m = xs.length ∧ Pv i H, ⟨xs.length, Nat.zero_add _, h0⟩, fun i m H ⟨hm, p⟩ => ?_⟩
  rcases Nat.eq_zero_or_pos m with z | z
  · have e : i = xs.length := by omega
    exact .inl ⟨w.stop i H (hS i H p) (Nat.le_of_eq e.symm), hd H (e ▸ p)⟩
  · have lt : i < xs.length := by omega
    refine .inr ⟨w.go i H (hS i H p) lt, Pv (i + 1), fun _ q => ⟨m - 1, by omega, by omega, q⟩, fun x H' y => ?_⟩
    obtain ⟨rfl, hx⟩ := w.yld i H x H' (hS i H p) lt y
    exact hs i x _ hx p
/-- the inner walk of a comprehension with two sources: from turn i of the outer one to turn i + 1 -/
theorem lc_inner {xs1 : List V} {Nx : Hp → Prop} (w : WalkJ J1 S1 xs1) (Pv : Nat → Hp → Prop) (h0 : Pv 0 H) (hS : ∀ j H, Pv j H → S1 H)
    (hs : ∀ j x H, xs1[j]? = some x → Pv j H → g1 x (wipe σ vs1) H fun σ3 H5 => wipe σ3 vs1 = wipe σ vs1 ∧ tt1 σ3 H5 fun b H6 =>
      if b = true then te σ3 H6 fun y H7 => ∃ acc, H7 D = some (.lst acc) ∧ acc.length < sizeLine ∧ Pv (j + 1) (upd H7 D (.lst (acc ++ [y]))) else Pv (j + 1) H6) (hd : ∀ H, Pv xs1.length H → Nx H) :
    ∃ W1 : Nat → Nat → Hp → Prop, (∃ m, W1 0 m H) ∧ ∀ j k H, W1 j k H →
      (J1.stop j H ∧ Nx H) ∨ (J1.go j H ∧ ∃ Nx1 : Hp → Prop, (∀ H', Nx1 H' → ∃ k', k' < k ∧ W1 (j + 1) k' H') ∧ ∀ x H', J1.yld j H x H' → g1 x (wipe σ vs1) H' fun σ3 H5 => wipe σ3 vs1 = wipe σ vs1 ∧ tt1 σ3 H5 fun b H6 =>
        if b = true then te σ3 H6 fun y H7 => ∃ acc, H7 D = some (.lst acc) ∧ acc.length < sizeLine ∧ Nx1 (upd H7 D (.lst (acc ++ [y]))) else Nx1 H6) := by
  refine ⟨fun i m H => i + m = xs1.length ∧ Pv i H, ⟨xs1.length, Nat.zero_add _, h0⟩, fun i m H ⟨hm, p⟩ => ?_⟩
  rcases Nat.eq_zero_or_pos m with z | z
  · have e : i = xs1.length := by omega
    exact .inl ⟨w.stop i H (hS i H p) (Nat.le_of_eq e.symm), hd H (e ▸ p)⟩
  · have lt : i < xs1.length := by omega
    refine .inr ⟨w.go i H (hS i H p) lt, Pv (i + 1), fun _ q => ⟨m - 1, by omega, by omega, q⟩, fun x H' y => ?_⟩
    obtain ⟨rfl, hx⟩ := w.yld i H x H' (hS i H p) lt y
    exact hs i x _ hx p
/-- .. the whole of it -/
theorem lc2_walk {wi1 : TI} (w : WalkJ J S xs) (Pv : Nat → Hp → Prop) (h0 : Pv 0 (upd H1 D (.lst []))) (hS : ∀ i H, Pv i H → S H) (hs : ∀ i x H, xs[i]? = some x → Pv i H → g x (wipe σ vs) H fun σ2 H2 => wipe σ2 vs = wipe σ vs ∧ tt σ2 H2 fun b H3 => if b = true then wi1 σ2 H3 fun J1 H4 => ∃ W1 : Nat → Nat → Hp → Prop, (∃ m, W1 0 m H4) ∧ ∀ j k H, W1 j k H →
        (J1.stop j H ∧ Pv (i + 1) H) ∨ (J1.go j H ∧ ∃ Nx1 : Hp → Prop, (∀ H', Nx1 H' → ∃ k', k' < k ∧ W1 (j + 1) k' H') ∧ ∀ x H', J1.yld j H x H' → g1 x (wipe σ2 vs1) H' fun σ3 H5 => wipe σ3 vs1 = wipe σ2 vs1 ∧ tt1 σ3 H5 fun b H6 => if b = true then te σ3 H6 fun y H7 => ∃ acc, H7 D = some (.lst acc) ∧ acc.length < sizeLine ∧ Nx1 (upd H7 D (.lst (acc ++ [y]))) else Nx1 H6)
      else Pv (i + 1) H3) (hd : ∀ H, Pv xs.length H → Qd H) : ∃ W : Nat → Nat → Hp → Prop, (∃ m, W 0 m (upd H1 D (.lst []))) ∧ ∀ i m H, W i m H → (J.stop i H ∧ Qd H) ∨ (J.go i H ∧ ∃ Nx : Hp → Prop, (∀ H', Nx H' → ∃ m', m' < m ∧ W (i + 1) m' H') ∧ ∀ x H', J.yld i H x H' → g x (wipe σ vs) H' fun σ2 H2 => wipe σ2 vs = wipe σ vs ∧ tt σ2 H2 fun b H3 => if b = true then wi1 σ2 H3 fun J1 H4 => ∃ W1 : Nat → Nat → Hp → Prop, (∃ m, W1 0 m H4) ∧ ∀ j k H, W1 j k H → (J1.stop j H ∧ Nx H) ∨ (J1.go j H ∧ ∃ Nx1 : Hp → Prop, (∀ H', Nx1 H' → ∃ k', k' < k ∧ W1 (j + 1) k' H') ∧ ∀ x H', J1.yld j H x H' → g1 x (wipe σ2 vs1) H' fun σ3 H5 => wipe σ3 vs1 = wipe σ2 vs1 ∧ tt1 σ3 H5 fun b H6 => if b = true then te σ3 H6 fun y H7 => ∃ acc, H7 D = some (.lst acc) ∧ acc.length < sizeLine ∧ Nx1 (upd H7 D (.lst (acc ++ [y]))) else Nx1 H6)
        else Nx H3) := by
  refine ⟨fun i m H => i + m = xs.length ∧ Pv i H, ⟨xs.length, Nat.zero_add _, h0⟩, fun i m H ⟨hm, p⟩ => ?_⟩
  rcases Nat.eq_zero_or_pos m with z | z
  · have e : i = xs.length := by omega
    exact .inl ⟨w.stop i H (hS i H p) (Nat.le_of_eq e.symm), hd H (e ▸ p)⟩
  · have lt : i < xs.length := by omega
    refine .inr ⟨w.go i H (hS i H p) lt, Pv (i + 1), fun _ q => ⟨m - 1, by omega, by omega, q⟩, fun x H' y => ?_⟩
    obtain ⟨rfl, hx⟩ := w.yld i H x H' (hS i H p) lt y
    exact hs i x _ hx p
end
/-! ### for x in e, e a list or a tuple -/
def iSeq (K : PySem.W.Frag) (tl : TE) : TI := fun σ H R => tl σ H fun x H1 => ∃ a xs, x = .ref a ∧ SqA K H1 a xs ∧ ∀ (J : It) (S : Hp → Prop), WalkJ J S xs → (∀ H', Ext H1 H' → S H') → R J H1
section
variable {X : Cx}
theorem pi_seq {tg l : Expr} {tl : TE} (hl : PE X l tl) : PI X tg l (iSeq X.K tl) := by
  constructor
  intro pins s σ H R I h
  refine thn (hl.run pins s σ H _ I h) ?_
  rintro v s1 ⟨x, H1, J1, r1, a, xs, rfl, hq, q⟩
  cases r1
  have mine : ∀ b ∈ [s1.heap.objs.size], FpOk X pins H1 b := fun b hb => by
    rw [List.mem_singleton.mp hb]
    exact J1.fpOk (Nat.le_refl _) (J1.hok.fresh (Nat.le_refl _))
  rcases hq with hq | hq
  · obtain ⟨its, rv, p, hz⟩ := J1.list hq
    exact wpAny_pyIter_list p.isList ⟨_, _, _, _, H1, rfl, J1.kept (t' := s1.toks) fun b o e => Heap.get?_push_of_some _ e, turn_list a _, ⟨_, Heap.get?_push_size _ rfl, rfl, rfl⟩, mine, q _ _ walk_l fun _ e => hq.ext e⟩
  · obtain ⟨its, rv, p, hz⟩ := J1.tuple hq
    exact wpAny_pyIter_tuple p ⟨_, _, _, _, H1, rfl, J1.kept (t' := s1.toks) fun b o e => Heap.get?_push_of_some _ e, turn_tuple a _, ⟨_, Heap.get?_push_size _ rfl, rfl, rfl⟩, mine, q _ _ walk_t fun _ e => hq.ext e⟩
end
end Mc

set_option Elab.async false
set_option linter.all false
set_option maxRecDepth 100000
set_option maxHeartbeats 4000000
namespace Mc
open PySem PySem.Spec PyProof.Rows L2
open AutoSeq1 (wpAny_loadPart')
/-! ### enumerate of a tuple -/
abbrev tupIt (l : Addr) : Obj := { cls := .type "tuple_iterator", data := .fields #[.ref l, .int 0 0] }
abbrev enO (it : Addr) : Obj := { cls := .type "enumerate", data := .fields #[.none, .bool false, .ref it, rawInt 0, .none, .none] }
theorem meets_enumT (l : Addr) (xs : Array Value) (n : Nat) (dd : Option Addr) (sl : Array (Option Value)) :
    Meets (Builtin.«enumerate.__new__» ⟨[.type "enumerate", .ref l], []⟩) (fun _ R s => s.heap.get? l = some { cls := .type "tuple", dict := dd, data := .seq xs n, slots := sl } ∧
      R (.ok (.ret (.ref (s.heap.push (tupIt l)).objs.size))) { s with heap := (s.heap.push (tupIt l)).push (enO s.heap.objs.size) }) :=
  .of_wp fun prog w A R s z => by
    obtain ⟨hp, gg, dr, tk, o2⟩ := s
    obtain ⟨hl, fin⟩ := z
    have sub := sub_enumerate
    have isT : Heap.IsTuple (Shared.heap ⟨hp, gg, dr, tk, o2⟩) l xs := ⟨_, hl, rfl, n, rfl⟩
    wp_walk using wpAny_loadPart' hl
    refine wpAny_stack_any fun st => wpAny_pure ?_
    split
    · rename_i c _ _ _ _ _
      cases (c == Value.type "enumerate") <;> (wp_walk using wpAny_loadPart' hl, wpAny_pyIter_tuple isT; exact ⟨_, rfl, fin⟩)
    · wp_walk using wpAny_loadPart' hl, wpAny_pyIter_tuple isT
      exact ⟨_, rfl, fin⟩
theorem call_enumT {prog : Program} {w : World} {A : Around} {E : Value → Shared → Prop} {s : Shared} {l : Addr} {xs : Array Value} {Q : Value → Shared → Prop} (isT : s.heap.IsTuple l xs)
    (h : ∀ h2, IsEnum h2 (s.heap.objs.size + 1) s.heap.objs.size 0 .none → h2.IsTupleIter s.heap.objs.size l 0 → (∀ b o, s.heap.get? b = some o → h2.get? b = some o) → Q (.ref (s.heap.objs.size + 1)) { s with heap := h2 }) : wpAny (model prog w) A (call (.type "enumerate") [.ref l]) Q E s := by
  obtain ⟨⟨c, dd, dt, sl⟩, hl, rfl, n, rfl⟩ := isT
  have sz : (s.heap.push (tupIt l)).objs.size = s.heap.objs.size + 1 := Heap.size_push ..
  have at2 := Heap.get?_push_size (s.heap.push (tupIt l)) (o := enO s.heap.objs.size) rfl
  rw [sz] at at2
  refine callType_new F.called_enumerate (by decide) (F.typeCall_enumerate_1 _) (F.newCall_enumerate_1 _) (fun obj => F.args_object_init_2 obj _) F.entry_enumerate_new (meets_enumT l xs n dd sl) ⟨hl, ?_⟩
  rw [sz]
  exact ⟨⟨_, at2, rfl⟩, h _ at2 ⟨_, Heap.get?_push_of_some _ (Heap.get?_push_size _ rfl), rfl, rfl⟩ fun b o x => Heap.get?_push_of_some _ (Heap.get?_push_of_some _ x)⟩
/-- the tuple at a, each item in a new pair -/
def IteT (K : PySem.W.Frag) (a : Addr) : It where
  go i H := ∃ (xs : List V) (x : V), SqT K H a xs ∧ xs[i]? = some x
  yld i H v H' := ∃ T x, v = .ref T ∧ H T = none ∧ H' = upd H T (.tup [.int (i : Nat), x]) ∧ ∀ xs, SqT K H a xs → xs[i]? = some x
  stop i H := ∃ xs : List V, SqT K H a xs ∧ xs.length ≤ i
theorem draws_end {prog : Program} {w : World} {A : Around} (hh : A.handled = none) (it t : Addr) (ne : t ≠ it) (xs : Array Value) {i : Nat} (no : xs[i]? = none) : Draws prog w A it [it, t] i (fun _ _ => True) (fun j h => j = i ∧ h.IsTupleIter it t i ∧ h.IsTuple t xs) where
  live j h st := by
    obtain ⟨o, ho, _⟩ := st.2.1
    exact ⟨o, ho⟩
  frame j h h2 st k := ⟨st.1, st.2.1.at fun o e => k it List.mem_cons_self o e, st.2.2.at fun o e => k t (List.mem_cons_of_mem _ List.mem_cons_self) o e⟩
  item j s Q E lt st _ := absurd st.1 (Nat.ne_of_lt lt)
  done s Q E st fin := wpAny_nextOf_tuple_end hh st.2.1 st.2.2 no fin
theorem turn_enumT {P : Program} {w : World} {K : PySem.W.Frag} {elts : List Expr} {kk : Nat} {tpos : Pos} (a e it : Addr) (hai : a ≠ it) (hea : e ≠ a) :
    Turn P w K (.Tuple elts kk tpos) (IteT K a) [e, it] e (fun i h => (∃ old, IsEnum h e it ((i : Nat) : Int) old) ∧ h.IsTupleIter it a i ∧ e ≠ it) where
  mem := List.mem_cons_self
  obj i h st b hb := by
    obtain ⟨⟨old, he⟩, ⟨o, ho, hc, hd⟩, _⟩ := st
    rcases List.mem_cons.mp hb with rfl | hb
    · exact ⟨_, he, fun v q => nomatch q⟩
    · rw [List.mem_singleton.mp hb]
      exact ⟨o, ho, fun v q => by rw [hd] at q; cases q⟩
  keep i h h2 st k := by
    obtain ⟨⟨old, he⟩, hi, ne⟩ := st
    exact ⟨⟨old, k e List.mem_cons_self _ he⟩, hi.at fun o q => k it (List.mem_cons_of_mem _ List.mem_cons_self) o q, ne⟩
  item := by
    intro X hP hw hK hc i pins s σ H E I hf st hg
    subst hP hw hK
    obtain ⟨⟨old, he⟩, hit, ne⟩ := st
    obtain ⟨xs, x, hq, hx⟩ := hg
    obtain ⟨its, rv, p, hz⟩ := I.tuple hq
    obtain ⟨u, hu, ru⟩ := rv.get hx
    have isT : s.heap.IsTuple a its.toArray := p
    have le : e < s.heap.objs.size := Heap.lt_size he
    have li : it < s.heap.objs.size := by
      obtain ⟨_, q, _⟩ := hit
      exact Heap.lt_size q
    have lt : i < its.toArray.size := by
      have := (List.getElem?_eq_some_iff.mp hu).1
      simpa using this
    refine wpAny_pyNext_enum_itemD (Draws.tuple (A := X.A.in1) (I.ok.hd hc) it a hai its.toArray) he ⟨hit, isT⟩ lt ne (by simp [ne, hea]) fun v h2 tk hv ho st2 hT hs2 hk => ?_
    obtain rfl : u = v := by
      have hv' : its[i]? = some v := by simpa using hv
      rw [hu] at hv'
      exact Option.some.inj hv'
    refine ⟨_, rfl, wpAny_letOwnedTupleGo_enum (s := { s with heap := h2, toks := tk + 1 }) ho fun h3 he3 sb => ?_⟩
    have hT3 : h3.get? s.heap.objs.size = some { cls := .type "tuple", data := .seq #[.int i tk, u] } := (sb.2 _ (Nat.ne_of_gt le)).trans hT
    have new : ObjOk X.prog X.w (upd H s.heap.objs.size (.tup [.int (i : Nat), x])) h3 s.heap.objs.size (.tup [.int (i : Nat), x]) :=
      ⟨(by show 2 ≤ sizeLine; decide), [.int i tk, u], .cons ⟨_, rfl⟩ (.cons ru .nil), ⟨_, hT3, rfl, _, rfl⟩⟩
    have J : Inv X pins σ (upd H s.heap.objs.size (.tup [.int (i : Nat), x])) { s with heap := h3, toks := tk + 1 } := I.turnedNew (ch := [e, it]) (fun b ob hb q => (sb.2 b (fun z => hb (by simp [z]))).trans (hk b ob (fun z => hb (by simp [z])) (fun z => hb (by simp [z])) q)) hf (Nat.le_refl _) new
    refine ⟨.ref s.heap.objs.size, _, J, rfl, ⟨_, x, rfl, I.hok.fresh (Nat.le_refl _), rfl, fun ys hy => by rw [I.tuple_inj hy hq]; exact hx⟩, ⟨⟨u, ?_⟩, st2.1.at fun o q => (sb.2 it (Ne.symm ne)).trans q, ne⟩, fun b hb => ?_⟩
    · rw [show ((i + 1 : Nat) : Int) = (i : Int) + 1 by omega]
      exact he3
    · have lb : b < s.heap.objs.size := by
        rcases List.mem_cons.mp hb with rfl | hb2
        · exact le
        · rw [List.mem_singleton.mp hb2]
          exact li
      rw [upd_ne (Nat.ne_of_lt lb)]
      exact (hf b hb).1
  done := by
    intro X hP hw hK hc i pins s σ H E I hf st hg
    subst hP hw hK
    obtain ⟨⟨old, he⟩, hit, ne⟩ := st
    obtain ⟨xs, hq, hx⟩ := hg
    obtain ⟨its, rv, p, hz⟩ := I.tuple hq
    have isT : s.heap.IsTuple a its.toArray := p
    obtain ⟨f0, f1, f2, f3, f4, f5⟩ := hf it (List.mem_cons_of_mem _ List.mem_cons_self)
    have ln := rv.length
    have no : its.toArray[i]? = none := by
      rw [List.getElem?_toArray]
      exact List.getElem?_eq_none (by omega)
    exact wpAny_pyNext_enum_endD (draws_end (A := X.A.in1) (I.ok.hd hc) it a hai its.toArray no) he ⟨rfl, hit, isT⟩ fun h2 eb => ⟨rfl, I.turned (t' := s.toks) (fun b o hb q => eb b o hb q) f0 f1 f3 f4 f5⟩
  self A i s Q E st h := by
    obtain ⟨⟨_, he⟩, _⟩ := st
    exact wpAny_pyIter_enum he h
def iEnumT (K : PySem.W.Frag) (ta : TA) : TI := fun σ H R => ta σ H fun vs H1 => ∃ a xs, vs = [.ref a] ∧ SqT K H1 a xs ∧ R (IteT K a) H1
theorem pi_enumT {X : Cx} {e : Expr} {ta : TA} {p pos tpos : Pos} {elts : List Expr} {kk : Nat} (hg : Gl X "enumerate") (hm : X.mg "enumerate" = none) (ha : PA X [e] ta) (hs : starEach [e] X.env = [(false, eval e X.env)] := by rfl) :
    PI X (.Tuple elts kk tpos) (.Call (.Name "enumerate" p) [e] [] pos) (iEnumT X.K ta) := by
  constructor
  intro pins s σ H R I h
  refine Call_ (ld_blt I hg hm boot_enumerate (PyProof.Rows.callWith_type1 (thn (ha.run pos pins s σ H _ I h) ?_) hs rfl))
  rintro us s1 ⟨vs, H1, I1, r1, a, xs, rfl, hq, q⟩
  rw [Vals.ref1 r1]
  obtain ⟨its, rv, pt, hz⟩ := I1.tuple hq
  have isT : s1.heap.IsTuple a its.toArray := pt
  have la : a < s1.heap.objs.size := by
    obtain ⟨o, ho, _⟩ := isT
    exact Heap.lt_size ho
  refine call_enumT isT fun h2 he hit hk => wpAny_pyIter_enum he ?_
  refine ⟨s1.heap.objs.size + 1, [s1.heap.objs.size + 1, s1.heap.objs.size], _, _, H1, rfl, I1.kept (t' := s1.toks) hk, turn_enumT a (s1.heap.objs.size + 1) s1.heap.objs.size (Nat.ne_of_lt la) (Nat.ne_of_gt (Nat.lt_succ_of_lt la)), ⟨⟨.none, he⟩, hit, Nat.succ_ne_self _⟩, fun b hb => ?_, q⟩
  have le : s1.heap.objs.size ≤ b := by
    rcases List.mem_cons.mp hb with rfl | hb2
    · exact Nat.le_succ _
    · rw [List.mem_singleton.mp hb2]
      exact Nat.le_refl _
  exact I1.fpOk le (I1.hok.fresh le)
/-- the turns of it: x at place i, in a new pair -/
theorem for_enumT {K : PySem.W.Frag} {a : Addr} {xs : List V} {g : TG} {tb : TS} {E : Ends} {σ : L2.St} {H : Hp} (Pv : Nat → L2.St → Hp → Prop) (h0 : Pv 0 σ H) (hS : ∀ i σ H, Pv i σ H → SqT K H a xs)
    (hs : ∀ i x T σ H, xs[i]? = some x → H T = none → Pv i σ H → g (.ref T) σ (upd H T (.tup [.int (i : Nat), x])) fun σ2 H2 => tb { E with nx := Pv (i + 1), ct := Pv (i + 1), bk := E.nx } σ2 H2) (hd : ∀ σ H, Pv xs.length σ H → E.nx σ H) : ∃ W : Nat → Nat → L2.St → Hp → Prop, (∃ m, W 0 m σ H) ∧ ∀ i m σ H, W i m σ H →
      ((IteT K a).stop i H ∧ E.nx σ H) ∨ ((IteT K a).go i H ∧ ∃ N : L2.St → Hp → Prop, (∀ σ' H', N σ' H' → ∃ m', m' < m ∧ W (i + 1) m' σ' H') ∧ ∀ x H', (IteT K a).yld i H x H' → g x σ H' fun σ2 H2 => tb { E with nx := N, ct := N, bk := E.nx } σ2 H2) := by
  refine ⟨fun i m σ H => i + m = xs.length ∧ Pv i σ H, ⟨xs.length, Nat.zero_add _, h0⟩, fun i m σ H ⟨hm, p⟩ => ?_⟩
  rcases Nat.eq_zero_or_pos m with z | z
  · have e : i = xs.length := by omega
    exact .inl ⟨⟨xs, hS i σ H p, Nat.le_of_eq e.symm⟩, hd σ H (e ▸ p)⟩
  · have lt : i < xs.length := by omega
    refine .inr ⟨⟨xs, xs[i], hS i σ H p, List.getElem?_eq_getElem lt⟩, Pv (i + 1), fun _ _ q => ⟨m - 1, by omega, by omega, q⟩, ?_⟩
    rintro v H' ⟨T, x, rfl, hT, rfl, hx⟩
    exact hs i x T σ H (hx xs (hS i σ H p)) hT p
end Mc

set_option Elab.async false
set_option linter.all false
set_option maxRecDepth 100000
set_option maxHeartbeats 4000000
namespace Mc
open PySem PySem.Spec PyProof.Rows L2
/-! ### what the top has made, def by def -/
/-- a def of the text: no default -/
abbrev FD (K : PySem.W.Frag) (x qual : Str) (st : Stmt) (f : Addr) (fd : FuncData) : Prop := FunD K x qual (defArgs st) (defBody st) (defScope st) [] [] f fd
abbrev FD1 (K : PySem.W.Frag) (x qual : Str) (st : Stmt) (f : Addr) (fd : FuncData) : Prop := FunD K x qual (defArgs st) (defBody st) (defScope st) [.int 1] [] f fd
def GloD (K : PySem.W.Frag) (x : Str) (st : Stmt) : Prop := ∃ f fd, PySem.W.nsIn K mainGlobals x = some (some (.ref f)) ∧ FD K x x st f fd
def MetD (K : PySem.W.Frag) (C : Addr) (x qual : Str) (st : Stmt) : Prop := ∃ f fd, Meth K C x f ∧ FD K x qual st f fd
def PrpD (K : PySem.W.Frag) (C : Addr) (x qual : Str) (st : Stmt) : Prop := ∃ p f fd, PropOf K C x p f ∧ FD K x qual st f fd
def StaD (K : PySem.W.Frag) (C : Addr) (mc : Value) (x qual : Str) (st : Stmt) : Prop := ∃ p f fd, SMet K C mc x p f ∧ FD K x qual st f fd
def IniD (K : PySem.W.Frag) (C : Addr) (qual : Str) (st : Stmt) : Prop := ∃ f fd, Mk K C f ∧ FD1 K "__init__" qual st f fd
section
variable {K : PySem.W.Frag} {C f p : Addr} {mc : Value} {x qual : Str} {st : Stmt} {od an : Option Addr} {sl : Array (Option Value)} {oc dV kV dc pm cd ct : Value} {rest : List Value}
theorem fd_mk (l : K.lookup f = some ⟨oc, od, .func (PySem.W.fnOf x qual (defArgs st) (defBody st) (defScope st) .none kV dc pm an cd ct), sl⟩) (c : PySem.W.codeIn K cd qual = true) (k : PySem.W.keepIn K (.ref f) = true) :
    FD K x qual st f (PySem.W.fnOf x qual (defArgs st) (defBody st) (defScope st) .none kV dc pm an cd ct) :=
  ⟨⟨oc, od, .none, kV, dc, pm, an, cd, ct, sl, rfl, l, c, .inl ⟨rfl, rfl⟩, .inl rfl⟩, k⟩
theorem md_mk {mg : Str → Option Value} {t : Tok} {n : Int} {y : Str} (h : mg y = some (.int n t)) : ∃ t, mg y = some (.int n t) := ⟨t, h⟩
theorem glo_mk (a : PySem.W.nsIn K mainGlobals x = some (some (.ref f))) (l : K.lookup f = some ⟨oc, od, .func (PySem.W.fnOf x x (defArgs st) (defBody st) (defScope st) .none kV dc pm an cd ct), sl⟩) (c : PySem.W.codeIn K cd x = true) (k : PySem.W.keepIn K (.ref f) = true) : GloD K x st :=
  ⟨f, _, a, fd_mk l c k⟩
theorem met_mk (a : PySem.W.findIn K (.ref C) x = some (some (.ref f))) (i : PySem.W.isFn K (.ref f) = true) (l : K.lookup f = some ⟨oc, od, .func (PySem.W.fnOf x qual (defArgs st) (defBody st) (defScope st) .none kV dc pm an cd ct), sl⟩) (c : PySem.W.codeIn K cd qual = true) (k : PySem.W.keepIn K (.ref f) = true) : MetD K C x qual st :=
  ⟨f, _, ⟨a, i, k⟩, fd_mk l c k⟩
theorem prp_mk (a : PySem.W.findIn K (.ref C) x = some (some (.ref p))) (g : PySem.W.specialIn K (.ref p) "__get__" = some (some (.builtin "property.__get__"))) (t : PySem.W.takesIn K (.ref p) = some true) (r : PySem.W.recIn K p "property" = some (.ref f :: rest))
    (l : K.lookup f = some ⟨oc, od, .func (PySem.W.fnOf x qual (defArgs st) (defBody st) (defScope st) .none kV dc pm an cd ct), sl⟩) (c : PySem.W.codeIn K cd qual = true) (k : PySem.W.keepIn K (.ref f) = true) : PrpD K C x qual st :=
  ⟨p, f, _, ⟨a, g, t, ⟨_, r⟩⟩, fd_mk l c k⟩
theorem sta_mk (a : PySem.W.findCls K (.ref C) mc x = some (.get (.builtin "staticmethod.__get__") (.ref p) .none (.ref C))) (r : PySem.W.recIn K p "staticmethod" = some (.ref f :: rest))
    (l : K.lookup f = some ⟨oc, od, .func (PySem.W.fnOf x qual (defArgs st) (defBody st) (defScope st) .none kV dc pm an cd ct), sl⟩) (c : PySem.W.codeIn K cd qual = true) (k : PySem.W.keepIn K (.ref f) = true) : StaD K C mc x qual st :=
  ⟨p, f, _, ⟨a, ⟨_, r⟩, k⟩, fd_mk l c k⟩
theorem ini_mk {T : Addr} {to : Obj} {it : Value} {n : Nat} (m : PySem.W.makesIn K C = true) (a : PySem.W.findIn K (.ref C) "__init__" = some (some (.ref f))) (i : PySem.W.isFn K (.ref f) = true) (kc : PySem.W.keepIn K (.ref C) = true)
    (l : K.lookup f = some ⟨oc, od, .func (PySem.W.fnOf "__init__" qual (defArgs st) (defBody st) (defScope st) (.ref T) kV dc pm an cd ct), sl⟩) (lt : K.lookup T = some to) (ht : to.data = .seq #[it] n) (hi : RelV (.int 1) it) (c : PySem.W.codeIn K cd qual = true) (k : PySem.W.keepIn K (.ref f) = true) : IniD K C qual st :=
  ⟨f, _, ⟨m, a, i, kc⟩, ⟨⟨oc, od, .ref T, kV, dc, pm, an, cd, ct, sl, rfl, l, c, .inr ⟨by simp, T, to, [it], n, rfl, lt, ht, .cons hi .nil⟩, .inl rfl⟩, k⟩⟩
end
section
variable {K : PySem.W.Frag} {x qual : Str} {st : Stmt} {f : Addr} {fd : FuncData} {ps : List Str}
theorem FD.fun (F : FD K x qual st f fd) : L2.Fun K x qual st f fd := by
  obtain ⟨oc, od, dV, kV, doc, pm, an, c, ct, osl, e, lk, hc, hD, _⟩ := F.ex
  rcases hD with ⟨_, rfl⟩ | ⟨z, _⟩
  · exact ⟨⟨oc, od, kV, doc, pm, an, c, ct, osl, e, lk, hc⟩, F.kp⟩
  · exact absurd rfl z
theorem FD.kb (F : FD K x qual st f fd) (n : Nat) (ks : List Str) {g : List Value → List Value → List Value} {gV : List V → List V → List V}
    (h : ∀ (kV doc pm : Value) (an : Option Addr) (cdv ct : Value) (us ws : List Value), us.length = n → ws.length = ks.length → bindArgs (PySem.W.fnOf x qual (defArgs st) (defBody st) (defScope st) .none kV doc pm an cdv ct) ⟨us, ks.zip ws⟩ = pure (ps.zip (g us ws)))
    (rel : ∀ {vs : List V} {us : List Value} {zs : List V} {ws : List Value}, Vals vs us → Vals zs ws → Vals (gV vs zs) (g us ws)) : KBn K fd ps n ks g gV := by
  obtain ⟨oc, od, dV, kV, doc, pm, an, c, ct, osl, rfl, lk, hc, hD, _⟩ := F.ex
  rcases hD with ⟨_, rfl⟩ | ⟨z, _⟩
  · exact ⟨fun s us ws _ h1 h2 => .of_eq (h kV doc pm an c ct us ws h1 h2), rel⟩
  · exact absurd rfl z
end
/-! ### len of an instance with its own __len__ -/
section
variable {X : Cx} {C f : Addr} {k : Nat} {fd : FuncData} {ps : List Str} {sp : Sp}
def rLenO (C : Addr) (sp : Sp) : List V → Hp → VK → Prop := fun vs H Q => ∃ a dx fs, vs = [.ref a] ∧ H a = some (.ins C dx fs) ∧ sp vs H (fun v H' => ∃ n : Nat, v = .int n ∧ n < 2 ^ 63 ∧ Q (.int n) H') E0
theorem call_lenO (m : Meth X.K C "__len__" f) (F : FnOk X.prog X.w X.K X.mg X.base CX0 k f fd ps sp) (hb : Binds X.K fd ps []) (hr : Room (k + 1) X.A) : CallR X (.builtin "len") (rLenO C sp) := by
  intro pins s σ H vs us Q I r h
  obtain ⟨a, dx, fs, rfl, ha, q⟩ := h
  rw [Vals.ref1 r]
  obtain ⟨mA, J, _⟩ := ins_get I.hok ha
  obtain ⟨od, J, _⟩ := J.look
  obtain ⟨mm, hF⟩ := I.fr
  refine PySem.W.len_K hF I.ok.mod.kin J m.at_ m.fn ?_
  refine wpAny_mono (run_own (vs := [V.ref a]) (us := [Value.ref a]) F hb hr.in1 rfl I (.cons rfl .nil) q) (fun z s' hz => ?_) fun _ _ z => z
  obtain ⟨v', H', I', r', n, rfl, hn, q'⟩ := hz
  obtain ⟨tk, rfl⟩ := (show ∃ tk, z = Value.int n tk from r')
  exact ⟨⟨by omega, by omega⟩, .int n, H', I'.tok _, ⟨_, rfl⟩, q'⟩
end
end Mc

set_option Elab.async false
set_option linter.all false
set_option maxRecDepth 100000
set_option maxHeartbeats 4000000
namespace Mc
open PySem PySem.Spec PyProof.Rows L2
/-! ### repr of data at any depth (lists, tuples, texts, numbers), where no repr is under way -/
def rReprD (K : PySem.W.Frag) : List V → Hp → VK → Prop := fun vs H Q => ∃ (a : Addr) (d : PyData), vs = [.ref a] ∧ Dp K H (.ref a) d ∧ d.showable = true ∧ d.hasDict = false ∧ d.depth ≤ 64 ∧ d.shown.length ≤ sizeLine ∧ Q (.str d.shown) H
theorem call_reprD {X : Cx} {k : Nat} (hr : RoomG k X.A) : CallR X (.builtin "repr") (rReprD X.K) := by
  intro pins s σ H vs us Q I r h
  obtain ⟨a, d, rfl, hd, hs, hn, h64, hz, q⟩ := h
  obtain ⟨u, rfl, ru⟩ := vals1 r
  cases (show u = Value.ref a from ru)
  obtain ⟨as, rd⟩ := Dp.reads I d _ _ hd rfl
  have un := hr.room.un
  exact repr_of_reads' rd hs (PyData.noDict_hsm hn) hr.gs (by omega) (fun _ _ e => e) (fun h2 u tk hk => ⟨.str d.shown, H, I.kept hk, ⟨u, rfl⟩, q⟩) hz
theorem call_reprDK {X : Cx} {K : PySem.W.Frag} {k : Nat} (hr : RoomG k X.A) (hK : X.K = K) : CallR X (.builtin "repr") (rReprD K) := by
  subst hK
  exact call_reprD hr
end Mc

set_option Elab.async false
set_option linter.all false
set_option maxRecDepth 100000
set_option maxHeartbeats 4000000
namespace Mc
open PySem PySem.Spec PyProof.Rows L2
/-! ### rules with K said apart, keyword calls of plain defs, walks by a step, nested comprehensions -/
theorem call_lenK {X : Cx} {K : PySem.W.Frag} (hK : X.K = K) : CallR X (.builtin "len") (fun xs H Q => ∃ p ys, xs = [.ref p] ∧ (SqL K H p ys ∨ SqT K H p ys) ∧ Q (.int ys.length) H) := by
  subst hK
  exact call_len_seq
theorem pi_listK {X : Cx} {K : PySem.W.Frag} {tg l : Expr} {tl : TE} (hK : X.K = K) (hl : PE X l tl) : PI X tg l (iList K tl) := by
  subst hK
  exact pi_list hl
theorem walk_rc {lo c : Int} {n : Nat} : WalkJ (Itc lo c n) (fun _ => True) ((List.range n).map fun k => .int (lo + (k : Nat) * c)) where
  go i H _ h := by simpa [Itc] using h
  stop i H _ h := by simpa [Itc] using h
  yld i H x H' _ h y := by
    obtain ⟨rfl, rfl⟩ := y
    refine ⟨rfl, ?_⟩
    rw [List.length_map, List.length_range] at h
    rw [List.getElem?_map, List.getElem?_range h]
    rfl
def noFree (sc : Scope) : Bool := sc.names.all fun y => match y.2 with | .free => false | _ => true
theorem blkOk_free {N : List Str} {sc scope : Scope} {own : List (Str × Nat)} (h : (blkC N scope scope own && noFree scope) = true) : BlkOk N sc scope own := by
  obtain ⟨h1, h2⟩ := Bool.and_eq_true_iff.mp h
  have b := blkOk_by h1
  refine ⟨b.kind, b.uniq, b.ix, fun y hy e => ?_, b.own⟩
  have := List.all_eq_true.mp h2 y hy
  rw [e] at this
  cases this
/-- f(a=.., b=..) of a def of the module, no argument by its place -/
def tGdK (sp : Sp) (m : Nat) (gV : List V → List V → List V) (tk : TA) : TE := fun σ H Q => tk σ H fun zs H1 => zs.length = m ∧ sp (gV [] zs) H1 Q E0
section
variable {X : Cx} {x : Str} {k n : Nat} {ps ks : List Str} {sp : Sp} {f : Addr} {fd : FuncData} {p pos : Pos} {kws : List Keyword} {tk : TA} {g : List Value → List Value → List Value} {gV : List V → List V → List V}
theorem pe_gdK (D : Gd X.prog X.w X.K X.mg X.base x k ps sp f fd) (hb : KBn X.K fd ps 0 ks g gV) (hr : Room n X.A) (hk : k ≤ n) (hg : Gl X x) (hkw : PK X kws tk)
    (hall : (backToKw pos (keywordEach kws X.env)).all (·.1.isSome) = true := by rfl) (hks : (backToKw pos (keywordEach kws X.env)).filterMap (·.1) = ks := by rfl) (hdb : (x == ("__debug__" : Str)) = false := by decide)
    (hpl : ((backTo pos (starEach [] X.env)).any (·.1) || (backToKw pos (keywordEach kws X.env)).any (·.1.isNone)) = false := by rfl) : PE X (.Call (.Name x p) [] kws pos) (tGdK sp ks.length gV tk) := by
  refine ⟨fun pins s σ H Q I h => ?_⟩
  refine wpAny_Call_Name_kw (ld_glob I hg D.g ?_ hdb)
  refine PySem.W.callWith_KW0 (h₀ := X.base) (first := []) I.ok.mod.kin D.kp hall ?_ hpl
  refine thn (hkw.run pos pins s σ H _ I h) fun ws s3 ⟨zs, H2, I3, rz, l2, q2⟩ => ⟨I3.kIn, ?_⟩
  rw [hks]
  exact run_fnN (us := []) (vs := []) D.ok (hr.mono hk) hb pass0 I3 .nil rz rfl l2 q2
end
theorem cut_dropU (xs : List V) (n : Nat) : L2.cutV xs (some ((n : Nat) : Int)) Option.none = xs.drop n := by
  unfold L2.cutV
  rw [HT.sIx_none, HT.sIx_nat]
  by_cases h : n ≤ xs.length
  · rw [Nat.min_eq_left h, List.take_of_length_le (by rw [List.length_drop]; omega)]
  · rw [Nat.min_eq_right (by omega), List.drop_eq_nil_of_le (Nat.le_refl _), List.drop_eq_nil_of_le (by omega), List.take_nil]
end Mc
namespace Mc
open PySem PySem.Spec PyProof.Rows L2
/-- arguments by keywords, put into the parameters' order -/
def pm {α : Type} (ix : List Nat) (l : List α) : List α := ix.filterMap fun i => l[i]?
theorem pm_vals {zs : List V} {ws : List Value} (r : Vals zs ws) : ∀ ix : List Nat, Vals (pm ix zs) (pm ix ws)
  | [] => .nil
  | i :: ix => by
    have ih := pm_vals r ix
    unfold pm at ih ⊢
    rw [List.filterMap_cons, List.filterMap_cons]
    have l := r.length
    by_cases h : i < zs.length
    · obtain ⟨u, hu, ru⟩ := r.get (List.getElem?_eq_getElem h)
      rw [List.getElem?_eq_getElem h, hu]
      exact .cons ru ih
    · rw [List.getElem?_eq_none (by omega), List.getElem?_eq_none (by omega)]
      exact ih
end Mc
namespace Mc
open PySem PySem.Spec PyProof.Rows L2
/-- more built-in names that the module leaves as they are -/
structure TB2 (mg : Str → Option Value) : Prop where
  reversed : mg "reversed" = none
  sorted : mg "sorted" = none
  sum : mg "sum" = none
  set : mg "set" = none
  dict : mg "dict" = none
end Mc

set_option Elab.async false
set_option linter.all false
set_option maxRecDepth 100000
set_option maxHeartbeats 4000000
namespace Mc
open PySem PySem.Spec PyProof.Rows L2
def spLaw (K : PySem.W.Frag) : Sp := fun vs H Q _ => ∃ (l : Addr) (ns : List Int), vs = [.ref l] ∧ SqL K H l (ns.map V.int) ∧ ∀ H', Q (.bl true) H'
/-! ### the call of a law whose def asks that no repr is under way -/
section
variable {P : Program} {w : World} {K : PySem.W.Frag} {mg mb : Str → Option Value} {k : Nat} {fa a : Addr} {fd : FuncData} {x : Str} {sp : Sp} {s1 : Shared} {us : List Value} {ns : List Int}
/-- the script's object -/
abbrev scO (us : List Value) : Obj := { cls := .type "list", data := .seq us.toArray }
theorem envG {H : Hp} (KX : K.In s1.heap) (g1 : s1.heap.Ns mainGlobals mg) (g2 : s1.heap.Ns builtinsNs mb) (g3 : ∀ y : Str, y ≠ "__name__" → mb y = bootBuiltins y) (nl : s1.heap.NoLimit) (gn : s1.gens = #[]) (ea : s1.heap.get? a = some (scO us))
    (only : ∀ b, H b ≠ none → b = a ∧ K.lookup a = none) (ok : HOk P w H s1.heap) : K.In (hidT s1.heap H) ∧ (hidT s1.heap H).Ns mainGlobals mg ∧ Env0 P w K mg (hidT s1.heap H) callerA [] s1 H := by
  have seen : ∀ b o, s1.heap.get? b = some o → ¬ b = a → (hidT s1.heap H).get? b = some o := fun b o e n => hidT_get e (Classical.byContradiction fun z => n (only b z).1)
  have dicts : ∀ {b : Addr} {m : Str → Option Value}, s1.heap.Ns b m → (hidT s1.heap H).Ns b m := by
    rintro b m ⟨o, es, ep, e, d, r⟩
    refine ⟨o, es, ep, seen b o e fun z => ?_, d, r⟩
    rw [z, ea] at e
    rw [← Option.some.inj e] at d
    cases (show Data.seq us.toArray _ = Data.dict es ep from d)
  have inK : K.In (hidT s1.heap H) := fun b o e => by
    by_cases z : H b = none
    · exact hidT_get (KX b o e) z
    · obtain ⟨rfl, n⟩ := only b z
      rw [n] at e
      cases e
  obtain ⟨mc, n1, n2⟩ := nl
  exact ⟨inK, dicts g1, rfl, ⟨inK, dicts g1, ⟨mb, dicts g2, g3⟩, mc, dicts n1, n2⟩, fun b o e => of_hidT e, Nat.le_of_eq (hidT_size _ _), trivial, fun b m => (nomatch m), ok, .of_eq gn⟩
theorem callG (KX : K.In s1.heap) (g1 : s1.heap.Ns mainGlobals mg) (g2 : s1.heap.Ns builtinsNs mb) (g3 : ∀ y : Str, y ≠ "__name__" → mb y = bootBuiltins y) (nl : s1.heap.NoLimit) (gn : s1.gens = #[]) (ea : s1.heap.get? a = some (scO us)) (hi : IntsAre us ns) (hz : ns.length ≤ sizeLine) (hr : RoomG k callerA)
    (F : ∀ base : Heap, K.In base → base.Ns mainGlobals mg → FnOkG P w K mg base CX0 k fa fd [x] sp) (hb : ∀ (s : Shared) (u : Value), BindsTo s fd ⟨[u], []⟩ [(x, u)])
    (hsp : ∀ H : Hp, SqL K H a (ns.map V.int) → sp [.ref a] H (fun v _ => v = .bl true) fun _ _ _ => False) :
    codeAny (model P w) callerA (.call (.ref fa) ⟨[.ref a], []⟩) (fun r s' => r = .ok (.ret (.bool true)) ∧ OldK s1.heap s'.heap ∧ s'.os = s1.os ∧ AllBare s'.gens) s1 := by
  have rv : Vals (ns.map V.int) us := vals_ints hi
  have ln : us.length = ns.length := hi.length
  suffices go : ∃ H : Hp, SqL K H a (ns.map V.int) ∧ HOk P w H s1.heap ∧ (∀ b, H b ≠ none → b = a ∧ K.lookup a = none) ∧ ∀ b, H b ≠ none → ∃ o xs, H b = some (.frz o (.lst xs)) by
    obtain ⟨H, hS, ok, only, fz⟩ := go
    obtain ⟨k1, k2, env⟩ := envG KX g1 g2 g3 nl gn ea only ok
    refine codeAny_mono ((F _ k1 k2).run callerA [] s1 H ⟨[.ref a], []⟩ [.ref a] [.ref a] _ _ hr env (hb s1 _) (.cons rfl .nil) (hsp H hS)) fun r s2 e => ?_
    rcases r with e2 | fl
    · exact e.elim
    · cases fl with
      | ret u =>
        obtain ⟨v, H2, os, bare, un, ok2, r2, q⟩ := e
        subst q
        cases (show u = Value.bool true from r2)
        refine ⟨rfl, OldK.of_keep fun b o eo => ?_, os, bare⟩
        by_cases z : H b = none
        · exact un.keep b o eo z (fun m => (nomatch m)) (by simp)
        · obtain ⟨ob, xs, z2⟩ := fz b z
          have t1 := (ok b _ z2).1
          rw [eo] at t1
          rw [Option.some.inj t1]
          exact (ok2 b _ (un.frzs b ob _ z2)).1
      | next => exact e.elim
      | brk => exact e.elim
      | cont => exact e.elim
  by_cases hk : K.lookup a = none
  · have at_ : (fun b => if b = a then some (HO.frz (scO us) (.lst (ns.map V.int))) else none : Hp) a = some (HO.frz (scO us) (.lst (ns.map V.int))) := if_pos rfl
    have no : ∀ b, ¬ b = a → (fun b => if b = a then some (HO.frz (scO us) (.lst (ns.map V.int))) else none : Hp) b = none := fun b n => if_neg n
    generalize (fun b => if b = a then some (HO.frz (scO us) (.lst (ns.map V.int))) else none : Hp) = H at at_ no
    refine ⟨H, .inl (.inr ⟨_, at_⟩), fun b u e => ?_, fun b z => ⟨Classical.byContradiction fun n => z (no b n), hk⟩, fun b z => ?_⟩
    · by_cases n : b = a
      · rw [n, at_] at e
        cases e
        rw [n]
        exact ⟨ea, by rw [List.length_map]; exact hz, us, _, rv, ea⟩
      · rw [no b n] at e
        cases e
    · by_cases n : b = a
      · exact ⟨_, _, by rw [n]; exact at_⟩
      · exact absurd (no b n) z
  · obtain ⟨o, ho⟩ := Option.ne_none_iff_exists'.mp hk
    have e := KX a o ho
    rw [ea] at e
    cases e
    refine ⟨fun _ => none, .inr ⟨_, us.toArray, _, ho, rfl, rfl, rfl, ?_, by simpa using rv⟩, fun b u z => (nomatch z), fun b z => absurd rfl z, fun b z => absurd rfl z⟩
    rw [List.size_toArray, ln]
    exact hz
end
theorem walkG {l : PySem.W.OpenLaw} {n k : Nat} {q : Program} {loose : List Str} {XP : (Str → Option Value) → Heap → Prop} {YP : World → Heap → Prop} {d : DefRec} {K : Params → PySem.W.Frag} {x : Str} (hn : l.most = some n) (hz : n ≤ sizeLine) (hdf : d.params.defaults = []) (hr : RoomG k callerA)
    (hY : ∀ (w : World) (h : Heap), YP w h → (K w.params).In h)
    (F : ∀ (w : World) (mg : Str → Option Value) (fa : Addr) (h : Heap), (K w.params).In h → h.Ns mainGlobals mg → mg d.name = some (.ref fa) →
      ∃ fd : FuncData, (∀ (s : Shared) (u : Value), BindsTo s fd ⟨[u], []⟩ [(x, u)]) ∧ ∀ base : Heap, (K w.params).In base → base.Ns mainGlobals mg → FnOkG l.prog w (K w.params) mg base CX0 k fa fd [x] (spLaw (K w.params))) :
    PySem.W.WalkO q loose XP YP l.row.toRowW d [] (fun f vs => PySem.call f vs) := by
  refine Att.attach_call hn hdf fun w s0 s1 mg mb fa o pm cd doc a us ns G Y ho hd hcd hmg hobj hints hlen hg => ?_
  have KX := hY w _ Y
  obtain ⟨fd, hb, hF⟩ := F w mg fa _ KX G.T.g hmg
  exact callG KX G.T.g G.T.b G.T.builtins G.T.nolimit hg hobj hints (Nat.le_trans hlen hz) hr hF hb fun H hS => ⟨a, ns, rfl, hS, fun _ => rfl⟩

/-! ### facts of the top, as k_is finds them -/
section
variable {K : PySem.W.Frag} {C : Addr} {mc : Value} {a : Addr}
def IniD0 (K : PySem.W.Frag) (C : Addr) (qual : Str) (st : Stmt) : Prop := ∃ f fd, Mk K C f ∧ FD K "__init__" qual st f fd
theorem ini0_mk {f : Addr} {qual : Str} {st : Stmt} {od an : Option Addr} {sl : Array (Option Value)} {oc kV dc pm cd ct : Value} (m : PySem.W.makesIn K C = true) (a : PySem.W.findIn K (.ref C) "__init__" = some (some (.ref f))) (i : PySem.W.isFn K (.ref f) = true) (kc : PySem.W.keepIn K (.ref C) = true)
    (l : K.lookup f = some ⟨oc, od, .func (PySem.W.fnOf "__init__" qual (defArgs st) (defBody st) (defScope st) .none kV dc pm an cd ct), sl⟩) (c : PySem.W.codeIn K cd qual = true) (k : PySem.W.keepIn K (.ref f) = true) : IniD0 K C qual st := ⟨f, _, ⟨m, a, i, kc⟩, fd_mk l c k⟩
theorem cv_mk {f : Str} {n : Int} {t : Tok} (h : PySem.W.findCls K (.ref C) mc f = some (.val (.int n t))) : ∃ u, ClX.CVal K C mc f (.int n) u := ⟨_, h, ⟨_, rfl⟩⟩
theorem ax_mk {its : Array Value} {n : Nat} {sl : Array (Option Value)} {xs : List V} (h : K.lookup a = some ⟨.type "tuple", none, .seq its n, sl⟩) (hz : its.size ≤ sizeLine) (hv : Vals xs its.toList) : ∀ H, SqT K H a xs := fun H => .inr ⟨_, its, n, h, rfl, rfl, hz, hv⟩
theorem axT_mk {d : Data} {sl : Array (Option Value)} (h : K.lookup a = some ⟨.type "tuple", none, d, sl⟩) : ∃ o, K.lookup a = some o ∧ o.cls = .type "tuple" ∧ o.dict = none := ⟨_, h, rfl, rfl⟩
end
end Mc

set_option Elab.async false
set_option linter.all false
set_option maxRecDepth 100000
set_option maxHeartbeats 4000000
namespace Mc
open PySem PySem.Spec PyProof.Rows L2 HT
/-! ### t[::-1] of a tuple -/
section
variable {prog : Program} {w : World} {A : Around} {E : Value → Shared → Prop} {s : Shared}
theorem adjust_rev (n : Nat) : Builtin.Slice.sliceAdjust none none (-1) (n : Int) = ((n : Int) - 1, -1) := by
  unfold Builtin.Slice.sliceAdjust
  simp
theorem places_rev (n : Nat) : Builtin.Slice.slicePlaces ((n : Int) - 1) (-1) (-1) = n := by
  unfold Builtin.Slice.slicePlaces
  simp only [show ¬ ((-1 : Int) > 0) by decide, if_false]
  split
  · simp
  · omega
theorem sliceApplied_rev {sl : Addr} {vl vu vs : Value} {n : Nat} {Q : Int × Int × Nat → Shared → Prop} (hs : s.heap.IsSliceOf sl vl vu vs) (pl : IsPart vl none) (pu : IsPart vu none) (ps : IsPart vs (some (-1)))
    (h : Q ((n : Int) - 1, -1, n) s) : wpAny (model prog w) A (Builtin.Slice.sliceApplied (.ref sl) (pure (n : Int))) Q E s := by
  obtain ⟨os, hos, hcs, hds⟩ := id hs
  unfold Builtin.Slice.sliceApplied Builtin.Slice.sliceFields
  refine wpAny_bind (wpAny_bind (wpAny_field hos hds (x := vl) rfl (wpAny_bind (wpAny_field hos hds (x := vu) rfl (wpAny_bind (wpAny_field hos hds (x := vs) rfl (wpAny_pure ?_)))))))
  refine wpAny_bind (slicePart_ ps ?_)
  show wpAny _ _ (if ((-1 : Int) == 0) = true then _ else _) _ _ s
  rw [if_neg (by decide)]
  refine wpAny_bind (slicePart_ pl (wpAny_bind (slicePart_ pu (wpAny_bind (wpAny_pure ?_)))))
  show wpAny _ _ (match Builtin.Slice.sliceAdjust none none (-1) (n : Int) with | (lo, hi) => pure (lo, (-1 : Int), Builtin.Slice.slicePlaces lo hi (-1))) _ _ s
  rw [adjust_rev n]
  show wpAny _ _ (pure ((n : Int) - 1, (-1 : Int), Builtin.Slice.slicePlaces ((n : Int) - 1) (-1) (-1))) _ _ s
  rw [places_rev]
  exact wpAny_pure h
theorem fm_congr {α β : Type} {f g : α → Option β} : ∀ {l : List α}, (∀ a, a ∈ l → f a = g a) → l.filterMap f = l.filterMap g
  | [], _ => rfl
  | a :: l, h => by rw [List.filterMap_cons, List.filterMap_cons, h a List.mem_cons_self, fm_congr fun b hb => h b (List.mem_cons_of_mem _ hb)]
theorem pick_rev (xs : Array Value) : ((List.range xs.size).filterMap fun (m : Nat) => xs[((xs.size : Int) - 1 + (m : Int) * (-1)).toNat]?).toArray = xs.toList.reverse.toArray := by
  congr 1
  have e : ∀ m, m ∈ List.range xs.size → xs[((xs.size : Int) - 1 + (m : Int) * (-1)).toNat]? = some (xs.toList.reverse.getD m .none) := fun m hm => by
    have hm := List.mem_range.mp hm
    have e1 : ((xs.size : Int) - 1 + (m : Int) * (-1)).toNat = xs.size - 1 - m := by omega
    have hl : m < xs.toList.reverse.length := by simp; omega
    rw [e1, List.getD_eq_getElem?_getD, List.getElem?_eq_getElem hl, List.getElem_reverse, Array.getElem?_eq_getElem (by omega)]
    simp
  rw [fm_congr (g := fun m => some (xs.toList.reverse.getD m .none)) e]
  rw [List.filterMap_eq_map']
  refine List.ext_getElem? fun i => ?_
  rw [List.getElem?_map]
  by_cases hi : i < xs.size
  · rw [List.getElem?_range hi, List.getElem?_eq_getElem (by simp; omega)]
    show some (xs.toList.reverse.getD i Value.none) = _
    rw [List.getD_eq_getElem?_getD, List.getElem?_eq_getElem (by simp; omega)]
    rfl
  · rw [List.getElem?_eq_none (by simp; omega), List.getElem?_eq_none (by simp; omega)]
    rfl
theorem getItem_tuple_rev {t sl : Addr} {items : Array Value} {vl vu vs : Value} {Q : Value → Shared → Prop} (ht : IsTup s.heap t items) (hs : s.heap.IsSliceOf sl vl vu vs) (pl : IsPart vl none) (pu : IsPart vu none) (ps : IsPart vs (some (-1)))
    (h : Q (.ref s.heap.objs.size) { s with heap := s.heap.push { cls := .type "tuple", data := .seq items.toList.reverse.toArray } })
    (hsz : items.size ≤ sizeLine) : wpAny (model prog w) A (getItem (.ref t) (.ref sl)) Q E s := by
  have htake : sizeOk (.seq items.toList.reverse.toArray) := by
    show items.toList.reverse.toArray.size ≤ sizeLine
    rw [List.size_toArray, List.length_reverse, Array.length_toList]
    exact hsz
  obtain ⟨os, hos, hcs, hds⟩ := id hs
  have hTs : s.TypeIs (.ref sl) "slice" := ⟨os, hos, hcs⟩
  unfold getItem
  try with_reducible refine wpAny_holding ?_
  first | refine wpAny_bind (wpAny_pure ?_) | skip
  refine wpAny_bind (wpAny_sequenceKey ht.typeIs (by decide) ?_)
  refine wpAny_bind (wpAny_callSpecial?_slot (name := Str.ofString "__getitem__") ht.typeIs PyProof.Rows.slot_tuple_getitem
    (wpAny_call_entry PyProof.Rows.slot_tuple_getitem ht.typeIs entry_tuple_getitem ?_ (args_tuple_getitem _ _)))
  show wpAny _ _ (Builtin.Tuple.tupleItemsOf (.ref t) >>= _) _ _ s
  refine wpAny_bind (tupleItemsOf_ ht ?_)
  refine wpAny_bind (wpAny_typeOf hTs ?_)
  rw [if_pos (by decide)]
  refine wpAny_bind (sliceApplied_rev hs pl pu ps ?_)
  have hno : ¬ (((items.size : Int) - 1 == 0 && (-1 : Int) == 1 && items.size == items.size) = true) := by
    intro q
    rw [Bool.and_eq_true, Bool.and_eq_true] at q
    exact absurd q.1.2 (by decide)
  show wpAny _ _ (if ((items.size : Int) - 1 == 0 && (-1 : Int) == 1 && items.size == items.size) = true then _ else _) _ _ s
  rw [if_neg hno, pick_rev]
  first
    | exact wpAny_bind (m := Builtin.Tuple.tupleExact _) (wpAny_newObj_type (wpAny_pure ⟨_, rfl, wpAny_pure h⟩) htake)
    | exact wpAny_bind (m := Builtin.Tuple.tupleExact _) (wpAny_newObj_type (wpAny_bind (wpAny_pure (wpAny_pure ⟨_, rfl, wpAny_pure h⟩))) htake)
    | exact wpAny_bind (wpAny_bind (m := Builtin.Tuple.tupleExact _) (wpAny_newObj_type (wpAny_pure (wpAny_pure ⟨_, rfl, wpAny_pure h⟩)) htake))
    | exact wpAny_bind (wpAny_bind (m := Builtin.Tuple.tupleExact _) (wpAny_newObj_type (wpAny_pure ⟨_, rfl, wpAny_pure h⟩) htake))
end
def tRevT (K : PySem.W.Frag) (te : TE) : TE := fun σ H Q => te σ H fun x H1 => ∃ a xs, x = .ref a ∧ SqT K H1 a xs ∧ ∀ p, H1 p = none → Q (.ref p) (upd H1 p (.tup xs.reverse))
theorem pe_revT {X : Cx} {K : PySem.W.Frag} {e : Expr} {te : TE} {k : Nat} {p1 p2 p3 pos : Pos} (hK : X.K = K) (he : PE X e te) : PE X (.Subscript e (.Slice none none (some (.UnaryOp .USub (.Constant (.int 1) k p1) p2)) p3) pos) (tRevT K te) := by
  subst hK
  refine ⟨fun pins s σ H Q I h => ?_⟩
  refine Subscript_ (thn (he.run pins s σ H _ I h) fun v s1 ⟨x, H1, I1, r1, q1⟩ => ?_)
  obtain ⟨a, xs, ex, hx, q⟩ := q1
  subst ex
  cases r1
  have hst : PO X (some (.UnaryOp .USub (.Constant (.int 1) k p1) p2)) (tPart (tUn (rU fun i => .int (-i)) (tC (.int 1)))) := po_some (pe_un un_neg pe_int)
  refine wpAny_Slice (thn (po_none.run pins s1 σ H1 (fun o H2 => o = none ∧ H2 = H1) I1 ⟨rfl, rfl⟩) fun vl s2 ⟨l, H2, I2, pl, el, e2⟩ => ?_)
  subst el e2
  refine thn (po_none.run pins s2 σ H2 (fun o H3 => o = none ∧ H3 = H2) I2 ⟨rfl, rfl⟩) fun vu s3 ⟨u, H3, I3, pu, eu, e3⟩ => ?_
  subst eu e3
  refine thn (hst.run pins s3 σ H3 (fun o H4 => o = some (-1) ∧ H4 = H3) I3 ⟨1, rfl, -1, rfl, rfl, rfl⟩) fun vs s4 ⟨o, H4, I4, ps, eo, e4⟩ => ?_
  subst eo e4
  have I5 : Inv X pins σ H4 { s4 with heap := s4.heap.push { cls := .type "slice", data := .fields #[vl, vu, vs] } } := I4.kept (t' := s4.toks) fun b ob q => Heap.get?_push_of_some _ q
  obtain ⟨its, r, ht, hz⟩ := I5.tuple hx
  have hlen := r.length
  show wpAny (model X.prog X.w) X.A (subscriptTail e (.Slice none none (some (.UnaryOp .USub (.Constant (.int 1) k p1) p2)) p3) (.ref a) (.ref s4.heap.objs.size)) (EP X pins σ Q) X.xe { s4 with heap := s4.heap.push { cls := .type "slice", data := .fields #[vl, vu, vs] } }
  refine tail_any (ops := [.ref a, .ref s4.heap.objs.size]) ht.typeIs PyProof.Rows.slot_tuple_getitem.lookup ?_ (by with_unfolding_all rfl)
  refine getItem_tuple_rev ht (Heap.IsSliceOf.new _ vl vu vs) pl pu ps ?_ (by rw [List.size_toArray]; omega)
  refine ⟨.ref _, _, I5.laid (t' := s4.toks) (o := .tup xs.reverse) (fun b ob q => Heap.get?_push_of_some _ q) (Nat.le_refl _) ?_, rfl, q _ (I5.hok.fresh (Nat.le_refl _))⟩
  exact ⟨by rw [List.length_reverse]; exact hz, _, r.reverse, IsTup.new _ _⟩
/-! ### for i, x in enumerate of a list -/
theorem for_enumL {K : PySem.W.Frag} {a : Addr} {xs : List V} {g : TG} {tb : TS} {E : Ends} {σ : L2.St} {H : Hp} (Pv : Nat → L2.St → Hp → Prop) (h0 : Pv 0 σ H) (hS : ∀ i σ H, Pv i σ H → SqL K H a xs)
    (hs : ∀ i x T σ H, xs[i]? = some x → H T = none → Pv i σ H → g (.ref T) σ (upd H T (.tup [.int (i : Nat), x])) fun σ2 H2 => tb { E with nx := Pv (i + 1), ct := Pv (i + 1), bk := E.nx } σ2 H2) (hd : ∀ σ H, Pv xs.length σ H → E.nx σ H) : ∃ W : Nat → Nat → L2.St → Hp → Prop, (∃ m, W 0 m σ H) ∧ ∀ i m σ H, W i m σ H →
      ((Ite K a).stop i H ∧ E.nx σ H) ∨ ((Ite K a).go i H ∧ ∃ N : L2.St → Hp → Prop, (∀ σ' H', N σ' H' → ∃ m', m' < m ∧ W (i + 1) m' σ' H') ∧ ∀ x H', (Ite K a).yld i H x H' → g x σ H' fun σ2 H2 => tb { E with nx := N, ct := N, bk := E.nx } σ2 H2) := by
  refine ⟨fun i m σ H => i + m = xs.length ∧ Pv i σ H, ⟨xs.length, Nat.zero_add _, h0⟩, fun i m σ H ⟨hm, p⟩ => ?_⟩
  have s1 := hS i σ H p
  rcases Nat.eq_zero_or_pos m with z | z
  · have e : i = xs.length := by omega
    exact .inl ⟨⟨xs, s1, Nat.le_of_eq e.symm⟩, hd σ H (e ▸ p)⟩
  · have lt : i < xs.length := by omega
    refine .inr ⟨⟨xs, xs[i], s1, List.getElem?_eq_getElem lt⟩, Pv (i + 1), fun _ _ q => ⟨m - 1, by omega, by omega, q⟩, ?_⟩
    rintro v H' ⟨T, x, rfl, hT, rfl, hx⟩
    exact hs i x T σ H (hx xs s1) hT p
end Mc

set_option Elab.async false
set_option linter.all false
set_option maxRecDepth 100000
set_option maxHeartbeats 4000000
namespace Mc
open PySem PySem.Spec PyProof.Rows L2
def top (i : Nat) : Stmt := PySem.Challenge.pw_movecells_k14_plans_told.main.body.getD i (.Pass ⟨0, 0, 0, 0⟩)
abbrev sPot : Stmt := top 41
abbrev sDraw : Stmt := top 42
abbrev sPick : Stmt := top 43

section
variable {P : Program} {w : World} {K : PySem.W.Frag} {mg : Str → Option Value} {base : Heap} {f fd' : Addr} {fd : FuncData}

def spDraw : Sp := fun vs H Q _ => ∃ (p : Addr) (n : Int), vs = [.ref p, .int n] ∧ Pot H p ∧ 0 < n ∧ n.natAbs.log2 < 9000 ∧ ∀ (r : Int) H', 0 ≤ r → r < n → Frm [p] H H' → Pot H' p → Q (.int r) H'
abbrev nDraw : List Str := ["_law_pot_here", "_law_size", "_law_digit"]
theorem scDraw : FnScope nDraw ["_law_pot_here", "_law_size"] (defScope sDraw) := ⟨rfl, rfl, rfl, by decide +kernel, rfl, by decide +kernel, by decide +kernel⟩
theorem ok_draw (F : Fun K "_law_draw" "_law_draw" sDraw f fd) (tDm : mg "divmod" = none) (tInt : mg "int" = none) : FnOk P w K mg base CX0 1 f fd ["_law_pot_here", "_law_size"] spDraw := by
  refine F.ok scDraw (fun vs H Q E h => ?_) (fun cdv A outer s H vs Q E hr h => ?_)
  · obtain ⟨p, n, rfl, _⟩ := h
    rfl
  · obtain ⟨p, n, rfl, ⟨a, b, hp, ha, hb, hb'⟩, hn, hn', k⟩ := h
    refine ⟨_, pss_cons (ps_if (pt_cmpR op_gt (pe_ix ix_seq (pv 0) pe_int (fun _ _ => rfl)) pe_int (nomark _))
        (pss_cons (ps_asg (pe_callB call_divmodW (by rfl) tDm (by decide +kernel) (pa_cons (pe_ix ix_seq (pv 0) pe_int (fun _ _ => rfl)) (pa_cons (pv 1) pa_nil))) (pg_tup rfl (pgs_cons (pg_sub (pv 0) pe_int set_list) (pgs_cons (pg_name (i := 2) scDraw.nd rfl (.inl rfl)) pgs_nil))))
        (pss_one (ps_ret (pv 2)))) pss_nil)
      (pss_cons (ps_asg (pe_op op_mod (pe_callTy call_int1 (by rfl) tInt (by decide +kernel) (pa_cons (pe_op op_add (pe_op op_mul (pe_ix ix_seq (pv 0) pe_int (fun _ _ => rfl)) pe_int) pe_int) pa_nil)) pe_int) (pg_sub (pv 0) pe_int set_list))
      (pss_one (ps_ret (pe_op op_mod (pe_callTy call_int1 (by rfl) tInt (by decide +kernel) (pa_cons (pe_op op_fdiv (pe_op op_mod (pe_callTy call_int1 (by rfl) tInt (by decide +kernel) (pa_cons (pe_op op_mul (pe_ix ix_seq (pv 0) pe_int (fun _ _ => rfl)) (pe_ix ix_seq (pv 0) pe_int (fun _ _ => rfl))) pa_nil)) pe_int) pe_int) pa_nil)) (pv 1))))), ?_⟩
    -- pot[0] > 0
    refine ⟨_, rfl, .inl ⟨p, _, 0, _, rfl, rfl, SqL.of hp, rfl, _, _, rfl, rfl, _, rfl, ?_⟩⟩
    refine ite2 (fun h0 => ?_) (fun h0 => ?_)
    · refine ⟨_, rfl, .inl ⟨p, _, 0, _, rfl, rfl, SqL.of hp, rfl, _, rfl, a, n, rfl, plain_div a hn hn', fun t ht => ?_⟩⟩
      have hpt : (upd H t (.tup [.int (a / n), .int (a % n)])) p = some (.lst [.int a, .int b]) := by rw [upd_ne (ne_of_none hp ht)]; exact hp
      refine ⟨t, _, rfl, SqT.of upd_same, rfl, _, _, rfl, _, rfl, p, _, 0, 0, rfl, rfl, hpt, rfl, _, _, rfl, rfl, _, rfl, ?_⟩
      refine k _ _ (Int.emod_nonneg a (by omega)) (Int.emod_lt_of_pos a hn) ((Frm.new ht).trans (Frm.put (List.mem_singleton.mpr rfl))) ⟨a / n, b, upd_same, Int.ediv_nonneg ha (by omega), hb, hb'⟩
    · refine ⟨_, rfl, .inl ⟨p, _, 1, _, rfl, rfl, SqL.of hp, rfl, _, _, rfl, rfl, .inl ⟨by omega, by omega⟩, _, _, rfl, rfl, .inl ⟨_, rfl, _, _, rfl, rfl, (by show (0 : Int) < 2147483587; decide), ?_⟩⟩⟩
      have hc0 : 0 ≤ (b * 48271 + 12161) % 2147483587 := Int.emod_nonneg _ (by decide)
      have hc1 : (b * 48271 + 12161) % 2147483587 < 2147483587 := Int.emod_lt_of_pos _ (by decide)
      refine ⟨_, rfl, p, _, 1, 1, rfl, rfl, hp, rfl, ?_⟩
      refine ⟨_, rfl, .inl ⟨p, _, 1, _, rfl, rfl, SqL.of upd_same, rfl, _, rfl, .inl ⟨p, _, 1, _, rfl, rfl, SqL.of upd_same, rfl, _, _, rfl, rfl, .inl ⟨(by show -(2 ^ 64 : Int) < (b * 48271 + 12161) % 2147483587; omega), (by show (b * 48271 + 12161) % 2147483587 < (2 ^ 64 : Int); omega)⟩, .inl ⟨_, rfl, _, _, rfl, rfl, (by show (0 : Int) < 2147483549; decide), _, _, rfl, rfl, ⟨by decide, by decide⟩, .inl ⟨_, rfl, _, rfl, _, _, rfl, rfl, hn, ?_⟩⟩⟩⟩⟩
      exact k _ _ (Int.emod_nonneg _ (by omega)) (Int.emod_lt_of_pos _ hn) (Frm.put (List.mem_singleton.mpr rfl)) ⟨a, (b * 48271 + 12161) % 2147483587, upd_same, ha, hc0, hc1⟩
/-- pick: one of the items -/
def spPick : Sp := fun vs H Q _ => ∃ (p l : Addr) (xs : List V), vs = [.ref p, .ref l] ∧ Pot H p ∧ H l = some (.lst xs) ∧ l ≠ p ∧ 0 < xs.length ∧ xs.length ≤ 1000 ∧
  ∀ (i : Nat) (x : V) H', xs[i]? = some x → Frm [p] H H' → Pot H' p → Q x H'
abbrev nPick : List Str := ["_law_pot_here", "_law_some"]
theorem scPick : FnScope nPick ["_law_pot_here", "_law_some"] (defScope sPick) := ⟨rfl, rfl, rfl, by decide +kernel, rfl, by decide +kernel, by decide +kernel⟩
theorem ok_pick {fD : Addr} {fdD : FuncData} (F : Fun K "_law_pick" "_law_pick" sPick f fd) (D : Gd P w K mg base "_law_draw" 1 ["_law_pot_here", "_law_size"] spDraw fD fdD) (tLen : mg "len" = none) : FnOk P w K mg base CX0 2 f fd ["_law_pot_here", "_law_some"] spPick := by
  refine F.ok scPick (fun vs H Q E h => ?_) (fun cdv A outer s H vs Q E hr h => ?_)
  · obtain ⟨p, l, xs, rfl, _⟩ := h
    rfl
  · obtain ⟨p, l, xs, rfl, hp, hl, hne, h0, h1, k⟩ := h
    refine ⟨_, pss_one (ps_ret (pe_ix ix_seq (pv 1) (pe_gd D hr (by decide) (by rfl) (pa_cons (pv 0) (pa_cons (pe_callB call_len_seq (by rfl) tLen PySem.boot_len (pa_cons (pv 1) pa_nil)) pa_nil))) (fun _ _ => rfl))), ?_⟩
    refine ⟨_, rfl, _, rfl, _, rfl, l, _, rfl, .inl (SqL.of hl), p, _, rfl, hp, by omega, len_log h1, fun r H1 hr0 hr1 F1 hp1 => ?_⟩
    obtain ⟨i, rfl⟩ := Int.eq_ofNat_of_zero_le hr0
    have hi : i < xs.length := by omega
    exact .inl ⟨l, xs, i, xs[i], rfl, rfl, SqL.of (F1 _ _ hl (by simpa using hne)), atI_nat (List.getElem?_eq_getElem hi), k i _ _ (List.getElem?_eq_getElem hi) F1 hp1⟩
end
end Mc

set_option Elab.async false
set_option linter.all false
set_option maxRecDepth 100000
set_option maxHeartbeats 4000000
namespace Mc
open PySem PySem.Spec PyProof.Rows L2
section
variable {P : Program} {w : World} {K : PySem.W.Frag} {mg : Str → Option Value} {base : Heap} {f : Addr} {fd : FuncData}

def spPot (K : PySem.W.Frag) : Sp := fun vs H Q _ => ∃ (l : Addr) (ns : List Int) (k : Nat), vs = [.ref l, .int k] ∧ SqL K H l (ns.map V.int) ∧ k < 64 ∧ ∀ q H', H q = none → Frm [] H H' → Pot H' q → Q (.ref q) H'
theorem sc_pot : FnScope ["_law_script", "_law_k", "_law_figures"] ["_law_script", "_law_k"] (defScope sPot) := ⟨rfl, rfl, rfl, by decide +kernel, rfl, by decide +kernel, by decide +kernel⟩
theorem pot_ok (G z : Int) : PotOk (if G > 0 then G else 0) (z % 2147483477 + 1) := by
  have h1 := Int.emod_nonneg z (show (2147483477 : Int) ≠ 0 by decide)
  have h2 := Int.emod_lt_of_pos z (show (0 : Int) < 2147483477 by decide)
  refine ⟨?_, by omega, by omega⟩
  split <;> omega
theorem ok_pot (F : Fun K "_law_pot" "_law_pot" sPot f fd) (T : TB mg) : FnOk P w K mg base CX0 1 f fd ["_law_script", "_law_k"] (spPot K) := by
  refine F.ok sc_pot (fun vs H Q E h => ?_) (fun cdv A outer s H vs Q E hr h => ?_)
  · obtain ⟨l, ns, k, rfl, _⟩ := h
    rfl
  · obtain ⟨l, ns, k, rfl, hl, hk, q⟩ := h
    refine ⟨_, pss_cons (ps_set (i := 2) sc_pot.nd rfl (.inl rfl) (pe_op op_add (pe_op op_mul pe_int (pv 1)) pe_int))
      (pss_cons (ps_if (pt_cmpR op_lt (pv 1) (pe_callB call_len_seq (by rfl) T.len PySem.boot_len (pa_cons (pv 0) pa_nil)) (nomark _)) (pss_one (ps_set (i := 2) sc_pot.nd rfl (.inl rfl) (pe_callB call_abs (by rfl) T.abs (by decide +kernel) (pa_cons (pe_ix ix_seq (pv 0) (pv 1) (fun _ _ => rfl)) pa_nil)))) pss_nil)
      (pss_one (ps_ret (pe_lst (pa_cons (pe_callB (call_max2 rfl) (by rfl) T.max (by decide +kernel) (pa_cons pe_int (pa_cons (pe_op op_sub (pv 2) (pe_op op_pow pe_int pe_int)) pa_nil))) (pa_cons (pe_op op_add (pe_op op_mod (pe_op op_mul (pe_callTy call_int1 (by rfl) T.int (by decide +kernel) (pa_cons (pe_op op_add (pe_op op_mod (pe_callTy call_int1 (by rfl) T.int (by decide +kernel) (pa_cons (pv 2) pa_nil)) pe_int) pe_int) pa_nil)) (pe_op op_pow (pe_op op_add (pe_op op_mul pe_int (pv 1)) pe_int) pe_int)) pe_int) pe_int) pa_nil)))))), ?_⟩
    refine ⟨_, rfl, _, _, rfl, rfl, .inl ⟨by decide, by decide⟩, _, _, rfl, rfl, ?_⟩
    refine ⟨_, rfl, _, rfl, l, _, rfl, .inl hl, _, _, rfl, rfl, _, rfl, ?_⟩
    have hk3 : ((2 * (k : Int) + 3) : Int).natAbs < 2 ^ 64 := by omega
    refine ite2 (fun h0 => ?_) (fun h0 => ?_)
    · have hk2 : k < ns.length := by
        have := of_decide_eq_true h0
        rw [List.length_map] at this
        omega
      refine ⟨_, rfl, _, rfl, .inl ⟨l, _, _, V.int ns[k], rfl, rfl, hl, atI_nat (by rw [List.getElem?_map, List.getElem?_eq_getElem hk2]; rfl), _, rfl, ?_⟩⟩
      refine ⟨_, rfl, _, _, rfl, rfl, ⟨by decide, by decide, by decide⟩, _, _, rfl, rfl, _, _, rfl, ?_⟩
      refine ⟨_, rfl, .inl ⟨_, rfl, _, _, rfl, rfl, (by show (0 : Int) < 2147483549; decide), _, _, rfl, rfl, .inl ⟨_, rfl, ?_⟩⟩⟩
      refine ⟨_, rfl, _, _, rfl, rfl, .inl ⟨by decide, by decide⟩, _, _, rfl, rfl, _, _, rfl, rfl, ⟨by decide, by decide, hk3⟩, ?_⟩
      have hF := fun F : Int => (⟨Int.emod_nonneg F (show (2147483549 : Int) ≠ 0 by decide), Int.emod_lt_of_pos F (show (0 : Int) < 2147483549 by decide)⟩ : 0 ≤ F % 2147483549 ∧ F % 2147483549 < 2147483549)
      refine ⟨_, _, rfl, rfl, .inl ⟨?_, ?_⟩, _, _, rfl, rfl, (by show (0 : Int) < 2147483477; decide), _, _, rfl, rfl, (by show 2 ≤ sizeLine; decide), fun p hp => ?_⟩
      · exact Int.lt_of_lt_of_le (by decide) (Int.add_nonneg (hF _).1 (by decide))
      · exact Int.lt_of_lt_of_le (Int.add_lt_add_right (hF _).2 13) (by decide)
      · exact q p _ hp (Frm.new hp) ⟨_, _, upd_same, pot_ok _ _⟩
    · refine ⟨_, rfl, _, _, rfl, rfl, ⟨by decide, by decide, by decide⟩, _, _, rfl, rfl, _, _, rfl, ?_⟩
      refine ⟨_, rfl, .inl ⟨_, rfl, _, _, rfl, rfl, (by show (0 : Int) < 2147483549; decide), _, _, rfl, rfl, .inl ⟨_, rfl, ?_⟩⟩⟩
      refine ⟨_, rfl, _, _, rfl, rfl, .inl ⟨by decide, by decide⟩, _, _, rfl, rfl, _, _, rfl, rfl, ⟨by decide, by decide, hk3⟩, ?_⟩
      have hF := fun F : Int => (⟨Int.emod_nonneg F (show (2147483549 : Int) ≠ 0 by decide), Int.emod_lt_of_pos F (show (0 : Int) < 2147483549 by decide)⟩ : 0 ≤ F % 2147483549 ∧ F % 2147483549 < 2147483549)
      refine ⟨_, _, rfl, rfl, .inl ⟨?_, ?_⟩, _, _, rfl, rfl, (by show (0 : Int) < 2147483477; decide), _, _, rfl, rfl, (by show 2 ≤ sizeLine; decide), fun p hp => ?_⟩
      · exact Int.lt_of_lt_of_le (by decide) (Int.add_nonneg (hF _).1 (by decide))
      · exact Int.lt_of_lt_of_le (Int.add_lt_add_right (hF _).2 13) (by decide)
      · exact q p _ hp (Frm.new hp) ⟨_, _, upd_same, pot_ok _ _⟩
end
end Mc

set_option Elab.async false
set_option linter.all false
set_option maxRecDepth 100000
set_option maxHeartbeats 4000000
set_option exponentiation.threshold 20000
namespace Mc
open PySem PySem.Spec PyProof.Rows L2 ClX StX
abbrev s_is_int : Stmt := top 13
abbrev s_is_count : Stmt := top 14
abbrev s_is_count_below : Stmt := top 15
abbrev s_is_list : Stmt := top 16
abbrev s_is_tuple_of : Stmt := top 17
abbrev s_check_fineness : Stmt := top 18
abbrev s_Plan___init : Stmt := inClass (top 23) 3
abbrev s_Plan_squares : Stmt := inClass (top 23) 4
abbrev s_Plan_codes : Stmt := inClass (top 23) 5
abbrev s_Plan_rounds : Stmt := inClass (top 23) 6
abbrev s_Plan___len : Stmt := inClass (top 23) 7
abbrev s_Plan_phase : Stmt := inClass (top 23) 8
abbrev s_Plan_signs : Stmt := inClass (top 23) 9
abbrev s_Plan_parts : Stmt := inClass (top 23) 10
abbrev s_Plan_place_of : Stmt := inClass (top 23) 11
abbrev s_Plan_sign_at : Stmt := inClass (top 23) 12
abbrev s_Plan_counts : Stmt := inClass (top 23) 13
abbrev s_Plan_growth : Stmt := inClass (top 23) 14
abbrev s_Plan_turned : Stmt := inClass (top 23) 15
abbrev s_Plan___eq : Stmt := inClass (top 23) 16
abbrev s_Plan___repr : Stmt := inClass (top 23) 17
abbrev s_is_axis : Stmt := top 24
abbrev s_counts_at : Stmt := top 25
abbrev s_check_phase : Stmt := top 26
abbrev s_check_sign : Stmt := top 27
abbrev s_check_pair : Stmt := top 28
abbrev s_is_parts : Stmt := top 29
abbrev s_is_cut : Stmt := top 30
abbrev s_is_cuts : Stmt := top 31
abbrev s_check_rounds : Stmt := top 32
abbrev s_plain_cuts : Stmt := top 33
abbrev s_turned_cuts : Stmt := top 34
abbrev s_parts_of : Stmt := top 35
abbrev s_places_of : Stmt := top 36
abbrev s_within : Stmt := top 37
abbrev s_multiplied : Stmt := top 38
abbrev s_power : Stmt := top 39
abbrev s_mixed : Stmt := top 44
abbrev s_product : Stmt := top 45
abbrev s_rounds : Stmt := top 46
abbrev s_plan : Stmt := top 47
abbrev s_place : Stmt := top 48
abbrev s_parts : Stmt := top 49
abbrev s_round_right : Stmt := top 50
abbrev s_counts_right : Stmt := top 51
abbrev s_told_right : Stmt := top 52
abbrev s_others : Stmt := top 53
abbrev s_equal_right : Stmt := top 54
abbrev s_turned_right : Stmt := top 55
abbrev s_known_right : Stmt := top 56
abbrev s_right : Stmt := top 57
abbrev s_law : Stmt := top 58
/-- an axis by its first sign -/
def axS (b : Bool) : Str := if b then "east" else "north"
abbrev Cut := Bool × Nat
def cutV (c : Cut) : List V := [.str (axS c.1), .int c.2]
def okC (c : Cut) : Prop := 2 ≤ c.2 ∧ c.2 ≤ 4
/-- what the text says of Plan and of the module's constants -/
structure PlanT (K : PySem.W.Frag) (mg : Str → Option Value) (C0 aX : Addr) (mc : Value) : Prop where
  cl : Cls K C0
  nR : NoAttr K C0 "_rounds"
  nP : NoAttr K C0 "_parts"
  nL : NoAttr K C0 "_places"
  nG : NoAttr K C0 "_growth"
  mgP : mg "Plan" = some (.ref C0)
  mF : ∃ t, mg "MOST_FINENESS" = some (.int 1000 t)
  lP : ∃ t, mg "LEAST_PARTS" = some (.int 2 t)
  mP : ∃ t, mg "MOST_PARTS" = some (.int 4 t)
  ax : mg "AXES" = some (.ref aX)
  axK : ∀ H, SqT K H aX [.str "east", .str "north"]
  axT : ∃ o, K.lookup aX = some o ∧ o.cls = .type "tuple" ∧ o.dict = none
  cr : ClX.CRead K C0 mc
  cR : ∃ u, ClX.CVal K C0 mc "MOST_ROUNDS" (.int 3) u
  cC : ∃ u, ClX.CVal K C0 mc "MOST_CUTS" (.int 5) u
  cS : ∃ u, ClX.CVal K C0 mc "MOST_SIGNS" (.int 32) u
section
variable {P : Program} {w : World} {K : PySem.W.Frag} {mg : Str → Option Value} {base : Heap} {f C0 aX : Addr} {mc : Value} {fd : FuncData}
theorem sc_is_int : FnScope ["value"] ["value"] (defScope s_is_int) := ⟨rfl, rfl, rfl, by decide +kernel, rfl, by decide +kernel, by decide +kernel⟩
/-- of ints alone -/
def spIsInt : Sp := fun vs H Q _ => ∃ i : Int, vs = [.int i] ∧ Q (.bl true) H
theorem ok_is_int (F : FunD K "is_int" "is_int" (defArgs s_is_int) (defBody s_is_int) (defScope s_is_int) [] [] f fd) (T : TB mg) : FnOk P w K mg base CX0 1 f fd ["value"] (spIsInt) := by
  refine F.ok sc_is_int (fun vs H Q E h => ?_) (fun cdv A outer s H vs Q E hr h => ?_)
  · obtain ⟨i, rfl, k⟩ := h
    rfl
  · obtain ⟨i, rfl, k⟩ := h
    refine ⟨_, (pss_one (ps_ret (pe_and (pe_callB call_isi (by rfl) T.isinstance (by decide +kernel) (pa_cons (pv 0) (pa_cons (pe_bltn (v := .ty "int") (by rfl) T.int (by decide +kernel) rfl) pa_nil))) (pe_one (pe_not (pe_callB call_isi (by rfl) T.isinstance (by decide +kernel) (pa_cons (pv 0) (pa_cons (pe_bltn (v := .ty "bool") (by rfl) T.bool (by decide +kernel) rfl) pa_nil)))))))), ?_⟩
    refine ⟨_, rfl, .int i, _, _, _, true, rfl, .ty "int", .base (.int i), kit_ty (by decide +kernel), true, rfl, iteT ?_⟩
    exact ⟨_, rfl, .int i, _, _, _, false, rfl, .ty "bool", .base (.int i), kit_ty (by decide +kernel), false, rfl, k⟩
theorem sc_is_count : FnScope ["value"] ["value"] (defScope s_is_count) := ⟨rfl, rfl, rfl, by decide +kernel, rfl, by decide +kernel, by decide +kernel⟩
def spCount : Sp := fun vs H Q _ => ∃ i : Int, vs = [.int i] ∧ Q (.bl (decide (i ≥ 0))) H
theorem ok_is_count (F : FunD K "is_count" "is_count" (defArgs s_is_count) (defBody s_is_count) (defScope s_is_count) [] [] f fd) (T : TB mg) {fis_int : Addr} {fdis_int : FuncData} (Dis_int : Gd P w K mg base "is_int" 1 ["value"] (spIsInt) fis_int fdis_int) : FnOk P w K mg base CX0 2 f fd ["value"] (spCount) := by
  refine F.ok sc_is_count (fun vs H Q E h => ?_) (fun cdv A outer s H vs Q E hr h => ?_)
  · obtain ⟨i, rfl, k⟩ := h
    rfl
  · obtain ⟨i, rfl, k⟩ := h
    refine ⟨_, (pss_one (ps_ret (pe_and (pe_gd Dis_int hr (by decide) (by rfl) (pa_cons (pv 0) pa_nil)) (pe_one (pe_cmpR op_ge (pv 0) pe_int (nomark _)))))), ?_⟩
    refine ⟨_, rfl, i, rfl, true, rfl, iteT ⟨_, rfl, _, _, rfl, rfl, ?_⟩⟩
    exact k
theorem sc_is_count_below : FnScope ["value", "bound"] ["value", "bound"] (defScope s_is_count_below) := ⟨rfl, rfl, rfl, by decide +kernel, rfl, by decide +kernel, by decide +kernel⟩
def spBelow : Sp := fun vs H Q _ => ∃ i b : Int, vs = [.int i, .int b] ∧ i ≥ 0 ∧ i < b ∧ Q (.bl true) H
theorem ok_is_count_below (F : FunD K "is_count_below" "is_count_below" (defArgs s_is_count_below) (defBody s_is_count_below) (defScope s_is_count_below) [] [] f fd) (T : TB mg) {fis_count : Addr} {fdis_count : FuncData} (Dis_count : Gd P w K mg base "is_count" 2 ["value"] (spCount) fis_count fdis_count) : FnOk P w K mg base CX0 3 f fd ["value", "bound"] (spBelow) := by
  refine F.ok sc_is_count_below (fun vs H Q E h => ?_) (fun cdv A outer s H vs Q E hr h => ?_)
  · obtain ⟨i, b, rfl, h0, hb, k⟩ := h
    rfl
  · obtain ⟨i, b, rfl, h0, hb, k⟩ := h
    refine ⟨_, (pss_one (ps_ret (pe_and (pe_gd Dis_count hr (by decide) (by rfl) (pa_cons (pv 0) pa_nil)) (pe_one (pe_cmpR op_lt (pv 0) (pv 1) (nomark _)))))), ?_⟩
    refine ⟨_, rfl, i, rfl, _, rfl, ?_⟩
    rw [decide_eq_true h0]
    refine iteT ⟨_, rfl, _, rfl, _, _, rfl, rfl, ?_⟩
    show Q (.bl (decide (i < b))) H
    rw [decide_eq_true hb]
    exact k
theorem sc_check_fineness : FnScope ["f"] ["f"] (defScope s_check_fineness) := ⟨rfl, rfl, rfl, by decide +kernel, rfl, by decide +kernel, by decide +kernel⟩
def spFine : Sp := fun vs H Q _ => ∃ i : Int, vs = [.int i] ∧ i ≥ 0 ∧ i ≤ 1000 ∧ Q .non H
theorem ok_check_fineness (F : FunD K "check_fineness" "check_fineness" (defArgs s_check_fineness) (defBody s_check_fineness) (defScope s_check_fineness) [] [] f fd) (T : TB mg) (R : PlanT K mg C0 aX mc) {fis_count : Addr} {fdis_count : FuncData} (Dis_count : Gd P w K mg base "is_count" 2 ["value"] (spCount) fis_count fdis_count) : FnOk P w K mg base CX0 3 f fd ["f"] (spFine) := by
  refine F.ok sc_check_fineness (fun vs H Q E h => ?_) (fun cdv A outer s H vs Q E hr h => ?_)
  · obtain ⟨i, rfl, h0, h1, k⟩ := h
    rfl
  · obtain ⟨i, rfl, h0, h1, k⟩ := h
    refine ⟨_, (pss_cons (ps_if (pt_not (pt_val (pe_gd Dis_count hr (by decide) (by rfl) (pa_cons (pv 0) pa_nil)))) (pss_one ps_never) pss_nil)
      (pss_one (ps_if (pt_cmpR op_gt (pv 0) (pe_glob (v := .int 1000) (by rfl) R.mF.choose_spec ⟨_, rfl⟩) (nomark _)) (pss_one ps_never) pss_nil))), ?_⟩
    refine ⟨_, rfl, i, rfl, ?_⟩
    rw [decide_eq_true h0]
    refine ⟨_, rfl, iteF ⟨_, rfl, _, _, rfl, rfl, _, rfl, ?_⟩⟩
    rw [decide_eq_false (by omega)]
    exact iteF k
theorem sc_is_axis : FnScope ["value"] ["value"] (defScope s_is_axis) := ⟨rfl, rfl, rfl, by decide +kernel, rfl, by decide +kernel, by decide +kernel⟩
def spAxis : Sp := fun vs H Q _ => ∃ b : Bool, vs = [.str (axS b)] ∧ Q (.bl true) H
theorem ok_is_axis (F : FunD K "is_axis" "is_axis" (defArgs s_is_axis) (defBody s_is_axis) (defScope s_is_axis) [] [] f fd) (T : TB mg) (R : PlanT K mg C0 aX mc) : FnOk P w K mg base CX0 1 f fd ["value"] (spAxis) := by
  refine F.ok sc_is_axis (fun vs H Q E h => ?_) (fun cdv A outer s H vs Q E hr h => ?_)
  · obtain ⟨b, rfl, k⟩ := h
    rfl
  · obtain ⟨b, rfl, k⟩ := h
    refine ⟨_, (pss_one (ps_ret (pe_and (pe_callB call_isi (by rfl) T.isinstance (by decide +kernel) (pa_cons (pv 0) (pa_cons (pe_bltn (v := .ty "str") (by rfl) T.str (by decide +kernel) rfl) pa_nil))) (pe_one (pe_cmpR op_in_seq (pv 0) (pe_glob (v := .ref aX) (by rfl) R.ax rfl) (by rfl)))))), ?_⟩
    refine ⟨_, rfl, .str _, _, _, _, true, rfl, .ty "str", .base (.str _), kit_ty (by decide +kernel), true, rfl, iteT ?_⟩
    refine ⟨_, rfl, aX, _, rfl, .inr (R.axK H), rfl, rfl, ?_⟩
    have e : inV (.str (axS b)) [.str "east", .str "north"] = true := by cases b <;> decide +kernel
    rw [e]
    exact k
theorem sc_is_parts : FnScope ["value"] ["value"] (defScope s_is_parts) := ⟨rfl, rfl, rfl, by decide +kernel, rfl, by decide +kernel, by decide +kernel⟩
def spParts : Sp := fun vs H Q _ => ∃ n : Int, vs = [.int n] ∧ 2 ≤ n ∧ n ≤ 4 ∧ Q (.bl true) H
theorem ok_is_parts (F : FunD K "_is_parts" "_is_parts" (defArgs s_is_parts) (defBody s_is_parts) (defScope s_is_parts) [] [] f fd) (T : TB mg) (R : PlanT K mg C0 aX mc) {fis_int : Addr} {fdis_int : FuncData} (Dis_int : Gd P w K mg base "is_int" 1 ["value"] (spIsInt) fis_int fdis_int) : FnOk P w K mg base CX0 2 f fd ["value"] (spParts) := by
  refine F.ok sc_is_parts (fun vs H Q E h => ?_) (fun cdv A outer s H vs Q E hr h => ?_)
  · obtain ⟨n, rfl, h2, h4, k⟩ := h
    rfl
  · obtain ⟨n, rfl, h2, h4, k⟩ := h
    refine ⟨_, (pss_one (ps_ret (pe_and (pe_gd Dis_int hr (by decide) (by rfl) (pa_cons (pv 0) pa_nil)) (pe_one (pe_chain op_le op_le (pe_glob (v := .int 2) (by rfl) R.lP.choose_spec ⟨_, rfl⟩) (pv 0) (pe_glob (v := .int 4) (by rfl) R.mP.choose_spec ⟨_, rfl⟩)))))), ?_⟩
    refine ⟨_, rfl, n, rfl, true, rfl, iteT ?_⟩
    refine ⟨_, rfl, _, _, rfl, rfl, _, rfl, ite2 (fun _ => ?_) (fun hz => absurd (decide_eq_true h2) hz)⟩
    refine ⟨_, _, rfl, rfl, ?_⟩
    show Q (.bl (decide (n ≤ 4))) H
    rw [decide_eq_true h4]
    exact k
theorem sc_is_tuple_of : FnScope ["value", "many"] ["value", "many"] (defScope s_is_tuple_of) := ⟨rfl, rfl, rfl, by decide +kernel, rfl, by decide +kernel, by decide +kernel⟩
def spTupOf : Sp := fun vs H Q _ => ∃ (a : Addr) (xs : List V) (n : Int), vs = [.ref a, .int n] ∧ H a = some (.tup xs) ∧ ((xs.length : Nat) : Int) = n ∧ Q (.bl true) H
theorem ok_is_tuple_of (F : FunD K "is_tuple_of" "is_tuple_of" (defArgs s_is_tuple_of) (defBody s_is_tuple_of) (defScope s_is_tuple_of) [] [] f fd) (T : TB mg) : FnOk P w K mg base CX0 1 f fd ["value", "many"] (spTupOf) := by
  refine F.ok sc_is_tuple_of (fun vs H Q E h => ?_) (fun cdv A outer s H vs Q E hr h => ?_)
  · obtain ⟨a, xs, n, rfl, ha, hn, k⟩ := h
    rfl
  · obtain ⟨a, xs, n, rfl, ha, hn, k⟩ := h
    refine ⟨_, (pss_one (ps_ret (pe_and (pe_callB call_isi (by rfl) T.isinstance (by decide +kernel) (pa_cons (pv 0) (pa_cons (pe_bltn (v := .ty "tuple") (by rfl) T.tuple (by decide +kernel) rfl) pa_nil))) (pe_one (pe_cmpR op_eq (pe_callB call_len_seq (by rfl) T.len PySem.boot_len (pa_cons (pv 0) pa_nil)) (pv 1) (nomark _)))))), ?_⟩
    refine ⟨_, rfl, .ref a, _, _, _, true, rfl, .ty "tuple", .base (.tup ha), kit_ty (by decide +kernel), true, rfl, iteT ?_⟩
    refine ⟨_, rfl, a, _, rfl, .inr (SqT.of ha), _, rfl, rfl, ?_⟩
    rw [decide_eq_true (by rw [hn])]
    exact k
theorem sc_is_cut : FnScope ["value"] ["value"] (defScope s_is_cut) := ⟨rfl, rfl, rfl, by decide +kernel, rfl, by decide +kernel, by decide +kernel⟩
def spCut : Sp := fun vs H Q _ => ∃ (a : Addr) (c : Cut), vs = [.ref a] ∧ H a = some (.tup (cutV c)) ∧ okC c ∧ Q (.bl true) H
theorem ok_is_cut (F : FunD K "_is_cut" "_is_cut" (defArgs s_is_cut) (defBody s_is_cut) (defScope s_is_cut) [] [] f fd) (T : TB mg) {fis_tuple_of : Addr} {fdis_tuple_of : FuncData} (Dis_tuple_of : Gd P w K mg base "is_tuple_of" 1 ["value", "many"] (spTupOf) fis_tuple_of fdis_tuple_of) {fis_axis : Addr} {fdis_axis : FuncData} (Dis_axis : Gd P w K mg base "is_axis" 1 ["value"] (spAxis) fis_axis fdis_axis) {fis_parts : Addr} {fdis_parts : FuncData} (Dis_parts : Gd P w K mg base "_is_parts" 2 ["value"] (spParts) fis_parts fdis_parts) : FnOk P w K mg base CX0 3 f fd ["value"] (spCut) := by
  refine F.ok sc_is_cut (fun vs H Q E h => ?_) (fun cdv A outer s H vs Q E hr h => ?_)
  · obtain ⟨a, c, rfl, ha, hc, k⟩ := h
    rfl
  · obtain ⟨a, c, rfl, ha, hc, k⟩ := h
    refine ⟨_, (pss_cons (ps_if (pt_not (pt_val (pe_gd Dis_tuple_of hr (by decide) (by rfl) (pa_cons (pv 0) (pa_cons pe_int pa_nil))))) (pss_one (ps_ret pe_bl)) pss_nil)
      (pss_one (ps_ret (pe_and (pe_gd Dis_axis hr (by decide) (by rfl) (pa_cons (pe_ix ix_seq (pv 0) pe_int (fun _ _ => rfl)) pa_nil)) (pe_one (pe_gd Dis_parts hr (by decide) (by rfl) (pa_cons (pe_ix ix_seq (pv 0) pe_int (fun _ _ => rfl)) pa_nil))))))), ?_⟩
    refine ⟨_, rfl, a, _, 2, rfl, ha, rfl, _, rfl, iteF ?_⟩
    refine ⟨_, rfl, .inr (.inl ⟨a, _, 0, _, rfl, rfl, SqT.of ha, rfl, c.1, rfl, true, rfl, iteT ?_⟩)⟩
    exact ⟨_, rfl, .inr (.inl ⟨a, _, 1, _, rfl, rfl, SqT.of ha, rfl, (c.2 : Int), rfl, by have := hc.1; omega, by have := hc.2; omega, k⟩)⟩
theorem sc_is_list : FnScope ["value"] ["value"] (defScope s_is_list) := ⟨rfl, rfl, rfl, by decide +kernel, rfl, by decide +kernel, by decide +kernel⟩
theorem tyx_seq {K : PySem.W.Frag} {H : Hp} {l : Addr} {xs : List V} (h : SqA K H l xs) : ∃ t, TyX K H (.ref l) (.type t) ∧ (t = "list" ∨ t = "tuple") := by
  rcases h with h | h
  · refine ⟨"list", ?_, .inl rfl⟩
    rcases h with (h | ⟨o, h⟩) | ⟨o, its, n, hk, hc, _⟩
    · exact .base (.lst h)
    · exact .base (.frz h)
    · exact .kList hk hc
  · refine ⟨"tuple", ?_, .inr rfl⟩
    rcases h with (h | ⟨o, h⟩) | ⟨o, its, n, hk, hc, _⟩
    · exact .base (.tup h)
    · exact .fTuple h
    · exact .kTuple hk hc
theorem sq_ext {K : PySem.W.Frag} {H H' : Hp} {l : Addr} {xs : List V} (h : SqA K H l xs) (e : Ext H H') : SqA K H' l xs := by
  rcases h with h | h
  · exact .inl (h.ext e)
  · rcases h with (h | ⟨o, h⟩) | h
    · exact .inr (.inl (.inl (e _ _ h)))
    · exact .inr (.inl (.inr ⟨o, e _ _ h⟩))
    · exact .inr (.inr h)
theorem kit_lt {K : PySem.W.Frag} {t : String} (h : t = "list" ∨ t = "tuple") : PySem.W.kitAny K (.type t) [.type "list", .type "tuple"] = some true := by
  rcases h with rfl | rfl
  · exact kitAny_cons (b := true) (kit_ty (by decide +kernel)) (fun z => nomatch z) (fun _ => rfl)
  · exact kitAny_cons (b := false) (kit_ty (by decide +kernel)) (fun _ => kitAny_cons (b := true) (kit_ty (by decide +kernel)) (fun z => nomatch z) (fun _ => rfl)) (fun z => nomatch z)
theorem ext_put {H H' : Hp} {D : Addr} {o : HO} (e : Ext H H') (h : H D = none) : Ext H (upd H' D o) := fun a u z => by
  rw [upd_ne (ne_of_none z h)]
  exact e _ _ z
theorem rep_put (i : Nat) (x : V) : List.replicate i x ++ [x] = List.replicate (i + 1) x := List.replicate_succ'.symm
theorem all_rep : ∀ n : Nat, (List.replicate n true).all id = true
  | 0 => rfl
  | n + 1 => by rw [List.replicate_succ, List.all_cons, all_rep n]; rfl
theorem lc_yes {σ : L2.St} {H : Hp} {T B : Hp → Prop} (h : T H) : tYes σ H (fun b H3 => if b = true then T H3 else B H3) := by
  show (if true = true then T H else B H)
  rw [if_pos (rfl : true = true)]
  exact h
theorem pd_len {α β : Type} {F : α → β → Prop} : ∀ {l : List α} {m : List β}, Paired F l m → l.length = m.length
  | _, _, .nil => rfl
  | _, _, .cons _ t => by rw [List.length_cons, List.length_cons, pd_len t]
theorem pd_get {α β : Type} {F : α → β → Prop} : ∀ {l : List α} {m : List β}, Paired F l m → ∀ (i : Nat) (a : α), l[i]? = some a → ∃ b, m[i]? = some b ∧ F a b
  | _, _, .nil, i, a, h => by simp at h
  | _, _, .cons r t, 0, a, h => ⟨_, rfl, by cases h; exact r⟩
  | _, _, .cons r t, i + 1, a, h => pd_get t i a h
theorem refs_get {α : Type} {F : Addr → α → Prop} {as : List Addr} {cs : List α} {i : Nat} {x : V} (p : Paired F as cs) (h : (as.map V.ref)[i]? = some x) : ∃ a, x = .ref a ∧ ∃ c, cs[i]? = some c ∧ F a c := by
  rw [List.getElem?_map] at h
  obtain ⟨a, ha, rfl⟩ := Option.map_eq_some_iff.mp h
  obtain ⟨c, h1, h2⟩ := pd_get p i a ha
  exact ⟨a, rfl, c, h1, h2⟩
/-- a round: a list or a tuple of cuts -/
def CutsAt (K : PySem.W.Frag) (H : Hp) (v : V) (cs : List Cut) : Prop := ∃ (l : Addr) (as : List Addr), v = .ref l ∧ SqA K H l (as.map V.ref) ∧ Paired (fun a c => H a = some (.tup (cutV c))) as cs
def spIsList (K : PySem.W.Frag) : Sp := fun vs H Q _ => ∃ (l : Addr) (xs : List V), vs = [.ref l] ∧ SqA K H l xs ∧ ∀ H', Ext H H' → Q (.bl true) H'
theorem ok_is_list (F : FunD K "is_list" "is_list" (defArgs s_is_list) (defBody s_is_list) (defScope s_is_list) [] [] f fd) (T : TB mg) : FnOk P w K mg base CX0 1 f fd ["value"] (spIsList K) := by
  refine F.ok sc_is_list (fun vs H Q E h => ?_) (fun cdv A outer s H vs Q E hr h => ?_)
  · obtain ⟨l, xs, rfl, hl, k⟩ := h
    rfl
  · obtain ⟨l, xs, rfl, hl, k⟩ := h
    refine ⟨_, (pss_one (ps_ret (pe_callB call_isiT (by rfl) T.isinstance (by decide +kernel) (pa_cons (pv 0) (pa_cons (pe_tup (pa_cons (pe_bltn (v := .ty "list") (by rfl) T.list (by decide +kernel) rfl) (pa_cons (pe_bltn (v := .ty "tuple") (by rfl) T.tuple (by decide +kernel) rfl) pa_nil))) pa_nil))))), ?_⟩
    refine ⟨_, rfl, (by show 2 ≤ sizeLine; decide), fun tp htp => ?_⟩
    have e1 : Ext H (upd H tp (.tup [.ty "list", .ty "tuple"])) := Ext.upd htp
    obtain ⟨t, ty, ht⟩ := tyx_seq (sq_ext hl e1)
    exact ⟨.ref l, tp, _, _, _, true, rfl, upd_same, .cons (.ty "list") (.cons (.ty "tuple") .nil), ty, kit_lt ht, k _ e1⟩
theorem sc_is_cuts : FnScope ["value", "cut"] ["value"] (defScope s_is_cuts) := ⟨rfl, rfl, rfl, by decide +kernel, rfl, by decide +kernel, by decide +kernel⟩
def spCuts (K : PySem.W.Frag) : Sp := fun vs H Q _ => ∃ (v : V) (cs : List Cut), vs = [v] ∧ CutsAt K H v cs ∧ 1 ≤ cs.length ∧ cs.length ≤ 5 ∧ (∀ c ∈ cs, okC c) ∧ ∀ H', Ext H H' → Q (.bl true) H'
theorem ok_is_cuts (F : FunD K "_is_cuts" "_is_cuts" (defArgs s_is_cuts) (defBody s_is_cuts) (defScope s_is_cuts) [] [] f fd) (T : TB mg) (R : PlanT K mg C0 aX mc) {fis_list : Addr} {fdis_list : FuncData} (Dis_list : Gd P w K mg base "is_list" 1 ["value"] (spIsList K) fis_list fdis_list) {fis_cut : Addr} {fdis_cut : FuncData} (Dis_cut : Gd P w K mg base "_is_cut" 3 ["value"] (spCut) fis_cut fdis_cut) : FnOk P w K mg base CX0 4 f fd ["value"] (spCuts K) := by
  refine F.ok sc_is_cuts (fun vs H Q E h => ?_) (fun cdv A outer s H vs Q E hr h => ?_)
  · obtain ⟨v, cs, rfl, hv, h1, h5, hc, k⟩ := h
    rfl
  · obtain ⟨v, cs, rfl, hv, h1, h5, hc, k⟩ := h
    refine ⟨_, (pss_cons (ps_if (PW.pt (pw_or (pt_not (pt_val (pe_gd Dis_list hr (by decide) (by rfl) (pa_cons (pv 0) pa_nil)))) (pw_or1 (pt_not (pt_chain op_le op_le pe_int (pe_callB call_len_seq (by rfl) T.len PySem.boot_len (pa_cons (pv 0) pa_nil)) (pe_cval (pe_glob (v := .ref C0) (by rfl) R.mgP rfl))))))) (pss_one (ps_ret pe_bl)) pss_nil)
      (pss_one (ps_ret (pe_callB (cr_all rfl) (by rfl) T.all (by decide +kernel) (pa_cons (pe_lc (own := [("cut", 1)]) (g := gName 1) (tt := tYes) rfl sc_is_cuts.nd (pi_seq (pv 0)) (blkOk_by (own := [("cut", 1)]) (N := ["value", "cut"]) (sc := defScope s_is_cuts) (by decide +kernel)) (fun _ _ _ _ _ => (pg_name (i := 1) sc_is_cuts.nd rfl (.inl rfl))) (fun _ _ _ _ _ => pts_nil) (fun _ _ _ _ _ => (pe_gd Dis_cut hr (by decide) (by rfl) (pa_cons (pv 1) pa_nil)))) pa_nil))))), ?_⟩
    obtain ⟨l, as, rfl, hl, hp⟩ := hv
    have hlen := pd_len hp
    refine ⟨_, rfl, l, _, rfl, hl, fun H1 e1 => ⟨_, rfl, iteF ?_⟩⟩
    have l5 : ((as.map V.ref).length : Int) = (cs.length : Int) := by rw [List.length_map, hlen]
    obtain ⟨uC, hC⟩ := R.cC
    refine ⟨_, rfl, l, _, rfl, sq_ext hl e1, _, _, rfl, rfl, _, rfl, ite2 (fun _ => ?_) (fun hz => absurd (decide_eq_true (by rw [l5]; omega)) hz)⟩
    refine ⟨C0, mc, _, uC, rfl, R.cr, hC, _, _, rfl, rfl, _, rfl, ite2 (fun hz => ?_) (fun _ => ?_)⟩
    · rw [l5] at hz
      have : ¬ ((cs.length : Int) ≤ 5) := by simpa using hz
      omega
    refine ⟨_, rfl, l, _, rfl, sq_ext hl e1, fun J S wj hS D hD => lc_walk wj (fun i H' => H' D = some (.lst (List.replicate i (.bl true))) ∧ Ext H1 H') ⟨upd_same, Ext.upd hD⟩ (fun _ _ p => hS _ p.2) ?_ ?_⟩
    · rintro i x H' hx ⟨hD', e⟩
      obtain ⟨a, ha, c, hci, hac⟩ := refs_get hp hx
      subst ha
      refine ⟨rfl, lc_yes ⟨_, rfl, a, c, rfl, e _ _ (e1 _ _ hac), hc c (List.mem_of_getElem? hci), ?_⟩⟩
      refine ⟨_, hD', ?_, ?_, ext_put e hD⟩
      · rw [List.length_replicate]
        have h6 := (List.getElem?_eq_some_iff.mp hci).1
        exact Nat.lt_of_lt_of_le h6 (Nat.le_trans h5 (by decide))
      · rw [upd_same, rep_put]
    · rintro H' ⟨hD', e⟩
      refine ⟨D, List.replicate cs.length true, rfl, SqL.of ?_, ?_⟩
      · rw [hD', List.map_replicate, List.length_map, hlen]
      · rw [all_rep]
        exact k H' (e1.trans e)
end
end Mc

set_option Elab.async false
set_option linter.all false
set_option maxRecDepth 100000
set_option maxHeartbeats 4000000
namespace Mc
/-! ### the places of a round, as pure lists -/
abbrev Pr := Int × Int
def stepC (p : Pr) (c : Cut) (k : Nat) : Pr := if c.1 then (p.1 * c.2 + k, p.2) else (p.1, p.2 * c.2 + k)
def spread (ps : List Pr) (c : Cut) : List Pr := ps.flatMap fun p => (List.range c.2).map fun k => stepC p c k
def placesF (cs : List Cut) : List Pr := cs.foldl spread [(0, 0)]
theorem placesF_snoc (cs : List Cut) (c : Cut) : placesF (cs ++ [c]) = spread (placesF cs) c := by
  unfold placesF
  rw [List.foldl_append]
  rfl
theorem spread_length (ps : List Pr) (c : Cut) : (spread ps c).length = ps.length * c.2 := by
  unfold spread
  induction ps with
  | nil => simp
  | cons p r ih => rw [List.flatMap_cons, List.length_append, ih, List.length_map, List.length_range, List.length_cons, Nat.succ_mul, Nat.add_comm]
/-- of one turn's columns and rows -/
def colsF : List Cut → Nat
  | [] => 1
  | c :: r => (if c.1 then c.2 else 1) * colsF r
def rowsF : List Cut → Nat
  | [] => 1
  | c :: r => (if c.1 then 1 else c.2) * rowsF r
theorem colsF_snoc (c : Cut) : ∀ cs : List Cut, colsF (cs ++ [c]) = colsF cs * (if c.1 then c.2 else 1)
  | [] => by simp [colsF]
  | d :: r => by
    rw [List.cons_append]
    unfold colsF
    rw [colsF_snoc c r, Nat.mul_assoc]
theorem rowsF_snoc (c : Cut) : ∀ cs : List Cut, rowsF (cs ++ [c]) = rowsF cs * (if c.1 then 1 else c.2)
  | [] => by simp [rowsF]
  | d :: r => by
    rw [List.cons_append]
    unfold rowsF
    rw [rowsF_snoc c r, Nat.mul_assoc]
theorem snoc_ind {P : List Cut → Prop} (h0 : P []) (h1 : ∀ cs c, P cs → P (cs ++ [c])) : ∀ cs, P cs := fun cs => by
  have : ∀ r : List Cut, P r.reverse := fun r => by
    induction r with
    | nil => exact h0
    | cons c r ih => rw [List.reverse_cons]; exact h1 _ _ ih
  have h := this cs.reverse
  rwa [List.reverse_reverse] at h
theorem pos_cols {cs : List Cut} (h : ∀ c ∈ cs, okC c) : 0 < colsF cs ∧ 0 < rowsF cs := by
  induction cs with
  | nil => exact ⟨by decide, by decide⟩
  | cons c r ih =>
    have h1 := h c List.mem_cons_self
    have h2 := ih fun d hd => h d (List.mem_cons_of_mem _ hd)
    unfold colsF rowsF
    refine ⟨Nat.mul_pos ?_ h2.1, Nat.mul_pos ?_ h2.2⟩
    · split
      · exact Nat.lt_of_lt_of_le (by decide) h1.1
      · decide
    · split
      · decide
      · exact Nat.lt_of_lt_of_le (by decide) h1.1
theorem placesF_length (cs : List Cut) : (placesF cs).length = colsF cs * rowsF cs := by
  refine snoc_ind (P := fun cs => (placesF cs).length = colsF cs * rowsF cs) rfl (fun cs c ih => ?_) cs
  rw [placesF_snoc, spread_length, ih, colsF_snoc, rowsF_snoc]
  split
  · rw [Nat.mul_one, Nat.mul_right_comm]
  · rw [Nat.mul_one, Nat.mul_assoc]
/-- every place lies within columns and rows -/
theorem placesF_mem {cs : List Cut} : ∀ p ∈ placesF cs, 0 ≤ p.1 ∧ p.1 < colsF cs ∧ 0 ≤ p.2 ∧ p.2 < rowsF cs := by
  refine snoc_ind (P := fun cs => ∀ p ∈ placesF cs, 0 ≤ p.1 ∧ p.1 < colsF cs ∧ 0 ≤ p.2 ∧ p.2 < rowsF cs) ?_ (fun cs c ih => ?_) cs
  · intro p hp
    rw [List.mem_singleton.mp hp]
    decide
  · intro p hp
    rw [placesF_snoc] at hp
    obtain ⟨q, hq, hp⟩ := List.mem_flatMap.mp hp
    obtain ⟨k, hk, rfl⟩ := List.mem_map.mp hp
    have hk := List.mem_range.mp hk
    obtain ⟨h1, h2, h3, h4⟩ := ih q hq
    rw [colsF_snoc, rowsF_snoc]
    unfold stepC
    have key : ∀ (x : Int) (n m : Nat), 0 ≤ x → x < m → 0 ≤ x * (n : Int) + k ∧ (k < n → x * (n : Int) + k < ((m * n : Nat) : Int)) := fun x n m a b => by
      obtain ⟨y, rfl⟩ := Int.eq_ofNat_of_zero_le a
      have hy : y < m := by omega
      have e : (y : Int) * (n : Int) = ((y * n : Nat) : Int) := (Int.natCast_mul y n).symm
      rw [e]
      refine ⟨by omega, fun c => ?_⟩
      have : y * n + k < m * n := by
        have := Nat.mul_le_mul_right n (show y + 1 ≤ m from hy)
        rw [Nat.succ_mul] at this
        omega
      omega
    split
    · refine ⟨(key _ _ _ h1 h2).1, ?_, h3, by simpa using h4⟩
      exact (key _ _ _ h1 h2).2 hk
    · refine ⟨h1, by simpa using h2, (key _ _ _ h3 h4).1, ?_⟩
      exact (key _ _ _ h3 h4).2 hk
/-- the last place -/
theorem placesF_last (cs : List Cut) (h : ∀ c ∈ cs, okC c) : (placesF cs).getLast? = some (((colsF cs : Nat) : Int) - 1, ((rowsF cs : Nat) : Int) - 1) := by
  revert h
  refine snoc_ind (P := fun cs => (∀ c ∈ cs, okC c) → (placesF cs).getLast? = some (((colsF cs : Nat) : Int) - 1, ((rowsF cs : Nat) : Int) - 1)) (fun _ => rfl) (fun cs c ih h => ?_) cs
  have h0 := ih fun d hd => h d (List.mem_append_left _ hd)
  have hc := h c (List.mem_append_right _ List.mem_cons_self)
  rw [placesF_snoc, colsF_snoc, rowsF_snoc]
  obtain ⟨l, e⟩ : ∃ l, placesF cs = l ++ [(((colsF cs : Nat) : Int) - 1, ((rowsF cs : Nat) : Int) - 1)] := by
    obtain ⟨ne, e⟩ := List.getLast?_eq_some_iff.mp h0
    exact ⟨ne, e⟩
  rw [e]
  unfold spread
  rw [List.flatMap_append, List.flatMap_cons, List.flatMap_nil, List.append_nil]
  obtain ⟨n, hn⟩ : ∃ n, c.2 = n + 1 := ⟨c.2 - 1, by have := hc.1; omega⟩
  rw [hn, List.range_succ, List.map_append, List.map_cons, List.map_nil, ← List.append_assoc, List.getLast?_concat]
  unfold stepC
  have key : ∀ m : Nat, ((m : Int) - 1) * ((n + 1 : Nat) : Int) + (n : Int) = ((m * (n + 1) : Nat) : Int) - 1 := fun m => by
    rw [Int.sub_mul, Int.one_mul, ← Int.natCast_mul]
    omega
  rw [hn]
  split
  · rw [key, Nat.mul_one]
  · rw [key, Nat.mul_one]
end Mc

set_option Elab.async false
set_option linter.all false
set_option maxRecDepth 100000
set_option maxHeartbeats 4000000
set_option exponentiation.threshold 20000
namespace Mc
open PySem PySem.Spec PyProof.Rows L2 ClX StX
section
variable {P : Program} {w : World} {K : PySem.W.Frag} {mg : Str → Option Value} {base : Heap} {f C0 aX : Addr} {mc : Value} {fd : FuncData}
theorem sc_within : FnScope ["place", "axis", "parts", "part", "column", "row"] ["place", "axis", "parts", "part"] (defScope s_within) := ⟨rfl, rfl, rfl, by decide +kernel, rfl, by decide +kernel, by decide +kernel⟩
def spWithin : Sp := fun vs H Q _ => ∃ (a : Addr) (p : Pr) (c : Cut) (k : Nat), vs = [.ref a, .str (axS c.1), .int c.2, .int k] ∧ H a = some (.tup [.int p.1, .int p.2]) ∧ p.1.natAbs < 2 ^ 40 ∧ p.2.natAbs < 2 ^ 40 ∧ c.2 < 2 ^ 40 ∧
  ∀ t, H t = none → Q (.ref t) (upd H t (.tup [.int (stepC p c k).1, .int (stepC p c k).2]))
theorem ok_within (F : FunD K "_within" "_within" (defArgs s_within) (defBody s_within) (defScope s_within) [] [] f fd) (T : TB mg) : FnOk P w K mg base CX0 1 f fd ["place", "axis", "parts", "part"] (spWithin) := by
  refine F.ok sc_within (fun vs H Q E h => ?_) (fun cdv A outer s H vs Q E hr h => ?_)
  · obtain ⟨a, p, c, k, rfl, ha, hx, hy, hc, kk⟩ := h
    rfl
  · obtain ⟨a, p, c, k, rfl, ha, hx, hy, hc, kk⟩ := h
    refine ⟨_, (PSs.nox (pss_cons (ps_asg (pv 0) (pg_tup rfl (pgs_cons (pg_name (i := 4) sc_within.nd rfl (.inl rfl)) (pgs_cons (pg_name (i := 5) sc_within.nd rfl (.inl rfl)) pgs_nil))))
      (pss_cons (ps_if (pt_cmpR op_eq (pv 1) pe_str (nomark _)) (pss_one (ps_ret (pe_tup (pa_cons (pe_op op_add (pe_op op_mulW (pv 4) (pv 2)) (pv 3)) (pa_cons (pv 5) pa_nil))))) pss_nil)
      (pss_one (ps_ret (pe_tup (pa_cons (pv 4) (pa_cons (pe_op op_add (pe_op op_mulW (pv 5) (pv 2)) (pv 3)) pa_nil)))))))), ?_⟩
    have hc2 : ((c.2 : Int)).natAbs < 2 ^ 40 := by simpa using hc
    refine ⟨_, rfl, a, _, rfl, SqT.of ha, rfl, _, _, rfl, _, _, rfl, rfl, ?_⟩
    refine ⟨_, rfl, rfl, _, rfl, ?_⟩
    have e1 : decide (V.str (axS c.1) = V.str "east") = c.1 := by
      cases c.1 <;> decide +kernel
    rw [e1]
    unfold stepC at kk
    cases h : c.1
    · rw [h] at kk
      refine iteF ⟨_, rfl, _, rfl, _, rfl, _, _, rfl, rfl, mulW hy hc2, _, rfl, _, _, rfl, rfl, (by show 2 ≤ sizeLine; decide), fun t ht => ?_⟩
      exact kk t ht
    · rw [h] at kk
      refine iteT ⟨_, rfl, _, rfl, _, _, rfl, rfl, mulW hx hc2, _, rfl, _, _, rfl, rfl, _, rfl, (by show 2 ≤ sizeLine; decide), fun t ht => ?_⟩
      exact kk t ht
theorem sc_places_of : FnScope ["cuts", "places", "axis", "parts", "place", "part"] ["cuts"] (defScope s_places_of) := ⟨rfl, rfl, rfl, by decide +kernel, rfl, by decide +kernel, by decide +kernel⟩
theorem none_of {H H' : Hp} {a : Addr} (e : Ext H H') (h : H' a = none) : H a = none := by
  cases q : H a with
  | none => rfl
  | some o =>
    rw [e a o q] at h
    cases h
theorem take_snoc {α : Type} {l : List α} {i : Nat} {x : α} (h : l[i]? = some x) : l.take (i + 1) = l.take i ++ [x] := by
  rw [List.take_add_one, h]
  rfl
theorem placesF_len {cs : List Cut} : (∀ c ∈ cs, okC c) → (placesF cs).length ≤ 4 ^ cs.length := by
  refine snoc_ind (P := fun cs => (∀ c ∈ cs, okC c) → (placesF cs).length ≤ 4 ^ cs.length) (fun _ => by decide) (fun cs c ih h => ?_) cs
  have h0 := ih fun d hd => h d (List.mem_append_left _ hd)
  have hc := (h c (List.mem_append_right _ List.mem_cons_self)).2
  rw [placesF_snoc, spread_length, List.length_append, List.length_singleton, Nat.pow_succ]
  exact Nat.mul_le_mul h0 hc
theorem cols_le {cs : List Cut} (h : ∀ c ∈ cs, okC c) (l : cs.length ≤ 5) : colsF cs ≤ 1024 ∧ rowsF cs ≤ 1024 := by
  have h1 := placesF_len h
  rw [placesF_length] at h1
  have h2 : 4 ^ cs.length ≤ 1024 := Nat.le_trans (Nat.pow_le_pow_right (by decide) l) (by decide)
  have h3 := pos_cols h
  have h4 : colsF cs * rowsF cs ≤ 1024 := Nat.le_trans h1 h2
  exact ⟨Nat.le_trans (Nat.le_mul_of_pos_right _ h3.2) h4, Nat.le_trans (Nat.le_mul_of_pos_left _ h3.1) h4⟩
theorem spread_snoc (ps : List Pr) (p : Pr) (c : Cut) : spread (ps ++ [p]) c = spread ps c ++ (List.range c.2).map fun k => stepC p c k := by
  unfold spread
  rw [List.flatMap_append, List.flatMap_cons, List.flatMap_nil, List.append_nil]
theorem pd_imp {α β : Type} {F G : α → β → Prop} (h : ∀ a b, F a b → G a b) : ∀ {l : List α} {m : List β}, Paired F l m → Paired G l m
  | _, _, .nil => .nil
  | _, _, .cons r t => .cons (h _ _ r) (pd_imp h t)
theorem pd_snoc {α β : Type} {F : α → β → Prop} : ∀ {l : List α} {m : List β} {a : α} {b : β}, Paired F l m → F a b → Paired F (l ++ [a]) (m ++ [b])
  | _, _, _, _, .nil, h => .cons h .nil
  | _, _, _, _, .cons r t, h => .cons r (pd_snoc t h)
/-- a list of pairs of whole numbers -/
def PairsAt (H : Hp) (l : Addr) (ps : List Pr) : Prop := ∃ as : List Addr, H l = some (.lst (as.map V.ref)) ∧ Paired (fun a (p : Pr) => H a = some (.tup [.int p.1, .int p.2])) as ps
def spPlaces (K : PySem.W.Frag) : Sp := fun vs H Q _ => ∃ (v : V) (cs : List Cut), vs = [v] ∧ CutsAt K H v cs ∧ cs.length ≤ 5 ∧ (∀ c ∈ cs, okC c) ∧ ∀ l H', Ext H H' → H l = none → PairsAt H' l (placesF cs) → Q (.ref l) H'
theorem ok_places_of (F : FunD K "_places_of" "_places_of" (defArgs s_places_of) (defBody s_places_of) (defScope s_places_of) [] [] f fd) (T : TB mg) {fwithin : Addr} {fdwithin : FuncData} (Dwithin : Gd P w K mg base "_within" 1 ["place", "axis", "parts", "part"] (spWithin) fwithin fdwithin) : FnOk P w K mg base CX0 2 f fd ["cuts"] (spPlaces K) := by
  refine F.ok sc_places_of (fun vs H Q E h => ?_) (fun cdv A outer s H vs Q E hr h => ?_)
  · obtain ⟨v, cs, rfl, hv, h5, hc, k⟩ := h
    rfl
  · obtain ⟨v, cs, rfl, hv, h5, hc, k⟩ := h
    refine ⟨_, (PSs.nox (pss_cons (ps_set (i := 1) sc_places_of.nd rfl (.inl rfl) (pe_lst (pa_cons (pe_tup (pa_cons pe_int (pa_cons pe_int pa_nil))) pa_nil)))
      (pss_cons (ps_for PassesOwn.never rfl (pi_seq (pv 0)) (pg_tup rfl (pgs_cons (pg_name (i := 2) sc_places_of.nd rfl (.inr rfl)) (pgs_cons (pg_name (i := 3) sc_places_of.nd rfl (.inr rfl)) pgs_nil))) (pss_one (ps_setLc2 (i := 1) (own := [("place", 4), ("part", 5)]) (g := gName 4) (g1 := gName 5) (vs1 := [5]) (tt := tYes) (tt1 := tYes) rfl sc_places_of.nd rfl rfl (sw_true rfl rfl rfl (by decide +kernel)) (pi_list (pv 1)) (blkOk_by (own := [("place", 4), ("part", 5)]) (N := ["cuts", "places", "axis", "parts", "place", "part"]) (sc := defScope s_places_of) (by decide +kernel)) (by decide) (fun _ _ _ _ _ => (pg_name (i := 4) sc_places_of.nd rfl (.inl rfl))) (fun _ _ _ _ _ => pts_nil) (fun _ _ _ _ _ => (pi_range1 (by rfl) T.range (pa_cons (pv 3) pa_nil))) (fun _ _ _ _ _ => (pg_name (i := 5) sc_places_of.nd rfl (.inl rfl))) (fun _ _ _ _ _ => pts_nil) (fun _ _ _ _ _ => (pe_gd Dwithin hr (by decide) (by rfl) (pa_cons (pv 4) (pa_cons (pv 2) (pa_cons (pv 3) (pa_cons (pv 5) pa_nil)))))))))
      (pss_one (ps_ret (pv 1)))))), ?_⟩
    obtain ⟨l, as, rfl, hl, hp⟩ := hv
    have hlen := pd_len hp
    refine ⟨(by show 2 ≤ sizeLine; decide), fun t ht => ⟨(by show 1 ≤ sizeLine; decide), fun l0 hl0 => ?_⟩⟩
    have e0 : Ext H (upd (upd H t (.tup [.int 0, .int 0])) l0 (.lst [.ref t])) := (Ext.upd ht).trans (Ext.upd hl0)
    have p0 : PairsAt (upd (upd H t (.tup [.int 0, .int 0])) l0 (.lst [.ref t])) l0 (placesF []) := ⟨[t], upd_same, .cons (Ext.upd hl0 _ _ upd_same) .nil⟩
    have n0 : H l0 = none := none_of (Ext.upd ht) hl0
    generalize upd (upd H t (.tup [.int 0, .int 0])) l0 (.lst [.ref t]) = H2 at *
    refine ⟨_, rfl, l, _, rfl, sq_ext hl e0, fun J S wj hS => for_walk wj (fun i σ H' => ∃ u w1 l1, σ = [some (.ref l), some (.ref l1), u, w1, none, none] ∧ Ext H2 H' ∧ H l1 = none ∧ PairsAt H' l1 (placesF (cs.take i))) ⟨none, none, l0, rfl, Ext.rfl', n0, p0⟩ (fun _ _ _ ⟨_, _, _, _, e, _⟩ => hS _ e) ?_ ?_⟩
    · rintro i x σ H' hx ⟨u, w1, l1, rfl, e1, n1, as1, g1, q1⟩
      obtain ⟨a, rfl, c, hci, hac⟩ := refs_get hp hx
      have hc' := hc c (List.mem_of_getElem? hci)
      have ha : H' a = some (.tup (cutV c)) := e1 _ _ (e0 _ _ hac)
      have okt : ∀ d ∈ cs.take i, okC d := fun d hd => hc d (List.mem_of_mem_take hd)
      have len5 : (cs.take i).length ≤ 4 := by
        have h6 := (List.getElem?_eq_some_iff.mp hci).1
        rw [List.length_take]
        omega
      have lenp := placesF_len okt
      have l256 : (placesF (cs.take i)).length ≤ 256 := Nat.le_trans lenp (Nat.pow_le_pow_right (by decide) len5)
      refine ⟨a, _, rfl, SqT.of ha, rfl, _, _, rfl, _, _, rfl, rfl, ?_⟩
      refine ⟨_, rfl, l1, rfl, ⟨_, SqL.of g1⟩, fun D hD => lc2_walk walk_l (fun i2 H3 => ∃ ds : List Addr, H3 D = some (.lst (ds.map V.ref)) ∧ Paired (fun a (p : Pr) => H3 a = some (.tup [.int p.1, .int p.2])) ds (spread ((placesF (cs.take i)).take i2) c) ∧ Ext H' H3) ⟨[], upd_same, .nil, Ext.upd hD⟩ (fun _ _ ⟨_, _, _, e⟩ => SqL.of (e _ _ g1)) ?_ ?_⟩
      · rintro i2 x H3 hx2 ⟨ds, d1, d2, d3⟩
        obtain ⟨ap, rfl, p, hpi, hap⟩ := refs_get q1 hx2
        have hpm := placesF_mem p (List.mem_of_getElem? hpi)
        have c256 : colsF (cs.take i) ≤ 1024 ∧ rowsF (cs.take i) ≤ 1024 := cols_le okt (Nat.le_trans len5 (by decide))
        have i256 : i2 < 256 := Nat.lt_of_lt_of_le (List.getElem?_eq_some_iff.mp hpi).1 l256
        have hc4 := hc'.2
        refine ⟨rfl, lc_yes ⟨_, rfl, (c.2 : Int), rfl, by omega, by omega, lc_inner (walk_r (lo := 0)) (fun j H4 => ∃ ds : List Addr, H4 D = some (.lst (ds.map V.ref)) ∧ Paired (fun a (p : Pr) => H4 a = some (.tup [.int p.1, .int p.2])) ds (spread ((placesF (cs.take i)).take i2) c ++ (List.range j).map fun k => stepC p c k) ∧ Ext H' H4) ⟨ds, d1, by simpa using d2, d3⟩ (fun _ _ _ => trivial) ?_ ?_⟩⟩
        · rintro j x H4 hx4 ⟨ds4, f1, f2, f3⟩
          have hj : j < c.2 := by
            have := (List.getElem?_eq_some_iff.mp hx4).1
            simpa using this
          have hx5 : x = .int (j : Nat) := by
            rw [List.getElem?_map, List.getElem?_range (by simpa using hj)] at hx4
            have := Option.some.inj hx4
            rw [← this]
            show V.int (0 + (j : Int)) = V.int (j : Int)
            rw [Int.zero_add]
          subst hx5
          have hap4 : H4 ap = some (.tup [.int p.1, .int p.2]) := f3 _ _ hap
          refine ⟨rfl, lc_yes ⟨_, rfl, _, rfl, _, rfl, _, rfl, ap, p, c, j, rfl, hap4, by omega, by omega, by omega, fun tt htt => ?_⟩⟩
          have hDt : D ≠ tt := fun z => by
            rw [← z, f1] at htt
            cases htt
          refine ⟨_, by rw [upd_ne hDt]; exact f1, ?_, ds4 ++ [tt], ?_, ?_, ?_⟩
          · rw [List.length_map, pd_len f2, List.length_append, spread_length, List.length_take, List.length_map, List.length_range, sizeLine_eq]
            have h1 : min i2 (placesF (cs.take i)).length * c.2 ≤ 256 * 4 := Nat.mul_le_mul (by omega) hc4
            omega
          · rw [upd_same, List.map_append]
            rfl
          · rw [List.range_succ, List.map_append, ← List.append_assoc]
            refine pd_snoc (pd_imp (fun a q hq => ?_) f2) ?_
            · rw [upd_ne (fun z => by rw [z, f1] at hq; cases hq), upd_ne (ne_of_none hq htt)]
              exact hq
            · rw [upd_ne (Ne.symm hDt), upd_same]
          · exact ext_put (f3.trans (Ext.upd htt)) hD
        · rintro H4 ⟨ds4, f1, f2, f3⟩
          refine ⟨ds4, f1, ?_, f3⟩
          rw [take_snoc hpi, spread_snoc]
          have e5 : (List.map (fun k : Nat => V.int (0 + (k : Int))) (List.range ((c.2 : Int)).toNat)).length = c.2 := by simp
          rw [e5] at f2
          exact f2
      · rintro H3 ⟨ds, d1, d2, d3⟩
        refine ⟨_, _, D, rfl, e1.trans d3, none_of (e0.trans e1) hD, ds, d1, ?_⟩
        rw [List.length_map, pd_len q1, List.take_length] at d2
        rw [take_snoc hci, placesF_snoc]
        exact d2
    · rintro σ H' ⟨u, w1, l1, rfl, e1, n1, pr⟩
      rw [List.length_map, hlen, List.take_length] at pr
      exact ⟨_, rfl, k l1 H' (e0.trans e1) n1 pr⟩
end
end Mc

set_option Elab.async false
set_option linter.all false
set_option maxRecDepth 100000
set_option maxHeartbeats 4000000
set_option exponentiation.threshold 20000
namespace Mc
open PySem PySem.Spec PyProof.Rows L2 ClX StX
section
variable {P : Program} {w : World} {K : PySem.W.Frag} {mg : Str → Option Value} {base : Heap} {f C0 aX : Addr} {mc : Value} {fd : FuncData}
theorem sc_parts_of : FnScope ["cuts", "columns", "rows"] ["cuts"] (defScope s_parts_of) := ⟨rfl, rfl, rfl, by decide +kernel, rfl, by decide +kernel, by decide +kernel⟩
theorem pd_last {α β : Type} {F : α → β → Prop} : ∀ {l : List α} {m : List β} {b : β}, Paired F l m → m.getLast? = some b → ∃ a, F a b ∧ l.getLast? = some a
  | _, _, _, .nil, h => by simp at h
  | [a], _, b, .cons r .nil, h => ⟨a, by simp at h; subst h; exact r, rfl⟩
  | a :: a2 :: l, _ :: b2 :: m, b, .cons r (.cons r2 t), h => by
    rw [List.getLast?_cons_cons] at h
    obtain ⟨x, h1, h2⟩ := pd_last (.cons r2 t) h
    exact ⟨x, h1, by rw [List.getLast?_cons_cons]; exact h2⟩
theorem atI_lastM {as : List Addr} {a : Addr} (h : as.getLast? = some a) : atI (as.map V.ref) (-1) = some (.ref a) := by
  obtain ⟨l, rfl⟩ := List.getLast?_eq_some_iff.mp h
  rw [List.map_append]
  exact atI_last _ _
def spPartsOf (K : PySem.W.Frag) : Sp := fun vs H Q _ => ∃ (v : V) (cs : List Cut), vs = [v] ∧ CutsAt K H v cs ∧ cs.length ≤ 5 ∧ (∀ c ∈ cs, okC c) ∧ ∀ t H', Ext H H' → H t = none → H' t = some (.tup [.int (colsF cs), .int (rowsF cs)]) → Q (.ref t) H'
theorem ok_parts_of (F : FunD K "_parts_of" "_parts_of" (defArgs s_parts_of) (defBody s_parts_of) (defScope s_parts_of) [] [] f fd) (T : TB mg) {fplaces_of : Addr} {fdplaces_of : FuncData} (Dplaces_of : Gd P w K mg base "_places_of" 2 ["cuts"] (spPlaces K) fplaces_of fdplaces_of) : FnOk P w K mg base CX0 3 f fd ["cuts"] (spPartsOf K) := by
  refine F.ok sc_parts_of (fun vs H Q E h => ?_) (fun cdv A outer s H vs Q E hr h => ?_)
  · obtain ⟨v, cs, rfl, hv, h5, hc, k⟩ := h
    rfl
  · obtain ⟨v, cs, rfl, hv, h5, hc, k⟩ := h
    refine ⟨_, (PSs.nox (pss_cons (ps_asg (pe_ix ix_seq (pe_gd Dplaces_of hr (by decide) (by rfl) (pa_cons (pv 0) pa_nil)) (pe_un un_neg pe_int) (fun _ _ => rfl)) (pg_tup rfl (pgs_cons (pg_name (i := 1) sc_parts_of.nd rfl (.inl rfl)) (pgs_cons (pg_name (i := 2) sc_parts_of.nd rfl (.inl rfl)) pgs_nil))))
      (pss_one (ps_ret (pe_tup (pa_cons (pe_op op_add (pv 1) pe_int) (pa_cons (pe_op op_add (pv 2) pe_int) pa_nil))))))), ?_⟩
    refine ⟨_, rfl, v, cs, rfl, hv, h5, hc, fun l H1 e1 _ ⟨as, g1, q1⟩ => ?_⟩
    obtain ⟨a, ha, hl⟩ := pd_last q1 (placesF_last cs hc)
    refine ⟨_, rfl, .inl ⟨l, _, -1, _, rfl, rfl, SqL.of g1, atI_lastM hl, a, _, rfl, SqT.of ha, rfl, _, _, rfl, _, _, rfl, rfl, ?_⟩⟩
    refine ⟨_, rfl, _, _, rfl, rfl, _, rfl, _, _, rfl, rfl, (by show 2 ≤ sizeLine; decide), fun t ht => ?_⟩
    refine k t _ (e1.trans (Ext.upd ht)) (none_of e1 ht) ?_
    rw [upd_same]
    show some (HO.tup [.int ((colsF cs : Int) - 1 + 1), .int ((rowsF cs : Int) - 1 + 1)]) = _
    rw [Int.sub_add_cancel, Int.sub_add_cancel]
theorem sc_multiplied : FnScope ["all_parts", "all_columns", "all_rows", "columns", "rows"] ["all_parts"] (defScope s_multiplied) := ⟨rfl, rfl, rfl, by decide +kernel, rfl, by decide +kernel, by decide +kernel⟩
def mulF (ps : List Pr) : Pr := ps.foldl (fun q p => (q.1 * p.1, q.2 * p.2)) (1, 1)
theorem mul_bits {x y : Int} {i : Nat} (h : x.natAbs ≤ 2 ^ (16 * i)) (hy : y.natAbs < 2 ^ 16) : (x * y).natAbs ≤ 2 ^ (16 * (i + 1)) := by
  rw [Int.natAbs_mul, Nat.mul_add, Nat.pow_add]
  exact Nat.mul_le_mul h (Nat.le_of_lt hy)
def spMul (K : PySem.W.Frag) : Sp := fun vs H Q _ => ∃ (l : Addr) (as : List Addr) (ps : List Pr), vs = [.ref l] ∧ SqA K H l (as.map V.ref) ∧ Paired (fun a (p : Pr) => H a = some (.tup [.int p.1, .int p.2])) as ps ∧ ps.length ≤ 1000 ∧ (∀ p ∈ ps, p.1.natAbs < 2 ^ 16 ∧ p.2.natAbs < 2 ^ 16) ∧
  ∀ t H', Ext H H' → H' t = some (.tup [.int (mulF ps).1, .int (mulF ps).2]) → Q (.ref t) H'
theorem ok_multiplied (F : FunD K "_multiplied" "_multiplied" (defArgs s_multiplied) (defBody s_multiplied) (defScope s_multiplied) [] [] f fd) (T : TB mg) : FnOk P w K mg base CX0 1 f fd ["all_parts"] (spMul K) := by
  refine F.ok sc_multiplied (fun vs H Q E h => ?_) (fun cdv A outer s H vs Q E hr h => ?_)
  · obtain ⟨l, as, ps, rfl, hl, hp, h3, hb, k⟩ := h
    rfl
  · obtain ⟨l, as, ps, rfl, hl, hp, h3, hb, k⟩ := h
    refine ⟨_, (PSs.nox (pss_cons (ps_set (i := 1) sc_multiplied.nd rfl (.inl rfl) pe_int)
      (pss_cons (ps_set (i := 2) sc_multiplied.nd rfl (.inl rfl) pe_int)
      (pss_cons (ps_for PassesOwn.never rfl (pi_seq (pv 0)) (pg_tup rfl (pgs_cons (pg_name (i := 3) sc_multiplied.nd rfl (.inl rfl)) (pgs_cons (pg_name (i := 4) sc_multiplied.nd rfl (.inl rfl)) pgs_nil))) (pss_cons (ps_set (i := 1) sc_multiplied.nd rfl (.inl rfl) (pe_op op_mulW (pv 1) (pv 3)))
      (pss_one (ps_set (i := 2) sc_multiplied.nd rfl (.inl rfl) (pe_op op_mulW (pv 2) (pv 4))))))
      (pss_one (ps_ret (pe_tup (pa_cons (pv 1) (pa_cons (pv 2) pa_nil))))))))), ?_⟩
    have hlen := pd_len hp
    refine ⟨_, rfl, l, _, rfl, hl, fun J S wj hS => for_walk wj (fun i σ H' => ∃ u w1 q, σ = [some (.ref l), some (.int (mulF (ps.take i)).1), some (.int (mulF (ps.take i)).2), u, w1] ∧ H' = H ∧ q = i ∧ (mulF (ps.take i)).1.natAbs ≤ 2 ^ (16 * i) ∧ (mulF (ps.take i)).2.natAbs ≤ 2 ^ (16 * i)) ⟨none, none, 0, rfl, rfl, rfl, Nat.le_refl 1, Nat.le_refl 1⟩ (fun _ _ _ ⟨_, _, _, _, e, _⟩ => hS _ (by rw [e]; exact Ext.rfl')) ?_ ?_⟩
    · rintro i x σ H' hx ⟨u, w1, q, rfl, rfl, _, b1, b2⟩
      obtain ⟨a, rfl, p, hpi, ha⟩ := refs_get hp hx
      have hi : i < 1000 := Nat.lt_of_lt_of_le (List.getElem?_eq_some_iff.mp hpi).1 h3
      obtain ⟨hp1, hp2⟩ := hb p (List.mem_of_getElem? hpi)
      have up : ∀ z : Int, z.natAbs ≤ 2 ^ (16 * i) → z.natAbs < 2 ^ 16000 := fun z h => Nat.lt_of_le_of_lt h (Nat.pow_lt_pow_right (by decide) (by omega))
      refine ⟨a, _, rfl, SqT.of ha, rfl, _, _, rfl, _, _, rfl, rfl, ?_⟩
      refine ⟨_, rfl, _, rfl, _, _, rfl, rfl, mulW (up _ b1) hp1, ?_⟩
      refine ⟨_, rfl, _, rfl, _, _, rfl, rfl, mulW (up _ b2) hp2, ?_⟩
      have e : mulF (ps.take (i + 1)) = ((mulF (ps.take i)).1 * p.1, (mulF (ps.take i)).2 * p.2) := by
        rw [take_snoc hpi]
        unfold mulF
        rw [List.foldl_append]
        rfl
      refine ⟨some (.int p.1), some (.int p.2), i + 1, ?_, rfl, rfl, ?_, ?_⟩
      · rw [e]
        rfl
      · rw [e]
        exact mul_bits b1 hp1
      · rw [e]
        exact mul_bits b2 hp2
    · rintro σ H' ⟨u, w1, q, rfl, rfl, _, b1, b2⟩
      rw [List.length_map, hlen, List.take_length]
      exact ⟨_, rfl, _, rfl, (by show 2 ≤ sizeLine; decide), fun t ht => k t _ (Ext.upd ht) upd_same⟩
theorem sc_power : FnScope ["base", "exponent", "worth", "_"] ["base", "exponent"] (defScope s_power) := ⟨rfl, rfl, rfl, by decide +kernel, rfl, by decide +kernel, by decide +kernel⟩
def spPower : Sp := fun vs H Q _ => ∃ (b : Int) (n : Nat), vs = [.int b, .int n] ∧ b.natAbs < 2 ^ 16 ∧ n ≤ 1000 ∧ Q (.int (b ^ n)) H
theorem ok_power (F : FunD K "_power" "_power" (defArgs s_power) (defBody s_power) (defScope s_power) [] [] f fd) (T : TB mg) : FnOk P w K mg base CX0 1 f fd ["base", "exponent"] (spPower) := by
  refine F.ok sc_power (fun vs H Q E h => ?_) (fun cdv A outer s H vs Q E hr h => ?_)
  · obtain ⟨b, n, rfl, hb, hn, k⟩ := h
    rfl
  · obtain ⟨b, n, rfl, hb, hn, k⟩ := h
    refine ⟨_, (PSs.nox (pss_cons (ps_set (i := 2) sc_power.nd rfl (.inl rfl) pe_int)
      (pss_cons (ps_for PassesOwn.never rfl (pi_range1 (by rfl) T.range (pa_cons (pv 1) pa_nil)) (pg_name (i := 3) sc_power.nd rfl (.inl rfl)) (pss_one (ps_set (i := 2) sc_power.nd rfl (.inl rfl) (pe_op op_mulW (pv 2) (pv 0)))))
      (pss_one (ps_ret (pv 2)))))), ?_⟩
    refine ⟨_, rfl, (n : Int), rfl, by omega, by omega, for_walk (walk_r (lo := 0)) (fun i σ H' => ∃ u, σ = [some (.int b), some (.int n), some (.int (b ^ i)), u] ∧ H' = H ∧ (b ^ i).natAbs ≤ 2 ^ (16 * i)) ⟨none, by rw [Int.pow_zero]; rfl, rfl, by rw [Int.pow_zero]; exact Nat.le_refl 1⟩ (fun _ _ _ _ => trivial) ?_ ?_⟩
    · rintro i x σ H' hx ⟨u, rfl, rfl, h1⟩
      have hi : i < n := by
        have := (List.getElem?_eq_some_iff.mp hx).1
        simpa using this
      have hx5 : x = .int (0 + (i : Nat)) := by
        rw [List.getElem?_map, List.getElem?_range (by simpa using hi)] at hx
        exact (Option.some.inj hx).symm
      subst hx5
      refine ⟨_, rfl, _, rfl, _, _, rfl, rfl, mulW (Nat.lt_of_le_of_lt h1 (Nat.pow_lt_pow_right (a := 2) (n := 16001) (by decide) (by omega))) hb, ?_⟩
      refine ⟨some (.int (0 + (i : Nat))), ?_, rfl, ?_⟩
      · rw [Int.pow_succ]
        rfl
      · rw [Int.pow_succ]
        exact mul_bits h1 hb
    · rintro σ H' ⟨u, rfl, rfl, h1⟩
      have e : (List.map (fun k : Nat => V.int (0 + (k : Int))) (List.range ((n : Int)).toNat)).length = n := by simp
      rw [e]
      exact ⟨_, rfl, k⟩
end
end Mc

set_option Elab.async false
set_option linter.all false
set_option maxRecDepth 100000
set_option maxHeartbeats 4000000
set_option exponentiation.threshold 20000
namespace Mc
open PySem PySem.Spec PyProof.Rows L2 ClX StX
section
variable {P : Program} {w : World} {K : PySem.W.Frag} {mg : Str → Option Value} {base : Heap} {f C0 aX : Addr} {mc : Value} {fd : FuncData}
theorem sc_plain_cuts : FnScope ["cuts", "axis", "parts"] ["cuts"] (defScope s_plain_cuts) := ⟨rfl, rfl, rfl, by decide +kernel, rfl, by decide +kernel, by decide +kernel⟩
def CutsL (H : Hp) (l : Addr) (cs : List Cut) : Prop := ∃ as : List Addr, H l = some (.lst (as.map V.ref)) ∧ Paired (fun a c => H a = some (.tup (cutV c))) as cs
theorem pe_bmK {X : Cx} {K : PySem.W.Frag} {T id : String} {name : Str} {r : V → List V → Hp → VK → Prop} {o e : Expr} {es : List Expr} {to : TE} {t : TA} {apos cpos : Pos} (hK : X.K = K) (pa : PlainAttrs T) (slot : Slot T name id) (hty : typeOf (.builtin id) = pure (.type "method_descriptor")) (hm : MtR X id r) (ho : PE X o to) (ha : PA X (e :: es) t) (hbase : attributeBase o name X.env (eval o X.env) = eval o X.env := by rfl) (hfew : ((backTo cpos (starEach (e :: es) X.env)).all (fun x => !x.1) && (backToKw cpos (keywordEach [] X.env)).all (fun x => x.1.isSome) && decide ((e :: es).length + ([] : List Keyword).length + (if ([] : List Keyword).isEmpty then 0 else 1) < 30)) = true := by rfl) (hline : (apos.endLine == cpos.line) = true := by rfl) (hs : starEach (e :: es) X.env = (false, eval e X.env) :: starEach es X.env := by rfl) (hplain : (backTo cpos (starEach es X.env)).any (·.1) = false := by rfl) :
    PE X (.Call (.Attribute o name apos) (e :: es) [] cpos) (tBM K T r to t) := by
  subst hK
  exact pe_bm pa slot hty hm ho ha hbase hfew hline hs hplain
theorem ix_seqK {X : Cx} {K : PySem.W.Frag} (hK : X.K = K) : IxR X (rIx K) := by
  subst hK
  exact ix_seq
def rTupIx (K : PySem.W.Frag) : V → List V → Hp → VK → Prop := fun x xs H Q => ∃ p, ∃ ys : List Str, ∃ z j, x = .ref p ∧ xs = [.str z] ∧ SqT K H p (ys.map V.str) ∧ ys[j]? = some z ∧ (∀ m, m < j → ys[m]? ≠ some z) ∧ Q (.int (j : Nat)) H
theorem mt_tupK {X : Cx} {K : PySem.W.Frag} (hK : X.K = K) : MtR X "tuple.index" (rTupIx K) := by
  subst hK
  exact mt_tup_index
def axI (b : Bool) : Nat := if b then 0 else 1
theorem ax_first (b : Bool) : ∀ m, m < axI b → (["east", "north"] : List Str)[m]? ≠ some (axS b) := by
  intro m hm
  cases b with
  | true => exact absurd hm (Nat.not_lt_zero m)
  | false =>
    have e : m = 0 := by
      have : m < 1 := hm
      omega
    subst e
    decide +kernel
def spPlain (K : PySem.W.Frag) : Sp := fun vs H Q _ => ∃ (v : V) (cs : List Cut), vs = [v] ∧ CutsAt K H v cs ∧ cs.length ≤ 5 ∧ (∀ c ∈ cs, okC c) ∧ ∀ l H', Ext H H' → H l = none → CutsL H' l cs → Q (.ref l) H'
theorem ok_plain_cuts (F : FunD K "_plain_cuts" "_plain_cuts" (defArgs s_plain_cuts) (defBody s_plain_cuts) (defScope s_plain_cuts) [] [] f fd) (T : TB mg) (R : PlanT K mg C0 aX mc) : FnOk P w K mg base CX0 1 f fd ["cuts"] (spPlain K) := by
  refine F.ok sc_plain_cuts (fun vs H Q E h => ?_) (fun cdv A outer s H vs Q E hr h => ?_)
  · obtain ⟨v, cs, rfl, hv, h5, hc, k⟩ := h
    rfl
  · obtain ⟨v, cs, rfl, hv, h5, hc, k⟩ := h
    refine ⟨_, (PSs.nox (pss_one (ps_ret (pe_lc (own := [("axis", 1), ("parts", 2)]) (g := gTup K 2 (gCons (gName 1) (gCons (gName 2) gNil))) (tt := tYes) rfl sc_plain_cuts.nd (pi_seq (pv 0)) (blkOk_by (own := [("axis", 1), ("parts", 2)]) (N := ["cuts", "axis", "parts"]) (sc := defScope s_plain_cuts) (by decide +kernel)) (fun _ _ _ _ _ => (pg_tup rfl (pgs_cons (pg_name (i := 1) sc_plain_cuts.nd rfl (.inl rfl)) (pgs_cons (pg_name (i := 2) sc_plain_cuts.nd rfl (.inl rfl)) pgs_nil)))) (fun _ _ _ _ _ => pts_nil) (fun _ _ _ _ _ => (pe_tup (pa_cons (pe_ix (ix_seqK (K := K) rfl) (pe_glob (v := .ref aX) (by rfl) R.ax rfl) (pe_bmK (K := K) rfl PySem.F.plainAttrs_tuple PySem.F.slot_tuple_index PySem.F.type_tuple_index (mt_tupK rfl) (pe_glob (v := .ref aX) (by rfl) R.ax rfl) (pa_cons (pv 1) pa_nil)) (fun _ _ => rfl)) (pa_cons (pe_callTy call_int1 (by rfl) T.int (by decide +kernel) (pa_cons (pv 2) pa_nil)) pa_nil)))))))), ?_⟩
    obtain ⟨l, as, rfl, hl, hp⟩ := hv
    have hlen := pd_len hp
    refine ⟨_, rfl, l, _, rfl, hl, fun J S wj hS D hD => lc_walk wj (fun i H' => ∃ ds : List Addr, H' D = some (.lst (ds.map V.ref)) ∧ Paired (fun a c => H' a = some (.tup (cutV c))) ds (cs.take i) ∧ Ext H H') ⟨[], upd_same, .nil, Ext.upd hD⟩ (fun _ _ ⟨_, _, _, e⟩ => hS _ e) ?_ ?_⟩
    · rintro i x H' hx ⟨ds, d1, d2, e⟩
      obtain ⟨a, rfl, c, hci, hac⟩ := refs_get hp hx
      have ha : H' a = some (.tup (cutV c)) := e _ _ hac
      refine ⟨a, _, rfl, SqT.of ha, rfl, _, _, rfl, _, _, rfl, rfl, rfl, lc_yes ?_⟩
      refine ⟨.inr (.inl ⟨rfl, R.axT⟩), _, rfl, aX, ["east", "north"], axS c.1, axI c.1, rfl, rfl, R.axK _, by cases c.1 <;> rfl, ax_first _, .inr (.inl ⟨aX, _, _, .str (axS c.1), rfl, rfl, R.axK _, atI_nat (by cases c.1 <;> rfl), _, rfl, .inl ⟨_, rfl, (by show 2 ≤ sizeLine; decide), fun tt htt => ?_⟩⟩)⟩
      have hDt : D ≠ tt := fun z => by
        rw [← z, d1] at htt
        cases htt
      refine ⟨_, by rw [upd_ne hDt]; exact d1, ?_, ds ++ [tt], ?_, ?_, ?_⟩
      · rw [List.length_map, pd_len d2, List.length_take, sizeLine_eq]
        omega
      · rw [upd_same, List.map_append]
        rfl
      · rw [take_snoc hci]
        refine pd_snoc (pd_imp (fun a q hq => ?_) d2) ?_
        · rw [upd_ne (fun z => by rw [z, d1] at hq; cases hq), upd_ne (ne_of_none hq htt)]
          exact hq
        · rw [upd_ne (Ne.symm hDt), upd_same]
          rfl
      · exact ext_put (e.trans (Ext.upd htt)) hD
    · rintro H' ⟨ds, d1, d2, e⟩
      rw [List.length_map, hlen, List.take_length] at d2
      exact k D H' e hD ⟨ds, d1, d2⟩
theorem sc_turned_cuts : FnScope ["cuts", "axis", "parts"] ["cuts"] (defScope s_turned_cuts) := ⟨rfl, rfl, rfl, by decide +kernel, rfl, by decide +kernel, by decide +kernel⟩
def turnF (cs : List Cut) : List Cut := cs.map fun c => (!c.1, c.2)
theorem ax_turn (b : Bool) : atI [V.str "east", V.str "north"] (1 - (axI b : Int)) = some (.str (axS (!b))) := by
  cases b
  · exact atI_nat (j := 0) rfl
  · exact atI_nat (j := 1) rfl
def spTurn (K : PySem.W.Frag) : Sp := fun vs H Q _ => ∃ (v : V) (cs : List Cut), vs = [v] ∧ CutsAt K H v cs ∧ cs.length ≤ 5 ∧ (∀ c ∈ cs, okC c) ∧ ∀ l H', Ext H H' → H l = none → CutsL H' l (turnF cs) → Q (.ref l) H'
theorem ok_turned_cuts (F : FunD K "_turned_cuts" "_turned_cuts" (defArgs s_turned_cuts) (defBody s_turned_cuts) (defScope s_turned_cuts) [] [] f fd) (T : TB mg) (R : PlanT K mg C0 aX mc) : FnOk P w K mg base CX0 1 f fd ["cuts"] (spTurn K) := by
  refine F.ok sc_turned_cuts (fun vs H Q E h => ?_) (fun cdv A outer s H vs Q E hr h => ?_)
  · obtain ⟨v, cs, rfl, hv, h5, hc, k⟩ := h
    rfl
  · obtain ⟨v, cs, rfl, hv, h5, hc, k⟩ := h
    refine ⟨_, (PSs.nox (pss_one (ps_ret (pe_lc (own := [("axis", 1), ("parts", 2)]) (g := gTup K 2 (gCons (gName 1) (gCons (gName 2) gNil))) (tt := tYes) rfl sc_turned_cuts.nd (pi_seq (pv 0)) (blkOk_by (own := [("axis", 1), ("parts", 2)]) (N := ["cuts", "axis", "parts"]) (sc := defScope s_turned_cuts) (by decide +kernel)) (fun _ _ _ _ _ => (pg_tup rfl (pgs_cons (pg_name (i := 1) sc_turned_cuts.nd rfl (.inl rfl)) (pgs_cons (pg_name (i := 2) sc_turned_cuts.nd rfl (.inl rfl)) pgs_nil)))) (fun _ _ _ _ _ => pts_nil) (fun _ _ _ _ _ => (pe_tup (pa_cons (pe_ix (ix_seqK (K := K) rfl) (pe_glob (v := .ref aX) (by rfl) R.ax rfl) (pe_op op_sub pe_int (pe_bmK (K := K) rfl PySem.F.plainAttrs_tuple PySem.F.slot_tuple_index PySem.F.type_tuple_index (mt_tupK rfl) (pe_glob (v := .ref aX) (by rfl) R.ax rfl) (pa_cons (pv 1) pa_nil))) (fun _ _ => rfl)) (pa_cons (pv 2) pa_nil)))))))), ?_⟩
    obtain ⟨l, as, rfl, hl, hp⟩ := hv
    have hlen := pd_len hp
    refine ⟨_, rfl, l, _, rfl, hl, fun J S wj hS D hD => lc_walk wj (fun i H' => ∃ ds : List Addr, H' D = some (.lst (ds.map V.ref)) ∧ Paired (fun a c => H' a = some (.tup (cutV c))) ds ((turnF cs).take i) ∧ Ext H H') ⟨[], upd_same, .nil, Ext.upd hD⟩ (fun _ _ ⟨_, _, _, e⟩ => hS _ e) ?_ ?_⟩
    · rintro i x H' hx ⟨ds, d1, d2, e⟩
      obtain ⟨a, rfl, c, hci, hac⟩ := refs_get hp hx
      have ha : H' a = some (.tup (cutV c)) := e _ _ hac
      have hti : (turnF cs)[i]? = some (!c.1, c.2) := by
        unfold turnF
        rw [List.getElem?_map, hci]
        rfl
      refine ⟨a, _, rfl, SqT.of ha, rfl, _, _, rfl, _, _, rfl, rfl, rfl, lc_yes ?_⟩
      refine ⟨.inr (.inl ⟨rfl, R.axT⟩), _, rfl, aX, ["east", "north"], axS c.1, axI c.1, rfl, rfl, R.axK _, by cases c.1 <;> rfl, ax_first _, _, _, rfl, rfl, .inr (.inl ⟨aX, _, _, .str (axS (!c.1)), rfl, rfl, R.axK _, ax_turn _, _, rfl, (by show 2 ≤ sizeLine; decide), fun tt htt => ?_⟩)⟩
      have hDt : D ≠ tt := fun z => by
        rw [← z, d1] at htt
        cases htt
      refine ⟨_, by rw [upd_ne hDt]; exact d1, ?_, ds ++ [tt], ?_, ?_, ?_⟩
      · rw [List.length_map, pd_len d2, List.length_take, turnF, List.length_map, sizeLine_eq]
        omega
      · rw [upd_same, List.map_append]
        rfl
      · rw [take_snoc hti]
        refine pd_snoc (pd_imp (fun a q hq => ?_) d2) ?_
        · rw [upd_ne (fun z => by rw [z, d1] at hq; cases hq), upd_ne (ne_of_none hq htt)]
          exact hq
        · rw [upd_ne (Ne.symm hDt), upd_same]
          rfl
      · exact ext_put (e.trans (Ext.upd htt)) hD
    · rintro H' ⟨ds, d1, d2, e⟩
      have e5 : (as.map V.ref).length = (turnF cs).length := by rw [List.length_map, hlen, turnF, List.length_map]
      rw [e5, List.take_length] at d2
      exact k D H' e hD ⟨ds, d1, d2⟩
end
end Mc

set_option Elab.async false
set_option linter.all false
set_option maxRecDepth 100000
set_option maxHeartbeats 4000000
set_option exponentiation.threshold 20000
namespace Mc
open PySem PySem.Spec PyProof.Rows L2 ClX StX
section
variable {P : Program} {w : World} {K : PySem.W.Frag} {mg : Str → Option Value} {base : Heap} {f C0 aX : Addr} {mc : Value} {fd : FuncData}
theorem sc_check_rounds : FnScope ["rounds", "position", "cuts", "all_parts", "columns", "rows"] ["rounds"] (defScope s_check_rounds) := ⟨rfl, rfl, rfl, by decide +kernel, rfl, by decide +kernel, by decide +kernel⟩
def partsF (rs : List (List Cut)) : List Pr := rs.map fun cs => ((colsF cs : Int), (rowsF cs : Int))
structure OkR (rs : List (List Cut)) : Prop where
  l1 : 1 ≤ rs.length
  l3 : rs.length ≤ 3
  h1 : ∀ cs ∈ rs, 1 ≤ cs.length
  h5 : ∀ cs ∈ rs, cs.length ≤ 5
  hc : ∀ cs ∈ rs, ∀ c ∈ cs, okC c
  h32 : ∀ cs ∈ rs, colsF cs * rowsF cs ≤ 32
  bal : (mulF (partsF rs)).1 = (mulF (partsF rs)).2
theorem parts_small {rs : List (List Cut)} (ok : OkR rs) : ∀ q ∈ partsF rs, q.1.natAbs < 2 ^ 16 ∧ q.2.natAbs < 2 ^ 16 ∧ q.1 * q.2 ≤ 32 := by
  intro q hq
  obtain ⟨cs, hm, rfl⟩ := List.mem_map.mp hq
  obtain ⟨h1, h2⟩ := cols_le (ok.hc cs hm) (ok.h5 cs hm)
  have h3 := ok.h32 cs hm
  refine ⟨by omega, by omega, ?_⟩
  show (colsF cs : Int) * (rowsF cs : Int) ≤ 32
  rw [← Int.natCast_mul]
  omega
theorem CutsAt.ext {K : PySem.W.Frag} {H H' : Hp} {v : V} {cs : List Cut} (h : CutsAt K H v cs) (e : Ext H H') : CutsAt K H' v cs := by
  obtain ⟨l, as, rfl, h1, h2⟩ := h
  exact ⟨l, as, rfl, sq_ext h1 e, pd_imp (fun a c q => e _ _ q) h2⟩
def spCheck (K : PySem.W.Frag) : Sp := fun vs H Q _ => ∃ (p : Addr) (vs0 : List V) (rs : List (List Cut)), vs = [.ref p] ∧ SqT K H p vs0 ∧ Paired (CutsAt K H) vs0 rs ∧ OkR rs ∧ ∀ H', Ext H H' → Q .non H'
theorem ok_check_rounds (F : FunD K "_check_rounds" "_check_rounds" (defArgs s_check_rounds) (defBody s_check_rounds) (defScope s_check_rounds) [] [] f fd) (T : TB mg) (R : PlanT K mg C0 aX mc) {fis_cuts : Addr} {fdis_cuts : FuncData} (Dis_cuts : Gd P w K mg base "_is_cuts" 4 ["value"] (spCuts K) fis_cuts fdis_cuts) {fparts_of : Addr} {fdparts_of : FuncData} (Dparts_of : Gd P w K mg base "_parts_of" 3 ["cuts"] (spPartsOf K) fparts_of fdparts_of) {fmultiplied : Addr} {fdmultiplied : FuncData} (Dmultiplied : Gd P w K mg base "_multiplied" 1 ["all_parts"] (spMul K) fmultiplied fdmultiplied) : FnOk P w K mg base CX0 5 f fd ["rounds"] (spCheck K) := by
  refine F.ok sc_check_rounds (fun vs H Q E h => ?_) (fun cdv A outer s H vs Q E hr h => ?_)
  · obtain ⟨p, vs0, rs, rfl, hp, hr0, ok, k⟩ := h
    rfl
  · obtain ⟨p, vs0, rs, rfl, hp, hr0, ok, k⟩ := h
    refine ⟨_, (PSs.nox (pss_cons (ps_if (pt_cmpR op_eq (pe_callB call_len_seq (by rfl) T.len PySem.boot_len (pa_cons (pv 0) pa_nil)) pe_int (nomark _)) (pss_one ps_never) pss_nil)
      (pss_cons (ps_for PassesOwn.never rfl (pi_enumT (by rfl) T.enumerate (pa_cons (pv 0) pa_nil)) (pg_tup rfl (pgs_cons (pg_name (i := 1) sc_check_rounds.nd rfl (.inl rfl)) (pgs_cons (pg_name (i := 2) sc_check_rounds.nd rfl (.inl rfl)) pgs_nil))) (pss_one (ps_if (pt_not (pt_val (pe_gd Dis_cuts hr (by decide) (by rfl) (pa_cons (pv 2) pa_nil)))) (pss_one ps_never) pss_nil)))
      (pss_cons (ps_if (pt_cmpR op_gt (pe_callB call_len_seq (by rfl) T.len PySem.boot_len (pa_cons (pv 0) pa_nil)) (pe_cval (pe_glob (v := .ref C0) (by rfl) R.mgP rfl)) (nomark _)) (pss_one ps_never) pss_nil)
      (pss_cons (ps_setLc (i := 3) (own := [("cuts", 2)]) (g := gName 2) (tt := tYes) rfl sc_check_rounds.nd rfl rfl (sw_true rfl rfl rfl (by decide +kernel)) (pi_seq (pv 0)) (blkOk_by (own := [("cuts", 2)]) (N := ["rounds", "position", "cuts", "all_parts", "columns", "rows"]) (sc := defScope s_check_rounds) (by decide +kernel)) (fun _ _ _ _ _ => (pg_name (i := 2) sc_check_rounds.nd rfl (.inl rfl))) (fun _ _ _ _ _ => pts_nil) (fun _ _ _ _ _ => (pe_gd Dparts_of hr (by decide) (by rfl) (pa_cons (pv 2) pa_nil))))
      (pss_cons (ps_if (pt_cmpR op_gt (pe_callB (cr_max rfl) (by rfl) T.max (by decide +kernel) (pa_cons (pe_lc (own := [("columns", 4), ("rows", 5)]) (g := gTup K 2 (gCons (gName 4) (gCons (gName 5) gNil))) (tt := tYes) rfl sc_check_rounds.nd (pi_seq (pv 3)) (blkOk_by (own := [("columns", 4), ("rows", 5)]) (N := ["rounds", "position", "cuts", "all_parts", "columns", "rows"]) (sc := defScope s_check_rounds) (by decide +kernel)) (fun _ _ _ _ _ => (pg_tup rfl (pgs_cons (pg_name (i := 4) sc_check_rounds.nd rfl (.inl rfl)) (pgs_cons (pg_name (i := 5) sc_check_rounds.nd rfl (.inl rfl)) pgs_nil)))) (fun _ _ _ _ _ => pts_nil) (fun _ _ _ _ _ => (pe_op op_mulW (pv 4) (pv 5)))) pa_nil)) (pe_cval (pe_glob (v := .ref C0) (by rfl) R.mgP rfl)) (nomark _)) (pss_one ps_never) pss_nil)
      (pss_cons (ps_asg (pe_gd Dmultiplied hr (by decide) (by rfl) (pa_cons (pv 3) pa_nil)) (pg_tup rfl (pgs_cons (pg_name (i := 4) sc_check_rounds.nd rfl (.inl rfl)) (pgs_cons (pg_name (i := 5) sc_check_rounds.nd rfl (.inl rfl)) pgs_nil))))
      (pss_one (ps_if (pt_cmpR op_ne (pv 4) (pv 5) (nomark _)) (pss_one ps_never) pss_nil))))))))), ?_⟩
    have hlen := pd_len hr0
    obtain ⟨uR, hR⟩ := R.cR
    obtain ⟨uS, hSg⟩ := R.cS
    refine ⟨_, rfl, p, _, rfl, .inr hp, rfl, _, rfl, ite2 (fun hz => ?_) (fun _ => ?_)⟩
    · have := V.int.inj (of_decide_eq_true hz)
      have := ok.l1
      omega
    refine ⟨_, rfl, p, _, rfl, hp, for_enumT (fun i σ H' => ∃ u w1, σ = [some (.ref p), u, w1, none, none, none] ∧ Ext H H') ⟨none, none, rfl, Ext.rfl'⟩ (fun _ _ _ ⟨_, _, _, e⟩ => hp.ext e) ?_ ?_⟩
    · rintro i x T2 σ H' hx hT ⟨u, w1, rfl, e⟩
      obtain ⟨cs, hci, hcs⟩ := pd_get hr0 i x hx
      have hm := List.mem_of_getElem? hci
      refine ⟨T2, _, rfl, SqT.of upd_same, rfl, _, _, rfl, _, _, rfl, rfl, ?_⟩
      refine ⟨_, rfl, x, cs, rfl, (hcs.ext e).ext (Ext.upd hT), ok.h1 cs hm, ok.h5 cs hm, ok.hc cs hm, fun H2 e2 => ⟨_, rfl, iteF ?_⟩⟩
      exact ⟨_, _, rfl, (e.trans (Ext.upd hT)).trans e2⟩
    rintro σ H1 ⟨u, w1, rfl, e1⟩
    refine ⟨_, rfl, p, _, rfl, .inr (hp.ext e1), C0, mc, _, uR, rfl, R.cr, hR, _, _, rfl, rfl, _, rfl, ite2 (fun hz => ?_) (fun _ => ?_)⟩
    · have := of_decide_eq_true hz
      have := ok.l3
      omega
    refine ⟨_, rfl, p, _, rfl, .inr (hp.ext e1), fun J S wj hS D hD => lc_walk wj (fun i H' => ∃ ds : List Addr, H' D = some (.lst (ds.map V.ref)) ∧ Paired (fun a (q : Pr) => H' a = some (.tup [.int q.1, .int q.2])) ds ((partsF rs).take i) ∧ Ext H1 H') ⟨[], upd_same, .nil, Ext.upd hD⟩ (fun _ _ ⟨_, _, _, e⟩ => hS _ e) ?_ ?_⟩
    · rintro i x H' hx ⟨ds, d1, d2, e⟩
      obtain ⟨cs, hci, hcs⟩ := pd_get hr0 i x hx
      have hm := List.mem_of_getElem? hci
      have hpi : (partsF rs)[i]? = some ((colsF cs : Int), (rowsF cs : Int)) := by
        unfold partsF
        rw [List.getElem?_map, hci]
        rfl
      refine ⟨rfl, lc_yes ⟨_, rfl, x, cs, rfl, (hcs.ext e1).ext e, ok.h5 cs hm, ok.hc cs hm, fun t H2 e2 _ ht => ?_⟩⟩
      have htD : t ≠ D := fun z => by
        have z1 := e2 _ _ d1
        rw [← z, ht] at z1
        cases z1
      refine ⟨_, e2 _ _ d1, ?_, ds ++ [t], ?_, ?_, ?_⟩
      · have := ok.l3
        rw [List.length_map, pd_len d2, List.length_take, partsF, List.length_map, sizeLine_eq]
        omega
      · rw [upd_same, List.map_append]
        rfl
      · rw [take_snoc hpi]
        refine pd_snoc (pd_imp (fun a q hq => ?_) d2) ?_
        · rw [upd_ne (fun z => by rw [z, d1] at hq; cases hq)]
          exact e2 _ _ hq
        · rw [upd_ne htD]
          exact ht
      · exact ext_put (e.trans e2) hD
    rintro H2 ⟨ds, d1, d2, e2⟩
    have el : vs0.length = (partsF rs).length := by rw [hlen, partsF, List.length_map]
    rw [el, List.take_length] at d2
    have pl : (partsF rs).length ≤ 3 := by
      rw [← el, hlen]
      exact ok.l3
    have pm : ∀ q ∈ partsF rs, q.1.natAbs < 2 ^ 16 ∧ q.2.natAbs < 2 ^ 16 ∧ q.1 * q.2 ≤ 32 := parts_small ok
    refine ⟨_, rfl, D, _, rfl, .inl (SqL.of d1), fun J2 S2 wj2 hS2 D2 hD2 => lc_walk wj2 (fun i H' => H' D2 = some (.lst ((((partsF rs).take i).map fun q => q.1 * q.2).map V.int)) ∧ Ext H2 H') ⟨upd_same, Ext.upd hD2⟩ (fun _ _ ⟨_, e⟩ => hS2 _ e) ?_ ?_⟩
    · rintro i x H' hx ⟨f1, e⟩
      obtain ⟨a, rfl, q, hqi, ha⟩ := refs_get d2 hx
      obtain ⟨b1, b2, _⟩ := pm q (List.mem_of_getElem? hqi)
      refine ⟨a, _, rfl, SqT.of (e _ _ ha), rfl, _, _, rfl, _, _, rfl, rfl, rfl, lc_yes ⟨_, rfl, _, rfl, _, _, rfl, rfl, mulW b1 b2, ?_⟩⟩
      refine ⟨_, f1, ?_, ?_, ext_put e hD2⟩
      · rw [List.length_map, List.length_map, List.length_take, sizeLine_eq]
        omega
      · rw [upd_same, take_snoc hqi, List.map_append, List.map_append]
        rfl
    rintro H3 ⟨f1, e3⟩
    rw [List.length_map, pd_len d2, List.take_length] at f1
    refine ⟨D2, _, rfl, SqL.of f1, ?_, fun m hm _ => ⟨C0, mc, _, uS, rfl, R.cr, hSg, _, _, rfl, rfl, _, rfl, ite2 (fun hz => ?_) (fun _ => ?_)⟩⟩
    · rw [List.length_map, ← el, hlen]
      exact ok.l1
    · obtain ⟨q, hq, rfl⟩ := List.mem_map.mp hm
      have h32 := (pm q hq).2.2
      have := of_decide_eq_true hz
      omega
    refine ⟨_, rfl, D, ds, partsF rs, rfl, .inl (SqL.of (e3 _ _ d1)), pd_imp (fun a q h => e3 _ _ h) d2, Nat.le_trans pl (by decide), fun q hq => ⟨(pm q hq).1, (pm q hq).2.1⟩, fun t H4 e4 ht => ?_⟩
    refine ⟨t, _, rfl, SqT.of ht, rfl, _, _, rfl, _, _, rfl, rfl, ?_⟩
    refine ⟨_, rfl, _, rfl, rfl, _, rfl, ite2 (fun hz => ?_) (fun _ => ?_)⟩
    · rw [ok.bal] at hz
      simp at hz
    exact k H4 (((e1.trans e2).trans e3).trans e4)
end
end Mc

set_option Elab.async false
set_option linter.all false
set_option maxRecDepth 100000
set_option maxHeartbeats 4000000
set_option exponentiation.threshold 20000
namespace Mc
open PySem PySem.Spec PyProof.Rows L2 ClX StX
section
variable {P : Program} {w : World} {K : PySem.W.Frag} {mg : Str → Option Value} {base : Heap} {f C0 aX : Addr} {mc : Value} {fd : FuncData}
/-- a Plan stands at p -/
def flP (lr lp ll : Addr) (g : Int) : List (Str × V) := [("_rounds", .ref lr), ("_parts", .ref lp), ("_places", .ref ll), ("_growth", .int g)]
structure PlanIn (H : Hp) (lr lp ll : Addr) (g : Int) (rs : List (List Cut)) : Prop where
  r : ∃ as : List Addr, H lr = some (.lst (as.map V.ref)) ∧ Paired (fun a cs => CutsL H a cs) as rs
  p : ∃ as : List Addr, H lp = some (.lst (as.map V.ref)) ∧ Paired (fun a (q : Pr) => H a = some (.tup [.int q.1, .int q.2])) as (partsF rs)
  l : ∃ as : List Addr, H ll = some (.lst (as.map V.ref)) ∧ Paired (fun a cs => PairsAt H a (placesF cs)) as rs
  g : g = (mulF (partsF rs)).1
def PlanAt (C0 : Addr) (H : Hp) (p : Addr) (rs : List (List Cut)) : Prop := ∃ dx lr lp ll g, H p = some (.ins C0 dx (flP lr lp ll g)) ∧ PlanIn H lr lp ll g rs
theorem CutsL.ext {H H' : Hp} {l : Addr} {cs : List Cut} (h : CutsL H l cs) (e : Ext H H') : CutsL H' l cs := by
  obtain ⟨as, h1, h2⟩ := h
  exact ⟨as, e _ _ h1, pd_imp (fun a c q => e _ _ q) h2⟩
theorem PairsAt.ext {H H' : Hp} {l : Addr} {ps : List Pr} (h : PairsAt H l ps) (e : Ext H H') : PairsAt H' l ps := by
  obtain ⟨as, h1, h2⟩ := h
  exact ⟨as, e _ _ h1, pd_imp (fun a c q => e _ _ q) h2⟩
theorem PlanIn.ext {H H' : Hp} {lr lp ll : Addr} {g : Int} {rs : List (List Cut)} (h : PlanIn H lr lp ll g rs) (e : Ext H H') : PlanIn H' lr lp ll g rs := by
  obtain ⟨⟨a1, r1, r2⟩, ⟨a2, p1, p2⟩, ⟨a3, l1, l2⟩, hg⟩ := h
  exact ⟨⟨a1, e _ _ r1, pd_imp (fun a c q => q.ext e) r2⟩, ⟨a2, e _ _ p1, pd_imp (fun a c q => e _ _ q) p2⟩, ⟨a3, e _ _ l1, pd_imp (fun a c q => q.ext e) l2⟩, hg⟩
theorem PlanAt.ext {C0 : Addr} {H H' : Hp} {p : Addr} {rs : List (List Cut)} (h : PlanAt C0 H p rs) (e : Ext H H') : PlanAt C0 H' p rs := by
  obtain ⟨dx, lr, lp, ll, g, h1, h2⟩ := h
  exact ⟨dx, lr, lp, ll, g, e _ _ h1, h2.ext e⟩
/-- all but one instance stays as it is -/
theorem pd_frm {H H' : Hp} {p : Addr} {xs : List V} {a : Addr} (f : Frm [p] H H') {C dx : Addr} {fs : List (Str × V)} (hp : H p = some (.ins C dx fs)) (h : H a = some (.tup xs)) : H' a = some (.tup xs) := f _ _ h fun m => by
  rw [List.mem_singleton.mp m, hp] at h
  cases h
theorem ls_frm {H H' : Hp} {p : Addr} {xs : List V} {a : Addr} (f : Frm [p] H H') {C dx : Addr} {fs : List (Str × V)} (hp : H p = some (.ins C dx fs)) (h : H a = some (.lst xs)) : H' a = some (.lst xs) := f _ _ h fun m => by
  rw [List.mem_singleton.mp m, hp] at h
  cases h
theorem wipe_set2 {σ : L2.St} {x : V} : wipe ((wipe σ [2]).set 2 (some x)) [2] = wipe σ [2] := by
  show ((σ.set 2 none).set 2 (some x)).set 2 none = σ.set 2 none
  rw [List.set_set, List.set_set]
/-- the three lists that __init__ makes: of each round what te gives of it -/
theorem lc_cuts {K : PySem.W.Frag} {J : It} {S : Hp → Prop} {vs0 : List V} {rs : List (List Cut)} {te : TE} {G : Hp → Addr → List Cut → Prop} {σ : L2.St} {H1 : Hp} {D : Addr} {Qd : Hp → Prop} (w : WalkJ J S vs0) (hS : ∀ H', Ext H1 H' → S H') (hp : Paired (CutsAt K H1) vs0 rs) (l3 : rs.length ≤ 3) (nD : H1 D = none)
    (mono : ∀ H H' a cs, Ext H H' → G H a cs → G H' a cs) (side : ∀ H xs ys a cs, H D = some (.lst xs) → a ≠ D → G H a cs → G (upd H D (.lst ys)) a cs)
    (call : ∀ x cs H (Q : VK), cs ∈ rs → CutsAt K H x cs → (∀ a H', Ext H H' → H a = none → G H' a cs → Q (.ref a) H') → te ((wipe σ [2]).set 2 (some x)) H Q) (hd : ∀ H', Ext H1 H' → (∃ ds : List Addr, H' D = some (.lst (ds.map V.ref)) ∧ Paired (G H') ds rs) → Qd H') : ∃ W : Nat → Nat → Hp → Prop, (∃ m, W 0 m (upd H1 D (.lst []))) ∧ ∀ i m H, W i m H →
      (J.stop i H ∧ Qd H) ∨ (J.go i H ∧ ∃ Nx : Hp → Prop, (∀ H', Nx H' → ∃ m', m' < m ∧ W (i + 1) m' H') ∧ ∀ x H', J.yld i H x H' → gName 2 x (wipe σ [2]) H' fun σ2 H2 => wipe σ2 [2] = wipe σ [2] ∧ tYes σ2 H2 fun b H3 => if b = true then te σ2 H3 fun y H4 => ∃ acc, H4 D = some (.lst acc) ∧ acc.length < sizeLine ∧ Nx (upd H4 D (.lst (acc ++ [y]))) else Nx H3) := by
  have hlen := pd_len hp
  refine lc_walk w (fun i H' => ∃ ds : List Addr, H' D = some (.lst (ds.map V.ref)) ∧ Paired (fun a cs => G H' a cs ∧ a ≠ D) ds (rs.take i) ∧ Ext H1 H') ⟨[], upd_same, .nil, Ext.upd nD⟩ (fun _ _ ⟨_, _, _, e⟩ => hS _ e) ?_ ?_
  · rintro i x H' hx ⟨ds, d1, d2, e⟩
    obtain ⟨cs, hci, hcs⟩ := pd_get hp i x hx
    have hm := List.mem_of_getElem? hci
    refine ⟨wipe_set2, lc_yes (call x cs H' _ hm (hcs.ext e) fun a H2 e2 na ga => ?_)⟩
    have naD : a ≠ D := fun z => by
      rw [z, d1] at na
      cases na
    refine ⟨_, e2 _ _ d1, ?_, ds ++ [a], ?_, ?_, ext_put (e.trans e2) nD⟩
    · rw [List.length_map, pd_len d2, List.length_take, sizeLine_eq]
      omega
    · rw [upd_same, List.map_append]
      rfl
    · rw [take_snoc hci]
      exact pd_snoc (pd_imp (fun b c q => ⟨side _ _ _ _ _ (e2 _ _ d1) q.2 (mono _ _ _ _ e2 q.1), q.2⟩) d2) ⟨side _ _ _ _ _ (e2 _ _ d1) naD ga, naD⟩
  · rintro H' ⟨ds, d1, d2, e⟩
    rw [hlen, List.take_length] at d2
    exact hd H' e ⟨ds, d1, pd_imp (fun b c q => q.1) d2⟩
theorem side_l {H : Hp} {D a : Addr} {xs ys zs : List V} (hD : H D = some (.lst xs)) (n : a ≠ D) (h : H a = some (.lst zs)) : upd H D (.lst ys) a = some (.lst zs) := by rw [upd_ne n]; exact h
theorem side_t {H : Hp} {D a : Addr} {xs ys zs : List V} (hD : H D = some (.lst xs)) (h : H a = some (.tup zs)) : upd H D (.lst ys) a = some (.tup zs) := by
  rw [upd_ne (fun z => by rw [z, hD] at h; cases h)]
  exact h
theorem side_cuts {H : Hp} {D a : Addr} {xs ys : List V} {cs : List Cut} (hD : H D = some (.lst xs)) (n : a ≠ D) (h : CutsL H a cs) : CutsL (upd H D (.lst ys)) a cs := by
  obtain ⟨as, h1, h2⟩ := h
  exact ⟨as, side_l hD n h1, pd_imp (fun _ _ q => side_t hD q) h2⟩
theorem side_prs {H : Hp} {D a : Addr} {xs ys : List V} {ps : List Pr} (hD : H D = some (.lst xs)) (n : a ≠ D) (h : PairsAt H a ps) : PairsAt (upd H D (.lst ys)) a ps := by
  obtain ⟨as, h1, h2⟩ := h
  exact ⟨as, side_l hD n h1, pd_imp (fun _ _ q => side_t hD q) h2⟩
theorem pd_map {F : Addr → List Cut → Prop} {G : Addr → Pr → Prop} (h : ∀ a cs, F a cs → G a ((colsF cs : Int), (rowsF cs : Int))) : ∀ {l : List Addr} {rs : List (List Cut)}, Paired F l rs → Paired G l (partsF rs)
  | _, _, .nil => .nil
  | _, _, .cons r t => .cons (h _ _ r) (pd_map h t)
theorem ne_ins {H : Hp} {p a : Addr} {C dx : Addr} {fs : List (Str × V)} {o : HO} (hp : H p = some (.ins C dx fs)) (h : H a = some o) (n : ∀ C dx fs, o ≠ .ins C dx fs) : a ∉ [p] := fun m => by
  rw [List.mem_singleton.mp m, hp] at h
  exact n _ _ _ (Option.some.inj h).symm
theorem sqa_frm {K : PySem.W.Frag} {H H' : Hp} {p l C dx : Addr} {fs : List (Str × V)} {xs : List V} (f : Frm [p] H H') (hp : H p = some (.ins C dx fs)) (h : SqA K H l xs) : SqA K H' l xs := by
  rcases h with (⟨h | ⟨o, h⟩⟩ | h) | (⟨h | ⟨o, h⟩⟩ | h)
  · exact .inl (.inl (.inl (f _ _ h (ne_ins hp h fun _ _ _ z => nomatch z))))
  · exact .inl (.inl (.inr ⟨o, f _ _ h (ne_ins hp h fun _ _ _ z => nomatch z)⟩))
  · exact .inl (.inr h)
  · exact .inr (.inl (.inl (f _ _ h (ne_ins hp h fun _ _ _ z => nomatch z))))
  · exact .inr (.inl (.inr ⟨o, f _ _ h (ne_ins hp h fun _ _ _ z => nomatch z)⟩))
  · exact .inr (.inr h)
theorem cuts_frm {K : PySem.W.Frag} {H H' : Hp} {p C dx : Addr} {fs : List (Str × V)} {v : V} {cs : List Cut} (f : Frm [p] H H') (hp : H p = some (.ins C dx fs)) (h : CutsAt K H v cs) : CutsAt K H' v cs := by
  obtain ⟨l, as, rfl, h1, h2⟩ := h
  exact ⟨l, as, rfl, sqa_frm f hp h1, pd_imp (fun _ _ q => pd_frm f hp q) h2⟩
theorem cutsL_frm {H H' : Hp} {p a C dx : Addr} {fs : List (Str × V)} {cs : List Cut} (f : Frm [p] H H') (hp : H p = some (.ins C dx fs)) (h : CutsL H a cs) : CutsL H' a cs := by
  obtain ⟨as, h1, h2⟩ := h
  exact ⟨as, ls_frm f hp h1, pd_imp (fun _ _ q => pd_frm f hp q) h2⟩
theorem prs_frm {H H' : Hp} {p a C dx : Addr} {fs : List (Str × V)} {ps : List Pr} (f : Frm [p] H H') (hp : H p = some (.ins C dx fs)) (h : PairsAt H a ps) : PairsAt H' a ps := by
  obtain ⟨as, h1, h2⟩ := h
  exact ⟨as, ls_frm f hp h1, pd_imp (fun _ _ q => pd_frm f hp q) h2⟩
def flP3 (lr lp ll : Addr) : List (Str × V) := [("_rounds", .ref lr), ("_parts", .ref lp), ("_places", .ref ll)]
theorem put1 (lr : Addr) : putF "_rounds" (.ref lr) [] = ([("_rounds", V.ref lr)] : List (Str × V)) := rfl
theorem put2 (lr lp : Addr) : putF "_parts" (.ref lp) [("_rounds", V.ref lr)] = ([("_rounds", V.ref lr), ("_parts", .ref lp)] : List (Str × V)) := rfl
theorem put3 (lr lp ll : Addr) : putF "_places" (.ref ll) [("_rounds", V.ref lr), ("_parts", .ref lp)] = flP3 lr lp ll := rfl
theorem put4 (lr lp ll : Addr) (g : Int) : putF "_growth" (.int g) (flP3 lr lp ll) = flP lr lp ll g := rfl
def spPlanI (K : PySem.W.Frag) (C0 : Addr) : Sp := fun vs H Q _ => ∃ (p dx : Addr) (vs0 : List V) (rs : List (List Cut)), vs = .ref p :: vs0 ∧ H p = some (.ins C0 dx []) ∧ Paired (CutsAt K H) vs0 rs ∧ OkR rs ∧
  ∀ H', Frm [p] H H' → PlanAt C0 H' p rs → Q .non H'
def spPlanB (K : PySem.W.Frag) (C0 : Addr) : Sp := fun vs H Q _ => ∃ (p dx t : Addr) (vs0 : List V) (rs : List (List Cut)), vs = [.ref p, .ref t] ∧ H p = some (.ins C0 dx []) ∧ H t = some (.tup vs0) ∧ Paired (CutsAt K H) vs0 rs ∧ OkR rs ∧
  ∀ H', Frm [p] H H' → PlanAt C0 H' p rs → Q .non H'
theorem sc_Plan___init : FnScope ["self", "rounds", "cuts"] ["self", "rounds"] (defScope s_Plan___init) := ⟨rfl, rfl, rfl, by decide +kernel, rfl, by decide +kernel, by decide +kernel⟩
theorem ok_Plan___init (F : FD K "__init__" "Plan.__init__" s_Plan___init f fd) (T : TB mg) (R : PlanT K mg C0 aX mc) {fcheck_rounds : Addr} {fdcheck_rounds : FuncData} (Dcheck_rounds : Gd P w K mg base "_check_rounds" 5 ["rounds"] (spCheck K) fcheck_rounds fdcheck_rounds) {fplain_cuts : Addr} {fdplain_cuts : FuncData} (Dplain_cuts : Gd P w K mg base "_plain_cuts" 1 ["cuts"] (spPlain K) fplain_cuts fdplain_cuts) {fparts_of : Addr} {fdparts_of : FuncData} (Dparts_of : Gd P w K mg base "_parts_of" 3 ["cuts"] (spPartsOf K) fparts_of fdparts_of) {fplaces_of : Addr} {fdplaces_of : FuncData} (Dplaces_of : Gd P w K mg base "_places_of" 2 ["cuts"] (spPlaces K) fplaces_of fdplaces_of) {fmultiplied : Addr} {fdmultiplied : FuncData} (Dmultiplied : Gd P w K mg base "_multiplied" 1 ["all_parts"] (spMul K) fmultiplied fdmultiplied) : FnR P w K mg base CX0 6 f (spPlanI K C0) := by
  obtain ⟨oc, od, dV, kV, doc, pm, an, cdv, ct, osl, rfl, lk, hcd, hD, _⟩ := F.ex
  obtain rfl : dV = .none := by
    rcases hD with ⟨_, e⟩ | ⟨e, _⟩
    · exact e
    · exact absurd rfl e
  refine FnR.imp (fn_star (CX := CX0) (ps := ["self"]) (pv := "rounds") (k := 5) (sp := spPlanB K C0) lk hcd sc_Plan___init cxUp_none (bind_star1 (B := fun l => bindArgs (PySem.W.fnOf "__init__" "Plan.__init__" (defArgs s_Plan___init) (defBody s_Plan___init) (defScope s_Plan___init) .none kV doc pm an cdv ct) ⟨l, []⟩) (fun _ => rfl) (fun _ _ _ => rfl)) (fun A outer s H vs Q E hr h => ?_)) (fun vs H Q E h => ?_)
  · obtain ⟨p, dx, t, vs0, rs, rfl, hp, ht, hr0, ok, k⟩ := h
    refine ⟨_, (PSs.nox (pss_cons (ps_expr (pe_gd Dcheck_rounds hr (by decide) (by rfl) (pa_cons (pv 1) pa_nil)))
      (pss_cons (ps_fld (pv 0) (pe_lc (own := [("cuts", 2)]) (g := gName 2) (tt := tYes) rfl sc_Plan___init.nd (pi_seq (pv 1)) (blkOk_by (own := [("cuts", 2)]) (N := ["self", "rounds", "cuts"]) (sc := defScope s_Plan___init) (by decide +kernel)) (fun _ _ _ _ _ => (pg_name (i := 2) sc_Plan___init.nd rfl (.inl rfl))) (fun _ _ _ _ _ => pts_nil) (fun _ _ _ _ _ => (pe_gd Dplain_cuts hr (by decide) (by rfl) (pa_cons (pv 2) pa_nil)))) rfl)
      (pss_cons (ps_fld (pv 0) (pe_lc (own := [("cuts", 2)]) (g := gName 2) (tt := tYes) rfl sc_Plan___init.nd (pi_seq (pv 1)) (blkOk_by (own := [("cuts", 2)]) (N := ["self", "rounds", "cuts"]) (sc := defScope s_Plan___init) (by decide +kernel)) (fun _ _ _ _ _ => (pg_name (i := 2) sc_Plan___init.nd rfl (.inl rfl))) (fun _ _ _ _ _ => pts_nil) (fun _ _ _ _ _ => (pe_gd Dparts_of hr (by decide) (by rfl) (pa_cons (pv 2) pa_nil)))) rfl)
      (pss_cons (ps_fld (pv 0) (pe_lc (own := [("cuts", 2)]) (g := gName 2) (tt := tYes) rfl sc_Plan___init.nd (pi_seq (pv 1)) (blkOk_by (own := [("cuts", 2)]) (N := ["self", "rounds", "cuts"]) (sc := defScope s_Plan___init) (by decide +kernel)) (fun _ _ _ _ _ => (pg_name (i := 2) sc_Plan___init.nd rfl (.inl rfl))) (fun _ _ _ _ _ => pts_nil) (fun _ _ _ _ _ => (pe_gd Dplaces_of hr (by decide) (by rfl) (pa_cons (pv 2) pa_nil)))) rfl)
      (pss_one (ps_fld (pv 0) (pe_ix ix_seq (pe_gd Dmultiplied hr (by decide) (by rfl) (pa_cons (pe_fld (pv 0) rfl) pa_nil)) pe_int (fun _ _ => rfl)) rfl))))))), ?_⟩
    refine ⟨_, rfl, t, vs0, rs, rfl, SqT.of ht, hr0, ok, fun H1 e1 => ?_⟩
    have c1 : Paired (CutsAt K H1) vs0 rs := pd_imp (fun v cs q => q.ext e1) hr0
    refine ⟨_, rfl, t, vs0, rfl, .inr (SqT.of (e1 _ _ ht)), fun J S wj hS D1 hD1 => lc_cuts (G := CutsL) wj hS c1 ok.l3 hD1 (fun _ _ _ _ e g => g.ext e) (fun _ _ _ _ _ h n g => side_cuts h n g) (fun x cs H Q hm hcs kk => ⟨_, rfl, x, cs, rfl, hcs, ok.h5 cs hm, ok.hc cs hm, fun l H' e n g => kk l H' e n g⟩) (fun H2 e2 ⟨as1, r1, r2⟩ => ?_)⟩
    have hp2 : H2 p = some (.ins C0 dx []) := e2 _ _ (e1 _ _ hp)
    refine ⟨_, rfl, p, C0, dx, [], rfl, hp2, R.cl, R.nR, (by show 0 < 1000; decide), ?_⟩
    rw [put1]
    have f2 : Frm [p] H2 (upd H2 p (.ins C0 dx [("_rounds", V.ref D1)])) := Frm.put (List.mem_singleton.mpr rfl)
    have p2 : (upd H2 p (.ins C0 dx [("_rounds", V.ref D1)])) p = some (.ins C0 dx [("_rounds", V.ref D1)]) := upd_same
    generalize upd H2 p (.ins C0 dx [("_rounds", V.ref D1)]) = G2 at *
    have c2 : Paired (CutsAt K G2) vs0 rs := pd_imp (fun v cs q => cuts_frm f2 hp2 (q.ext e2)) c1
    have t2 : G2 t = some (.tup vs0) := pd_frm f2 hp2 (e2 _ _ (e1 _ _ ht))
    refine ⟨_, rfl, t, vs0, rfl, .inr (SqT.of t2), fun J S wj hS D2 hD2 => lc_cuts (G := fun H a cs => H a = some (.tup [.int (colsF cs), .int (rowsF cs)])) wj hS c2 ok.l3 hD2 (fun _ _ _ _ e g => e _ _ g) (fun _ _ _ _ _ h n g => side_t h g) (fun x cs H Q hm hcs kk => ⟨_, rfl, x, cs, rfl, hcs, ok.h5 cs hm, ok.hc cs hm, fun l H' e n g => kk l H' e n g⟩) (fun H3 e3 ⟨as2, q1, q2⟩ => ?_)⟩
    have hp3 : H3 p = some (.ins C0 dx [("_rounds", V.ref D1)]) := e3 _ _ p2
    refine ⟨_, rfl, p, C0, dx, _, rfl, hp3, R.cl, R.nP, (by show 1 < 1000; decide), ?_⟩
    rw [put2]
    have f3 : Frm [p] H3 (upd H3 p (.ins C0 dx [("_rounds", V.ref D1), ("_parts", .ref D2)])) := Frm.put (List.mem_singleton.mpr rfl)
    have p3 : (upd H3 p (.ins C0 dx [("_rounds", V.ref D1), ("_parts", .ref D2)])) p = some (.ins C0 dx [("_rounds", V.ref D1), ("_parts", .ref D2)]) := upd_same
    generalize upd H3 p (.ins C0 dx [("_rounds", V.ref D1), ("_parts", .ref D2)]) = G3 at *
    have c3 : Paired (CutsAt K G3) vs0 rs := pd_imp (fun v cs q => cuts_frm f3 hp3 (q.ext e3)) c2
    have t3 : G3 t = some (.tup vs0) := pd_frm f3 hp3 (e3 _ _ t2)
    refine ⟨_, rfl, t, vs0, rfl, .inr (SqT.of t3), fun J S wj hS D3 hD3 => lc_cuts (G := fun H a cs => PairsAt H a (placesF cs)) wj hS c3 ok.l3 hD3 (fun _ _ _ _ e g => g.ext e) (fun _ _ _ _ _ h n g => side_prs h n g) (fun x cs H Q hm hcs kk => ⟨_, rfl, x, cs, rfl, hcs, ok.h5 cs hm, ok.hc cs hm, fun l H' e n g => kk l H' e n g⟩) (fun H4 e4 ⟨as3, s1, s2⟩ => ?_)⟩
    have hp4 : H4 p = some (.ins C0 dx [("_rounds", V.ref D1), ("_parts", .ref D2)]) := e4 _ _ p3
    refine ⟨_, rfl, p, C0, dx, _, rfl, hp4, R.cl, R.nL, (by show 2 < 1000; decide), ?_⟩
    rw [put3]
    have f4 : Frm [p] H4 (upd H4 p (.ins C0 dx (flP3 D1 D2 D3))) := Frm.put (List.mem_singleton.mpr rfl)
    have p4 : (upd H4 p (.ins C0 dx (flP3 D1 D2 D3))) p = some (.ins C0 dx (flP3 D1 D2 D3)) := upd_same
    generalize upd H4 p (.ins C0 dx (flP3 D1 D2 D3)) = G4 at *
    have q1' : G4 D2 = some (.lst (as2.map V.ref)) := ls_frm f4 hp4 (e4 _ _ (ls_frm f3 hp3 q1))
    have q2' : Paired (fun a (q : Pr) => G4 a = some (.tup [.int q.1, .int q.2])) as2 (partsF rs) := pd_map (fun a cs h => pd_frm f4 hp4 (e4 _ _ (pd_frm f3 hp3 h))) q2
    have pl : (partsF rs).length ≤ 1000 := by
      have := ok.l3
      rw [partsF, List.length_map]
      omega
    have pm := parts_small ok
    refine ⟨_, rfl, p, C0, dx, _, _, rfl, p4, R.cl, R.nP, rfl, D2, as2, partsF rs, rfl, .inl (SqL.of q1'), q2', pl, fun q hq => ⟨(pm q hq).1, (pm q hq).2.1⟩, fun t5 H5 e5 ht5 => ?_⟩
    have hp5 : H5 p = some (.ins C0 dx (flP3 D1 D2 D3)) := e5 _ _ p4
    refine .inr (.inl ⟨t5, _, 0, _, rfl, rfl, SqT.of ht5, rfl, _, rfl, p, C0, dx, _, rfl, hp5, R.cl, R.nG, (by show 3 < 1000; decide), ?_⟩)
    rw [put4]
    have f5 : Frm [p] H5 (upd H5 p (.ins C0 dx (flP D1 D2 D3 (mulF (partsF rs)).1))) := Frm.put (List.mem_singleton.mpr rfl)
    refine k _ ?_ ⟨dx, D1, D2, D3, _, upd_same, ⟨⟨as1, ?_, ?_⟩, ⟨as2, ?_, ?_⟩, ⟨as3, ?_, ?_⟩, rfl⟩⟩
    · exact (((((((Frm.ext e1).trans (Frm.ext e2)).trans f2).trans ((Frm.ext e3).trans f3)).trans (Frm.ext e4)).trans f4).trans (Frm.ext e5)).trans f5
    · exact ls_frm f5 hp5 (e5 _ _ (ls_frm f4 hp4 (e4 _ _ (ls_frm f3 hp3 (e3 _ _ (ls_frm f2 hp2 r1))))))
    · exact pd_imp (fun a cs g => cutsL_frm f5 hp5 ((cutsL_frm f4 hp4 ((cutsL_frm f3 hp3 ((cutsL_frm f2 hp2 g).ext e3)).ext e4)).ext e5)) r2
    · exact ls_frm f5 hp5 (e5 _ _ q1')
    · exact pd_imp (fun a q h => pd_frm f5 hp5 (e5 _ _ h)) q2'
    · exact ls_frm f5 hp5 (e5 _ _ (ls_frm f4 hp4 s1))
    · exact pd_imp (fun a cs g => prs_frm f5 hp5 ((prs_frm f4 hp4 g).ext e5)) s2
  · obtain ⟨p, dx, vs0, rs, rfl, hp, hr0, ok, k⟩ := h
    refine ⟨[.ref p], vs0, rfl, rfl, ?_, fun t ht => ?_⟩
    · have := ok.l3
      rw [pd_len hr0, sizeLine_eq]
      omega
    have e : Ext H (upd H t (.tup vs0)) := Ext.upd ht
    exact ⟨p, dx, t, vs0, rs, rfl, e _ _ hp, upd_same, pd_imp (fun v cs q => q.ext e) hr0, ok, fun H' f q => k H' ((Frm.new ht).trans f) q⟩

end
end Mc

set_option Elab.async false
set_option linter.all false
set_option maxRecDepth 100000
set_option maxHeartbeats 4000000
set_option exponentiation.threshold 20000
namespace Mc
open PySem PySem.Spec PyProof.Rows L2 ClX StX
section
variable {P : Program} {w : World} {K : PySem.W.Frag} {mg : Str → Option Value} {base : Heap} {f C0 aX : Addr} {mc : Value} {fd : FuncData}
theorem sc_Plan___len : FnScope ["self"] ["self"] (defScope s_Plan___len) := ⟨rfl, rfl, rfl, by decide +kernel, rfl, by decide +kernel, by decide +kernel⟩
def spLen (C0 : Addr) : Sp := fun vs H Q _ => ∃ (p : Addr) (rs : List (List Cut)), vs = [.ref p] ∧ PlanAt C0 H p rs ∧ Q (.int rs.length) H
theorem ok_Plan___len (F : FunD K "__len__" "Plan.__len__" (defArgs s_Plan___len) (defBody s_Plan___len) (defScope s_Plan___len) [] [] f fd) (T : TB mg) (R : PlanT K mg C0 aX mc) : FnOk P w K mg base CX0 1 f fd ["self"] (spLen C0) := by
  refine F.ok sc_Plan___len (fun vs H Q E h => ?_) (fun cdv A outer s H vs Q E hr h => ?_)
  · obtain ⟨p, rs, rfl, hp, k⟩ := h
    rfl
  · obtain ⟨p, rs, rfl, hp, k⟩ := h
    refine ⟨_, (PSs.nox (pss_one (ps_ret (pe_callB call_len_seq (by rfl) T.len PySem.boot_len (pa_cons (pe_fld (pv 0) rfl) pa_nil))))), ?_⟩
    obtain ⟨dx, lr, lp, ll, g, h1, h2⟩ := hp
    obtain ⟨as, r1, r2⟩ := h2.r
    refine ⟨_, rfl, p, C0, dx, _, _, rfl, h1, R.cl, R.nR, rfl, lr, _, rfl, .inl (SqL.of r1), ?_⟩
    rw [List.length_map, pd_len r2]
    exact k
theorem sc_check_phase : FnScope ["plan", "phase"] ["plan", "phase"] (defScope s_check_phase) := ⟨rfl, rfl, rfl, by decide +kernel, rfl, by decide +kernel, by decide +kernel⟩
def spPhaseOk (C0 : Addr) : Sp := fun vs H Q _ => ∃ (p : Addr) (rs : List (List Cut)) (i : Nat), vs = [.ref p, .int i] ∧ PlanAt C0 H p rs ∧ i < rs.length ∧ rs.length ≤ 3 ∧ Q .non H
theorem ok_check_phase (F : FunD K "check_phase" "check_phase" (defArgs s_check_phase) (defBody s_check_phase) (defScope s_check_phase) [] [] f fd) (T : TB mg) (R : PlanT K mg C0 aX mc) {fis_count_below : Addr} {fdis_count_below : FuncData} (Dis_count_below : Gd P w K mg base "is_count_below" 3 ["value", "bound"] (spBelow) fis_count_below fdis_count_below) {fLen : Addr} {fdLen : FuncData} (mLen : Meth K C0 "__len__" fLen) (Glen : FnOk P w K mg base CX0 1 fLen fdLen ["self"] (spLen C0)) (bLen : Binds K fdLen ["self"] []) : FnOk P w K mg base CX0 4 f fd ["plan", "phase"] (spPhaseOk C0) := by
  refine F.ok sc_check_phase (fun vs H Q E h => ?_) (fun cdv A outer s H vs Q E hr h => ?_)
  · obtain ⟨p, rs, i, rfl, hp, hi, h3, k⟩ := h
    rfl
  · obtain ⟨p, rs, i, rfl, hp, hi, h3, k⟩ := h
    refine ⟨_, (PSs.nox (pss_one (ps_if (pt_not (pt_val (pe_gd Dis_count_below hr (by decide) (by rfl) (pa_cons (pv 1) (pa_cons (pe_callB (call_lenO mLen Glen bLen (hr.mono (by decide))) (by rfl) T.len PySem.boot_len (pa_cons (pv 0) pa_nil)) pa_nil))))) (pss_one ps_never) pss_nil))), ?_⟩
    obtain ⟨dx, lr, lp, ll, g, h1, h2⟩ := id hp
    refine ⟨_, rfl, _, rfl, p, dx, _, rfl, h1, p, rs, rfl, hp, rs.length, rfl, by omega, ?_⟩
    exact ⟨_, _, rfl, by omega, by omega, _, rfl, iteF k⟩
theorem sc_Plan_phase : FnScope ["self", "f"] ["self", "f"] (defScope s_Plan_phase) := ⟨rfl, rfl, rfl, by decide +kernel, rfl, by decide +kernel, by decide +kernel⟩
def spPhase (C0 : Addr) : Sp := fun vs H Q _ => ∃ (p : Addr) (rs : List (List Cut)) (i : Nat), vs = [.ref p, .int i] ∧ PlanAt C0 H p rs ∧ 0 < rs.length ∧ i ≤ 1000 ∧ Q (.int ((i : Int) % (rs.length : Int))) H
theorem ok_Plan_phase (F : FunD K "phase" "Plan.phase" (defArgs s_Plan_phase) (defBody s_Plan_phase) (defScope s_Plan_phase) [] [] f fd) (T : TB mg) (R : PlanT K mg C0 aX mc) {fcheck_fineness : Addr} {fdcheck_fineness : FuncData} (Dcheck_fineness : Gd P w K mg base "check_fineness" 3 ["f"] (spFine) fcheck_fineness fdcheck_fineness) : FnOk P w K mg base CX0 4 f fd ["self", "f"] (spPhase C0) := by
  refine F.ok sc_Plan_phase (fun vs H Q E h => ?_) (fun cdv A outer s H vs Q E hr h => ?_)
  · obtain ⟨p, rs, i, rfl, hp, h0, h1000, k⟩ := h
    rfl
  · obtain ⟨p, rs, i, rfl, hp, h0, h1000, k⟩ := h
    refine ⟨_, (PSs.nox (pss_cons (ps_expr (pe_gd Dcheck_fineness hr (by decide) (by rfl) (pa_cons (pv 1) pa_nil)))
      (pss_one (ps_ret (pe_op op_mod (pv 1) (pe_callB call_len_seq (by rfl) T.len PySem.boot_len (pa_cons (pe_fld (pv 0) rfl) pa_nil))))))), ?_⟩
    obtain ⟨dx, lr, lp, ll, g, h1, h2⟩ := id hp
    obtain ⟨as, r1, r2⟩ := h2.r
    refine ⟨_, rfl, i, rfl, by omega, by omega, ?_⟩
    refine ⟨_, rfl, _, rfl, p, C0, dx, _, _, rfl, h1, R.cl, R.nR, rfl, lr, _, rfl, .inl (SqL.of r1), _, _, rfl, rfl, ?_, ?_⟩
    · rw [List.length_map, pd_len r2]
      show (0 : Int) < (rs.length : Int)
      omega
    · rw [List.length_map, pd_len r2]
      exact k
theorem sc_Plan_signs : FnScope ["self", "phase"] ["self", "phase"] (defScope s_Plan_signs) := ⟨rfl, rfl, rfl, by decide +kernel, rfl, by decide +kernel, by decide +kernel⟩
theorem pd_get2 {α β : Type} {F : α → β → Prop} : ∀ {l : List α} {m : List β}, Paired F l m → ∀ (i : Nat) (b : β), m[i]? = some b → ∃ a, l[i]? = some a ∧ F a b
  | _, _, .nil, i, a, h => by simp at h
  | _, _, .cons r t, 0, a, h => ⟨_, rfl, by cases h; exact r⟩
  | _, _, .cons r t, i + 1, a, h => pd_get2 t i a h
def spSigns (C0 : Addr) : Sp := fun vs H Q _ => ∃ (p : Addr) (rs : List (List Cut)) (i : Nat) (cs : List Cut), vs = [.ref p, .int i] ∧ PlanAt C0 H p rs ∧ rs[i]? = some cs ∧ rs.length ≤ 3 ∧ Q (.int (placesF cs).length) H
theorem ok_Plan_signs (F : FunD K "signs" "Plan.signs" (defArgs s_Plan_signs) (defBody s_Plan_signs) (defScope s_Plan_signs) [] [] f fd) (T : TB mg) (R : PlanT K mg C0 aX mc) {fcheck_phase : Addr} {fdcheck_phase : FuncData} (Dcheck_phase : Gd P w K mg base "check_phase" 4 ["plan", "phase"] (spPhaseOk C0) fcheck_phase fdcheck_phase) : FnOk P w K mg base CX0 5 f fd ["self", "phase"] (spSigns C0) := by
  refine F.ok sc_Plan_signs (fun vs H Q E h => ?_) (fun cdv A outer s H vs Q E hr h => ?_)
  · obtain ⟨p, rs, i, cs, rfl, hp, hi, h3, k⟩ := h
    rfl
  · obtain ⟨p, rs, i, cs, rfl, hp, hi, h3, k⟩ := h
    refine ⟨_, (PSs.nox (pss_cons (ps_expr (pe_gd Dcheck_phase hr (by decide) (by rfl) (pa_cons (pv 0) (pa_cons (pv 1) pa_nil))))
      (pss_one (ps_ret (pe_callB call_len_seq (by rfl) T.len PySem.boot_len (pa_cons (pe_ix ix_seq (pe_fld (pv 0) rfl) (pv 1) (fun _ _ => rfl)) pa_nil)))))), ?_⟩
    obtain ⟨dx, lr, lp, ll, g, h1, h2⟩ := id hp
    obtain ⟨as, l1, l2⟩ := h2.l
    have hl := (List.getElem?_eq_some_iff.mp hi).1
    obtain ⟨a, hai, ha⟩ := pd_get2 l2 i cs hi
    obtain ⟨bs, b1, b2⟩ := id ha
    refine ⟨_, rfl, _, rfl, p, rs, i, rfl, hp, hl, h3, ?_⟩
    refine ⟨_, rfl, p, C0, dx, _, _, rfl, h1, R.cl, R.nL, rfl, _, rfl, .inl ⟨ll, _, _, _, rfl, rfl, SqL.of l1, atI_nat (by rw [List.getElem?_map, hai]; rfl), a, _, rfl, .inl (SqL.of b1), ?_⟩⟩
    rw [List.length_map, pd_len b2]
    exact k
end
end Mc

set_option Elab.async false
set_option linter.all false
set_option maxRecDepth 100000
set_option maxHeartbeats 4000000
set_option exponentiation.threshold 20000
namespace Mc
open PySem PySem.Spec PyProof.Rows L2 ClX StX
section
variable {P : Program} {w : World} {K : PySem.W.Frag} {mg : Str → Option Value} {base : Heap} {f C0 aX : Addr} {mc : Value} {fd : FuncData}
theorem sc_Plan_parts : FnScope ["self", "phase"] ["self", "phase"] (defScope s_Plan_parts) := ⟨rfl, rfl, rfl, by decide +kernel, rfl, by decide +kernel, by decide +kernel⟩
def spPartsM (C0 : Addr) : Sp := fun vs H Q _ => ∃ (p : Addr) (rs : List (List Cut)) (i : Nat) (cs : List Cut), vs = [.ref p, .int i] ∧ PlanAt C0 H p rs ∧ rs[i]? = some cs ∧ rs.length ≤ 3 ∧
  ∀ a, H a = some (.tup [.int (colsF cs), .int (rowsF cs)]) → Q (.ref a) H
theorem ok_Plan_parts (F : FunD K "parts" "Plan.parts" (defArgs s_Plan_parts) (defBody s_Plan_parts) (defScope s_Plan_parts) [] [] f fd) (T : TB mg) (R : PlanT K mg C0 aX mc) {fcheck_phase : Addr} {fdcheck_phase : FuncData} (Dcheck_phase : Gd P w K mg base "check_phase" 4 ["plan", "phase"] (spPhaseOk C0) fcheck_phase fdcheck_phase) : FnOk P w K mg base CX0 5 f fd ["self", "phase"] (spPartsM C0) := by
  refine F.ok sc_Plan_parts (fun vs H Q E h => ?_) (fun cdv A outer s H vs Q E hr h => ?_)
  · obtain ⟨p, rs, i, cs, rfl, hp, hi, h3, k⟩ := h
    rfl
  · obtain ⟨p, rs, i, cs, rfl, hp, hi, h3, k⟩ := h
    refine ⟨_, (PSs.nox (pss_cons (ps_expr (pe_gd Dcheck_phase hr (by decide) (by rfl) (pa_cons (pv 0) (pa_cons (pv 1) pa_nil))))
      (pss_one (ps_ret (pe_ix ix_seq (pe_fld (pv 0) rfl) (pv 1) (fun _ _ => rfl)))))), ?_⟩
    obtain ⟨dx, lr, lp, ll, g, h1, h2⟩ := id hp
    obtain ⟨as, l1, l2⟩ := h2.p
    have hl := (List.getElem?_eq_some_iff.mp hi).1
    have hi2 : (partsF rs)[i]? = some ((colsF cs : Int), (rowsF cs : Int)) := by
      unfold partsF
      rw [List.getElem?_map, hi]
      rfl
    obtain ⟨a, hai, ha⟩ := pd_get2 l2 i _ hi2
    refine ⟨_, rfl, _, rfl, p, rs, i, rfl, hp, hl, h3, ?_⟩
    exact ⟨_, rfl, p, C0, dx, _, _, rfl, h1, R.cl, R.nP, rfl, _, rfl, .inl ⟨lp, _, _, _, rfl, rfl, SqL.of l1, atI_nat (by rw [List.getElem?_map, hai]; rfl), k a ha⟩⟩
theorem sc_check_sign : FnScope ["plan", "phase", "sign"] ["plan", "phase", "sign"] (defScope s_check_sign) := ⟨rfl, rfl, rfl, by decide +kernel, rfl, by decide +kernel, by decide +kernel⟩
def spSignOk (C0 : Addr) : Sp := fun vs H Q _ => ∃ (p : Addr) (rs : List (List Cut)) (i : Nat) (cs : List Cut) (z : Nat), vs = [.ref p, .int i, .int z] ∧ PlanAt C0 H p rs ∧ rs[i]? = some cs ∧ rs.length ≤ 3 ∧ z < (placesF cs).length ∧ Q .non H
theorem ok_check_sign (F : FunD K "check_sign" "check_sign" (defArgs s_check_sign) (defBody s_check_sign) (defScope s_check_sign) [] [] f fd) (T : TB mg) (R : PlanT K mg C0 aX mc) {fis_count_below : Addr} {fdis_count_below : FuncData} (Dis_count_below : Gd P w K mg base "is_count_below" 3 ["value", "bound"] (spBelow) fis_count_below fdis_count_below) {fSg : Addr} {fdSg : FuncData} (mSg : Meth K C0 "signs" fSg) (Gsg : FnOk P w K mg base CX0 5 fSg fdSg ["self", "phase"] (spSigns C0)) (bSg : Binds K fdSg ["self", "phase"] []) : FnOk P w K mg base CX0 6 f fd ["plan", "phase", "sign"] (spSignOk C0) := by
  refine F.ok sc_check_sign (fun vs H Q E h => ?_) (fun cdv A outer s H vs Q E hr h => ?_)
  · obtain ⟨p, rs, i, cs, z, rfl, hp, hi, h3, hz, k⟩ := h
    rfl
  · obtain ⟨p, rs, i, cs, z, rfl, hp, hi, h3, hz, k⟩ := h
    refine ⟨_, (PSs.nox (pss_one (ps_if (pt_not (pt_val (pe_gd Dis_count_below hr (by decide) (by rfl) (pa_cons (pv 2) (pa_cons (pe_meth (pv 0) R.cl mSg Gsg (hr.mono (by decide)) bSg .nil pass0 (pa_cons (pv 1) pa_nil)) pa_nil))))) (pss_one ps_never) pss_nil))), ?_⟩
    obtain ⟨dx, lr, lp, ll, g, h1, h2⟩ := id hp
    refine ⟨_, rfl, _, rfl, p, dx, _, rfl, h1, rfl, _, rfl, p, rs, i, cs, rfl, hp, hi, h3, ?_⟩
    exact ⟨_, _, rfl, by omega, by omega, _, rfl, iteF k⟩
theorem sc_Plan_place_of : FnScope ["self", "phase", "sign"] ["self", "phase", "sign"] (defScope s_Plan_place_of) := ⟨rfl, rfl, rfl, by decide +kernel, rfl, by decide +kernel, by decide +kernel⟩
def spPlaceOf (C0 : Addr) : Sp := fun vs H Q _ => ∃ (p : Addr) (rs : List (List Cut)) (i : Nat) (cs : List Cut) (z : Nat) (q : Pr), vs = [.ref p, .int i, .int z] ∧ PlanAt C0 H p rs ∧ rs[i]? = some cs ∧ rs.length ≤ 3 ∧ (placesF cs)[z]? = some q ∧
  ∀ a, H a = some (.tup [.int q.1, .int q.2]) → Q (.ref a) H
theorem ok_Plan_place_of (F : FunD K "place_of" "Plan.place_of" (defArgs s_Plan_place_of) (defBody s_Plan_place_of) (defScope s_Plan_place_of) [] [] f fd) (T : TB mg) (R : PlanT K mg C0 aX mc) {fcheck_sign : Addr} {fdcheck_sign : FuncData} (Dcheck_sign : Gd P w K mg base "check_sign" 6 ["plan", "phase", "sign"] (spSignOk C0) fcheck_sign fdcheck_sign) : FnOk P w K mg base CX0 7 f fd ["self", "phase", "sign"] (spPlaceOf C0) := by
  refine F.ok sc_Plan_place_of (fun vs H Q E h => ?_) (fun cdv A outer s H vs Q E hr h => ?_)
  · obtain ⟨p, rs, i, cs, z, q, rfl, hp, hi, h3, hz, k⟩ := h
    rfl
  · obtain ⟨p, rs, i, cs, z, q, rfl, hp, hi, h3, hz, k⟩ := h
    refine ⟨_, (PSs.nox (pss_cons (ps_expr (pe_gd Dcheck_sign hr (by decide) (by rfl) (pa_cons (pv 0) (pa_cons (pv 1) (pa_cons (pv 2) pa_nil)))))
      (pss_one (ps_ret (pe_ix ix_seq (pe_ix ix_seq (pe_fld (pv 0) rfl) (pv 1) (fun _ _ => rfl)) (pv 2) (fun _ _ => rfl)))))), ?_⟩
    obtain ⟨dx, lr, lp, ll, g, h1, h2⟩ := id hp
    obtain ⟨as, l1, l2⟩ := h2.l
    obtain ⟨a, hai, ha⟩ := pd_get2 l2 i cs hi
    obtain ⟨bs, b1, b2⟩ := id ha
    obtain ⟨b, hbi, hb⟩ := pd_get2 b2 z q hz
    refine ⟨_, rfl, _, rfl, _, rfl, p, rs, i, cs, z, rfl, hp, hi, h3, (List.getElem?_eq_some_iff.mp hz).1, ?_⟩
    refine ⟨_, rfl, p, C0, dx, _, _, rfl, h1, R.cl, R.nL, rfl, _, rfl, .inl ⟨ll, _, _, _, rfl, rfl, SqL.of l1, atI_nat (by rw [List.getElem?_map, hai]; rfl), _, rfl, ?_⟩⟩
    exact .inl ⟨a, _, _, _, rfl, rfl, SqL.of b1, atI_nat (by rw [List.getElem?_map, hbi]; rfl), k b hb⟩
theorem sc_Plan_growth : FnScope ["self"] ["self"] (defScope s_Plan_growth) := ⟨rfl, rfl, rfl, by decide +kernel, rfl, by decide +kernel, by decide +kernel⟩
def spGrowth (C0 : Addr) : Sp := fun vs H Q _ => ∃ (p : Addr) (rs : List (List Cut)), vs = [.ref p] ∧ PlanAt C0 H p rs ∧ Q (.int (mulF (partsF rs)).1) H
theorem ok_Plan_growth (F : FunD K "growth" "Plan.growth" (defArgs s_Plan_growth) (defBody s_Plan_growth) (defScope s_Plan_growth) [] [] f fd) (T : TB mg) (R : PlanT K mg C0 aX mc) : FnOk P w K mg base CX0 1 f fd ["self"] (spGrowth C0) := by
  refine F.ok sc_Plan_growth (fun vs H Q E h => ?_) (fun cdv A outer s H vs Q E hr h => ?_)
  · obtain ⟨p, rs, rfl, hp, k⟩ := h
    rfl
  · obtain ⟨p, rs, rfl, hp, k⟩ := h
    refine ⟨_, (PSs.nox (pss_one (ps_ret (pe_fld (pv 0) rfl)))), ?_⟩
    obtain ⟨dx, lr, lp, ll, g, h1, h2⟩ := hp
    have hg := h2.g
    subst hg
    exact ⟨_, rfl, p, C0, dx, _, _, rfl, h1, R.cl, R.nG, rfl, k⟩
end
end Mc

set_option Elab.async false
set_option linter.all false
set_option maxRecDepth 100000
set_option maxHeartbeats 4000000
set_option exponentiation.threshold 20000
namespace Mc
open PySem PySem.Spec PyProof.Rows L2 ClX StX
section
variable {P : Program} {w : World} {K : PySem.W.Frag} {mg : Str → Option Value} {base : Heap} {f C0 aX : Addr} {mc : Value} {fd : FuncData}
theorem sc_Plan_rounds : FnScope ["self", "cuts"] ["self"] (defScope s_Plan_rounds) := ⟨rfl, rfl, rfl, by decide +kernel, rfl, by decide +kernel, by decide +kernel⟩
theorem call_listK {X : Cx} {K : PySem.W.Frag} (hK : X.K = K) : CallR X (.type "list") (fun xs H Q => ∃ p ys, xs = [.ref p] ∧ (SqL K H p ys ∨ SqT K H p ys) ∧ ∀ l, H l = none → Q (.ref l) (upd H l (.lst ys))) := by
  subst hK
  exact call_list_of
def spRounds (C0 : Addr) : Sp := fun vs H Q _ => ∃ (p : Addr) (rs : List (List Cut)), vs = [.ref p] ∧ PlanAt C0 H p rs ∧ rs.length ≤ 3 ∧
  ∀ l as H', Ext H H' → H l = none → (∀ a ∈ as, H a = none) → as.Nodup → l ∉ as → H' l = some (.lst (as.map V.ref)) → Paired (CutsL H') as rs → Q (.ref l) H'
theorem ok_Plan_rounds (F : FunD K "rounds" "Plan.rounds" (defArgs s_Plan_rounds) (defBody s_Plan_rounds) (defScope s_Plan_rounds) [] [] f fd) (T : TB mg) (R : PlanT K mg C0 aX mc) : FnOk P w K mg base CX0 1 f fd ["self"] (spRounds C0) := by
  refine F.ok sc_Plan_rounds (fun vs H Q E h => ?_) (fun cdv A outer s H vs Q E hr h => ?_)
  · obtain ⟨p, rs, rfl, hp, h3, k⟩ := h
    rfl
  · obtain ⟨p, rs, rfl, hp, h3, k⟩ := h
    refine ⟨_, (PSs.nox (pss_one (ps_ret (pe_lc (own := [("cuts", 1)]) (g := gName 1) (tt := tYes) rfl sc_Plan_rounds.nd (pi_list (pe_fld (pv 0) rfl)) (blkOk_by (own := [("cuts", 1)]) (N := ["self", "cuts"]) (sc := defScope s_Plan_rounds) (by decide +kernel)) (fun _ _ _ _ _ => (pg_name (i := 1) sc_Plan_rounds.nd rfl (.inl rfl))) (fun _ _ _ _ _ => pts_nil) (fun _ _ _ _ _ => (pe_callTy (call_listK (K := K) rfl) (by rfl) T.list (by decide +kernel) (pa_cons (pv 1) pa_nil))))))), ?_⟩
    obtain ⟨dx, lr, lp, ll, g, h1, h2⟩ := id hp
    obtain ⟨as, r1, r2⟩ := h2.r
    refine ⟨_, rfl, p, C0, dx, _, _, rfl, h1, R.cl, R.nR, rfl, lr, rfl, ⟨_, SqL.of r1⟩, fun D hD => lc_walk walk_l (fun i H' => ∃ ds : List Addr, H' D = some (.lst (ds.map V.ref)) ∧ Paired (fun a cs => CutsL H' a cs ∧ a ≠ D) ds (rs.take i) ∧ ds.Nodup ∧ (∀ a ∈ ds, H a = none) ∧ Ext H H') ⟨[], upd_same, .nil, List.nodup_nil, (fun _ h => nomatch h), Ext.upd hD⟩ (fun _ _ ⟨_, _, _, _, _, e⟩ => SqL.of (e _ _ r1)) ?_ ?_⟩
    · rintro i x H' hx ⟨ds, d1, d2, d3, d4, e⟩
      obtain ⟨a, rfl, cs, hci, bs, b1, b2⟩ := refs_get r2 hx
      refine ⟨rfl, lc_yes ⟨_, rfl, a, _, rfl, .inl (SqL.of (e _ _ b1)), fun l hl => ?_⟩⟩
      have nlD : l ≠ D := fun z => by
        rw [z, d1] at hl
        cases hl
      have hlH : H l = none := none_of e hl
      have e2 : Ext H' (upd H' l (.lst (bs.map V.ref))) := Ext.upd hl
      have nlds : l ∉ ds := fun hm => by
        obtain ⟨j, hj⟩ := List.getElem?_of_mem hm
        obtain ⟨cs2, _, ⟨_, q1, _⟩, _⟩ := pd_get d2 j l hj
        rw [q1] at hl
        cases hl
      refine ⟨_, e2 _ _ d1, ?_, ds ++ [l], ?_, ?_, ?_, ?_, ext_put (e.trans e2) hD⟩
      · rw [List.length_map, pd_len d2, List.length_take, sizeLine_eq]
        omega
      · rw [upd_same, List.map_append]
        rfl
      · rw [take_snoc hci]
        refine pd_snoc (pd_imp (fun b c q => ⟨side_cuts (e2 _ _ d1) q.2 (q.1.ext e2), q.2⟩) d2) ⟨side_cuts (e2 _ _ d1) nlD ⟨bs, upd_same, pd_imp (fun b c q => e2 _ _ (e _ _ q)) b2⟩, nlD⟩
      · exact List.nodup_append.mpr ⟨d3, List.nodup_cons.mpr ⟨(fun h => nomatch h), List.nodup_nil⟩, fun b hb c hc z => by
          rw [List.mem_singleton.mp hc] at z
          exact nlds (z ▸ hb)⟩
      · intro b hb
        rcases List.mem_append.mp hb with hb | hb
        · exact d4 b hb
        · rw [List.mem_singleton.mp hb]
          exact hlH
    · rintro H' ⟨ds, d1, d2, d3, d4, e⟩
      rw [List.length_map, pd_len r2, List.take_length] at d2
      refine k D ds H' e hD d4 d3 (fun hm => ?_) d1 (pd_imp (fun _ _ q => q.1) d2)
      obtain ⟨j, hj⟩ := List.getElem?_of_mem hm
      obtain ⟨_, _, _, q⟩ := pd_get d2 j D hj
      exact q rfl
end
end Mc

set_option Elab.async false
set_option linter.all false
set_option maxRecDepth 100000
set_option maxHeartbeats 4000000
set_option exponentiation.threshold 20000
namespace Mc
open PySem PySem.Spec PyProof.Rows L2 ClX StX
section
variable {P : Program} {w : World} {K : PySem.W.Frag} {mg : Str → Option Value} {base : Heap} {f C0 aX : Addr} {mc : Value} {fd : FuncData}
theorem sc_counts_at : FnScope ["plan", "f", "turns", "rest", "columns", "rows", "many", "phase"] ["plan", "f"] (defScope s_counts_at) := ⟨rfl, rfl, rfl, by decide +kernel, rfl, by decide +kernel, by decide +kernel⟩
theorem cut_take (xs : List V) {n : Nat} (h : n ≤ xs.length) : L2.cutV xs Option.none (some ((n : Nat) : Int)) = xs.take n := by
  unfold L2.cutV
  rw [HT.sIx_none, HT.sIx_nat, List.drop_zero, Nat.sub_zero, Nat.min_eq_left h]
theorem pd_take {α β : Type} {F : α → β → Prop} : ∀ (n : Nat) {l : List α} {m : List β}, Paired F l m → Paired F (l.take n) (m.take n)
  | 0, _, _, _ => .nil
  | n + 1, _, _, .nil => .nil
  | n + 1, _, _, .cons r t => .cons r (pd_take n t)
theorem mul_32 {rs : List (List Cut)} (ok : OkR rs) (ps : List Pr) (hs : ∀ q ∈ ps, q ∈ partsF rs) (l3 : ps.length ≤ 3) : (mulF ps).1.natAbs ≤ 32 ^ 3 ∧ (mulF ps).2.natAbs ≤ 32 ^ 3 := by
  have each : ∀ q ∈ ps, q.1.natAbs ≤ 32 ∧ q.2.natAbs ≤ 32 := fun q hq => by
    obtain ⟨cs, hm, rfl⟩ := List.mem_map.mp (hs q hq)
    have h1 := ok.h32 cs hm
    have h2 := pos_cols (ok.hc cs hm)
    have h3 := Nat.le_mul_of_pos_right (colsF cs) h2.2
    have h4 := Nat.le_mul_of_pos_left (rowsF cs) h2.1
    exact ⟨by show ((colsF cs : Int)).natAbs ≤ 32; omega, by show ((rowsF cs : Int)).natAbs ≤ 32; omega⟩
  have m32 : ∀ {x y : Int} {n : Nat}, x.natAbs ≤ n → y.natAbs ≤ 32 → (x * y).natAbs ≤ n * 32 := fun a b => by
    rw [Int.natAbs_mul]
    exact Nat.mul_le_mul a b
  match ps, l3, each with
  | [], _, _ => exact ⟨by decide, by decide⟩
  | [a], _, e => exact ⟨Nat.le_trans (m32 (n := 1) (Nat.le_refl 1) (e a (by simp)).1) (by decide), Nat.le_trans (m32 (n := 1) (Nat.le_refl 1) (e a (by simp)).2) (by decide)⟩
  | [a, b], _, e => exact ⟨Nat.le_trans (m32 (m32 (n := 1) (Nat.le_refl 1) (e a (by simp)).1) (e b (by simp)).1) (by decide), Nat.le_trans (m32 (m32 (n := 1) (Nat.le_refl 1) (e a (by simp)).2) (e b (by simp)).2) (by decide)⟩
  | [a, b, c], _, e => exact ⟨Nat.le_trans (m32 (m32 (m32 (n := 1) (Nat.le_refl 1) (e a (by simp)).1) (e b (by simp)).1) (e c (by simp)).1) (by decide), Nat.le_trans (m32 (m32 (m32 (n := 1) (Nat.le_refl 1) (e a (by simp)).2) (e b (by simp)).2) (e c (by simp)).2) (by decide)⟩
/-- columns and rows of the first i signs -/
def countsF (rs : List (List Cut)) (i : Nat) : Pr :=
  let q := mulF ((partsF rs).take (i % rs.length))
  (q.1 * (mulF (partsF rs)).1 ^ (i / rs.length), q.2 * (mulF (partsF rs)).1 ^ (i / rs.length))
def spCounts (C0 : Addr) : Sp := fun vs H Q _ => ∃ (p : Addr) (rs : List (List Cut)) (i : Nat), vs = [.ref p, .int i] ∧ PlanAt C0 H p rs ∧ OkR rs ∧ i ≤ 1000 ∧
  ∀ t H', Ext H H' → H' t = some (.tup [.int (countsF rs i).1, .int (countsF rs i).2]) → Q (.ref t) H'
theorem ok_counts_at (F : FunD K "counts_at" "counts_at" (defArgs s_counts_at) (defBody s_counts_at) (defScope s_counts_at) [] [] f fd) (T : TB mg) (R : PlanT K mg C0 aX mc) {fLen : Addr} {fdLen : FuncData} (mLen : Meth K C0 "__len__" fLen) (Glen : FnOk P w K mg base CX0 1 fLen fdLen ["self"] (spLen C0)) (bLen : Binds K fdLen ["self"] []) {fPa : Addr} {fdPa : FuncData} (mPa : Meth K C0 "parts" fPa) (Gpa : FnOk P w K mg base CX0 5 fPa fdPa ["self", "phase"] (spPartsM C0)) (bPa : Binds K fdPa ["self", "phase"] []) {pgr fGr : Addr} {fdGr : FuncData} (pGr : PropOf K C0 "growth" pgr fGr) (Ggr : FnOk P w K mg base CX0 1 fGr fdGr ["self"] (spGrowth C0)) (bGr : Binds K fdGr ["self"] []) {fmultiplied : Addr} {fdmultiplied : FuncData} (Dmultiplied : Gd P w K mg base "_multiplied" 1 ["all_parts"] (spMul K) fmultiplied fdmultiplied) {fpower : Addr} {fdpower : FuncData} (Dpower : Gd P w K mg base "_power" 1 ["base", "exponent"] (spPower) fpower fdpower) : FnOk P w K mg base CX0 6 f fd ["plan", "f"] (spCounts C0) := by
  refine F.ok sc_counts_at (fun vs H Q E h => ?_) (fun cdv A outer s H vs Q E hr h => ?_)
  · obtain ⟨p, rs, i, rfl, hp, ok, h1000, k⟩ := h
    rfl
  · obtain ⟨p, rs, i, rfl, hp, ok, h1000, k⟩ := h
    refine ⟨_, (PSs.nox (pss_cons (ps_asg (pe_callB call_divmodW (by rfl) T.divmod (by decide +kernel) (pa_cons (pv 1) (pa_cons (pe_callB (call_lenO mLen Glen bLen (hr.mono (by decide))) (by rfl) T.len PySem.boot_len (pa_cons (pv 0) pa_nil)) pa_nil))) (pg_tup rfl (pgs_cons (pg_name (i := 2) sc_counts_at.nd rfl (.inl rfl)) (pgs_cons (pg_name (i := 3) sc_counts_at.nd rfl (.inl rfl)) pgs_nil))))
      (pss_cons (ps_asg (pe_gd Dmultiplied hr (by decide) (by rfl) (pa_cons (pe_lc (own := [("phase", 7)]) (g := gName 7) (tt := tYes) rfl sc_counts_at.nd (pi_range1 (by rfl) T.range (pa_cons (pv 3) pa_nil)) (blkOk_by (own := [("phase", 7)]) (N := ["plan", "f", "turns", "rest", "columns", "rows", "many", "phase"]) (sc := defScope s_counts_at) (by decide +kernel)) (fun _ _ _ _ _ => (pg_name (i := 7) sc_counts_at.nd rfl (.inl rfl))) (fun _ _ _ _ _ => pts_nil) (fun _ _ _ _ _ => (pe_meth (pv 0) R.cl mPa Gpa (hr.mono (by decide)) bPa .nil pass0 (pa_cons (pv 7) pa_nil)))) pa_nil)) (pg_tup rfl (pgs_cons (pg_name (i := 4) sc_counts_at.nd rfl (.inl rfl)) (pgs_cons (pg_name (i := 5) sc_counts_at.nd rfl (.inl rfl)) pgs_nil))))
      (pss_cons (ps_set (i := 6) sc_counts_at.nd rfl (.inl rfl) (pe_gd Dpower hr (by decide) (by rfl) (pa_cons (pe_prop (pv 0) R.cl pGr Ggr (hr.mono (by decide)) bGr .nil pass0 rfl) (pa_cons (pv 2) pa_nil))))
      (pss_one (ps_ret (pe_tup (pa_cons (pe_op op_mulW (pv 4) (pv 6)) (pa_cons (pe_op op_mulW (pv 5) (pv 6)) pa_nil))))))))), ?_⟩
    obtain ⟨dx, lr, lp, ll, g, h1, h2⟩ := id hp
    obtain ⟨ps, q1, q2⟩ := h2.p
    have n3 := ok.l3
    have n1 := ok.l1
    refine ⟨_, rfl, _, rfl, p, dx, _, rfl, h1, p, rs, rfl, hp, rs.length, rfl, by omega, ?_⟩
    obtain ⟨m, hmd⟩ : ∃ m : Nat, m = i % rs.length := ⟨_, rfl⟩
    obtain ⟨d, hd⟩ : ∃ d : Nat, d = i / rs.length := ⟨_, rfl⟩
    have em : (i : Int) % (rs.length : Int) = (m : Int) := by rw [hmd]; rfl
    have ed : (i : Int) / (rs.length : Int) = (d : Int) := by rw [hd]; rfl
    have hm : m < rs.length := by rw [hmd]; exact Nat.mod_lt i n1
    refine ⟨(i : Int), (rs.length : Int), rfl, plain_div _ (by omega) (len_log (by omega)), fun t ht => ?_⟩
    have e1 : Ext H (upd H t (.tup [.int ((i : Int) / (rs.length : Int)), .int ((i : Int) % (rs.length : Int))])) := Ext.upd ht
    have hT : (upd H t (.tup [.int ((i : Int) / (rs.length : Int)), .int ((i : Int) % (rs.length : Int))])) t = some (.tup [.int d, .int m]) := by rw [upd_same, em, ed]
    generalize upd H t (.tup [.int ((i : Int) / (rs.length : Int)), .int ((i : Int) % (rs.length : Int))]) = H1 at *
    refine ⟨t, _, rfl, SqT.of hT, rfl, _, _, rfl, _, _, rfl, rfl, ?_⟩
    have pm := parts_small ok
    refine ⟨_, rfl, (m : Int), rfl, by omega, by omega, fun D hD => lc_walk (walk_r (lo := 0)) (fun j H' => ∃ ds : List Addr, H' D = some (.lst (ds.map V.ref)) ∧ Paired (fun a (q : Pr) => H' a = some (.tup [.int q.1, .int q.2])) ds ((partsF rs).take j) ∧ Ext H1 H') ⟨[], upd_same, .nil, Ext.upd hD⟩ (fun _ _ _ => trivial) ?_ ?_⟩
    · rintro j x H' hx ⟨ds, d1, d2, e⟩
      have hj : j < m := by
        have := (List.getElem?_eq_some_iff.mp hx).1
        simpa using this
      have hx5 : x = .int (j : Nat) := by
        rw [List.getElem?_map, List.getElem?_range (by simpa using hj)] at hx
        have := Option.some.inj hx
        rw [← this]
        show V.int (0 + (j : Int)) = V.int (j : Int)
        rw [Int.zero_add]
      subst hx5
      have hjl : j < rs.length := by omega
      have hci : rs[j]? = some rs[j] := List.getElem?_eq_getElem hjl
      have hpi : (partsF rs)[j]? = some ((colsF rs[j] : Int), (rowsF rs[j] : Int)) := by
        unfold partsF
        rw [List.getElem?_map, hci]
        rfl
      have hp' := hp.ext (e1.trans e)
      refine ⟨rfl, lc_yes ⟨_, rfl, p, dx, _, rfl, e _ _ (e1 _ _ h1), rfl, _, rfl, p, rs, j, rs[j], rfl, hp', hci, n3, fun a ha => ?_⟩⟩
      have naD : a ≠ D := fun z => by
        rw [z, d1] at ha
        cases ha
      refine ⟨_, d1, ?_, ds ++ [a], ?_, ?_, ext_put e hD⟩
      · rw [List.length_map, pd_len d2, List.length_take, partsF, List.length_map, sizeLine_eq]
        omega
      · rw [upd_same, List.map_append]
        rfl
      · rw [take_snoc hpi]
        refine pd_snoc (pd_imp (fun b q hq => side_t d1 hq) d2) (side_t d1 ha)
    rintro H2 ⟨ds, d1, d2, e2⟩
    have el : (List.map (fun k : Nat => V.int (0 + (k : Int))) (List.range ((m : Int)).toNat)).length = m := by simp
    rw [el] at d2
    refine ⟨D, ds, (partsF rs).take (m), rfl, .inl (SqL.of d1), d2, by rw [List.length_take, partsF, List.length_map]; omega, fun q hq => ⟨(pm q (List.mem_of_mem_take hq)).1, (pm q (List.mem_of_mem_take hq)).2.1⟩, fun t2 H3 e3 ht2 => ?_⟩
    have e13 := (e1.trans e2).trans e3
    refine ⟨t2, _, rfl, SqT.of ht2, rfl, _, _, rfl, _, _, rfl, rfl, ?_⟩
    have hg : ((mulF (partsF rs)).1).natAbs ≤ 32 ^ 3 := (mul_32 ok (partsF rs) (fun q h => h) (by rw [partsF, List.length_map]; exact n3)).1
    have hq3 := mul_32 ok ((partsF rs).take (m)) (fun q h => List.mem_of_mem_take h) (by rw [List.length_take, partsF, List.length_map]; omega)
    have hdv : d ≤ 1000 := by rw [hd]; exact Nat.le_trans (Nat.div_le_self _ _) h1000
    refine ⟨_, rfl, p, dx, _, rfl, e13 _ _ h1, p, rs, rfl, hp.ext e13, _, rfl, _, d, rfl, Nat.lt_of_le_of_lt hg (by decide), hdv, ?_⟩
    have hpw : ((mulF (partsF rs)).1 ^ (d)).natAbs < 2 ^ 15001 := by
      rw [Int.natAbs_pow]
      refine Nat.lt_of_le_of_lt (Nat.pow_le_pow_left hg _) ?_
      rw [show 32 ^ 3 = 2 ^ 15 from rfl, ← Nat.pow_mul]
      exact Nat.pow_lt_pow_right (by decide) (by omega)
    have b1 : (mulF ((partsF rs).take (m))).1.natAbs < 2 ^ 16 := Nat.lt_of_le_of_lt hq3.1 (by decide)
    have b2 : (mulF ((partsF rs).take (m))).2.natAbs < 2 ^ 16 := Nat.lt_of_le_of_lt hq3.2 (by decide)
    refine ⟨_, rfl, _, rfl, _, _, rfl, rfl, mulW b1 hpw, _, rfl, _, rfl, _, _, rfl, rfl, mulW b2 hpw, (by show 2 ≤ sizeLine; decide), fun t4 ht4 => ?_⟩
    refine k t4 _ (e13.trans (Ext.upd ht4)) ?_
    rw [upd_same]
    unfold countsF
    rw [← hmd, ← hd]
theorem sc_Plan_counts : FnScope ["self", "f"] ["self", "f"] (defScope s_Plan_counts) := ⟨rfl, rfl, rfl, by decide +kernel, rfl, by decide +kernel, by decide +kernel⟩
theorem ok_Plan_counts (F : FunD K "counts" "Plan.counts" (defArgs s_Plan_counts) (defBody s_Plan_counts) (defScope s_Plan_counts) [] [] f fd) (T : TB mg) {fcheck_fineness : Addr} {fdcheck_fineness : FuncData} (Dcheck_fineness : Gd P w K mg base "check_fineness" 3 ["f"] (spFine) fcheck_fineness fdcheck_fineness) {fcounts_at : Addr} {fdcounts_at : FuncData} (Dcounts_at : Gd P w K mg base "counts_at" 6 ["plan", "f"] (spCounts C0) fcounts_at fdcounts_at) : FnOk P w K mg base CX0 7 f fd ["self", "f"] (spCounts C0) := by
  refine F.ok sc_Plan_counts (fun vs H Q E h => ?_) (fun cdv A outer s H vs Q E hr h => ?_)
  · obtain ⟨p, rs, i, rfl, hp, ok, h1000, k⟩ := h
    rfl
  · obtain ⟨p, rs, i, rfl, hp, ok, h1000, k⟩ := h
    refine ⟨_, (PSs.nox (pss_cons (ps_expr (pe_gd Dcheck_fineness hr (by decide) (by rfl) (pa_cons (pv 1) pa_nil)))
      (pss_one (ps_ret (pe_gd Dcounts_at hr (by decide) (by rfl) (pa_cons (pv 0) (pa_cons (pv 1) pa_nil))))))), ?_⟩
    exact ⟨_, rfl, i, rfl, by omega, by omega, _, rfl, _, rfl, p, rs, i, rfl, hp, ok, h1000, k⟩
end
end Mc

set_option Elab.async false
set_option linter.all false
set_option maxRecDepth 100000
set_option maxHeartbeats 4000000
set_option exponentiation.threshold 20000
namespace Mc
open PySem PySem.Spec PyProof.Rows L2 ClX StX
open RZ
section
variable {P : Program} {w : World} {K : PySem.W.Frag} {mg : Str → Option Value} {base : Heap} {f C0 aX : Addr} {mc : Value} {fd : FuncData}
theorem sc_check_pair : FnScope ["pair", "parts", "number", "many"] ["pair", "parts"] (defScope s_check_pair) := ⟨rfl, rfl, rfl, by decide +kernel, rfl, by decide +kernel, by decide +kernel⟩
theorem lc_zipT {K : PySem.W.Frag} {a b : Addr} {xs ys : List V} {g : TG} {tt : TT} {te : TE} {vs : List Nat} {σ : L2.St} {H1 : Hp} {D : Addr} {Qd : Hp → Prop} (hl : xs.length = ys.length) (Pv : Nat → Hp → Prop) (h0 : Pv 0 (upd H1 D (.lst []))) (hS : ∀ i H, Pv i H → SqT K H a xs ∧ SqT K H b ys)
    (hs : ∀ i x y T H, xs[i]? = some x → ys[i]? = some y → H T = none → Pv i H → g (.ref T) (wipe σ vs) (upd H T (.tup [x, y])) fun σ2 H2 => wipe σ2 vs = wipe σ vs ∧ tt σ2 H2 fun b H3 => if b = true then te σ2 H3 fun y H4 => ∃ acc, H4 D = some (.lst acc) ∧ acc.length < sizeLine ∧ Pv (i + 1) (upd H4 D (.lst (acc ++ [y]))) else Pv (i + 1) H3) (hd : ∀ H, Pv xs.length H → Qd H) : ∃ W : Nat → Nat → Hp → Prop, (∃ m, W 0 m (upd H1 D (.lst []))) ∧ ∀ i m H, W i m H →
      ((ItzT K a b).stop i H ∧ Qd H) ∨ ((ItzT K a b).go i H ∧ ∃ Nx : Hp → Prop, (∀ H', Nx H' → ∃ m', m' < m ∧ W (i + 1) m' H') ∧ ∀ x H', (ItzT K a b).yld i H x H' → g x (wipe σ vs) H' fun σ2 H2 => wipe σ2 vs = wipe σ vs ∧ tt σ2 H2 fun b H3 => if b = true then te σ2 H3 fun y H4 => ∃ acc, H4 D = some (.lst acc) ∧ acc.length < sizeLine ∧ Nx (upd H4 D (.lst (acc ++ [y]))) else Nx H3) := by
  refine ⟨fun i m H => i + m = xs.length ∧ Pv i H, ⟨xs.length, Nat.zero_add _, h0⟩, fun i m H ⟨hm, p⟩ => ?_⟩
  obtain ⟨s1, s2⟩ := hS i H p
  rcases Nat.eq_zero_or_pos m with z | z
  · have e : i = xs.length := by omega
    exact .inl ⟨⟨xs, ys, s1, s2, .inl (Nat.le_of_eq e.symm)⟩, hd H (e ▸ p)⟩
  · have lt : i < xs.length := by omega
    refine .inr ⟨⟨xs, ys, xs[i], ys[i]'(hl ▸ lt), s1, s2, List.getElem?_eq_getElem lt, List.getElem?_eq_getElem _⟩, Pv (i + 1), fun _ q => ⟨m - 1, by omega, by omega, q⟩, ?_⟩
    rintro v H' ⟨T, x, y, rfl, hT, rfl, hx, hy⟩
    exact hs i x y T H (hx xs s1) (hy ys s2) hT p
def spPairOk : Sp := fun vs H Q _ => ∃ (a b : Addr) (x y c r : Int), vs = [.ref a, .ref b] ∧ H a = some (.tup [.int x, .int y]) ∧ H b = some (.tup [.int c, .int r]) ∧ x ≥ 0 ∧ x < c ∧ y ≥ 0 ∧ y < r ∧ ∀ H', Ext H H' → Q .non H'
theorem ok_check_pair (F : FunD K "check_pair" "check_pair" (defArgs s_check_pair) (defBody s_check_pair) (defScope s_check_pair) [] [] f fd) (T : TB mg) (R : PlanT K mg C0 aX mc) {fis_tuple_of : Addr} {fdis_tuple_of : FuncData} (Dis_tuple_of : Gd P w K mg base "is_tuple_of" 1 ["value", "many"] (spTupOf) fis_tuple_of fdis_tuple_of) {fis_count_below : Addr} {fdis_count_below : FuncData} (Dis_count_below : Gd P w K mg base "is_count_below" 3 ["value", "bound"] (spBelow) fis_count_below fdis_count_below) : FnOk P w K mg base CX0 4 f fd ["pair", "parts"] (spPairOk) := by
  refine F.ok sc_check_pair (fun vs H Q E h => ?_) (fun cdv A outer s H vs Q E hr h => ?_)
  · obtain ⟨a, b, x, y, c, r, rfl, ha, hb, x0, x1, y0, y1, k⟩ := h
    rfl
  · obtain ⟨a, b, x, y, c, r, rfl, ha, hb, x0, x1, y0, y1, k⟩ := h
    refine ⟨_, (PSs.nox (pss_cons (ps_if (pt_not (pt_val (pe_gd Dis_tuple_of hr (by decide) (by rfl) (pa_cons (pv 0) (pa_cons pe_int pa_nil))))) (pss_one ps_never) pss_nil)
      (pss_one (ps_if (pt_not (pt_val (pe_callB (cr_all rfl) (by rfl) T.all (by decide +kernel) (pa_cons (pe_lc (own := [("number", 2), ("many", 3)]) (g := gTup K 2 (gCons (gName 2) (gCons (gName 3) gNil))) (tt := tYes) rfl sc_check_pair.nd (pi_zipA (by rfl) T.zip (pa_cons (pv 0) (pa_cons (pv 1) pa_nil))) (blkOk_by (own := [("number", 2), ("many", 3)]) (N := ["pair", "parts", "number", "many"]) (sc := defScope s_check_pair) (by decide +kernel)) (fun _ _ _ _ _ => (pg_tup rfl (pgs_cons (pg_name (i := 2) sc_check_pair.nd rfl (.inl rfl)) (pgs_cons (pg_name (i := 3) sc_check_pair.nd rfl (.inl rfl)) pgs_nil)))) (fun _ _ _ _ _ => pts_nil) (fun _ _ _ _ _ => (pe_gd Dis_count_below hr (by decide) (by rfl) (pa_cons (pv 2) (pa_cons (pv 3) pa_nil))))) pa_nil)))) (pss_one ps_never) pss_nil)))), ?_⟩
    refine ⟨_, rfl, a, _, 2, rfl, ha, rfl, _, rfl, iteF ?_⟩
    refine ⟨_, rfl, _, rfl, a, b, [.int x, .int y], [.int c, .int r], rfl, .inr ⟨SqT.of ha, SqT.of hb, fun D hD => lc_zipT (xs := [.int x, .int y]) (ys := [.int c, .int r]) rfl (fun i H' => H' D = some (.lst (List.replicate i (.bl true))) ∧ Ext H H') ⟨upd_same, Ext.upd hD⟩ (fun _ _ p => ⟨SqT.of (p.2 _ _ ha), SqT.of (p.2 _ _ hb)⟩) ?_ ?_⟩⟩
    · rintro i v w2 T2 H' hv hw hT ⟨hD', e⟩
      have key : ∃ n m : Int, v = .int n ∧ w2 = .int m ∧ n ≥ 0 ∧ n < m := by
        match i, hv, hw with
        | 0, hv, hw => cases hv; cases hw; exact ⟨x, c, rfl, rfl, x0, x1⟩
        | 1, hv, hw => cases hv; cases hw; exact ⟨y, r, rfl, rfl, y0, y1⟩
      obtain ⟨n, m, rfl, rfl, n0, nm⟩ := key
      have eT : Ext H' (upd H' T2 (.tup [.int n, .int m])) := Ext.upd hT
      have i2 : i < 2 := (List.getElem?_eq_some_iff.mp hv).1
      refine ⟨T2, _, rfl, SqT.of upd_same, rfl, _, _, rfl, _, _, rfl, rfl, rfl, lc_yes ⟨_, rfl, _, rfl, n, m, rfl, n0, nm, ?_⟩⟩
      refine ⟨_, eT _ _ hD', by rw [List.length_replicate, sizeLine_eq]; omega, ?_, ext_put (e.trans eT) hD⟩
      rw [upd_same, rep_put]
    · rintro H' ⟨hD', e⟩
      exact ⟨D, List.replicate 2 true, rfl, SqL.of hD', _, rfl, ite2 (fun hz => absurd hz (by decide)) (fun _ => k H' e)⟩
end
end Mc

set_option Elab.async false
set_option linter.all false
set_option maxRecDepth 100000
set_option maxHeartbeats 4000000
set_option exponentiation.threshold 20000
namespace Mc
open PySem PySem.Spec PyProof.Rows L2 ClX StX
section
variable {P : Program} {w : World} {K : PySem.W.Frag} {mg : Str → Option Value} {base : Heap} {f C0 aX : Addr} {mc : Value} {fd : FuncData}
theorem sc_Plan_sign_at : FnScope ["self", "phase", "pair"] ["self", "phase", "pair"] (defScope s_Plan_sign_at) := ⟨rfl, rfl, rfl, by decide +kernel, rfl, by decide +kernel, by decide +kernel⟩
theorem hu65 {k : Nat} {A : Around} (hr : Room k A) : A.units + 65 < cLine := by
  have := hr.un
  omega
def dqT (q : Pr) : PyData := .tuple [.int q.1, .int q.2]
theorem dp_pr {K : PySem.W.Frag} {H : Hp} {a : Addr} {q : Pr} (h : H a = some (.tup [.int q.1, .int q.2])) : Dp K H (.ref a) (dqT q) := .tup (SqT.of h) (.cons (.int _) (.cons (.int _) .nil))
theorem dp_prs {K : PySem.W.Frag} {H : Hp} : ∀ {as : List Addr} {ps : List Pr}, Paired (fun a (p : Pr) => H a = some (.tup [.int p.1, .int p.2])) as ps → DpAll K H (as.map V.ref) (ps.map dqT)
  | _, _, .nil => .nil
  | _, _, .cons r t => .cons (dp_pr r) (dp_prs t)
theorem dq_eqv (q r : Pr) : PyData.eqv (dqT q) (dqT r) = true ↔ q = r := by
  obtain ⟨a, b⟩ := q
  obtain ⟨c, d⟩ := r
  simp [dqT, PyData.eqv, PyData.eqvAll]
theorem shaped_pr (q : Pr) : SeqAt.shaped (dqT q) = true := by
  simp [dqT, SeqAt.shaped, PyData.canLay0, PyData.canLayAll0, PyData.depth, PyData.depthAll]
theorem shaped_prs (ps : List Pr) : SeqAt.shaped (.list (ps.map dqT)) = true := by
  have h1 : PyData.canLayAll0 (ps.map dqT) = true := by
    induction ps with
    | nil => rfl
    | cons q r ih => rw [List.map_cons, PyData.canLayAll0, ih]; simp [dqT, PyData.canLay0, PyData.canLayAll0]
  have h2 : PyData.depthAll (ps.map dqT) ≤ 1 := by
    clear h1
    induction ps with
    | nil => simp [PyData.depthAll]
    | cons q r ih =>
      rw [List.map_cons, PyData.depthAll]
      have : PyData.depth (dqT q) = 1 := by simp [dqT, PyData.depth, PyData.depthAll]
      rw [this]
      exact Nat.max_le.mpr ⟨Nat.le_refl 1, ih⟩
  unfold SeqAt.shaped
  rw [PyData.canLay0, h1, PyData.depth, Bool.true_and]
  exact decide_eq_true (by omega)
def spSignAt (C0 : Addr) : Sp := fun vs H Q _ => ∃ (p : Addr) (rs : List (List Cut)) (i : Nat) (cs : List Cut) (a : Addr) (q : Pr) (j : Nat), vs = [.ref p, .int i, .ref a] ∧ PlanAt C0 H p rs ∧ rs[i]? = some cs ∧ rs.length ≤ 3 ∧ H a = some (.tup [.int q.1, .int q.2]) ∧ (∀ c ∈ cs, okC c) ∧ (placesF cs)[j]? = some q ∧ (∀ m, m < j → (placesF cs)[m]? ≠ some q) ∧
  ∀ H', Ext H H' → Q (.int j) H'
theorem ok_Plan_sign_at (F : FunD K "sign_at" "Plan.sign_at" (defArgs s_Plan_sign_at) (defBody s_Plan_sign_at) (defScope s_Plan_sign_at) [] [] f fd) (T : TB mg) (R : PlanT K mg C0 aX mc) {fcheck_phase : Addr} {fdcheck_phase : FuncData} (Dcheck_phase : Gd P w K mg base "check_phase" 4 ["plan", "phase"] (spPhaseOk C0) fcheck_phase fdcheck_phase) {fcheck_pair : Addr} {fdcheck_pair : FuncData} (Dcheck_pair : Gd P w K mg base "check_pair" 4 ["pair", "parts"] (spPairOk) fcheck_pair fdcheck_pair) : FnOk P w K mg base CX0 6 f fd ["self", "phase", "pair"] (spSignAt C0) := by
  refine F.ok sc_Plan_sign_at (fun vs H Q E h => ?_) (fun cdv A outer s H vs Q E hr h => ?_)
  · obtain ⟨p, rs, i, cs, a, q, j, rfl, hp, hi, h3, ha, hc, hj, hn, k⟩ := h
    rfl
  · obtain ⟨p, rs, i, cs, a, q, j, rfl, hp, hi, h3, ha, hc, hj, hn, k⟩ := h
    refine ⟨_, (PSs.nox (pss_cons (ps_expr (pe_gd Dcheck_phase hr (by decide) (by rfl) (pa_cons (pv 0) (pa_cons (pv 1) pa_nil))))
      (pss_cons (ps_expr (pe_gd Dcheck_pair hr (by decide) (by rfl) (pa_cons (pv 2) (pa_cons (pe_ix ix_seq (pe_fld (pv 0) rfl) (pv 1) (fun _ _ => rfl)) pa_nil))))
      (pss_one (ps_ret (pe_bm PySem.F.plainAttrs_list PySem.F.slot_list_index PySem.F.type_list_index (mt_indexD (hu65 hr)) (pe_ix ix_seq (pe_fld (pv 0) rfl) (pv 1) (fun _ _ => rfl)) (pa_cons (pv 2) pa_nil))))))), ?_⟩
    obtain ⟨dx, lr, lp, ll, g, h1, h2⟩ := id hp
    obtain ⟨as, l1, l2⟩ := h2.l
    obtain ⟨ps, q1, q2⟩ := h2.p
    have hl := (List.getElem?_eq_some_iff.mp hi).1
    have hi2 : (partsF rs)[i]? = some ((colsF cs : Int), (rowsF cs : Int)) := by
      unfold partsF
      rw [List.getElem?_map, hi]
      rfl
    obtain ⟨b, hbi, hb⟩ := pd_get2 q2 i _ hi2
    obtain ⟨c, hci, hcp⟩ := pd_get2 l2 i cs hi
    obtain ⟨m1, m2, m3, m4⟩ := placesF_mem q (List.mem_of_getElem? hj)
    refine ⟨_, rfl, _, rfl, p, rs, i, rfl, hp, hl, h3, ?_⟩
    refine ⟨_, rfl, _, rfl, p, C0, dx, _, _, rfl, h1, R.cl, R.nP, rfl, _, rfl, .inl ⟨lp, _, _, _, rfl, rfl, SqL.of q1, atI_nat (by rw [List.getElem?_map, hbi]; rfl), ?_⟩⟩
    refine ⟨a, b, q.1, q.2, (colsF cs : Int), (rowsF cs : Int), rfl, ha, hb, m1, m2, m3, m4, fun H1 e1 => ?_⟩
    obtain ⟨bs, b1, b2⟩ := hcp.ext e1
    refine ⟨_, rfl, p, C0, dx, _, _, rfl, e1 _ _ h1, R.cl, R.nL, rfl, _, rfl, .inl ⟨ll, _, _, _, rfl, rfl, SqL.of (e1 _ _ l1), atI_nat (by rw [List.getElem?_map, hci]; rfl), ?_⟩⟩
    refine ⟨.inl ⟨rfl, _, SqL.of b1⟩, _, rfl, c, .ref a, dqT q, (placesF cs).map dqT, j, dqT q, rfl, rfl, .lst (SqL.of b1) (dp_prs b2), dp_pr (e1 _ _ ha), shaped_prs _, shaped_pr q, by rw [List.getElem?_map, hj]; rfl, (dq_eqv q q).mpr rfl, fun m z hm hz => ?_, k H1 e1⟩
    rw [List.getElem?_map] at hz
    obtain ⟨q', hq', rfl⟩ := Option.map_eq_some_iff.mp hz
    refine Bool.eq_false_iff.mpr fun z => hn m hm ?_
    rw [hq', (dq_eqv q' q).mp z]
end
end Mc

set_option Elab.async false
set_option linter.all false
set_option maxRecDepth 100000
set_option maxHeartbeats 4000000
set_option exponentiation.threshold 20000
namespace Mc
open PySem PySem.Spec PyProof.Rows L2 ClX StX
section
variable {P : Program} {w : World} {K : PySem.W.Frag} {mg : Str → Option Value} {base : Heap} {f C0 aX : Addr} {mc : Value} {fd : FuncData}
theorem sc_Plan_turned : FnScope ["self", "rounds", "cuts"] ["self"] (defScope s_Plan_turned) := ⟨rfl, rfl, rfl, by decide +kernel, rfl, by decide +kernel, by decide +kernel⟩
def tMakeS (K : PySem.W.Frag) (C : Addr) (sp : Sp) (te : TE) : TE := fun σ H Q => te σ H fun y H1 => ∃ a xs, y = V.ref a ∧ (SqT K H1 a xs ∨ SqL K H1 a xs) ∧ ∀ x dx, H1 x = Option.none → H1 dx = Option.none → dx ≠ x →
  sp (V.ref x :: xs) (upd (upd H1 dx (.own x)) x (.ins C dx [])) (fun v H2 => v = .non ∧ Q (.ref x) H2) E0
theorem pe_makeS1 {X : Cx} {k : Nat} {f C : Addr} {sp : Sp} {x : Str} {e : Expr} {te : TE} {p q pos : Pos} (M : Mk X.K C f) (F : FnR X.prog X.w X.K X.mg X.base CX0 k f sp) (hr : Room (k + 1) X.A) (hg : Gl X x) (hm : X.mg x = some (.ref C)) (hx : Passes CX0 X E0) (he : PE X e te) (hdb : (x == ("__debug__" : Str)) = false := by decide)
    (hst : starEach [.Starred e q] X.env = [(true, eval e X.env)] := by rfl) : PE X (.Call (.Name x p) [.Starred e q] [] pos) (tMakeS X.K C sp te) := by
  constructor
  intro pins s σ H Q I h
  refine wpAny_Call_Name_kw (ld_glob I hg hm ?_ hdb)
  refine PySem.W.callWith_S (h₀ := X.base) I.ok.mod.kin M.kp (thn (he.run pins s σ H _ I h) ?_) hst
  rintro v s1 ⟨y, H1, I1, ry, a, xs, rfl, hxs, q⟩
  cases (show v = Value.ref a from ry)
  exact star_any I1 hxs fun us s2 I2 rv => ⟨I2.kIn, run_makeR M F hr hx I2 rv q⟩
theorem made_ext {H H' : Hp} {x dx : Addr} {o o' : HO} (hx : H x = none) (hdx : H dx = none) (F : Frm [x] (upd (upd H dx o) x o') H') : Ext H H' := fun a u e => F a u (by
  rw [upd_ne (ne_of_none e hx), upd_ne (ne_of_none e hdx)]
  exact e) fun z => by
    rw [List.mem_singleton.mp z, hx] at e
    cases e
theorem cutsAt_of {K : PySem.W.Frag} {H : Hp} {l : Addr} {cs : List Cut} (h : CutsL H l cs) : CutsAt K H (.ref l) cs := by
  obtain ⟨as, h1, h2⟩ := h
  exact ⟨l, as, rfl, .inl (SqL.of h1), h2⟩
theorem pd_refs {α : Type} {F : V → α → Prop} : ∀ {l : List Addr} {m : List α}, Paired (fun a c => F (.ref a) c) l m → Paired F (l.map V.ref) m
  | _, _, .nil => .nil
  | _, _, .cons r t => .cons r (pd_refs t)
theorem cols_turn : ∀ cs : List Cut, colsF (turnF cs) = rowsF cs ∧ rowsF (turnF cs) = colsF cs
  | [] => ⟨rfl, rfl⟩
  | c :: r => by
    obtain ⟨h1, h2⟩ := cols_turn r
    unfold turnF at *
    rw [List.map_cons]
    unfold colsF rowsF
    rw [h1, h2]
    cases c.1 <;> exact ⟨rfl, rfl⟩
theorem mul_swap (ps : List Pr) : mulF (ps.map fun q => (q.2, q.1)) = ((mulF ps).2, (mulF ps).1) := by
  have : ∀ (ps : List Pr) (s : Pr), (ps.map fun q => (q.2, q.1)).foldl (fun (q p : Pr) => (q.1 * p.1, q.2 * p.2)) (s.2, s.1) = ((ps.foldl (fun (q p : Pr) => (q.1 * p.1, q.2 * p.2)) s).2, (ps.foldl (fun (q p : Pr) => (q.1 * p.1, q.2 * p.2)) s).1) := fun ps => by
    induction ps with
    | nil => intro s; rfl
    | cons p r ih => intro s; exact ih (s.1 * p.1, s.2 * p.2)
  exact this ps (1, 1)
theorem parts_turn (rs : List (List Cut)) : partsF (rs.map turnF) = (partsF rs).map fun q => (q.2, q.1) := by
  unfold partsF
  rw [List.map_map, List.map_map]
  refine List.map_congr_left fun cs _ => ?_
  show ((colsF (turnF cs) : Int), (rowsF (turnF cs) : Int)) = _
  rw [(cols_turn cs).1, (cols_turn cs).2]
  rfl
theorem ok_turn {rs : List (List Cut)} (ok : OkR rs) : OkR (rs.map turnF) := by
  refine ⟨by rw [List.length_map]; exact ok.l1, by rw [List.length_map]; exact ok.l3, ?_, ?_, ?_, ?_, ?_⟩
  · intro cs h
    obtain ⟨c, hc, rfl⟩ := List.mem_map.mp h
    rw [turnF, List.length_map]
    exact ok.h1 c hc
  · intro cs h
    obtain ⟨c, hc, rfl⟩ := List.mem_map.mp h
    rw [turnF, List.length_map]
    exact ok.h5 c hc
  · intro cs h d hd
    obtain ⟨c, hc, rfl⟩ := List.mem_map.mp h
    obtain ⟨d2, hd2, rfl⟩ := List.mem_map.mp hd
    exact ok.hc c hc d2 hd2
  · intro cs h
    obtain ⟨c, hc, rfl⟩ := List.mem_map.mp h
    rw [(cols_turn c).1, (cols_turn c).2, Nat.mul_comm]
    exact ok.h32 c hc
  · rw [parts_turn, mul_swap]
    exact ok.bal.symm
def spTurned (C0 : Addr) : Sp := fun vs H Q _ => ∃ (p : Addr) (rs : List (List Cut)), vs = [.ref p] ∧ PlanAt C0 H p rs ∧ OkR rs ∧
  ∀ x H', Ext H H' → H x = none → PlanAt C0 H' x (rs.map turnF) → Q (.ref x) H'
theorem ok_Plan_turned (F : FunD K "turned" "Plan.turned" (defArgs s_Plan_turned) (defBody s_Plan_turned) (defScope s_Plan_turned) [] [] f fd) (T : TB mg) (R : PlanT K mg C0 aX mc) {fturned_cuts : Addr} {fdturned_cuts : FuncData} (Dturned_cuts : Gd P w K mg base "_turned_cuts" 1 ["cuts"] (spTurn K) fturned_cuts fdturned_cuts) {fI : Addr} (MkP : Mk K C0 fI) (GP : FnR P w K mg base CX0 6 fI (spPlanI K C0)) : FnOk P w K mg base CX0 8 f fd ["self"] (spTurned C0) := by
  refine F.ok sc_Plan_turned (fun vs H Q E h => ?_) (fun cdv A outer s H vs Q E hr h => ?_)
  · obtain ⟨p, rs, rfl, hp, ok, k⟩ := h
    rfl
  · obtain ⟨p, rs, rfl, hp, ok, k⟩ := h
    refine ⟨_, (PSs.nox (pss_cons (ps_setLc (i := 1) (own := [("cuts", 2)]) (g := gName 2) (tt := tYes) rfl sc_Plan_turned.nd rfl rfl (sw_true rfl rfl rfl (by decide +kernel)) (pi_list (pe_fld (pv 0) rfl)) (blkOk_by (own := [("cuts", 2)]) (N := ["self", "rounds", "cuts"]) (sc := defScope s_Plan_turned) (by decide +kernel)) (fun _ _ _ _ _ => (pg_name (i := 2) sc_Plan_turned.nd rfl (.inl rfl))) (fun _ _ _ _ _ => pts_nil) (fun _ _ _ _ _ => (pe_gd Dturned_cuts hr (by decide) (by rfl) (pa_cons (pv 2) pa_nil))))
      (pss_one (ps_ret (pe_makeS1 MkP GP (hr.mono (by decide)) (by rfl) R.mgP pass0 (pv 1)))))), ?_⟩
    obtain ⟨dx, lr, lp, ll, g, h1, h2⟩ := id hp
    obtain ⟨as, r1, r2⟩ := h2.r
    have l3 := ok.l3
    refine ⟨_, rfl, p, C0, dx, _, _, rfl, h1, R.cl, R.nR, rfl, lr, rfl, ⟨_, SqL.of r1⟩, fun D hD => lc_walk walk_l (fun i H' => ∃ ds : List Addr, H' D = some (.lst (ds.map V.ref)) ∧ Paired (fun a cs => CutsL H' a cs ∧ a ≠ D) ds ((rs.map turnF).take i) ∧ Ext H H') ⟨[], upd_same, .nil, Ext.upd hD⟩ (fun _ _ ⟨_, _, _, e⟩ => SqL.of (e _ _ r1)) ?_ ?_⟩
    · rintro i x H' hx ⟨ds, d1, d2, e⟩
      obtain ⟨a, rfl, cs, hci, bs, b1, b2⟩ := refs_get r2 hx
      have hm := List.mem_of_getElem? hci
      have hti : (rs.map turnF)[i]? = some (turnF cs) := by rw [List.getElem?_map, hci]; rfl
      refine ⟨rfl, lc_yes ⟨_, rfl, .ref a, cs, rfl, ⟨a, bs, rfl, .inl (SqL.of (e _ _ b1)), pd_imp (fun _ _ q => e _ _ q) b2⟩, ok.h5 cs hm, ok.hc cs hm, fun l H2 e2 hl hcl => ?_⟩⟩
      have nlD : l ≠ D := fun z => by
        rw [z, d1] at hl
        cases hl
      refine ⟨_, e2 _ _ d1, ?_, ds ++ [l], ?_, ?_, ext_put (e.trans e2) hD⟩
      · rw [List.length_map, pd_len d2, List.length_take, List.length_map, sizeLine_eq]
        omega
      · rw [upd_same, List.map_append]
        rfl
      · rw [take_snoc hti]
        exact pd_snoc (pd_imp (fun b c q => ⟨side_cuts (e2 _ _ d1) q.2 (q.1.ext e2), q.2⟩) d2) ⟨side_cuts (e2 _ _ d1) nlD hcl, nlD⟩
    rintro H1 ⟨ds, d1, d2, e⟩
    have el : (as.map V.ref).length = (rs.map turnF).length := by rw [List.length_map, List.length_map, pd_len r2]
    rw [el, List.take_length] at d2
    refine ⟨_, rfl, D, _, rfl, .inr (SqL.of d1), fun x dx2 hx hdx ne => ?_⟩
    have e1 : Ext H1 (upd (upd H1 dx2 (.own x)) x (.ins C0 dx2 [])) := fun a u z => by
      rw [upd_ne (ne_of_none z hx), upd_ne (ne_of_none z hdx)]
      exact z
    refine ⟨x, dx2, ds.map V.ref, rs.map turnF, rfl, upd_same, pd_refs (pd_imp (fun a cs q => cutsAt_of (q.1.ext e1)) d2), ok_turn ok, fun H2 f2 hp2 => ⟨rfl, ?_⟩⟩
    have eM : Ext H1 H2 := made_ext hx hdx f2
    exact k x H2 (e.trans eM) (none_of e hx) hp2
end
end Mc

set_option Elab.async false
set_option linter.all false
set_option maxRecDepth 100000
set_option maxHeartbeats 4000000
set_option exponentiation.threshold 20000
namespace Mc
open PySem PySem.Spec PyProof.Rows L2 ClX StX
section
variable {P : Program} {w : World} {K : PySem.W.Frag} {mg : Str → Option Value} {base : Heap} {f C0 aX : Addr} {mc : Value} {fd : FuncData}
theorem sc_Plan___eq : FnScope ["self", "other"] ["self", "other"] (defScope s_Plan___eq) := ⟨rfl, rfl, rfl, by decide +kernel, rfl, by decide +kernel, by decide +kernel⟩
theorem hu64 {k : Nat} {A : Around} (hr : Room k A) : A.units + 64 < cLine := by
  have := hr.un
  omega
/-- what the text says of Plan's comparisons -/
structure PlanE (K : PySem.W.Frag) (C0 : Addr) : Prop where
  ca : PySem.W.findIn K (.ref C0) "__class__" = some (some (.builtin "object.__class__"))
  cn : PySem.W.specialIn K (.builtin "object.__class__") "__get__" = some (some (.builtin "getset_descriptor.__get__"))
  ct : PySem.W.takesIn K (.builtin "object.__class__") = some true
  cm : PySem.W.mroIn K C0 (.type "object") = some true
  ne : PySem.W.findIn K (.ref C0) "__ne__" = some (some (.builtin "object.__ne__"))
  kR : PySem.W.kitOne K (.ref C0) (.ref C0) = some true
  kk : ∀ x ∈ (["NoneType", "bool", "int", "str", "list", "tuple", "dict"] : List String), PySem.W.kitOne K (.type x) (.ref C0) = some false
  nf : ∀ x ∈ (["NoneType", "bool", "int", "str", "list", "tuple", "dict"] : List String), PySem.W.notFirst K C0 (.type x) = true
def dqC (c : Cut) : PyData := .tuple [.str (axS c.1), .int c.2]
def dqL (cs : List Cut) : PyData := .list (cs.map dqC)
def dqR (rs : List (List Cut)) : PyData := .list (rs.map dqL)
theorem dp_cuts {K : PySem.W.Frag} {H : Hp} : ∀ {as : List Addr} {cs : List Cut}, Paired (fun a c => H a = some (.tup (cutV c))) as cs → DpAll K H (as.map V.ref) (cs.map dqC)
  | _, _, .nil => .nil
  | _, _, .cons r t => .cons (.tup (SqT.of r) (.cons (.str _) (.cons (.int _) .nil))) (dp_cuts t)
theorem dp_lists {K : PySem.W.Frag} {H : Hp} : ∀ {as : List Addr} {rs : List (List Cut)}, Paired (fun a cs => CutsL H a cs) as rs → DpAll K H (as.map V.ref) (rs.map dqL)
  | _, _, .nil => .nil
  | _, _, .cons ⟨_, h1, h2⟩ t => .cons (.lst (SqL.of h1) (dp_cuts h2)) (dp_lists t)
theorem dp_rounds {K : PySem.W.Frag} {H : Hp} {l : Addr} {rs : List (List Cut)} (h : ∃ as : List Addr, H l = some (.lst (as.map V.ref)) ∧ Paired (fun a cs => CutsL H a cs) as rs) : Dp K H (.ref l) (dqR rs) := by
  obtain ⟨as, h1, h2⟩ := h
  exact .lst (SqL.of h1) (dp_lists h2)
theorem axS_inj {a b : Bool} (h : axS a = axS b) : a = b := by
  cases a <;> cases b
  · rfl
  · exact absurd h (by decide +kernel)
  · exact absurd h (by decide +kernel)
  · rfl
theorem eqv_C (c d : Cut) : PyData.eqv (dqC c) (dqC d) = decide (c = d) := by
  obtain ⟨a, n⟩ := c
  obtain ⟨b, m⟩ := d
  have e : PyData.eqv (dqC (a, n)) (dqC (b, m)) = (axS a == axS b && ((n : Int) == (m : Int) && true)) := by simp [dqC, PyData.eqv, PyData.eqvAll]
  rw [e, Bool.eq_iff_iff]
  simp only [Bool.and_true, Bool.and_eq_true, beq_iff_eq, decide_eq_true_eq, Prod.mk.injEq]
  exact ⟨fun ⟨h1, h2⟩ => ⟨axS_inj h1, by omega⟩, fun ⟨h1, h2⟩ => ⟨by rw [h1], by omega⟩⟩
theorem eqv_all {α : Type} [DecidableEq α] {F : α → PyData} (h : ∀ a b, PyData.eqv (F a) (F b) = decide (a = b)) : ∀ l m : List α, PyData.eqvAll (l.map F) (m.map F) = decide (l = m)
  | [], [] => by simp [PyData.eqvAll]
  | [], _ :: _ => by simp [PyData.eqvAll]
  | _ :: _, [] => by simp [PyData.eqvAll]
  | a :: l, b :: m => by
    rw [List.map_cons, List.map_cons, PyData.eqvAll, h, eqv_all h l m, Bool.eq_iff_iff]
    simp
theorem eqv_L (c d : List Cut) : PyData.eqv (dqL c) (dqL d) = decide (c = d) := by
  unfold dqL
  rw [PyData.eqv]
  exact eqv_all eqv_C c d
theorem eqv_R (c d : List (List Cut)) : PyData.eqv (dqR c) (dqR d) = decide (c = d) := by
  unfold dqR
  rw [PyData.eqv]
  exact eqv_all eqv_L c d
theorem lay_all {α : Type} {F : α → PyData} (h : ∀ a, PyData.canLay0 (F a) = true) : ∀ l : List α, PyData.canLayAll0 (l.map F) = true
  | [] => by simp [PyData.canLayAll0]
  | a :: l => by rw [List.map_cons, PyData.canLayAll0, h, lay_all h l]; rfl
theorem dep_all {α : Type} {F : α → PyData} {n : Nat} (h : ∀ a, PyData.depth (F a) ≤ n) : ∀ l : List α, PyData.depthAll (l.map F) ≤ n
  | [] => by simp [PyData.depthAll]
  | a :: l => by
    rw [List.map_cons, PyData.depthAll]
    exact Nat.max_le.mpr ⟨h a, dep_all h l⟩
theorem lay_C (c : Cut) : PyData.canLay0 (dqC c) = true := by
  obtain ⟨a, n⟩ := c
  have e : PyData.strOk (axS a) = true := by cases a <;> decide +kernel
  simp [dqC, PyData.canLay0, PyData.canLayAll0, e]
theorem lay_L (cs : List Cut) : PyData.canLay0 (dqL cs) = true := by
  unfold dqL
  rw [PyData.canLay0]
  exact lay_all lay_C cs
theorem dep_C (c : Cut) : PyData.depth (dqC c) ≤ 1 := by simp [dqC, PyData.depth, PyData.depthAll]
theorem dep_L (cs : List Cut) : PyData.depth (dqL cs) ≤ 2 := by
  unfold dqL
  rw [PyData.depth]
  exact Nat.succ_le_succ (dep_all dep_C cs)
theorem shaped_R (rs : List (List Cut)) : SeqAt.shaped (dqR rs) = true := by
  have h1 : PyData.canLay0 (dqR rs) = true := by
    unfold dqR
    rw [PyData.canLay0]
    exact lay_all lay_L rs
  have h2 : PyData.depth (dqR rs) ≤ 64 := by
    unfold dqR
    rw [PyData.depth]
    exact Nat.le_trans (Nat.succ_le_succ (dep_all dep_L rs)) (by decide)
  unfold SeqAt.shaped
  rw [h1, Bool.true_and]
  exact decide_eq_true h2
def spEqP (K : PySem.W.Frag) (C0 : Addr) : Sp := fun vs H Q _ => ∃ (p : Addr) (y : V) (rs : List (List Cut)), vs = [.ref p, y] ∧ PlanAt C0 H p rs ∧ rs.length ≤ 3 ∧
  ((∃ (q : Addr) (rs2 : List (List Cut)), y = .ref q ∧ PlanAt C0 H q rs2 ∧ rs2.length ≤ 3 ∧ Q (.bl (decide (rs = rs2))) H) ∨
   (∃ t : String, TyX K H y (.type t) ∧ t ∈ (["NoneType", "bool", "int", "str", "list", "tuple", "dict"] : List String) ∧ Q (.bl false) H))
theorem ok_Plan___eq (F : FunD K "__eq__" "Plan.__eq__" (defArgs s_Plan___eq) (defBody s_Plan___eq) (defScope s_Plan___eq) [] [] f fd) (T : TB mg) (R : PlanT K mg C0 aX mc) (RE : PlanE K C0) : FnOk P w K mg base CX0 1 f fd ["self", "other"] (spEqP K C0) := by
  refine F.ok sc_Plan___eq (fun vs H Q E h => ?_) (fun cdv A outer s H vs Q E hr h => ?_)
  · obtain ⟨p, y, rs, rfl, hp, l3, hy⟩ := h
    rfl
  · obtain ⟨p, y, rs, rfl, hp, l3, hy⟩ := h
    refine ⟨_, (PSs.nox (pss_one (ps_ret (pe_and (pe_callB call_isi (by rfl) T.isinstance (by decide +kernel) (pa_cons (pv 1) (pa_cons (pe_glob (v := .ref C0) (by rfl) R.mgP rfl) pa_nil))) (pe_one (pe_cmpR (op_eqD (hu64 hr)) (pe_fld (pv 0) rfl) (pe_fld (pv 1) rfl) (nomark _))))))), ?_⟩
    obtain ⟨dx, lr, lp, ll, g, h1, h2⟩ := id hp
    rcases hy with ⟨q, rs2, rfl, hq, m3, k⟩ | ⟨t, ty, ht, k⟩
    · obtain ⟨dx2, lr2, lp2, ll2, g2, g1, g3⟩ := id hq
      refine ⟨_, rfl, .ref q, _, _, _, true, rfl, .own C0, .base (.ins g1 R.cl RE.ca RE.cn RE.ct RE.cm), RE.kR, true, rfl, iteT ?_⟩
      refine ⟨_, rfl, p, C0, dx, _, _, rfl, h1, R.cl, R.nR, rfl, _, rfl, q, C0, dx2, _, _, rfl, g1, R.cl, R.nR, rfl, ?_⟩
      refine ⟨dqR rs, dqR rs2, dp_rounds h2.r, dp_rounds g3.r, shaped_R rs, shaped_R rs2, ?_⟩
      rw [eqv_R]
      exact k
    · exact ⟨_, rfl, y, _, _, _, false, rfl, .own C0, ty, RE.kk t ht, false, rfl, iteF k⟩
end
end Mc

set_option Elab.async false
set_option linter.all false
set_option maxRecDepth 100000
set_option maxHeartbeats 4000000
set_option exponentiation.threshold 20000
namespace Mc
open PySem PySem.Spec PyProof.Rows L2 ClX StX
section
variable {P : Program} {w : World} {K : PySem.W.Frag} {mg : Str → Option Value} {base : Heap} {f C0 aX : Addr} {mc : Value} {fd : FuncData}
theorem sc_Plan___repr : FnScope ["self", "cuts"] ["self"] (defScope s_Plan___repr) := ⟨rfl, rfl, rfl, by decide +kernel, rfl, by decide +kernel, by decide +kernel⟩
theorem boot_repr : bootBuiltins (Str.ofString "repr") = some (.builtin "repr") := by decide +kernel
def planText (rs : List (List Cut)) : Str := Str.empty ++ Str.ofString "Plan(" ++ Txt.join (Str.ofString ", ") (rs.map fun cs => (dqL cs).shown) ++ Str.ofString ")"
theorem shown_C {c : Cut} (h : okC c) : (dqC c).shown.length ≤ 14 ∧ (dqC c).showable = true := by
  obtain ⟨a, n⟩ := c
  obtain ⟨h2, h4⟩ := h
  have h2 : 2 ≤ n := h2
  have h4 : n ≤ 4 := h4
  have e : n = 2 ∨ n = 3 ∨ n = 4 := by omega
  rcases e with rfl | rfl | rfl <;> cases a <;> decide +kernel
theorem shown_L {cs : List Cut} (h : ∀ c ∈ cs, okC c) (l : cs.length ≤ 5) : (dqL cs).shown.length ≤ 100 ∧ (dqL cs).showable = true ∧ (dqL cs).hasDict = false := by
  have e1 : ∀ cs : List Cut, PyData.shownAll (cs.map dqC) = cs.map fun c => (dqC c).shown := fun cs => by
    induction cs with
    | nil => simp [PyData.shownAll]
    | cons c r ih => rw [List.map_cons, PyData.shownAll, ih]; rfl
  refine ⟨?_, ?_, ?_⟩
  · unfold dqL
    rw [PyData.shown, e1]
    have h1 := listText_le (cs.map fun c => (dqC c).shown)
    have h2 := piled_le (c := 14) (ts := cs.map fun c => (dqC c).shown) fun t ht => by
      obtain ⟨c, hc, rfl⟩ := List.mem_map.mp ht
      exact (shown_C (h c hc)).1
    rw [List.length_map] at h2
    omega
  · unfold dqL
    rw [PyData.showable]
    clear l
    induction cs with
    | nil => simp [PyData.showableAll]
    | cons c r ih =>
      rw [List.map_cons, PyData.showableAll, (shown_C (h c List.mem_cons_self)).2, ih fun d hd => h d (List.mem_cons_of_mem _ hd)]
      rfl
  · unfold dqL
    rw [PyData.hasDict]
    clear l h
    induction cs with
    | nil => simp [PyData.hasDictAll]
    | cons c r ih =>
      rw [List.map_cons, PyData.hasDictAll, ih]
      simp [dqC, PyData.hasDict, PyData.hasDictAll]
theorem join_le (sep : Str) : ∀ ys : List Str, (Txt.join sep ys).length ≤ (ys.map (·.length)).sum + ys.length * sep.length
  | [] => by
    rw [TL.join_eq]
    exact Nat.zero_le _
  | [a] => by
    rw [TL.join_eq]
    show a.length ≤ _
    simp
  | a :: b :: r => by
    have ih := join_le sep (b :: r)
    rw [TL.join_eq] at ih ⊢
    show (a ++ sep ++ Str.join sep (b :: r)).length ≤ _
    rw [Str.length_append, Str.length_append, List.map_cons, List.sum_cons, List.length_cons, Nat.succ_mul]
    omega
theorem text_sizes {rs : List (List Cut)} (ok : OkR rs) : ((rs.map fun cs => (dqL cs).shown).map (·.length)).sum ≤ 300 := by
  have each : ∀ cs ∈ rs, (dqL cs).shown.length ≤ 100 := fun cs h => (shown_L (ok.hc cs h) (ok.h5 cs h)).1
  have l3 := ok.l3
  match rs, l3, each with
  | [], _, _ => simp
  | [a], _, e => have := e a (by simp); simp; omega
  | [a, b], _, e => have := e a (by simp); have := e b (by simp); simp; omega
  | [a, b, c], _, e => have := e a (by simp); have := e b (by simp); have := e c (by simp); simp; omega
def spReprP (C0 : Addr) : Sp := fun vs H Q _ => ∃ (p : Addr) (rs : List (List Cut)), vs = [.ref p] ∧ PlanAt C0 H p rs ∧ OkR rs ∧ ∀ H', Ext H H' → Q (.str (planText rs)) H'
theorem ok_Plan___repr (F : FunD K "__repr__" "Plan.__repr__" (defArgs s_Plan___repr) (defBody s_Plan___repr) (defScope s_Plan___repr) [] [] f fd) (T : TB mg) (R : PlanT K mg C0 aX mc) : FnOkG P w K mg base CX0 3 f fd ["self"] (spReprP C0) := by
  refine okG F sc_Plan___repr (fun vs H Q E h => ?_) (fun cdv A outer s H vs Q E hr h => ?_)
  · obtain ⟨p, rs, rfl, hp, ok, k⟩ := h
    rfl
  · obtain ⟨p, rs, rfl, hp, ok, k⟩ := h
    refine ⟨_, (pss_one (ps_ret (pe_joined (PJ.cons pe_str (PJ.cons (pe_fmt (pe_join pe_str (pe_lc (own := [("cuts", 1)]) (g := gName 1) (tt := tYes) rfl sc_Plan___repr.nd (pi_list (pe_fld (pv 0) rfl)) (blkOk_by (own := [("cuts", 1)]) (N := ["self", "cuts"]) (sc := defScope s_Plan___repr) (by decide +kernel)) (fun _ _ _ _ _ => (pg_name (i := 1) sc_Plan___repr.nd rfl (.inl rfl))) (fun _ _ _ _ _ => pts_nil) (fun _ _ _ _ _ => (pe_callB (call_reprDK (K := K) hr rfl) (by rfl) T.repr boot_repr (pa_cons (pv 1) pa_nil)))))) (PJ.cons pe_str PJ.nil)))))), ?_⟩
    obtain ⟨dx, lr, lp, ll, g, h1, h2⟩ := id hp
    obtain ⟨as, r1, r2⟩ := h2.r
    have l3 := ok.l3
    have ts := text_sizes ok
    have tj := join_le (Str.ofString ", ") (rs.map fun cs => (dqL cs).shown)
    have ln : (rs.map fun cs => (dqL cs).shown).length ≤ 3 := by rw [List.length_map]; exact l3
    have c0 : (Str.empty : Str).length = 0 := rfl
    have c1 : (Str.ofString "Plan(").length = 5 := rfl
    have c2 : (Str.ofString ", ").length = 2 := rfl
    have c3 : (Str.ofString ")").length = 1 := rfl
    rw [c2] at tj
    refine ⟨_, rfl, ?_, ⟨_, rfl⟩, _, rfl, p, C0, dx, _, _, rfl, h1, R.cl, R.nR, rfl, lr, rfl, ⟨_, SqL.of r1⟩, fun D hD => lc_walk walk_l (fun i H' => H' D = some (.lst (((rs.take i).map fun cs => (dqL cs).shown).map V.str)) ∧ Ext H H') ⟨upd_same, Ext.upd hD⟩ (fun _ _ ⟨_, e⟩ => SqL.of (e _ _ r1)) ?_ ?_⟩
    · show (Str.empty ++ Str.ofString "Plan(").length ≤ sizeLine
      rw [Str.length_append, sizeLine_eq]
      omega
    · rintro i x H' hx ⟨d1, e⟩
      obtain ⟨a, rfl, cs, hci, bs, b1, b2⟩ := refs_get r2 hx
      have hm := List.mem_of_getElem? hci
      obtain ⟨s1, s2, s3⟩ := shown_L (ok.hc cs hm) (ok.h5 cs hm)
      refine ⟨rfl, lc_yes ⟨_, rfl, a, dqL cs, rfl, .lst (SqL.of (e _ _ b1)) (dp_cuts (pd_imp (fun _ _ q => e _ _ q) b2)), s2, s3, Nat.le_trans (dep_L cs) (by decide), by rw [sizeLine_eq]; omega, ?_⟩⟩
      refine ⟨_, d1, ?_, ?_, ext_put e hD⟩
      · rw [List.length_map, List.length_map, List.length_take, sizeLine_eq]
        omega
      · rw [upd_same, take_snoc hci, List.map_append, List.map_append]
        rfl
    · rintro H' ⟨d1, e⟩
      rw [List.length_map, pd_len r2, List.take_length] at d1
      refine ⟨_, D, _, rfl, rfl, .inl (SqL.of d1), by rw [c2]; omega, .inl ⟨_, rfl, by rw [sizeLine_eq]; omega, _, rfl, ?_, _, rfl, ?_, ?_⟩⟩
      · rw [Str.length_append, Str.length_append, sizeLine_eq]
        omega
      · rw [Str.length_append, Str.length_append, Str.length_append, sizeLine_eq]
        omega
      · exact k H' e
end
end Mc

set_option Elab.async false
set_option linter.all false
set_option maxRecDepth 100000
set_option maxHeartbeats 4000000
set_option exponentiation.threshold 20000
namespace Mc
open PySem PySem.Spec PyProof.Rows L2 ClX StX
section
variable {P : Program} {w : World} {K : PySem.W.Frag} {mg : Str → Option Value} {base : Heap} {f C0 aX : Addr} {mc : Value} {fd : FuncData}
theorem sc_Plan_squares : FnScope ["cls", "parts"] ["cls", "parts"] (defScope s_Plan_squares) := ⟨rfl, rfl, rfl, by decide +kernel, rfl, by decide +kernel, by decide +kernel⟩
def tMakeV (C : Addr) (i : Nat) (sp : Sp) (t : TA) : TE := fun σ H Q => σ[i]? = some (some (V.ref C)) ∧ tMakeR C sp E0 t σ H Q
theorem pe_makeV {X : Cx} {k i : Nat} {f C : Addr} {sp : Sp} {x : Str} {e : Expr} {es : List Expr} {t : TA} {p pos : Pos} (M : Mk X.K C f) (F : FnR X.prog X.w X.K X.mg X.base CX0 k f sp) (hr : Room (k + 1) X.A) (hN : X.N[i]? = some x) (hv : Vis X.env.scope x) (hx : Passes CX0 X E0) (ha : PA X (e :: es) t)
    (hd : (x == ("__debug__" : Str)) = false := by decide) (hcd : (x == ("__classdict__" : Str)) = false := by decide) (he : starEach (e :: es) X.env = (false, eval e X.env) :: starEach es X.env := by rfl) (hpl : (backTo pos (starEach es X.env)).any (·.1) = false := by rfl) :
    PE X (.Call (.Name x p) (e :: es) [] pos) (tMakeV C i sp t) := by
  constructor
  intro pins s σ H Q I h
  obtain ⟨hs, ht⟩ := h
  refine wpAny_Call_Name_kw (thn ((pe_var (pos := p) hN hv hd hcd).run pins s σ H (fun v H1 => v = .ref C ∧ H1 = H) I ⟨.ref C, hs, rfl, rfl⟩) ?_)
  rintro u s1 ⟨v, H1, I1, r1, rfl, rfl⟩
  cases (show u = Value.ref C from r1)
  refine PySem.W.callWith_K (h₀ := X.base) I1.ok.mod.kin M.kp (thn (ha.run pos pins s1 σ H1 _ I1 ht) ?_) he hpl
  rintro us s2 ⟨vs, H2, I2, r, q⟩
  exact ⟨I2.kIn, run_makeR M F hr hx I2 r q⟩
theorem mk_ext {H : Hp} {x dx : Addr} {o o' : HO} (hx : H x = none) (hdx : H dx = none) : Ext H (upd (upd H dx o) x o') := fun a u z => by
  rw [upd_ne (ne_of_none z hx), upd_ne (ne_of_none z hdx)]
  exact z
instance (c : Cut) : Decidable (okC c) := inferInstanceAs (Decidable (2 ≤ c.2 ∧ c.2 ≤ 4))
def codesR : List (List Cut) := [[(true, 2), (false, 2), (true, 2), (false, 2), (true, 2)], [(false, 2), (true, 2), (false, 2), (true, 2), (false, 2)]]
theorem ok_codes : OkR codesR := ⟨by decide, by decide, by decide, by decide, by decide, by decide, by decide⟩
def sqR (n : Nat) : List (List Cut) := [[(true, n), (false, n)]]
theorem ok_sq {n : Nat} (h2 : 2 ≤ n) (h4 : n ≤ 4) : OkR (sqR n) := by
  have e : n = 2 ∨ n = 3 ∨ n = 4 := by omega
  rcases e with rfl | rfl | rfl <;> exact ⟨by decide, by decide, by decide, by decide, by decide, by decide, by decide⟩
def spCodes (C0 : Addr) : Sp := fun vs H Q _ => vs = [.ref C0] ∧ ∀ x H', Ext H H' → H x = none → PlanAt C0 H' x codesR → Q (.ref x) H'
def spSquares (C0 : Addr) : Sp := fun vs H Q _ => ∃ n : Nat, vs = [.ref C0, .int n] ∧ 2 ≤ n ∧ n ≤ 4 ∧ ∀ x H', Ext H H' → H x = none → PlanAt C0 H' x (sqR n) → Q (.ref x) H'
theorem ok_Plan_squares (F : FunD K "squares" "Plan.squares" (defArgs s_Plan_squares) (defBody s_Plan_squares) (defScope s_Plan_squares) [] [] f fd) (T : TB mg) (R : PlanT K mg C0 aX mc) {fis_parts : Addr} {fdis_parts : FuncData} (Dis_parts : Gd P w K mg base "_is_parts" 2 ["value"] (spParts) fis_parts fdis_parts) {fI : Addr} (MkP : Mk K C0 fI) (GP : FnR P w K mg base CX0 6 fI (spPlanI K C0)) : FnOk P w K mg base CX0 8 f fd ["cls", "parts"] (spSquares C0) := by
  refine F.ok sc_Plan_squares (fun vs H Q E h => ?_) (fun cdv A outer s H vs Q E hr h => ?_)
  · obtain ⟨n, rfl, h2, h4, k⟩ := h
    rfl
  · obtain ⟨n, rfl, h2, h4, k⟩ := h
    refine ⟨_, (PSs.nox (pss_cons (ps_if (pt_not (pt_val (pe_gd Dis_parts hr (by decide) (by rfl) (pa_cons (pv 1) pa_nil)))) (pss_one ps_never) pss_nil)
      (pss_one (ps_ret (pe_makeV MkP GP (hr.mono (by decide)) (i := 0) (by rfl) (.inl rfl) pass0 (pa_cons (pe_lst (pa_cons (pe_tup (pa_cons pe_str (pa_cons (pv 1) pa_nil))) (pa_cons (pe_tup (pa_cons pe_str (pa_cons (pv 1) pa_nil))) pa_nil))) pa_nil)))))), ?_⟩
    refine ⟨_, rfl, (n : Int), rfl, by omega, by omega, _, rfl, iteF ?_⟩
    refine ⟨rfl, _, rfl, (by show 2 ≤ sizeLine; decide), fun t1 g1 => ⟨_, rfl, (by show 2 ≤ sizeLine; decide), fun t2 g2 => ⟨(by show 2 ≤ sizeLine; decide), fun l hl => ?_⟩⟩⟩
    have e1 : Ext H (upd H t1 (.tup [.str "east", .int n])) := Ext.upd g1
    have v1 : (upd H t1 (.tup [.str "east", .int n])) t1 = some (.tup (cutV (true, n))) := upd_same
    generalize upd H t1 (.tup [.str "east", .int n]) = H1 at *
    have e2 : Ext H1 (upd H1 t2 (.tup [.str "north", .int n])) := Ext.upd g2
    have v2 : (upd H1 t2 (.tup [.str "north", .int n])) t2 = some (.tup (cutV (false, n))) := upd_same
    generalize upd H1 t2 (.tup [.str "north", .int n]) = H2 at *
    have e3 : Ext H2 (upd H2 l (.lst [.ref t1, .ref t2])) := Ext.upd hl
    have v3 : (upd H2 l (.lst [.ref t1, .ref t2])) l = some (.lst [.ref t1, .ref t2]) := upd_same
    generalize upd H2 l (.lst [.ref t1, .ref t2]) = H3 at *
    refine fun x dx2 hx hdx ne => ?_
    have e4 : Ext H3 (upd (upd H3 dx2 (.own x)) x (.ins C0 dx2 [])) := mk_ext hx hdx
    refine ⟨x, dx2, [.ref l], sqR n, rfl, upd_same, .cons ⟨l, [t1, t2], rfl, .inl (SqL.of (e4 _ _ v3)), .cons (e4 _ _ (e3 _ _ (e2 _ _ v1))) (.cons (e4 _ _ (e3 _ _ v2)) .nil)⟩ .nil, ok_sq h2 h4, fun H5 f5 hp5 => ⟨rfl, ?_⟩⟩
    exact k x H5 (((e1.trans e2).trans e3).trans (made_ext hx hdx f5)) (none_of ((e1.trans e2).trans e3) hx) hp5
theorem sc_Plan_codes : FnScope ["cls", "east", "north"] ["cls"] (defScope s_Plan_codes) := ⟨rfl, rfl, rfl, by decide +kernel, rfl, by decide +kernel, by decide +kernel⟩
theorem ok_Plan_codes (F : FunD K "codes" "Plan.codes" (defArgs s_Plan_codes) (defBody s_Plan_codes) (defScope s_Plan_codes) [] [] f fd) (T : TB mg) (R : PlanT K mg C0 aX mc) {fI : Addr} (MkP : Mk K C0 fI) (GP : FnR P w K mg base CX0 6 fI (spPlanI K C0)) : FnOk P w K mg base CX0 8 f fd ["cls"] (spCodes C0) := by
  refine F.ok sc_Plan_codes (fun vs H Q E h => ?_) (fun cdv A outer s H vs Q E hr h => ?_)
  · obtain ⟨rfl, k⟩ := h
    rfl
  · obtain ⟨rfl, k⟩ := h
    refine ⟨_, (PSs.nox (pss_cons (ps_set (i := 1) sc_Plan_codes.nd rfl (.inl rfl) (pe_tup (pa_cons pe_str (pa_cons pe_int pa_nil))))
      (pss_cons (ps_set (i := 2) sc_Plan_codes.nd rfl (.inl rfl) (pe_tup (pa_cons pe_str (pa_cons pe_int pa_nil))))
      (pss_one (ps_ret (pe_makeV MkP GP (hr.mono (by decide)) (i := 0) (by rfl) (.inl rfl) pass0 (pa_cons (pe_lst (pa_cons (pv 1) (pa_cons (pv 2) (pa_cons (pv 1) (pa_cons (pv 2) (pa_cons (pv 1) pa_nil)))))) (pa_cons (pe_lst (pa_cons (pv 2) (pa_cons (pv 1) (pa_cons (pv 2) (pa_cons (pv 1) (pa_cons (pv 2) pa_nil)))))) pa_nil)))))))), ?_⟩
    refine ⟨(by show 2 ≤ sizeLine; decide), fun t1 g1 => ⟨(by show 2 ≤ sizeLine; decide), fun t2 g2 => ?_⟩⟩
    have e1 : Ext H (upd H t1 (.tup [.str "east", .int 2])) := Ext.upd g1
    have v1 : (upd H t1 (.tup [.str "east", .int 2])) t1 = some (.tup (cutV (true, 2))) := upd_same
    generalize upd H t1 (.tup [.str "east", .int 2]) = H1 at *
    have e2 : Ext H1 (upd H1 t2 (.tup [.str "north", .int 2])) := Ext.upd g2
    have v2 : (upd H1 t2 (.tup [.str "north", .int 2])) t2 = some (.tup (cutV (false, 2))) := upd_same
    generalize upd H1 t2 (.tup [.str "north", .int 2]) = H2 at *
    refine ⟨rfl, _, rfl, _, rfl, _, rfl, _, rfl, _, rfl, (by show 5 ≤ sizeLine; decide), fun l hl => ⟨_, rfl, _, rfl, _, rfl, _, rfl, _, rfl, (by show 5 ≤ sizeLine; decide), fun l2 hl2 => ?_⟩⟩
    have e3 : Ext H2 (upd H2 l (.lst [.ref t1, .ref t2, .ref t1, .ref t2, .ref t1])) := Ext.upd hl
    have v3 : (upd H2 l (.lst [.ref t1, .ref t2, .ref t1, .ref t2, .ref t1])) l = some (.lst [.ref t1, .ref t2, .ref t1, .ref t2, .ref t1]) := upd_same
    generalize upd H2 l (.lst [.ref t1, .ref t2, .ref t1, .ref t2, .ref t1]) = H3 at *
    have e5 : Ext H3 (upd H3 l2 (.lst [.ref t2, .ref t1, .ref t2, .ref t1, .ref t2])) := Ext.upd hl2
    have v5 : (upd H3 l2 (.lst [.ref t2, .ref t1, .ref t2, .ref t1, .ref t2])) l2 = some (.lst [.ref t2, .ref t1, .ref t2, .ref t1, .ref t2]) := upd_same
    generalize upd H3 l2 (.lst [.ref t2, .ref t1, .ref t2, .ref t1, .ref t2]) = H4 at *
    refine fun x dx2 hx hdx ne => ?_
    have e4 : Ext H4 (upd (upd H4 dx2 (.own x)) x (.ins C0 dx2 [])) := mk_ext hx hdx
    have w1 := e4 _ _ (e5 _ _ (e3 _ _ (e2 _ _ v1)))
    have w2 := e4 _ _ (e5 _ _ (e3 _ _ v2))
    refine ⟨x, dx2, [.ref l, .ref l2], codesR, rfl, upd_same, .cons ⟨l, [t1, t2, t1, t2, t1], rfl, .inl (SqL.of (e4 _ _ (e5 _ _ v3))), .cons w1 (.cons w2 (.cons w1 (.cons w2 (.cons w1 .nil))))⟩ (.cons ⟨l2, [t2, t1, t2, t1, t2], rfl, .inl (SqL.of (e4 _ _ v5)), .cons w2 (.cons w1 (.cons w2 (.cons w1 (.cons w2 .nil))))⟩ .nil), ok_codes, fun H5 f5 hp5 => ⟨rfl, ?_⟩⟩
    exact k x H5 ((((e1.trans e2).trans e3).trans e5).trans (made_ext hx hdx f5)) (none_of (((e1.trans e2).trans e3).trans e5) hx) hp5
end
end Mc

set_option Elab.async false
set_option linter.all false
set_option maxRecDepth 100000
set_option maxHeartbeats 4000000
namespace Mc
/-! ### the place of a sign, by digits -/
theorem spread_get {c : Cut} (h : 0 < c.2) : ∀ (ps : List Pr) (g : Nat), (spread ps c)[g]? = (ps[g / c.2]?).map fun p => stepC p c (g % c.2)
  | [], g => by simp [spread]
  | p :: r, g => by
    have e : spread (p :: r) c = ((List.range c.2).map fun k => stepC p c k) ++ spread r c := by
      unfold spread
      rw [List.flatMap_cons]
    rw [e]
    by_cases lt : g < c.2
    · rw [List.getElem?_append_left (by rw [List.length_map, List.length_range]; exact lt), List.getElem?_map, List.getElem?_range lt, Nat.div_eq_of_lt lt, Nat.mod_eq_of_lt lt]
      rfl
    · have ge : c.2 ≤ g := Nat.le_of_not_lt lt
      obtain ⟨m, rfl⟩ : ∃ m, g = m + c.2 := ⟨g - c.2, by omega⟩
      rw [List.getElem?_append_right (by rw [List.length_map, List.length_range]; exact ge), List.length_map, List.length_range, Nat.add_sub_cancel, spread_get h r m, Nat.add_div_right _ h, Nat.add_mod_right, List.getElem?_cons_succ]
theorem placesF_get (cs : List Cut) {c : Cut} (h : 0 < c.2) (g : Nat) : (placesF (cs ++ [c]))[g]? = ((placesF cs)[g / c.2]?).map fun p => stepC p c (g % c.2) := by
  rw [placesF_snoc]
  exact spread_get h _ g
theorem stepC_inj {p q : Pr} {c : Cut} {k m : Nat} (hk : k < c.2) (hm : m < c.2) (h : stepC p c k = stepC q c m) : p = q ∧ k = m := by
  have key : ∀ x y : Int, x * (c.2 : Int) + (k : Int) = y * (c.2 : Int) + (m : Int) → x = y ∧ k = m := fun x y e => by
    have e1 := congrArg (· / (c.2 : Int)) e
    have e2 := congrArg (· % (c.2 : Int)) e
    have hc : (c.2 : Int) ≠ 0 := by omega
    simp only [Int.add_comm (x * _), Int.add_comm (y * _), Int.add_mul_ediv_right _ _ hc, Int.add_mul_emod_self_right] at e1 e2
    rw [Int.ediv_eq_zero_of_lt (by omega) (by omega), Int.ediv_eq_zero_of_lt (by omega) (by omega)] at e1
    rw [Int.emod_eq_of_lt (by omega) (by omega), Int.emod_eq_of_lt (by omega) (by omega)] at e2
    omega
  unfold stepC at h
  obtain ⟨p1, p2⟩ := p
  obtain ⟨q1, q2⟩ := q
  split at h
  · have h1 := congrArg Prod.fst h
    have h2 : p2 = q2 := congrArg Prod.snd h
    obtain ⟨e1, e2⟩ := key p1 q1 h1
    exact ⟨by rw [e1, h2], e2⟩
  · have h1 : p1 = q1 := congrArg Prod.fst h
    have h2 := congrArg Prod.snd h
    obtain ⟨e1, e2⟩ := key p2 q2 h2
    exact ⟨by rw [e1, h1], e2⟩
/-- no place stands twice -/
theorem place_inj {cs : List Cut} : (∀ c ∈ cs, okC c) → ∀ {g h : Nat} {q : Pr}, (placesF cs)[g]? = some q → (placesF cs)[h]? = some q → g = h := by
  refine snoc_ind (P := fun cs => (∀ c ∈ cs, okC c) → ∀ {g h : Nat} {q : Pr}, (placesF cs)[g]? = some q → (placesF cs)[h]? = some q → g = h) ?_ (fun cs c ih ok g h q e1 e2 => ?_) cs
  · intro _ g h q e1 e2
    have l1 := (List.getElem?_eq_some_iff.mp e1).1
    have l2 := (List.getElem?_eq_some_iff.mp e2).1
    have : (placesF []).length = 1 := rfl
    omega
  · have hc := (ok c (List.mem_append_right _ List.mem_cons_self)).1
    have h0 : 0 < c.2 := by omega
    rw [placesF_get cs h0] at e1 e2
    obtain ⟨p1, a1, b1⟩ := Option.map_eq_some_iff.mp e1
    obtain ⟨p2, a2, b2⟩ := Option.map_eq_some_iff.mp e2
    obtain ⟨e, ek⟩ := stepC_inj (Nat.mod_lt g h0) (Nat.mod_lt h h0) (b1.trans b2.symm)
    subst e
    have ed := ih (fun d hd => ok d (List.mem_append_left _ hd)) a1 a2
    rw [← Nat.div_add_mod g c.2, ← Nat.div_add_mod h c.2, ed, ek]
end Mc

set_option Elab.async false
set_option linter.all false
set_option maxRecDepth 100000
set_option maxHeartbeats 4000000
set_option exponentiation.threshold 20000
namespace Mc
open PySem PySem.Spec PyProof.Rows L2 ClX StX
section
variable {P : Program} {w : World} {K : PySem.W.Frag} {mg : Str → Option Value} {base : Heap} {f C0 aX : Addr} {mc : Value} {fd : FuncData}
theorem sc_product : FnScope ["_law_row", "_law_found", "_law_axis", "_law_pieces"] ["_law_row"] (defScope s_product) := ⟨rfl, rfl, rfl, by decide +kernel, rfl, by decide +kernel, by decide +kernel⟩
def prodF (cs : List Cut) : Nat := cs.foldl (fun q c => q * c.2) 1
def spProduct (K : PySem.W.Frag) : Sp := fun vs H Q _ => ∃ (v : V) (cs : List Cut), vs = [v] ∧ CutsAt K H v cs ∧ cs.length ≤ 40 ∧ (∀ c ∈ cs, okC c) ∧ Q (.int (prodF cs)) H
theorem ok_product (F : FunD K "_law_product" "_law_product" (defArgs s_product) (defBody s_product) (defScope s_product) [] [] f fd) (T : TB mg) : FnOk P w K mg base CX0 1 f fd ["_law_row"] (spProduct K) := by
  refine F.ok sc_product (fun vs H Q E h => ?_) (fun cdv A outer s H vs Q E hr h => ?_)
  · obtain ⟨v, cs, rfl, hv, l40, ok, k⟩ := h
    rfl
  · obtain ⟨v, cs, rfl, hv, l40, ok, k⟩ := h
    refine ⟨_, (PSs.nox (pss_cons (ps_set (i := 1) sc_product.nd rfl (.inl rfl) pe_int)
      (pss_cons (ps_for PassesOwn.never rfl (pi_seq (pv 0)) (pg_tup rfl (pgs_cons (pg_name (i := 2) sc_product.nd rfl (.inl rfl)) (pgs_cons (pg_name (i := 3) sc_product.nd rfl (.inl rfl)) pgs_nil))) (pss_one (ps_set (i := 1) sc_product.nd rfl (.inl rfl) (pe_op op_mulW (pv 1) (pv 3)))))
      (pss_one (ps_ret (pv 1)))))), ?_⟩
    obtain ⟨l, as, rfl, hl, hp⟩ := hv
    have hlen := pd_len hp
    refine ⟨_, rfl, l, _, rfl, hl, fun J S wj hS => for_walk wj (fun i σ H' => ∃ u w1, σ = [some (.ref l), some (.int (prodF (cs.take i))), u, w1] ∧ H' = H ∧ (prodF (cs.take i)) ≤ 2 ^ (16 * i)) ⟨none, none, rfl, rfl, Nat.le_refl 1⟩ (fun _ _ _ ⟨_, _, _, e, _⟩ => hS _ (by rw [e]; exact Ext.rfl')) ?_ ?_⟩
    · rintro i x σ H' hx ⟨u, w1, rfl, rfl, b1⟩
      obtain ⟨a, rfl, c, hci, ha⟩ := refs_get hp hx
      have hi : i < 40 := Nat.lt_of_lt_of_le (List.getElem?_eq_some_iff.mp hci).1 l40
      have hc := (ok c (List.mem_of_getElem? hci)).2
      have up : ((prodF (cs.take i) : Nat) : Int).natAbs < 2 ^ 16000 := Nat.lt_of_le_of_lt b1 (Nat.pow_lt_pow_right (by decide) (by omega))
      refine ⟨a, _, rfl, SqT.of ha, rfl, _, _, rfl, _, _, rfl, rfl, ?_⟩
      refine ⟨_, rfl, _, rfl, _, _, rfl, rfl, mulW up (show ((c.2 : Nat) : Int).natAbs < 2 ^ 16 by omega), ?_⟩
      have e : prodF (cs.take (i + 1)) = prodF (cs.take i) * c.2 := by
        rw [take_snoc hci]
        unfold prodF
        rw [List.foldl_append]
        rfl
      refine ⟨some (.str (axS c.1)), some (.int c.2), ?_, rfl, ?_⟩
      · rw [e, Int.natCast_mul]
        rfl
      · rw [e, Nat.mul_add, Nat.pow_add]
        exact Nat.mul_le_mul b1 (Nat.le_trans hc (by decide))
    · rintro σ H' ⟨u, w1, rfl, rfl, b1⟩
      rw [List.length_map, hlen, List.take_length]
      exact ⟨_, rfl, k⟩
end
end Mc

set_option Elab.async false
set_option linter.all false
set_option maxRecDepth 100000
set_option maxHeartbeats 4000000
set_option exponentiation.threshold 20000
namespace Mc
open PySem PySem.Spec PyProof.Rows L2 ClX StX
section
variable {P : Program} {w : World} {K : PySem.W.Frag} {mg : Str → Option Value} {base : Heap} {f C0 aX : Addr} {mc : Value} {fd : FuncData}
/-- what stood before stands -/
def Dom (H0 H : Hp) : Prop := ∀ a, H a = none → H0 a = none
theorem Dom.refl (H : Hp) : Dom H H := fun _ z => z
theorem Dom.ext {H0 H H' : Hp} (d : Dom H0 H) (e : Ext H H') : Dom H0 H' := fun a h => d a (by
  cases q : H a with
  | none => rfl
  | some o => rw [e _ _ q] at h; cases h)
theorem Dom.put {H0 H : Hp} {p : Addr} {o : HO} (d : Dom H0 H) : Dom H0 (upd H p o) := fun a h => d a (by
  by_cases z : a = p
  · rw [z, upd_same] at h; cases h
  · rwa [upd_ne z] at h)
/-- a Plan at p whose lists were not there in H0 -/
structure NewIn (H0 H : Hp) (lr lp ll : Addr) : Prop where
  r : H0 lr = none
  p : H0 lp = none
  l : H0 ll = none
  rs : ∀ as : List Addr, H lr = some (.lst (as.map V.ref)) → ∀ a ∈ as, H0 a = none
  ls : ∀ as : List Addr, H ll = some (.lst (as.map V.ref)) → ∀ a ∈ as, H0 a = none
def PlanNew (C0 : Addr) (H0 H : Hp) (p : Addr) (rs : List (List Cut)) : Prop := ∃ dx lr lp ll g, H p = some (.ins C0 dx (flP lr lp ll g)) ∧ PlanIn H lr lp ll g rs ∧ NewIn H0 H lr lp ll
theorem PlanNew.at {C0 : Addr} {H0 H : Hp} {p : Addr} {rs : List (List Cut)} (h : PlanNew C0 H0 H p rs) : PlanAt C0 H p rs := by
  obtain ⟨dx, lr, lp, ll, g, h1, h2, _⟩ := h
  exact ⟨dx, lr, lp, ll, g, h1, h2⟩
theorem refs_inj {as bs : List Addr} (h : as.map V.ref = bs.map V.ref) : as = bs := by
  induction as generalizing bs with
  | nil => cases bs with
    | nil => rfl
    | cons b t => cases h
  | cons a r ih => cases bs with
    | nil => cases h
    | cons b t =>
      rw [List.map_cons, List.map_cons] at h
      obtain ⟨h1, h2⟩ := List.cons.inj h
      rw [V.ref.inj h1, ih h2]
theorem pd_memL {α β : Type} {F : α → β → Prop} {P : α → Prop} : ∀ {l : List α} {m : List β}, Paired (fun a b => F a b ∧ P a) l m → ∀ a ∈ l, P a
  | _, _, .nil, _, h => nomatch h
  | _, _, .cons r t, a, h => by
    rcases List.mem_cons.mp h with rfl | h
    · exact r.2
    · exact pd_memL t a h
/-- what changes only lists and the like that stood before leaves a new Plan as it is -/
theorem PlanNew.keep {C0 : Addr} {H0 H H' : Hp} {p : Addr} {rs : List (List Cut)} (h : PlanNew C0 H0 H p rs) (f : ∀ a o, H a = some o → (H0 a = none ∨ (∀ xs, o ≠ .lst xs)) → H' a = some o) : PlanNew C0 H0 H' p rs := by
  obtain ⟨dx, lr, lp, ll, g, h1, ⟨⟨a1, r1, r2⟩, ⟨a2, p1, p2⟩, ⟨a3, q1, q2⟩, hg⟩, n⟩ := h
  have nr := n.rs a1 r1
  have nl := n.ls a3 q1
  have R := f _ _ r1 (.inl n.r)
  have L := f _ _ q1 (.inl n.l)
  have tp : ∀ {a xs}, H a = some (.tup xs) → H' a = some (.tup xs) := fun {a xs} h => f a _ h (.inr fun _ z => nomatch z)
  have go : ∀ {F G : Addr → List Cut → Prop} {l : List Addr} {m : List (List Cut)}, Paired F l m → (∀ a ∈ l, H0 a = none) → (∀ a cs, H0 a = none → F a cs → G a cs) → Paired G l m := fun {F G} => by
    intro l m pd
    induction pd with
    | nil => intros; exact .nil
    | cons r t ih =>
      intro hn hg
      exact .cons (hg _ _ (hn _ (.head _)) r) (ih (fun a m => hn a (.tail _ m)) hg)
  refine ⟨dx, lr, lp, ll, g, f _ _ h1 (.inr fun _ z => nomatch z), ⟨⟨a1, R, go r2 nr fun a cs na ⟨bs, b1, b2⟩ => ⟨bs, f _ _ b1 (.inl na), pd_imp (fun _ _ z => tp z) b2⟩⟩, ⟨a2, f _ _ p1 (.inl n.p), pd_imp (fun _ _ z => tp z) p2⟩, ⟨a3, L, go q2 nl fun a cs na ⟨bs, b1, b2⟩ => ⟨bs, f _ _ b1 (.inl na), pd_imp (fun _ _ z => tp z) b2⟩⟩, hg⟩, n.r, n.p, n.l, fun as e => ?_, fun as e => ?_⟩
  · rw [R] at e
    have := HO.lst.inj (Option.some.inj e)
    rw [← refs_inj this]
    exact nr
  · rw [L] at e
    have := HO.lst.inj (Option.some.inj e)
    rw [← refs_inj this]
    exact nl
/-- the three lists that __init__ makes: of each round what te gives of it -/
theorem lc_cutsN {K : PySem.W.Frag} {J : It} {S : Hp → Prop} {vs0 : List V} {rs : List (List Cut)} {te : TE} {G : Hp → Addr → List Cut → Prop} {σ : L2.St} {H1 : Hp} {D : Addr} {Qd : Hp → Prop} (w : WalkJ J S vs0) (hS : ∀ H', Ext H1 H' → S H') (hp : Paired (CutsAt K H1) vs0 rs) (l3 : rs.length ≤ 3) (nD : H1 D = none)
    (mono : ∀ H H' a cs, Ext H H' → G H a cs → G H' a cs) (side : ∀ H xs ys a cs, H D = some (.lst xs) → a ≠ D → G H a cs → G (upd H D (.lst ys)) a cs)
    (call : ∀ x cs H (Q : VK), Ext H1 H → cs ∈ rs → CutsAt K H x cs → (∀ a H', Ext H H' → H a = none → G H' a cs → Q (.ref a) H') → te ((wipe σ [2]).set 2 (some x)) H Q) (hd : ∀ H', Ext H1 H' → (∃ ds : List Addr, H' D = some (.lst (ds.map V.ref)) ∧ Paired (G H') ds rs) → Qd H') : ∃ W : Nat → Nat → Hp → Prop, (∃ m, W 0 m (upd H1 D (.lst []))) ∧ ∀ i m H, W i m H →
      (J.stop i H ∧ Qd H) ∨ (J.go i H ∧ ∃ Nx : Hp → Prop, (∀ H', Nx H' → ∃ m', m' < m ∧ W (i + 1) m' H') ∧ ∀ x H', J.yld i H x H' → gName 2 x (wipe σ [2]) H' fun σ2 H2 => wipe σ2 [2] = wipe σ [2] ∧ tYes σ2 H2 fun b H3 => if b = true then te σ2 H3 fun y H4 => ∃ acc, H4 D = some (.lst acc) ∧ acc.length < sizeLine ∧ Nx (upd H4 D (.lst (acc ++ [y]))) else Nx H3) := by
  have hlen := pd_len hp
  refine lc_walk w (fun i H' => ∃ ds : List Addr, H' D = some (.lst (ds.map V.ref)) ∧ Paired (fun a cs => G H' a cs ∧ a ≠ D) ds (rs.take i) ∧ Ext H1 H') ⟨[], upd_same, .nil, Ext.upd nD⟩ (fun _ _ ⟨_, _, _, e⟩ => hS _ e) ?_ ?_
  · rintro i x H' hx ⟨ds, d1, d2, e⟩
    obtain ⟨cs, hci, hcs⟩ := pd_get hp i x hx
    have hm := List.mem_of_getElem? hci
    refine ⟨wipe_set2, lc_yes (call x cs H' _ e hm (hcs.ext e) fun a H2 e2 na ga => ?_)⟩
    have naD : a ≠ D := fun z => by
      rw [z, d1] at na
      cases na
    refine ⟨_, e2 _ _ d1, ?_, ds ++ [a], ?_, ?_, ext_put (e.trans e2) nD⟩
    · rw [List.length_map, pd_len d2, List.length_take, sizeLine_eq]
      omega
    · rw [upd_same, List.map_append]
      rfl
    · rw [take_snoc hci]
      exact pd_snoc (pd_imp (fun b c q => ⟨side _ _ _ _ _ (e2 _ _ d1) q.2 (mono _ _ _ _ e2 q.1), q.2⟩) d2) ⟨side _ _ _ _ _ (e2 _ _ d1) naD ga, naD⟩
  · rintro H' ⟨ds, d1, d2, e⟩
    rw [hlen, List.take_length] at d2
    exact hd H' e ⟨ds, d1, pd_imp (fun b c q => q.1) d2⟩
def spPlanN (K : PySem.W.Frag) (C0 : Addr) : Sp := fun vs H Q _ => ∃ (p dx : Addr) (vs0 : List V) (rs : List (List Cut)), vs = .ref p :: vs0 ∧ H p = some (.ins C0 dx []) ∧ Paired (CutsAt K H) vs0 rs ∧ OkR rs ∧
  ∀ H', Frm [p] H H' → PlanNew C0 H H' p rs → Q .non H'
def spPlanNB (K : PySem.W.Frag) (C0 : Addr) (HH : Hp) : Sp := fun vs H Q _ => ∃ (p dx t : Addr) (vs0 : List V) (rs : List (List Cut)), vs = [.ref p, .ref t] ∧ H p = some (.ins C0 dx []) ∧ H t = some (.tup vs0) ∧ Paired (CutsAt K H) vs0 rs ∧ OkR rs ∧
  ∀ H', Frm [p] H H' → PlanNew C0 H H' p rs → Q .non H'
theorem ok_Plan___initN (F : FD K "__init__" "Plan.__init__" s_Plan___init f fd) (T : TB mg) (R : PlanT K mg C0 aX mc) {fcheck_rounds : Addr} {fdcheck_rounds : FuncData} (Dcheck_rounds : Gd P w K mg base "_check_rounds" 5 ["rounds"] (spCheck K) fcheck_rounds fdcheck_rounds) {fplain_cuts : Addr} {fdplain_cuts : FuncData} (Dplain_cuts : Gd P w K mg base "_plain_cuts" 1 ["cuts"] (spPlain K) fplain_cuts fdplain_cuts) {fparts_of : Addr} {fdparts_of : FuncData} (Dparts_of : Gd P w K mg base "_parts_of" 3 ["cuts"] (spPartsOf K) fparts_of fdparts_of) {fplaces_of : Addr} {fdplaces_of : FuncData} (Dplaces_of : Gd P w K mg base "_places_of" 2 ["cuts"] (spPlaces K) fplaces_of fdplaces_of) {fmultiplied : Addr} {fdmultiplied : FuncData} (Dmultiplied : Gd P w K mg base "_multiplied" 1 ["all_parts"] (spMul K) fmultiplied fdmultiplied) : FnR P w K mg base CX0 6 f (spPlanN K C0) := by
  obtain ⟨oc, od, dV, kV, doc, pm, an, cdv, ct, osl, rfl, lk, hcd, hD, _⟩ := F.ex
  obtain rfl : dV = .none := by
    rcases hD with ⟨_, e⟩ | ⟨e, _⟩
    · exact e
    · exact absurd rfl e
  refine FnR.imp (fn_star (CX := CX0) (ps := ["self"]) (pv := "rounds") (k := 5) (sp := spPlanNB K C0 (fun _ => none)) lk hcd sc_Plan___init cxUp_none (bind_star1 (B := fun l => bindArgs (PySem.W.fnOf "__init__" "Plan.__init__" (defArgs s_Plan___init) (defBody s_Plan___init) (defScope s_Plan___init) .none kV doc pm an cdv ct) ⟨l, []⟩) (fun _ => rfl) (fun _ _ _ => rfl)) (fun A outer s H vs Q E hr h => ?_)) (fun vs H Q E h => ?_)
  · obtain ⟨p, dx, t, vs0, rs, rfl, hp, ht, hr0, ok, k⟩ := h
    refine ⟨_, (PSs.nox (pss_cons (ps_expr (pe_gd Dcheck_rounds hr (by decide) (by rfl) (pa_cons (pv 1) pa_nil)))
      (pss_cons (ps_fld (pv 0) (pe_lc (own := [("cuts", 2)]) (g := gName 2) (tt := tYes) rfl sc_Plan___init.nd (pi_seq (pv 1)) (blkOk_by (own := [("cuts", 2)]) (N := ["self", "rounds", "cuts"]) (sc := defScope s_Plan___init) (by decide +kernel)) (fun _ _ _ _ _ => (pg_name (i := 2) sc_Plan___init.nd rfl (.inl rfl))) (fun _ _ _ _ _ => pts_nil) (fun _ _ _ _ _ => (pe_gd Dplain_cuts hr (by decide) (by rfl) (pa_cons (pv 2) pa_nil)))) rfl)
      (pss_cons (ps_fld (pv 0) (pe_lc (own := [("cuts", 2)]) (g := gName 2) (tt := tYes) rfl sc_Plan___init.nd (pi_seq (pv 1)) (blkOk_by (own := [("cuts", 2)]) (N := ["self", "rounds", "cuts"]) (sc := defScope s_Plan___init) (by decide +kernel)) (fun _ _ _ _ _ => (pg_name (i := 2) sc_Plan___init.nd rfl (.inl rfl))) (fun _ _ _ _ _ => pts_nil) (fun _ _ _ _ _ => (pe_gd Dparts_of hr (by decide) (by rfl) (pa_cons (pv 2) pa_nil)))) rfl)
      (pss_cons (ps_fld (pv 0) (pe_lc (own := [("cuts", 2)]) (g := gName 2) (tt := tYes) rfl sc_Plan___init.nd (pi_seq (pv 1)) (blkOk_by (own := [("cuts", 2)]) (N := ["self", "rounds", "cuts"]) (sc := defScope s_Plan___init) (by decide +kernel)) (fun _ _ _ _ _ => (pg_name (i := 2) sc_Plan___init.nd rfl (.inl rfl))) (fun _ _ _ _ _ => pts_nil) (fun _ _ _ _ _ => (pe_gd Dplaces_of hr (by decide) (by rfl) (pa_cons (pv 2) pa_nil)))) rfl)
      (pss_one (ps_fld (pv 0) (pe_ix ix_seq (pe_gd Dmultiplied hr (by decide) (by rfl) (pa_cons (pe_fld (pv 0) rfl) pa_nil)) pe_int (fun _ _ => rfl)) rfl))))))), ?_⟩
    refine ⟨_, rfl, t, vs0, rs, rfl, SqT.of ht, hr0, ok, fun H1 e1 => ?_⟩
    have dom1 : Dom H H1 := (Dom.refl H).ext e1
    have c1 : Paired (CutsAt K H1) vs0 rs := pd_imp (fun v cs q => q.ext e1) hr0
    refine ⟨_, rfl, t, vs0, rfl, .inr (SqT.of (e1 _ _ ht)), fun J S wj hS D1 hD1 => lc_cutsN (G := fun H' a cs => CutsL H' a cs ∧ H a = none) wj hS c1 ok.l3 hD1 (fun _ _ _ _ e g => ⟨g.1.ext e, g.2⟩) (fun _ _ _ _ _ h n g => ⟨side_cuts h n g.1, g.2⟩) (fun x cs H2 Q e2 hm hcs kk => ⟨_, rfl, x, cs, rfl, hcs, ok.h5 cs hm, ok.hc cs hm, fun l H' e n g => kk l H' e n ⟨g, (dom1.ext e2) l n⟩⟩) (fun H2 e2 ⟨as1, r1, r2n⟩ => ?_)⟩
    have n1 : ∀ a ∈ as1, H a = none := pd_memL r2n
    have r2 : Paired (CutsL H2) as1 rs := pd_imp (fun _ _ q => q.1) r2n
    have nD1 := dom1 _ hD1
    have dom2 := dom1.ext e2
    have hp2 : H2 p = some (.ins C0 dx []) := e2 _ _ (e1 _ _ hp)
    refine ⟨_, rfl, p, C0, dx, [], rfl, hp2, R.cl, R.nR, (by show 0 < 1000; decide), ?_⟩
    rw [put1]
    have f2 : Frm [p] H2 (upd H2 p (.ins C0 dx [("_rounds", V.ref D1)])) := Frm.put (List.mem_singleton.mpr rfl)
    have domG2 : Dom H (upd H2 p (.ins C0 dx [("_rounds", V.ref D1)])) := dom2.put
    have p2 : (upd H2 p (.ins C0 dx [("_rounds", V.ref D1)])) p = some (.ins C0 dx [("_rounds", V.ref D1)]) := upd_same
    generalize upd H2 p (.ins C0 dx [("_rounds", V.ref D1)]) = G2 at *
    have c2 : Paired (CutsAt K G2) vs0 rs := pd_imp (fun v cs q => cuts_frm f2 hp2 (q.ext e2)) c1
    have t2 : G2 t = some (.tup vs0) := pd_frm f2 hp2 (e2 _ _ (e1 _ _ ht))
    refine ⟨_, rfl, t, vs0, rfl, .inr (SqT.of t2), fun J S wj hS D2 hD2 => lc_cuts (G := fun H a cs => H a = some (.tup [.int (colsF cs), .int (rowsF cs)])) wj hS c2 ok.l3 hD2 (fun _ _ _ _ e g => e _ _ g) (fun _ _ _ _ _ h n g => side_t h g) (fun x cs H Q hm hcs kk => ⟨_, rfl, x, cs, rfl, hcs, ok.h5 cs hm, ok.hc cs hm, fun l H' e n g => kk l H' e n g⟩) (fun H3 e3 ⟨as2, q1, q2⟩ => ?_)⟩
    have nD2 := domG2 _ hD2
    have dom3 := domG2.ext e3
    have hp3 : H3 p = some (.ins C0 dx [("_rounds", V.ref D1)]) := e3 _ _ p2
    refine ⟨_, rfl, p, C0, dx, _, rfl, hp3, R.cl, R.nP, (by show 1 < 1000; decide), ?_⟩
    rw [put2]
    have f3 : Frm [p] H3 (upd H3 p (.ins C0 dx [("_rounds", V.ref D1), ("_parts", .ref D2)])) := Frm.put (List.mem_singleton.mpr rfl)
    have domG3 : Dom H (upd H3 p (.ins C0 dx [("_rounds", V.ref D1), ("_parts", .ref D2)])) := dom3.put
    have p3 : (upd H3 p (.ins C0 dx [("_rounds", V.ref D1), ("_parts", .ref D2)])) p = some (.ins C0 dx [("_rounds", V.ref D1), ("_parts", .ref D2)]) := upd_same
    generalize upd H3 p (.ins C0 dx [("_rounds", V.ref D1), ("_parts", .ref D2)]) = G3 at *
    have c3 : Paired (CutsAt K G3) vs0 rs := pd_imp (fun v cs q => cuts_frm f3 hp3 (q.ext e3)) c2
    have t3 : G3 t = some (.tup vs0) := pd_frm f3 hp3 (e3 _ _ t2)
    refine ⟨_, rfl, t, vs0, rfl, .inr (SqT.of t3), fun J S wj hS D3 hD3 => lc_cutsN (G := fun H' a cs => PairsAt H' a (placesF cs) ∧ H a = none) wj hS c3 ok.l3 hD3 (fun _ _ _ _ e g => ⟨g.1.ext e, g.2⟩) (fun _ _ _ _ _ h n g => ⟨side_prs h n g.1, g.2⟩) (fun x cs H2 Q e2 hm hcs kk => ⟨_, rfl, x, cs, rfl, hcs, ok.h5 cs hm, ok.hc cs hm, fun l H' e n g => kk l H' e n ⟨g, (domG3.ext e2) l n⟩⟩) (fun H4 e4 ⟨as3, s1, s2n⟩ => ?_)⟩
    have n3 : ∀ a ∈ as3, H a = none := pd_memL s2n
    have s2 : Paired (fun a cs => PairsAt H4 a (placesF cs)) as3 rs := pd_imp (fun _ _ q => q.1) s2n
    have nD3 := domG3 _ hD3
    have hp4 : H4 p = some (.ins C0 dx [("_rounds", V.ref D1), ("_parts", .ref D2)]) := e4 _ _ p3
    refine ⟨_, rfl, p, C0, dx, _, rfl, hp4, R.cl, R.nL, (by show 2 < 1000; decide), ?_⟩
    rw [put3]
    have f4 : Frm [p] H4 (upd H4 p (.ins C0 dx (flP3 D1 D2 D3))) := Frm.put (List.mem_singleton.mpr rfl)
    have p4 : (upd H4 p (.ins C0 dx (flP3 D1 D2 D3))) p = some (.ins C0 dx (flP3 D1 D2 D3)) := upd_same
    generalize upd H4 p (.ins C0 dx (flP3 D1 D2 D3)) = G4 at *
    have q1' : G4 D2 = some (.lst (as2.map V.ref)) := ls_frm f4 hp4 (e4 _ _ (ls_frm f3 hp3 q1))
    have q2' : Paired (fun a (q : Pr) => G4 a = some (.tup [.int q.1, .int q.2])) as2 (partsF rs) := pd_map (fun a cs h => pd_frm f4 hp4 (e4 _ _ (pd_frm f3 hp3 h))) q2
    have pl : (partsF rs).length ≤ 1000 := by
      have := ok.l3
      rw [partsF, List.length_map]
      omega
    have pm := parts_small ok
    refine ⟨_, rfl, p, C0, dx, _, _, rfl, p4, R.cl, R.nP, rfl, D2, as2, partsF rs, rfl, .inl (SqL.of q1'), q2', pl, fun q hq => ⟨(pm q hq).1, (pm q hq).2.1⟩, fun t5 H5 e5 ht5 => ?_⟩
    have hp5 : H5 p = some (.ins C0 dx (flP3 D1 D2 D3)) := e5 _ _ p4
    refine .inr (.inl ⟨t5, _, 0, _, rfl, rfl, SqT.of ht5, rfl, _, rfl, p, C0, dx, _, rfl, hp5, R.cl, R.nG, (by show 3 < 1000; decide), ?_⟩)
    rw [put4]
    have f5 : Frm [p] H5 (upd H5 p (.ins C0 dx (flP D1 D2 D3 (mulF (partsF rs)).1))) := Frm.put (List.mem_singleton.mpr rfl)
    refine k _ ?_ ⟨dx, D1, D2, D3, _, upd_same, ⟨⟨as1, ?_, ?_⟩, ⟨as2, ?_, ?_⟩, ⟨as3, ?_, ?_⟩, rfl⟩, nD1, nD2, nD3, fun as e => ?_, fun as e => ?_⟩
    · exact (((((((Frm.ext e1).trans (Frm.ext e2)).trans f2).trans ((Frm.ext e3).trans f3)).trans (Frm.ext e4)).trans f4).trans (Frm.ext e5)).trans f5
    · exact ls_frm f5 hp5 (e5 _ _ (ls_frm f4 hp4 (e4 _ _ (ls_frm f3 hp3 (e3 _ _ (ls_frm f2 hp2 r1))))))
    · exact pd_imp (fun a cs g => cutsL_frm f5 hp5 ((cutsL_frm f4 hp4 ((cutsL_frm f3 hp3 ((cutsL_frm f2 hp2 g).ext e3)).ext e4)).ext e5)) r2
    · exact ls_frm f5 hp5 (e5 _ _ q1')
    · exact pd_imp (fun a q h => pd_frm f5 hp5 (e5 _ _ h)) q2'
    · exact ls_frm f5 hp5 (e5 _ _ (ls_frm f4 hp4 s1))
    · exact pd_imp (fun a cs g => prs_frm f5 hp5 ((prs_frm f4 hp4 g).ext e5)) s2
    · rw [ls_frm f5 hp5 (e5 _ _ (ls_frm f4 hp4 (e4 _ _ (ls_frm f3 hp3 (e3 _ _ (ls_frm f2 hp2 r1))))))] at e
      rw [← refs_inj (HO.lst.inj (Option.some.inj e))]
      exact n1
    · rw [ls_frm f5 hp5 (e5 _ _ (ls_frm f4 hp4 s1))] at e
      rw [← refs_inj (HO.lst.inj (Option.some.inj e))]
      exact n3
  · obtain ⟨p, dx, vs0, rs, rfl, hp, hr0, ok, k⟩ := h
    refine ⟨[.ref p], vs0, rfl, rfl, ?_, fun t ht => ?_⟩
    · have := ok.l3
      rw [pd_len hr0, sizeLine_eq]
      omega
    have e : Ext H (upd H t (.tup vs0)) := Ext.upd ht
    refine ⟨p, dx, t, vs0, rs, rfl, e _ _ hp, upd_same, pd_imp (fun v cs q => q.ext e) hr0, ok, fun H' f q => k H' ((Frm.new ht).trans f) ?_⟩
    obtain ⟨dx', lr, lp, ll, g, h1, h2, n⟩ := q
    have dm : Dom H (upd H t (.tup vs0)) := (Dom.refl H).ext e
    exact ⟨dx', lr, lp, ll, g, h1, h2, dm _ n.r, dm _ n.p, dm _ n.l, fun as z a m => dm _ (n.rs as z a m), fun as z a m => dm _ (n.ls as z a m)⟩
theorem planI_N {k : Nat} {f : Addr} (G : FnR P w K mg base CX0 k f (spPlanN K C0)) : FnR P w K mg base CX0 k f (spPlanI K C0) := FnR.imp G (fun vs H Q E h => by
  obtain ⟨p, dx, vs0, rs, rfl, hp, hr0, ok, kk⟩ := h
  exact ⟨p, dx, vs0, rs, rfl, hp, hr0, ok, fun H' f q => kk H' f q.at⟩)

end
end Mc

set_option Elab.async false
set_option linter.all false
set_option maxRecDepth 100000
set_option maxHeartbeats 4000000
set_option exponentiation.threshold 20000
namespace Mc
open PySem PySem.Spec PyProof.Rows L2 ClX StX
section
variable {P : Program} {w : World} {K : PySem.W.Frag} {mg : Str → Option Value} {base : Heap} {f C0 aX : Addr} {mc : Value} {fd : FuncData}
theorem sc_mixed : FnScope ["_law_pot_here", "_law_some", "_law_pack", "_law_turn"] ["_law_pot_here", "_law_some"] (defScope s_mixed) := ⟨rfl, rfl, rfl, by decide +kernel, rfl, by decide +kernel, by decide +kernel⟩
theorem seqIndex_nat {j n : Nat} (h : j < n) : seqIndex? (j : Int) n = some j := by
  rw [seqIndex_of (by omega) (by omega)]
  rfl
theorem perm_erase {α : Type} : ∀ {l : List α} {j : Nat} {c : α}, l[j]? = some c → (c :: l.eraseIdx j).Perm l
  | [], j, c, h => by simp at h
  | a :: l, 0, c, h => by
    simp at h
    subst h
    exact List.Perm.refl _
  | a :: l, j + 1, c, h => by
    have := perm_erase (l := l) (j := j) (c := c) (by simpa using h)
    exact (List.Perm.swap a c _).trans (List.Perm.cons a this)
theorem mt_popAtK {X : Cx} {K : PySem.W.Frag} (hK : X.K = K) : MtR X "list.pop" rPopAt := mt_popAt
theorem mt_appendK {X : Cx} {K : PySem.W.Frag} (hK : X.K = K) : MtR X "list.append" rAppend := mt_append

def spMixedV : Sp := fun vs H Q _ => ∃ (p a : Addr) (xs : List V), vs = [.ref p, .ref a] ∧ Pot H p ∧ H a = some (.lst xs) ∧ a ≠ p ∧ xs.length ≤ 40 ∧ ∀ l ys H', Frm [p] H H' → Pot H' p → H l = none → H' l = some (.lst ys) → ys.Perm xs → Q (.ref l) H'
theorem ok_mixed (F : FunD K "_law_mixed" "_law_mixed" (defArgs s_mixed) (defBody s_mixed) (defScope s_mixed) [] [] f fd) (T : TB mg) {fdraw : Addr} {fddraw : FuncData} (Ddraw : Gd P w K mg base "_law_draw" 1 ["_law_pot_here", "_law_size"] (spDraw) fdraw fddraw) : FnOk P w K mg base CX0 2 f fd ["_law_pot_here", "_law_some"] (spMixedV) := by
  refine F.ok sc_mixed (fun vs H Q E h => ?_) (fun cdv A outer s H vs Q E hr h => ?_)
  · obtain ⟨p, a, xs, rfl, hp, ha, nap, l40, k⟩ := h
    rfl
  · obtain ⟨p, a, xs, rfl, hp, ha, nap, l40, k⟩ := h
    refine ⟨_, (PSs.nox (pss_cons (ps_set (i := 2) sc_mixed.nd rfl (.inr rfl) (pe_callTy call_list_of (by rfl) T.list (by decide +kernel) (pa_cons (pv 1) pa_nil)))
      (pss_one (ps_ret (pe_lc (own := [("_law_turn", 3)]) (g := gName 3) (tt := tYes) rfl sc_mixed.nd (pi_range1 (by rfl) T.range (pa_cons (pe_callB call_len_seq (by rfl) T.len PySem.boot_len (pa_cons (pv 1) pa_nil)) pa_nil)) (blkOk_by (own := [("_law_turn", 3)]) (N := ["_law_pot_here", "_law_some", "_law_pack", "_law_turn"]) (sc := defScope s_mixed) (by decide +kernel)) (fun _ _ _ _ _ => (pg_name (i := 3) sc_mixed.nd rfl (.inl rfl))) (fun _ _ _ _ _ => pts_nil) (fun _ _ _ _ _ => (pe_bmK (K := K) rfl PySem.F.plainAttrs_list PySem.F.slot_list_pop PySem.F.type_list_pop (mt_popAtK (K := K) rfl) (pv 2) (pa_cons (pe_gd Ddraw hr (by decide) (by rfl) (pa_cons (pv 0) (pa_cons (pe_callB (call_lenK (K := K) rfl) (by rfl) T.len PySem.boot_len (pa_cons (pv 2) pa_nil)) pa_nil))) pa_nil)))))))), ?_⟩
    refine ⟨_, rfl, a, _, rfl, .inl (SqL.of ha), fun r hr0 => ?_⟩
    have eA := Ext.upd (o := .lst xs) hr0
    have hp1 := hp.new (o := .lst xs) hr0
    have hrp := hp.ne hr0
    have r1 : (upd H r (.lst xs)) r = some (.lst xs) := upd_same
    have FA := Frm.ext (M := [p]) eA
    have ha1 := eA _ _ ha
    generalize upd H r (.lst xs) = H1 at *
    refine ⟨_, rfl, a, _, rfl, .inl (SqL.of ha1), _, rfl, by omega, by omega, fun D hD => ?_⟩
    have hDH := FA.free hD (fun z => hp1.ne hD (List.mem_singleton.mp z))
    have rD : r ≠ D := fun z => by rw [← z, r1] at hD; cases hD
    have Dp : D ≠ p := hp1.ne hD
    refine lc_walk (walk_r (lo := 0)) (fun i H' => ∃ (rest done : List V), H' r = some (.lst rest) ∧ H' D = some (.lst done) ∧ (done ++ rest).Perm xs ∧ done.length = i ∧ Pot H' p ∧ Frm [p] H H') ⟨xs, [], Ext.upd hD _ _ r1, upd_same, .refl _, rfl, hp1.new hD, FA.trans (Frm.new hD)⟩ (fun _ _ _ => trivial) ?_ ?_
    · rintro i x H2 hx ⟨rest, done, a1, b1, pm, ld, hp2, f2⟩
      have hi := (List.getElem?_eq_some_iff.mp hx).1
      rw [List.length_map, List.length_range] at hi
      have pl := pm.length_eq
      rw [List.length_append] at pl
      have hrl : 0 < rest.length := by omega
      refine ⟨rfl, lc_yes ⟨_, rfl, .inl ⟨rfl, _, SqL.of a1⟩, _, rfl, _, rfl, r, _, rfl, .inl (SqL.of a1), p, _, rfl, hp2, by omega, len_log (by omega), fun n H4 n0 n1 f4 hp4 => ?_⟩⟩
      obtain ⟨j, rfl⟩ := Int.eq_ofNat_of_zero_le n0
      have hj : j < rest.length := by omega
      have rp : r ∉ [p] := fun z => hrp (List.mem_singleton.mp z)
      have dp : D ∉ [p] := fun z => Dp (List.mem_singleton.mp z)
      have a1 := f4 _ _ a1 rp
      have b1 := f4 _ _ b1 dp
      have er : rest[j]? = some rest[j] := List.getElem?_eq_getElem hj
      refine ⟨r, rest, (j : Int), j, rest[j], rfl, rfl, a1, by omega, by omega, seqIndex_nat hj, er, done, by rw [upd_ne (Ne.symm rD)]; exact b1, by rw [sizeLine_eq]; omega, rest.eraseIdx j, done ++ [rest[j]], by rw [upd_ne rD, upd_same], upd_same, ?_, by rw [List.length_append, ld]; rfl, ?_, ?_⟩
      · refine List.Perm.trans ?_ pm
        rw [List.append_assoc]
        exact List.Perm.append_left _ (perm_erase er)
      · refine Pot.frm (M := [r, D]) hp4 (fun a o z n => ?_) (fun z => ?_)
        · rw [upd_ne (fun w => n (by rw [w]; simp)), upd_ne (fun w => n (by rw [w]; simp))]
          exact z
        · rcases List.mem_cons.mp z with z | z
          · exact hrp z.symm
          · exact Dp (List.mem_singleton.mp z).symm
      · intro a o z n
        have z4 := f4 _ _ (f2 _ _ z n) n
        rw [upd_ne (fun w => by rw [w, hDH] at z; cases z), upd_ne (fun w => by rw [w, hr0] at z; cases z)]
        exact z4
    · rintro H2 ⟨rest, done, a1, b1, pm, ld, hp2, f2⟩
      rw [List.length_map, List.length_range, Int.toNat_natCast] at ld
      have pl := pm.length_eq
      rw [List.length_append] at pl
      have : rest = [] := List.length_eq_zero_iff.mp (by omega)
      subst this
      rw [List.append_nil] at pm
      exact k D done H2 f2 hp2 hDH b1 pm
theorem sc_plan : FnScope ["_law_rows"] ["_law_rows"] (defScope s_plan) := ⟨rfl, rfl, rfl, by decide +kernel, rfl, by decide +kernel, by decide +kernel⟩
theorem len2 {α : Type} : ∀ {l : List α}, l.length = 2 → ∃ a b, l = [a, b]
  | [a, b], _ => ⟨a, b, rfl⟩
theorem len3 {α : Type} : ∀ {l : List α}, l.length = 3 → ∃ a b c, l = [a, b, c]
  | [a, b, c], _ => ⟨a, b, c, rfl⟩
theorem PlanNew.dom {C0 : Addr} {H0 H1 H : Hp} {p : Addr} {rs : List (List Cut)} (h : PlanNew C0 H1 H p rs) (d : Dom H0 H1) : PlanNew C0 H0 H p rs := by
  obtain ⟨dx', lr, lp, ll, g, h1, h2, n⟩ := h
  exact ⟨dx', lr, lp, ll, g, h1, h2, d _ n.r, d _ n.p, d _ n.l, fun as z a m => d _ (n.rs as z a m), fun as z a m => d _ (n.ls as z a m)⟩
def spPlanL (K : PySem.W.Frag) (C0 : Addr) : Sp := fun vs H Q _ => ∃ (l : Addr) (vs0 : List V) (rs : List (List Cut)), vs = [.ref l] ∧ H l = some (.lst vs0) ∧ Paired (CutsAt K H) vs0 rs ∧ OkR rs ∧ ∀ x H', Ext H H' → H x = none → PlanNew C0 H H' x rs → Q (.ref x) H'
theorem ok_plan (F : FunD K "_law_plan" "_law_plan" (defArgs s_plan) (defBody s_plan) (defScope s_plan) [] [] f fd) (T : TB mg) (R : PlanT K mg C0 aX mc) {fI : Addr} (MkP : Mk K C0 fI) (GN : FnR P w K mg base CX0 6 fI (spPlanN K C0)) : FnOk P w K mg base CX0 8 f fd ["_law_rows"] (spPlanL K C0) := by
  refine F.ok sc_plan (fun vs H Q E h => ?_) (fun cdv A outer s H vs Q E hr h => ?_)
  · obtain ⟨l, vs0, rs, rfl, hl, hv, ok, k⟩ := h
    rfl
  · obtain ⟨l, vs0, rs, rfl, hl, hv, ok, k⟩ := h
    refine ⟨_, (PSs.nox (pss_cons (ps_if (pt_cmpR op_eq (pe_callB call_len_seq (by rfl) T.len PySem.boot_len (pa_cons (pv 0) pa_nil)) pe_int (nomark _)) (pss_one (ps_ret (pe_makeR MkP GN (hr.mono (by decide)) (by rfl) R.mgP pass0 (pa_cons (pe_ix ix_seq (pv 0) pe_int (fun _ _ => rfl)) pa_nil)))) pss_nil)
      (pss_one (ps_ret (pe_ifExp (pt_cmpR op_eq (pe_callB call_len_seq (by rfl) T.len PySem.boot_len (pa_cons (pv 0) pa_nil)) pe_int (nomark _)) (pe_makeR MkP GN (hr.mono (by decide)) (by rfl) R.mgP pass0 (pa_cons (pe_ix ix_seq (pv 0) pe_int (fun _ _ => rfl)) (pa_cons (pe_ix ix_seq (pv 0) pe_int (fun _ _ => rfl)) pa_nil))) (pe_makeR MkP GN (hr.mono (by decide)) (by rfl) R.mgP pass0 (pa_cons (pe_ix ix_seq (pv 0) pe_int (fun _ _ => rfl)) (pa_cons (pe_ix ix_seq (pv 0) pe_int (fun _ _ => rfl)) (pa_cons (pe_ix ix_seq (pv 0) pe_int (fun _ _ => rfl)) pa_nil))))))))), ?_⟩
    have lv := pd_len hv
    have l3 := ok.l3
    have l1 := ok.l1
    refine ⟨_, rfl, l, _, rfl, .inl (SqL.of hl), rfl, _, rfl, ite2 (fun h1 => ?_) (fun h1 => ?_)⟩
    · have h1 := V.int.inj (of_decide_eq_true h1)
      obtain ⟨v1, rfl⟩ := List.length_eq_one_iff.mp (show vs0.length = 1 by omega)
      refine ⟨_, rfl, .inl ⟨l, _, 0, _, rfl, rfl, SqL.of hl, rfl, fun x dx hx hdx ne => ?_⟩⟩
      have e4 : Ext H (upd (upd H dx (.own x)) x (.ins C0 dx [])) := mk_ext hx hdx
      exact ⟨x, dx, [v1], rs, rfl, upd_same, pd_imp (fun v cs q => q.ext e4) hv, ok, fun H5 f5 hp5 => ⟨rfl, k x H5 (made_ext hx hdx f5) hx (hp5.dom ((Dom.refl H).ext e4))⟩⟩
    · have h1 : ¬ vs0.length = 1 := fun z => h1 (decide_eq_true (by rw [z]; rfl))
      refine ⟨_, rfl, l, _, rfl, .inl (SqL.of hl), rfl, _, rfl, ite2 (fun h2 => ?_) (fun h2 => ?_)⟩
      · have h2 := V.int.inj (of_decide_eq_true h2)
        obtain ⟨v1, v2, rfl⟩ := len2 (show vs0.length = 2 by omega)
        refine ⟨_, rfl, .inl ⟨l, _, 0, _, rfl, rfl, SqL.of hl, rfl, _, rfl, .inl ⟨l, _, 1, _, rfl, rfl, SqL.of hl, rfl, fun x dx hx hdx ne => ?_⟩⟩⟩
        have e4 : Ext H (upd (upd H dx (.own x)) x (.ins C0 dx [])) := mk_ext hx hdx
        exact ⟨x, dx, [v1, v2], rs, rfl, upd_same, pd_imp (fun v cs q => q.ext e4) hv, ok, fun H5 f5 hp5 => ⟨rfl, k x H5 (made_ext hx hdx f5) hx (hp5.dom ((Dom.refl H).ext e4))⟩⟩
      · have h2 : ¬ vs0.length = 2 := fun z => h2 (decide_eq_true (by rw [z]; rfl))
        obtain ⟨v1, v2, v3, rfl⟩ := len3 (show vs0.length = 3 by omega)
        refine ⟨_, rfl, .inl ⟨l, _, 0, _, rfl, rfl, SqL.of hl, rfl, _, rfl, .inl ⟨l, _, 1, _, rfl, rfl, SqL.of hl, rfl, _, rfl, .inl ⟨l, _, 2, _, rfl, rfl, SqL.of hl, rfl, fun x dx hx hdx ne => ?_⟩⟩⟩⟩
        have e4 : Ext H (upd (upd H dx (.own x)) x (.ins C0 dx [])) := mk_ext hx hdx
        exact ⟨x, dx, [v1, v2, v3], rs, rfl, upd_same, pd_imp (fun v cs q => q.ext e4) hv, ok, fun H5 f5 hp5 => ⟨rfl, k x H5 (made_ext hx hdx f5) hx (hp5.dom ((Dom.refl H).ext e4))⟩⟩
end
end Mc

set_option Elab.async false
set_option linter.all false
set_option maxRecDepth 100000
set_option maxHeartbeats 4000000
set_option exponentiation.threshold 20000
namespace Mc
open PySem PySem.Spec PyProof.Rows L2 ClX StX
section
variable {P : Program} {w : World} {K : PySem.W.Frag} {mg : Str → Option Value} {base : Heap} {f C0 aX : Addr} {mc : Value} {fd : FuncData}
theorem sc_place : FnScope ["_law_row", "_law_glyph", "_law_digits", "_law_found", "_law_axis", "_law_pieces", "_law_digit"] ["_law_row", "_law_glyph"] (defScope s_place) := ⟨rfl, rfl, rfl, by decide +kernel, rfl, by decide +kernel, by decide +kernel⟩
theorem hu1 {k : Nat} {A : Around} (hr : Room k A) : A.units + 1 < cLine := by
  have := hr.un
  omega
def digs : List Cut → Nat → List (Cut × Nat)
  | [], _ => []
  | c :: r, g => (c, g % c.2) :: digs r (g / c.2)
def glyF : List Cut → Nat → Nat
  | [], g => g
  | c :: r, g => glyF r (g / c.2)
theorem digs_snoc (c : Cut) : ∀ (a : List Cut) (g : Nat), digs (a ++ [c]) g = digs a g ++ [(c, glyF a g % c.2)] ∧ glyF (a ++ [c]) g = glyF a g / c.2
  | [], g => ⟨rfl, rfl⟩
  | d :: r, g => by
    obtain ⟨h1, h2⟩ := digs_snoc c r (g / d.2)
    exact ⟨by show (d, g % d.2) :: digs (r ++ [c]) (g / d.2) = _; rw [h1]; rfl, h2⟩
def foldD (p : Pr) (ds : List (Cut × Nat)) : Pr := ds.foldl (fun p x => stepC p x.1 x.2) p
theorem place_digs : ∀ (cs : List Cut), (∀ c ∈ cs, okC c) → ∀ (g : Nat) (q : Pr), (placesF cs)[g]? = some q → foldD (0, 0) (digs cs.reverse g).reverse = q := by
  refine snoc_ind ?_ ?_
  · intro _ g q h
    cases g with
    | zero => exact Option.some.inj h
    | succ n => cases h
  · intro cs c ih ok g q h
    have hc := ok c (List.mem_append.mpr (.inr (.head _)))
    rw [placesF_get cs (by have := hc.1; omega) g] at h
    obtain ⟨p, h1, h2⟩ := Option.map_eq_some_iff.mp h
    have := ih (fun d m => ok d (List.mem_append.mpr (.inl m))) _ _ h1
    rw [List.reverse_append]
    show foldD (0, 0) ((c, g % c.2) :: digs cs.reverse (g / c.2)).reverse = q
    rw [List.reverse_cons]
    unfold foldD at this ⊢
    rw [List.foldl_append, this]
    exact h2
theorem digs_mem : ∀ (cs : List Cut) (g : Nat) (x : Cut × Nat), (∀ c ∈ cs, okC c) → x ∈ digs cs g → okC x.1 ∧ x.2 < x.1.2
  | [], _, _, _, h => nomatch h
  | c :: r, g, x, ok, h => by
    rcases List.mem_cons.mp h with rfl | h
    · have hc := ok c (.head _)
      exact ⟨hc, Nat.mod_lt _ (by have := hc.1; omega)⟩
    · exact digs_mem r _ x (fun d m => ok d (.tail _ m)) h
theorem pd_rev {α β : Type} {F : α → β → Prop} : ∀ {l : List α} {m : List β}, Paired F l m → Paired F l.reverse m.reverse
  | _, _, .nil => .nil
  | _, _, .cons r t => by
    rw [List.reverse_cons, List.reverse_cons]
    exact pd_snoc (pd_rev t) r
def tupD (x : Cut × Nat) : List V := [.str (axS x.1.1), .int x.1.2, .int x.2]
def foK (p : Pr) : List (Key × V) := [(.inr "east", .int p.1), (.inr "north", .int p.2)]
theorem get_ax (b : Bool) (p : Pr) : valV (foK p) (.inr (axS b)) = some (.int (if b then p.1 else p.2)) := by cases b <;> rfl
theorem put_ax (p : Pr) (c : Cut) (d : Nat) : putK (foK p) (.inr (axS c.1)) (.int ((if c.1 then p.1 else p.2) * (c.2 : Int) + (d : Int))) = foK (stepC p c d) := by
  obtain ⟨b, n⟩ := c
  cases b <;> rfl
def spPlaceL : Sp := fun vs H Q _ => ∃ (a : Addr) (cs : List Cut) (g : Nat) (q : Pr), vs = [.ref a, .int g] ∧ CutsL H a cs ∧ (∀ c ∈ cs, okC c) ∧ cs.length ≤ 5 ∧ (placesF cs)[g]? = some q ∧ ∀ t H', Ext H H' → H' t = some (.tup [.int q.1, .int q.2]) → Q (.ref t) H'
theorem ok_place (F : FunD K "_law_place" "_law_place" (defArgs s_place) (defBody s_place) (defScope s_place) [] [] f fd) (T : TB mg) : FnOk P w K mg base CX0 1 f fd ["_law_row", "_law_glyph"] (spPlaceL) := by
  refine F.ok sc_place (fun vs H Q E h => ?_) (fun cdv A outer s H vs Q E hr h => ?_)
  · obtain ⟨a, cs, g, q, rfl, hl, ok, l5, hq, k⟩ := h
    rfl
  · obtain ⟨a, cs, g, q, rfl, hl, ok, l5, hq, k⟩ := h
    refine ⟨_, (PSs.nox (pss_cons (ps_par (i := 2) (j := 3) (by rfl) sc_place.nd rfl rfl (by decide) rfl rfl (pa_cons (pe_lst pa_nil) (pa_cons (pe_disp (pps_cons pe_str pe_int (pps_cons pe_str pe_int pps_nil)) rfl rfl (by simp) (by decide)) pa_nil)) (by rfl))
      (pss_cons (ps_for PassesOwn.never rfl (pi_list (pe_revL (pv 0))) (pg_tup rfl (pgs_cons (pg_name (i := 4) sc_place.nd rfl (.inl rfl)) (pgs_cons (pg_name (i := 5) sc_place.nd rfl (.inl rfl)) pgs_nil))) (pss_cons (ps_asg (pe_callB call_divmodW (by rfl) T.divmod (by decide +kernel) (pa_cons (pv 1) (pa_cons (pv 5) pa_nil))) (pg_tup rfl (pgs_cons (pg_name (i := 1) sc_place.nd rfl (.inl rfl)) (pgs_cons (pg_name (i := 6) sc_place.nd rfl (.inl rfl)) pgs_nil))))
      (pss_one (ps_expr (pe_bm PySem.F.plainAttrs_list PySem.F.slot_list_append PySem.F.type_list_append mt_append (pv 2) (pa_cons (pe_tup (pa_cons (pv 4) (pa_cons (pv 5) (pa_cons (pv 6) pa_nil)))) pa_nil))))))
      (pss_cons (ps_for PassesOwn.never rfl (pi_list (pe_revL (pv 2))) (pg_tup rfl (pgs_cons (pg_name (i := 4) sc_place.nd rfl (.inl rfl)) (pgs_cons (pg_name (i := 5) sc_place.nd rfl (.inl rfl)) (pgs_cons (pg_name (i := 6) sc_place.nd rfl (.inl rfl)) pgs_nil)))) (pss_one (ps_asg (pe_op op_add (pe_op op_mulW (pe_dget (hu1 hr) (pv 3) (pv 4) (fun _ _ => rfl)) (pv 5)) (pv 6)) (pg_sub (pv 3) (pv 4) (set_dict (hu1 hr))))))
      (pss_one (ps_ret (pe_tup (pa_cons (pe_dget (hu1 hr) (pv 3) pe_str (fun _ _ => rfl)) (pa_cons (pe_dget (hu1 hr) (pv 3) pe_str (fun _ _ => rfl)) pa_nil))))))))), ?_⟩
    obtain ⟨as, l1, l2⟩ := id hl
    have szl : sizeLine = 16777216 := sizeLine_eq
    have las := pd_len l2
    refine ⟨(by show 0 ≤ sizeLine; decide), fun D hD F hF => ?_⟩
    have DF : D ≠ F := fun z => by rw [← z, upd_same] at hF; cases hF
    refine ⟨upd_same, [(.inr "east", .int 0), (.inr "north", .int 0)], rfl, by decide, ?_⟩
    have e1 : Ext H (upd (upd (upd H D (.lst [])) F (.dK [])) F (.dK (mergeK [] [(.inr "east", .int 0), (.inr "north", .int 0)]))) := ext_put ((Ext.upd hD).trans (Ext.upd hF)) (none_of (Ext.upd hD) hF)
    have d1 : (upd (upd (upd H D (.lst [])) F (.dK [])) F (.dK (mergeK [] [(.inr "east", .int 0), (.inr "north", .int 0)]))) D = some (.lst []) := by rw [upd_ne DF, upd_ne DF, upd_same]
    have f1 : (upd (upd (upd H D (.lst [])) F (.dK [])) F (.dK (mergeK [] [(.inr "east", .int 0), (.inr "north", .int 0)]))) F = some (.dK (foK (0, 0))) := by rw [upd_same]; rfl
    have hFH : H F = none := none_of (Ext.upd hD) hF
    generalize upd (upd (upd H D (.lst [])) F (.dK [])) F (.dK (mergeK [] [(.inr "east", .int 0), (.inr "north", .int 0)])) = H1 at *
    refine ⟨_, _, rfl, ?_⟩
    refine ⟨_, rfl, a, _, rfl, SqL.of (e1 _ _ l1), fun rl hrl => ⟨rl, rfl, ⟨_, SqL.of upd_same⟩, ?_⟩⟩
    have e2 := Ext.upd (o := .lst (as.map V.ref).reverse) hrl
    have q1 : (upd H1 rl (.lst (as.map V.ref).reverse)) rl = some (.lst (as.reverse.map V.ref)) := by rw [upd_same, List.map_reverse]
    have d2 := e2 _ _ d1
    have f2 := e2 _ _ f1
    have l2r := pd_rev (pd_imp (fun _ _ z => e2 _ _ (e1 _ _ z)) l2)
    have E2 := e1.trans e2
    have rlD : rl ≠ D := fun z => by rw [z, d1] at hrl; cases hrl
    rw [← List.map_reverse] at *
    generalize upd H1 rl (.lst (as.reverse.map V.ref)) = H2 at *
    have okr : ∀ c ∈ cs.reverse, okC c := fun c m => ok c (List.mem_reverse.mp m)
    have lr5 : cs.reverse.length ≤ 5 := by rw [List.length_reverse]; exact l5
    refine for_walk (xs := as.reverse.map V.ref) walk_l (fun i σ H' => ∃ u4 u5 u6 ts, σ = [some (.ref a), some (.int (glyF (cs.reverse.take i) g : Nat)), some (.ref D), some (.ref F), u4, u5, u6] ∧ H' D = some (.lst (ts.map V.ref)) ∧ Paired (fun t x => H' t = some (.tup (tupD x))) ts (digs (cs.reverse.take i) g) ∧ H' F = some (.dK (foK (0, 0))) ∧ H' rl = some (.lst (as.reverse.map V.ref)) ∧ Paired (fun a c => H' a = some (.tup (cutV c))) as.reverse cs.reverse ∧ Ext H H') ⟨none, none, none, [], rfl, d2, .nil, f2, q1, l2r, E2⟩ (fun _ _ _ ⟨_, _, _, _, _, _, _, _, h, _⟩ => SqL.of h) ?_ ?_
    · rintro i x σ H3 hx ⟨u4, u5, u6, ts, rfl, d3, t3, f3, q3, l3, E3⟩
      obtain ⟨b, rfl, c, hci, hb⟩ := refs_get l3 hx
      have hi := (List.getElem?_eq_some_iff.mp hci).1
      have hc := okr c (List.mem_of_getElem? hci)
      have hc2 := hc.1
      have hc4 := hc.2
      refine ⟨b, _, rfl, SqT.of hb, rfl, _, _, rfl, _, _, rfl, rfl, ?_⟩
      refine ⟨_, rfl, _, rfl, _, _, rfl, plain_div _ (by omega) (small_log (n := 10) (by omega) (by decide) (by decide)), fun t ht => ⟨t, _, rfl, SqT.of upd_same, rfl, _, _, rfl, _, _, rfl, rfl, ?_⟩⟩
      have e4 := Ext.upd (o := .tup [.int (((glyF (cs.reverse.take i) g : Nat) : Int) / (c.2 : Int)), .int (((glyF (cs.reverse.take i) g : Nat) : Int) % (c.2 : Int))]) ht
      have d4 := e4 _ _ d3
      refine ⟨_, rfl, .inl ⟨rfl, _, SqL.of d4⟩, _, rfl, _, rfl, _, rfl, (by show 3 ≤ sizeLine; decide), fun tt htt => ⟨D, _, _, rfl, rfl, Ext.upd htt _ _ d4, ?_, ?_⟩⟩
      · rw [List.length_map, pd_len t3, szl]
        have : ∀ (l : List Cut) (g : Nat), (digs l g).length = l.length := fun l => by
          induction l with
          | nil => intro _; rfl
          | cons c r ih => intro g; show (digs r _).length + 1 = r.length + 1; rw [ih]
        rw [this, List.length_take]
        omega
      · have e5 := e4.trans (Ext.upd (o := .tup (tupD (c, glyF (cs.reverse.take i) g % c.2))) htt)
        have h5 : (upd (upd H3 t (.tup [.int (((glyF (cs.reverse.take i) g : Nat) : Int) / (c.2 : Int)), .int (((glyF (cs.reverse.take i) g : Nat) : Int) % (c.2 : Int))])) tt (.tup (tupD (c, glyF (cs.reverse.take i) g % c.2)))) tt = some (.tup (tupD (c, glyF (cs.reverse.take i) g % c.2))) := upd_same
        obtain ⟨s1, s2⟩ := digs_snoc c (cs.reverse.take i) g
        have tD : tt ≠ D := fun z => by rw [z, d4] at htt; cases htt
        have FD : F ≠ D := Ne.symm DF
        refine ⟨some (.str (axS c.1)), some (.int c.2), some (.int ((glyF (cs.reverse.take i) g % c.2 : Nat))), ts ++ [tt], ?_, ?_, ?_, ?_, ?_, ?_, ?_⟩
        · rw [take_snoc hci, s2]
          rfl
        · rw [upd_same, List.map_append]
          rfl
        · rw [take_snoc hci, s1]
          exact pd_snoc (pd_imp (fun _ _ z => side_t (e5 _ _ d3) (e5 _ _ z)) t3) (by rw [upd_ne tD]; exact h5)
        · rw [upd_ne FD]
          exact e5 _ _ f3
        · rw [upd_ne rlD]
          exact e5 _ _ q3
        · exact pd_imp (fun _ _ z => side_t (e5 _ _ d3) (e5 _ _ z)) l3
        · exact ext_put (E3.trans e5) hD
    · rintro σ H3 ⟨u4, u5, u6, ts, rfl, d3, t3, f3, q3, l3, E3⟩
      rw [List.length_map, pd_len l3, List.take_length] at t3
      refine ⟨_, rfl, D, _, rfl, SqL.of d3, fun r2 hr2 => ⟨r2, rfl, ⟨_, SqL.of upd_same⟩, ?_⟩⟩
      have e4 := Ext.upd (o := .lst (ts.map V.ref).reverse) hr2
      have q4 : (upd H3 r2 (.lst (ts.map V.ref).reverse)) r2 = some (.lst (ts.reverse.map V.ref)) := by rw [upd_same, List.map_reverse]
      have r2F : r2 ≠ F := fun z => by rw [z, f3] at hr2; cases hr2
      have f4 := e4 _ _ f3
      have t4 := pd_rev (pd_imp (fun _ _ z => e4 _ _ z) t3)
      have E4 := E3.trans e4
      rw [← List.map_reverse] at *
      generalize upd H3 r2 (.lst (ts.reverse.map V.ref)) = H4 at *
      generalize hds : (digs cs.reverse g).reverse = ds at *
      have dm : ∀ x ∈ ds, okC x.1 ∧ x.2 < x.1.2 := fun x m => digs_mem cs.reverse g x okr (List.mem_reverse.mp (by rw [hds]; exact m))
      have lds : ds.length ≤ 5 := by
        rw [← hds, List.length_reverse, ← pd_len t3]
        have := pd_len t3
        have h7 : ∀ (l : List Cut) (g : Nat), (digs l g).length = l.length := fun l => by
          induction l with
          | nil => intro _; rfl
          | cons c r ih => intro g; show (digs r _).length + 1 = r.length + 1; rw [ih]
        rw [this, h7]
        exact lr5
      refine for_walk (xs := ts.reverse.map V.ref) walk_l (fun i σ H' => ∃ u1 u4 u5 u6, σ = [some (.ref a), u1, some (.ref D), some (.ref F), u4, u5, u6] ∧ H' F = some (.dK (foK (foldD (0, 0) (ds.take i)))) ∧ H' r2 = some (.lst (ts.reverse.map V.ref)) ∧ Paired (fun t x => H' t = some (.tup (tupD x))) ts.reverse ds ∧ Ext H H' ∧ (foldD (0, 0) (ds.take i)).1.natAbs < 2 ^ (3 * i + 1) ∧ (foldD (0, 0) (ds.take i)).2.natAbs < 2 ^ (3 * i + 1)) ⟨_, _, _, _, rfl, f4, q4, t4, E4, by show 0 < 2; decide, by show 0 < 2; decide⟩ (fun _ _ _ ⟨_, _, _, _, _, _, h, _⟩ => SqL.of h) ?_ ?_
      · rintro i x σ H5 hx ⟨v1, v4, v5, v6, rfl, f5, q5, t5, E5, b1, b2⟩
        obtain ⟨t, rfl, y, hyi, ht⟩ := refs_get t5 hx
        have hi := (List.getElem?_eq_some_iff.mp hyi).1
        obtain ⟨⟨c2, c4⟩, hlt⟩ := dm y (List.mem_of_getElem? hyi)
        have pw : 2 ^ (3 * i + 1) ≤ 2 ^ 20 := Nat.pow_le_pow_right (by decide) (by omega)
        have pw3 : 2 ^ (3 * (i + 1) + 1) = 8 * 2 ^ (3 * i + 1) := by rw [show 3 * (i + 1) + 1 = (3 * i + 1) + 3 by omega, Nat.pow_add]; omega
        have es : foldD (0, 0) (ds.take (i + 1)) = stepC (foldD (0, 0) (ds.take i)) y.1 y.2 := by
          rw [take_snoc hyi]
          unfold foldD
          rw [List.foldl_append]
          rfl
        rw [es]
        generalize foldD (0, 0) (ds.take i) = P at *
        have bb : (if y.1.1 then P.1 else P.2).natAbs < 2 ^ 20 := by split <;> omega
        refine ⟨t, _, rfl, SqT.of ht, rfl, _, _, rfl, _, _, rfl, _, _, rfl, rfl, ?_⟩
        refine ⟨_, rfl, _, rfl, F, _, rfl, (by have := DGet.k (k := .inr (axS y.1.1)) f5; rw [get_ax] at this; exact this), _, rfl, _, _, rfl, rfl, mulW bb (show ((y.1.2 : Nat) : Int).natAbs < 2 ^ 16 by omega), _, rfl, _, _, rfl, rfl, _, rfl, _, rfl, F, _, rfl, DPut.k (k := .inr (axS y.1.1)) f5 (by show 2 < sizeLine; decide), ?_⟩
        refine ⟨_, _, _, _, rfl, ?_, ?_, ?_, ?_, ?_, ?_⟩
        · rw [upd_same, put_ax]
        · rw [upd_ne r2F]
          exact q5
        · exact pd_imp (fun z x w => by rw [upd_ne (fun m => by rw [m, f5] at w; cases w)]; exact w) t5
        · exact ext_put E5 hFH
        · rw [pw3]
          obtain ⟨⟨b, n⟩, d⟩ := y
          cases b
          · show P.1.natAbs < _
            omega
          · have hn : n = 2 ∨ n = 3 ∨ n = 4 := by
              have h2 : 2 ≤ n := c2
              have h4 : n ≤ 4 := c4
              omega
            have hlt' : d < n := hlt
            show (P.1 * (n : Int) + (d : Int)).natAbs < _
            rcases hn with rfl | rfl | rfl <;> omega
        · rw [pw3]
          obtain ⟨⟨b, n⟩, d⟩ := y
          cases b
          · have hn : n = 2 ∨ n = 3 ∨ n = 4 := by
              have h2 : 2 ≤ n := c2
              have h4 : n ≤ 4 := c4
              omega
            have hlt' : d < n := hlt
            show (P.2 * (n : Int) + (d : Int)).natAbs < _
            rcases hn with rfl | rfl | rfl <;> omega
          · show P.2.natAbs < _
            omega
      · rintro σ H5 ⟨v1, v4, v5, v6, rfl, f5, q5, t5, E5, b1, b2⟩
        rw [List.length_map, pd_len t5, List.take_length, ← hds, place_digs cs ok g q hq] at f5
        refine ⟨_, rfl, F, _, rfl, (by have := DGet.k (k := .inr (axS true)) f5; rw [get_ax] at this; exact this), _, rfl, F, _, rfl, (by have := DGet.k (k := .inr (axS false)) f5; rw [get_ax] at this; exact this), (by show 2 ≤ sizeLine; decide), fun t ht => k t _ (E5.trans (Ext.upd ht)) upd_same⟩
end
end Mc

set_option Elab.async false
set_option linter.all false
set_option maxRecDepth 100000
set_option maxHeartbeats 4000000
set_option exponentiation.threshold 20000
namespace Mc
open PySem PySem.Spec PyProof.Rows L2 ClX StX
section
variable {P : Program} {w : World} {K : PySem.W.Frag} {mg : Str → Option Value} {base : Heap} {f C0 aX : Addr} {mc : Value} {fd : FuncData}
theorem sc_parts : FnScope ["_law_row", "_law_found", "_law_axis", "_law_cut"] ["_law_row"] (defScope s_parts) := ⟨rfl, rfl, rfl, by decide +kernel, rfl, by decide +kernel, by decide +kernel⟩
theorem foldl_mul (l : List Cut) (q : Nat) : l.foldl (fun q c => q * c.2) q = q * l.foldl (fun q c => q * c.2) 1 := by
  induction l generalizing q with
  | nil => exact (Nat.mul_one q).symm
  | cons c r ih => rw [List.foldl_cons, List.foldl_cons, ih, ih (1 * c.2), Nat.one_mul, Nat.mul_assoc]
theorem prodF_cons (c : Cut) (r : List Cut) : prodF (c :: r) = c.2 * prodF r := by
  unfold prodF
  rw [List.foldl_cons, foldl_mul, Nat.one_mul]
theorem prod_axis (cs : List Cut) (b : Bool) : prodF (cs.filter fun c => c.1 == b) = if b then colsF cs else rowsF cs := by
  induction cs with
  | nil => cases b <;> rfl
  | cons c r ih =>
    obtain ⟨a, n⟩ := c
    cases a <;> cases b <;> simp [List.filter_cons, prodF_cons, colsF, rowsF] at ih ⊢ <;> first | exact ih | (rw [ih])
def spPartsL : Sp := fun vs H Q _ => ∃ (a : Addr) (cs : List Cut), vs = [.ref a] ∧ CutsL H a cs ∧ (∀ c ∈ cs, okC c) ∧ cs.length ≤ 5 ∧ ∀ t H', Ext H H' → H' t = some (.tup [.int (colsF cs), .int (rowsF cs)]) → Q (.ref t) H'
theorem ok_parts (F : FunD K "_law_parts" "_law_parts" (defArgs s_parts) (defBody s_parts) (defScope s_parts) [] [] f fd) (T : TB mg) {fproduct : Addr} {fdproduct : FuncData} (Dproduct : Gd P w K mg base "_law_product" 1 ["_law_row"] (spProduct K) fproduct fdproduct) : FnOk P w K mg base CX0 2 f fd ["_law_row"] (spPartsL) := by
  refine F.ok sc_parts (fun vs H Q E h => ?_) (fun cdv A outer s H vs Q E hr h => ?_)
  · obtain ⟨a, cs, rfl, hl, ok, l5, k⟩ := h
    rfl
  · obtain ⟨a, cs, rfl, hl, ok, l5, k⟩ := h
    refine ⟨_, (PSs.nox (pss_cons (ps_setLc (i := 1) (own := [("_law_axis", 2)]) (g := gName 2) (tt := tYes) rfl sc_parts.nd rfl rfl (sw_true rfl rfl rfl (by decide +kernel)) (pi_list (pe_lst (pa_cons pe_str (pa_cons pe_str pa_nil)))) (blkOk_by (own := [("_law_axis", 2)]) (N := ["_law_row", "_law_found", "_law_axis", "_law_cut"]) (sc := defScope s_parts) (by decide +kernel)) (fun _ _ _ _ _ => (pg_name (i := 2) sc_parts.nd rfl (.inr rfl))) (fun _ _ _ _ _ => pts_nil) (fun _ _ _ _ _ => (pe_gd Dproduct hr (by decide) (by rfl) (pa_cons (pe_lc (own := [("_law_cut", 3)]) (g := gName 3) rfl sc_parts.nd (pi_listK (K := K) rfl (pv 0)) (blkOk_by (own := [("_law_cut", 3)]) (N := ["_law_row", "_law_found", "_law_axis", "_law_cut"]) (by rfl)) (fun _ _ _ _ _ => (pg_name (i := 3) sc_parts.nd rfl (.inl rfl))) (fun _ _ _ _ _ => (pts_one (pt_cmpR op_eq (pe_ix (ix_seqK (K := K) rfl) (pv 3) pe_int (fun _ _ => rfl)) (pv 2) (nomark _)))) (fun _ _ _ _ _ => (pv 3))) pa_nil))))
      (pss_one (ps_ret (pe_tup (pa_cons (pe_ix ix_seq (pv 1) pe_int (fun _ _ => rfl)) (pa_cons (pe_ix ix_seq (pv 1) pe_int (fun _ _ => rfl)) pa_nil))))))), ?_⟩
    obtain ⟨as, l1, l2⟩ := id hl
    have szl : sizeLine = 16777216 := sizeLine_eq
    refine ⟨(by show 2 ≤ sizeLine; decide), fun ml hml => ⟨ml, rfl, ⟨_, SqL.of upd_same⟩, ?_⟩⟩
    have e1 := Ext.upd (o := .lst [.str "east", .str "north"]) hml
    have qm : (upd H ml (.lst [.str "east", .str "north"])) ml = some (.lst [.str "east", .str "north"]) := upd_same
    generalize upd H ml (.lst [.str "east", .str "north"]) = H1 at *
    refine fun D hD => lc_walk (xs := [.str (axS true), .str (axS false)]) walk_l (fun i H' => H' D = some (.lst ([V.int (colsF cs), .int (rowsF cs)].take i)) ∧ H' ml = some (.lst [.str "east", .str "north"]) ∧ Ext H H') ⟨upd_same, Ext.upd hD _ _ qm, e1.trans (Ext.upd hD)⟩ (fun _ _ ⟨_, h, _⟩ => SqL.of h) ?_ ?_
    · rintro i x H' hx ⟨d1, m1, e⟩
      obtain ⟨b, rfl, hi2, hb⟩ : ∃ b : Bool, x = .str (axS b) ∧ i < 2 ∧ [V.int (colsF cs), V.int (rowsF cs)].take (i + 1) = [V.int (colsF cs), V.int (rowsF cs)].take i ++ [.int (prodF (cs.filter fun c => c.1 == b))] := by
        match i, hx with
        | 0, hx => exact ⟨true, by cases hx; rfl, by decide, by rw [prod_axis]; rfl⟩
        | 1, hx => exact ⟨false, by cases hx; rfl, by decide, by rw [prod_axis]; rfl⟩
      refine ⟨rfl, lc_yes ⟨_, rfl, a, rfl, ⟨_, SqL.of (e _ _ l1)⟩, fun D2 hD2 => lc_walk (xs := as.map V.ref) walk_l (fun j H2 => ∃ fs : List Addr, H2 D2 = some (.lst (fs.map V.ref)) ∧ Paired (fun a c => H2 a = some (.tup (cutV c))) fs ((cs.take j).filter fun c => c.1 == b) ∧ Ext H' H2) ⟨[], upd_same, .nil, Ext.upd hD2⟩ (fun _ _ ⟨_, _, _, e2⟩ => SqL.of (e2 _ _ (e _ _ l1))) ?_ ?_⟩⟩
      · rintro j y H2 hy ⟨fs, f1, f2, e2⟩
        obtain ⟨t, rfl, c, hcj, ht⟩ := refs_get l2 hy
        have ht2 := e2 _ _ (e _ _ ht)
        have hj := (List.getElem?_eq_some_iff.mp hcj).1
        have fl : ((cs.take (j + 1)).filter fun c => c.1 == b) = ((cs.take j).filter fun c => c.1 == b) ++ (if c.1 == b then [c] else []) := by
          rw [take_snoc hcj, List.filter_append, List.filter_cons, List.filter_nil]
        refine ⟨rfl, _, rfl, .inr (.inl ⟨t, _, 0, _, rfl, rfl, SqT.of ht2, rfl, _, rfl, rfl, _, rfl, ite2 (fun h => ?_) (fun h => ?_)⟩)⟩
        · have hb' : (c.1 == b) = true := by
            have := of_decide_eq_true h
            have : axS c.1 = axS b := V.str.inj this
            exact beq_iff_eq.mpr (axS_inj this)
          refine ⟨_, rfl, _, f1, ?_, fs ++ [t], ?_, ?_, ext_put e2 hD2⟩
          · rw [List.length_map, pd_len f2, szl]
            have := List.length_filter_le (fun c : Cut => c.1 == b) (cs.take j)
            rw [List.length_take] at this
            omega
          · rw [upd_same, List.map_append]
            rfl
          · rw [fl, if_pos hb']
            exact pd_snoc (pd_imp (fun _ _ z => side_t f1 z) f2) (side_t f1 ht2)
        · have hb' : ¬ (c.1 == b) = true := fun z => h (by rw [beq_iff_eq.mp z]; exact decide_eq_true rfl)
          refine ⟨fs, f1, ?_, e2⟩
          rw [fl, if_neg hb', List.append_nil]
          exact f2
      · rintro H2 ⟨fs, f1, f2, e2⟩
        rw [List.length_map, pd_len l2, List.take_length] at f2
        have lf := List.length_filter_le (fun c : Cut => c.1 == b) cs
        refine ⟨.ref D2, cs.filter fun c => c.1 == b, rfl, ⟨D2, fs, rfl, .inl (SqL.of f1), f2⟩, by omega, fun c m => ok c (List.mem_filter.mp m).1, _, e2 _ _ d1, ?_, ?_, ?_, ?_⟩
        · rw [szl, List.length_take]
          show min i 2 < _
          omega
        · rw [upd_same, hb]
        · have mD : ml ≠ D := fun z => by rw [← z, qm] at hD; cases hD
          rw [upd_ne mD]
          exact e2 _ _ m1
        · exact ext_put (e.trans e2) (none_of e1 hD)
    · rintro H' ⟨d1, m1, e⟩
      have d1 : H' D = some (.lst [.int (colsF cs), .int (rowsF cs)]) := d1
      exact ⟨_, rfl, .inl ⟨D, _, 0, _, rfl, rfl, SqL.of d1, rfl, _, rfl, .inl ⟨D, _, 1, _, rfl, rfl, SqL.of d1, rfl, (by show 2 ≤ sizeLine; decide), fun t ht => k t _ (e.trans (Ext.upd ht)) upd_same⟩⟩⟩
end
end Mc

set_option Elab.async false
set_option linter.all false
set_option maxRecDepth 100000
set_option maxHeartbeats 4000000
set_option exponentiation.threshold 20000
namespace Mc
open PySem PySem.Spec PyProof.Rows L2 ClX StX
section
variable {P : Program} {w : World} {K : PySem.W.Frag} {mg : Str → Option Value} {base : Heap} {f C0 aX : Addr} {mc : Value} {fd : FuncData}
/-- data of small parts: depth k, at most n in each -/
def Sm : Nat → Nat → PyData → Prop
  | 0, _, _ => False
  | _ + 1, _, .int i => i.natAbs < 2 ^ 64
  | _ + 1, _, .bool _ => True
  | _ + 1, _, .none => True
  | _ + 1, _, .str s => s = "east" ∨ s = "north"
  | k + 1, n, .list xs => xs.length ≤ n ∧ ∀ x ∈ xs, Sm k n x
  | k + 1, n, .tuple xs => xs.length ≤ n ∧ ∀ x ∈ xs, Sm k n x
  | _ + 1, _, .dict _ => False
def SmB : Nat → Nat → Nat
  | 0, _ => 0
  | k + 1, n => n * (SmB k n + 2) + 2000
structure SmOk (k n : Nat) (d : PyData) : Prop where
  s : d.showable = true
  h : d.hasDict = false
  dp : d.depth ≤ k
  l : d.shown.length ≤ SmB k n
  c : d.canLay0 = true
theorem sm_all {k n : Nat} {xs : List PyData} (h : ∀ x ∈ xs, SmOk k n x) (hn : xs.length ≤ n) : PyData.showableAll xs = true ∧ PyData.hasDictAll xs = false ∧ PyData.depthAll xs ≤ k ∧ ((PyData.shownAll xs).map (·.length)).sum ≤ xs.length * SmB k n ∧ PyData.canLayAll0 xs = true ∧ (PyData.shownAll xs).length = xs.length := by
  clear hn
  induction xs with
  | nil => exact ⟨by simp [PyData.showableAll], by simp [PyData.hasDictAll], by simp [PyData.depthAll], by simp [PyData.shownAll], by simp [PyData.canLayAll0], by simp [PyData.shownAll]⟩
  | cons x r ih =>
    obtain ⟨a, b, c, d, e, f⟩ := ih fun y m => h y (.tail _ m)
    have hx := h x (.head _)
    refine ⟨by rw [PyData.showableAll, hx.s, a]; rfl, by rw [PyData.hasDictAll, hx.h, b]; rfl, by rw [PyData.depthAll]; have := hx.dp; omega, ?_, by rw [PyData.canLayAll0, hx.c, e]; rfl, by rw [PyData.shownAll, List.length_cons, f]; rfl⟩
    rw [PyData.shownAll, List.map_cons, List.sum_cons, List.length_cons, Nat.succ_mul]
    have := hx.l
    omega
theorem list_len (ts : List Str) : (listText ts).length ≤ (ts.map (·.length)).sum + 2 * ts.length + 2 := by
  have h := listText_le ts
  have e : ∀ l : List Str, piled l = (l.map (·.length)).sum + 2 * l.length := fun l => by
    induction l with
    | nil => rfl
    | cons t r ih => rw [piled_cons, ih, List.map_cons, List.sum_cons, List.length_cons]; omega
  have := e ts
  omega
theorem Sm.ok : ∀ {k n : Nat} {d : PyData}, Sm k n d → SmOk k n d
  | 0, _, _, h => h.elim
  | k + 1, n, .int i, h => by
    have h : i.natAbs < 2 ^ 64 := h
    have lg : i.natAbs.log2 < 1920 := Nat.lt_of_lt_of_le (PySem.Flt.log2_lt_of (by decide) h) (by decide)
    refine ⟨by rw [PyData.showable]; exact decide_eq_true lg, by simp [PyData.hasDict], by simp [PyData.depth], ?_, by simp [PyData.canLay0]⟩
    rw [PyData.shown]
    have := int_text_len_1921 lg
    show (Str.ofString (toString i)).length ≤ n * (SmB k n + 2) + 2000
    omega
  | k + 1, n, .bool b, _ => ⟨by simp [PyData.showable], by simp [PyData.hasDict], by simp [PyData.depth], Nat.le_trans (m := 2000) (by cases b <;> decide +kernel) (Nat.le_add_left _ _), by simp [PyData.canLay0]⟩
  | k + 1, n, .none, _ => ⟨by simp [PyData.showable], by simp [PyData.hasDict], by simp [PyData.depth], Nat.le_trans (m := 2000) (by decide +kernel) (Nat.le_add_left _ _), by simp [PyData.canLay0]⟩
  | k + 1, n, .str s, h => ⟨by simp [PyData.showable], by simp [PyData.hasDict], by simp [PyData.depth], Nat.le_trans (m := 2000) (by rcases h with rfl | rfl <;> decide +kernel) (Nat.le_add_left _ _), by rw [PyData.canLay0]; rcases h with rfl | rfl <;> decide +kernel⟩
  | k + 1, n, .list xs, h => by
    obtain ⟨a, b, c, d, e, f⟩ := sm_all (fun x m => Sm.ok (h.2 x m)) h.1
    have h1 := h.1
    refine ⟨by rw [PyData.showable]; exact a, by rw [PyData.hasDict]; exact b, by rw [PyData.depth]; omega, ?_, by rw [PyData.canLay0]; exact e⟩
    rw [PyData.shown]
    have := list_len (PyData.shownAll xs)
    have h2 := Nat.mul_le_mul_right (SmB k n) h1
    show _ ≤ n * (SmB k n + 2) + 2000
    rw [Nat.mul_add]
    omega
  | k + 1, n, .tuple xs, h => by
    obtain ⟨a, b, c, d, e, f⟩ := sm_all (fun x m => Sm.ok (h.2 x m)) h.1
    have h1 := h.1
    refine ⟨by rw [PyData.showable]; exact a, by rw [PyData.hasDict]; exact b, by rw [PyData.depth]; omega, ?_, by rw [PyData.canLay0]; exact e⟩
    rw [PyData.shown]
    have := tupleText_len_le (PyData.shownAll xs)
    have h2 := Nat.mul_le_mul_right (SmB k n) h1
    show _ ≤ n * (SmB k n + 2) + 2000
    rw [Nat.mul_add]
    omega
theorem Sm.show {n : Nat} {d : PyData} (h : Sm 4 n d) (hn : n ≤ 10) : d.showable = true ∧ d.hasDict = false ∧ d.depth ≤ 64 ∧ d.shown.length ≤ sizeLine := by
  have o := h.ok
  refine ⟨o.s, o.h, Nat.le_trans o.dp (by decide), Nat.le_trans o.l ?_⟩
  rw [sizeLine_eq]
  have a1 : SmB 1 n ≤ 2020 := by show n * (0 + 2) + 2000 ≤ 2020; omega
  have a2 : SmB 2 n ≤ 30000 := by show n * (SmB 1 n + 2) + 2000 ≤ 30000; have := Nat.mul_le_mul hn (show SmB 1 n + 2 ≤ 2022 by omega); omega
  have a3 : SmB 3 n ≤ 400000 := by show n * (SmB 2 n + 2) + 2000 ≤ 400000; have := Nat.mul_le_mul hn (show SmB 2 n + 2 ≤ 30002 by omega); omega
  show n * (SmB 3 n + 2) + 2000 ≤ 16777216
  have := Nat.mul_le_mul hn (show SmB 3 n + 2 ≤ 400002 by omega)
  omega
theorem Sm.len {n : Nat} {d : PyData} (h : Sm 4 n d) (hn : n ≤ 10) : d.shown.length ≤ 5000000 := by
  have o := h.ok
  refine Nat.le_trans o.l ?_
  have a1 : SmB 1 n ≤ 2020 := by show n * (0 + 2) + 2000 ≤ 2020; omega
  have a2 : SmB 2 n ≤ 30000 := by show n * (SmB 1 n + 2) + 2000 ≤ 30000; have := Nat.mul_le_mul hn (show SmB 1 n + 2 ≤ 2022 by omega); omega
  have a3 : SmB 3 n ≤ 400000 := by show n * (SmB 2 n + 2) + 2000 ≤ 400000; have := Nat.mul_le_mul hn (show SmB 2 n + 2 ≤ 30002 by omega); omega
  show n * (SmB 3 n + 2) + 2000 ≤ 5000000
  have := Nat.mul_le_mul hn (show SmB 3 n + 2 ≤ 400002 by omega)
  omega
theorem Sm.shaped {k n : Nat} {d : PyData} (h : Sm k n d) (hk : k ≤ 64) : SeqAt.shaped d = true := by
  have o := h.ok
  unfold SeqAt.shaped
  rw [o.c, Bool.true_and]
  exact decide_eq_true (Nat.le_trans o.dp hk)
theorem Sm.l2 {k n : Nat} {a b : PyData} (hn : 2 ≤ n) (ha : Sm k n a) (hb : Sm k n b) : Sm (k + 1) n (.list [a, b]) := ⟨hn, fun y m => by
  simp only [List.mem_cons, List.not_mem_nil, or_false] at m
  rcases m with rfl | rfl
  · exact ha
  · exact hb⟩
theorem Sm.l3 {k n : Nat} {a b c : PyData} (hn : 3 ≤ n) (ha : Sm k n a) (hb : Sm k n b) (hc : Sm k n c) : Sm (k + 1) n (.list [a, b, c]) := ⟨hn, fun y m => by
  simp only [List.mem_cons, List.not_mem_nil, or_false] at m
  rcases m with rfl | rfl | rfl
  · exact ha
  · exact hb
  · exact hc⟩
theorem Sm.l4 {k n : Nat} {a b c d : PyData} (hn : 4 ≤ n) (ha : Sm k n a) (hb : Sm k n b) (hc : Sm k n c) (hd : Sm k n d) : Sm (k + 1) n (.list [a, b, c, d]) := ⟨hn, fun y m => by
  simp only [List.mem_cons, List.not_mem_nil, or_false] at m
  rcases m with rfl | rfl | rfl | rfl
  · exact ha
  · exact hb
  · exact hc
  · exact hd⟩
theorem Sm.pr {k n : Nat} {q : Pr} (hn : 2 ≤ n) (h1 : q.1.natAbs < 2 ^ 64) (h2 : q.2.natAbs < 2 ^ 64) : Sm (k + 2) n (dqT q) := ⟨hn, fun y m => by
  simp only [List.mem_cons, List.not_mem_nil, or_false] at m
  rcases m with rfl | rfl
  · exact h1
  · exact h2⟩
theorem range_get {n j : Nat} {x : V} (h : ((List.range n).map fun k : Nat => V.int (0 + (k : Int)))[j]? = some x) : j < n ∧ x = .int (j : Nat) := by
  have hj : j < n := by
    have := (List.getElem?_eq_some_iff.mp h).1
    simpa using this
  refine ⟨hj, ?_⟩
  rw [List.getElem?_map, List.getElem?_range hj] at h
  rw [← Option.some.inj h]
  show V.int (0 + (j : Int)) = _
  rw [Int.zero_add]
theorem prod_cols (cs : List Cut) : prodF cs = colsF cs * rowsF cs := by
  induction cs with
  | nil => rfl
  | cons c r ih =>
    obtain ⟨a, n⟩ := c
    rw [prodF_cons, ih]
    cases a
    · show n * (colsF r * rowsF r) = 1 * colsF r * (n * rowsF r)
      rw [Nat.one_mul, Nat.mul_left_comm]
    · show n * (colsF r * rowsF r) = n * colsF r * (1 * rowsF r)
      rw [Nat.one_mul, Nat.mul_assoc]
theorem CutsL.at {K : PySem.W.Frag} {H : Hp} {a : Addr} {cs : List Cut} (h : CutsL H a cs) : CutsAt K H (.ref a) cs := by
  obtain ⟨as, h1, h2⟩ := h
  exact ⟨a, as, rfl, .inl (SqL.of h1), h2⟩
/-- the rounds as the law has them: a list of lists of cuts -/
def RowsL (H : Hp) (l : Addr) (rs : List (List Cut)) : Prop := ∃ as : List Addr, H l = some (.lst (as.map V.ref)) ∧ Paired (CutsL H) as rs
theorem RowsL.ext {H H' : Hp} {l : Addr} {rs : List (List Cut)} (h : RowsL H l rs) (e : Ext H H') : RowsL H' l rs := by
  obtain ⟨as, h1, h2⟩ := h
  exact ⟨as, e _ _ h1, pd_imp (fun _ _ q => q.ext e) h2⟩

end
end Mc

set_option Elab.async false
set_option linter.all false
set_option maxRecDepth 100000
set_option maxHeartbeats 4000000
set_option exponentiation.threshold 20000
namespace Mc
open PySem PySem.Spec PyProof.Rows L2 ClX StX
section
variable {P : Program} {w : World} {K : PySem.W.Frag} {mg : Str → Option Value} {base : Heap} {f C0 aX : Addr} {mc : Value} {fd : FuncData}
theorem sc_round_right : FnScope ["_law_made", "_law_rows", "_law_k", "_law_row", "_law_many", "_law_glyph", "_law_column_row"] ["_law_made", "_law_rows", "_law_k"] (defScope s_round_right) := ⟨rfl, rfl, rfl, by decide +kernel, rfl, by decide +kernel, by decide +kernel⟩
def spRoundR (C0 : Addr) : Sp := fun vs H Q _ => ∃ (x l : Addr) (rs : List (List Cut)) (i : Nat) (cs : List Cut), vs = [.ref x, .ref l, .int i] ∧ PlanAt C0 H x rs ∧ RowsL H l rs ∧ OkR rs ∧ rs[i]? = some cs ∧ ∀ H', Ext H H' → Q (.bl true) H'
theorem ok_round_right (F : FunD K "_law_round_right" "_law_round_right" (defArgs s_round_right) (defBody s_round_right) (defScope s_round_right) [] [] f fd) (T : TB mg) (R : PlanT K mg C0 aX mc) {fSg : Addr} {fdSg : FuncData} (mSg : Meth K C0 "signs" fSg) (Gsg : FnOk P w K mg base CX0 5 fSg fdSg ["self", "phase"] (spSigns C0)) (bSg : Binds K fdSg ["self", "phase"] []) (kSg_phase : KBn K fdSg ["self", "phase"] 1 ["phase"] (fun us ws => us ++ pm [0] ws) (fun vs zs => vs ++ pm [0] zs)) {fPa : Addr} {fdPa : FuncData} (mPa : Meth K C0 "parts" fPa) (Gpa : FnOk P w K mg base CX0 5 fPa fdPa ["self", "phase"] (spPartsM C0)) (bPa : Binds K fdPa ["self", "phase"] []) (kPa_phase : KBn K fdPa ["self", "phase"] 1 ["phase"] (fun us ws => us ++ pm [0] ws) (fun vs zs => vs ++ pm [0] zs)) {fPo : Addr} {fdPo : FuncData} (mPo : Meth K C0 "place_of" fPo) (Gpo : FnOk P w K mg base CX0 7 fPo fdPo ["self", "phase", "sign"] (spPlaceOf C0)) (bPo : Binds K fdPo ["self", "phase", "sign"] []) (kPo_sign_phase : KBn K fdPo ["self", "phase", "sign"] 1 ["sign", "phase"] (fun us ws => us ++ pm [1, 0] ws) (fun vs zs => vs ++ pm [1, 0] zs)) {fSa : Addr} {fdSa : FuncData} (mSa : Meth K C0 "sign_at" fSa) (Gsa : FnOk P w K mg base CX0 6 fSa fdSa ["self", "phase", "pair"] (spSignAt C0)) (bSa : Binds K fdSa ["self", "phase", "pair"] []) (kSa_pair_phase : KBn K fdSa ["self", "phase", "pair"] 1 ["pair", "phase"] (fun us ws => us ++ pm [1, 0] ws) (fun vs zs => vs ++ pm [1, 0] zs)) {fproduct : Addr} {fdproduct : FuncData} (Dproduct : Gd P w K mg base "_law_product" 1 ["_law_row"] (spProduct K) fproduct fdproduct) {fparts : Addr} {fdparts : FuncData} (Dparts : Gd P w K mg base "_law_parts" 2 ["_law_row"] (spPartsL) fparts fdparts) {fplace : Addr} {fdplace : FuncData} (Dplace : Gd P w K mg base "_law_place" 1 ["_law_row", "_law_glyph"] (spPlaceL) fplace fdplace) : FnOkG P w K mg base CX0 9 f fd ["_law_made", "_law_rows", "_law_k"] (spRoundR C0) := by
  refine okG F sc_round_right (fun vs H Q E h => ?_) (fun cdv A outer s H vs Q E hr h => ?_)
  · obtain ⟨x, l, rs, i, cs, rfl, ht, hl, ok, hi, k⟩ := h
    rfl
  · obtain ⟨x, l, rs, i, cs, rfl, ht, hl, ok, hi, k⟩ := h
    refine ⟨_, (pss_cons (ps_set (i := 3) sc_round_right.nd rfl (.inl rfl) (pe_ix ix_seq (pv 1) (pv 2) (fun _ _ => rfl)))
      (pss_cons (ps_set (i := 4) sc_round_right.nd rfl (.inl rfl) (pe_gd Dproduct hr.room (by decide) (by rfl) (pa_cons (pv 3) pa_nil)))
      (pss_cons (ps_if (pt_cmpR op_ne (pe_callB (call_reprDK (K := K) hr rfl) (by rfl) T.repr boot_repr (pa_cons (pe_lst (pa_cons (pe_meth (pv 0) R.cl mSg Gsg (hr.room.mono (by decide)) bSg .nil pass0 (pa_cons (pv 2) pa_nil)) (pa_cons (pe_methK (pv 0) R.cl mSg Gsg (hr.room.mono (by decide)) kSg_phase (pk_cons (pv 2) pk_nil)) (pa_cons (pe_meth (pv 0) R.cl mPa Gpa (hr.room.mono (by decide)) bPa .nil pass0 (pa_cons (pv 2) pa_nil)) pa_nil)))) pa_nil)) (pe_callB (call_reprDK (K := K) hr rfl) (by rfl) T.repr boot_repr (pa_cons (pe_lst (pa_cons (pv 4) (pa_cons (pv 4) (pa_cons (pe_gd Dparts hr.room (by decide) (by rfl) (pa_cons (pv 3) pa_nil)) pa_nil)))) pa_nil)) (nomark _)) (pss_one (ps_ret pe_bl)) pss_nil)
      (pss_cons (ps_for PassesOwn.never rfl (pi_range1 (by rfl) T.range (pa_cons (pv 4) pa_nil)) (pg_name (i := 5) sc_round_right.nd rfl (.inl rfl)) (pss_cons (ps_set (i := 6) sc_round_right.nd rfl (.inl rfl) (pe_gd Dplace hr.room (by decide) (by rfl) (pa_cons (pv 3) (pa_cons (pv 5) pa_nil))))
      (pss_cons (ps_if (pt_cmpR op_ne (pe_callB (call_reprDK (K := K) hr rfl) (by rfl) T.repr boot_repr (pa_cons (pe_lst (pa_cons (pe_meth (pv 0) R.cl mPo Gpo (hr.room.mono (by decide)) bPo .nil pass0 (pa_cons (pv 2) (pa_cons (pv 5) pa_nil))) (pa_cons (pe_methK (pv 0) R.cl mPo Gpo (hr.room.mono (by decide)) kPo_sign_phase (pk_cons (pv 5) (pk_cons (pv 2) pk_nil))) pa_nil))) pa_nil)) (pe_callB (call_reprDK (K := K) hr rfl) (by rfl) T.repr boot_repr (pa_cons (pe_lst (pa_cons (pv 6) (pa_cons (pv 6) pa_nil))) pa_nil)) (nomark _)) (pss_one (ps_ret pe_bl)) pss_nil)
      (pss_one (ps_if (pt_cmpR op_ne (pe_callB (call_reprDK (K := K) hr rfl) (by rfl) T.repr boot_repr (pa_cons (pe_lst (pa_cons (pe_meth (pv 0) R.cl mSa Gsa (hr.room.mono (by decide)) bSa .nil pass0 (pa_cons (pv 2) (pa_cons (pv 6) pa_nil))) (pa_cons (pe_methK (pv 0) R.cl mSa Gsa (hr.room.mono (by decide)) kSa_pair_phase (pk_cons (pv 6) (pk_cons (pv 2) pk_nil))) pa_nil))) pa_nil)) (pe_callB (call_reprDK (K := K) hr rfl) (by rfl) T.repr boot_repr (pa_cons (pe_lst (pa_cons (pv 5) (pa_cons (pv 5) pa_nil))) pa_nil)) (nomark _)) (pss_one (ps_ret pe_bl)) pss_nil)))))
      (pss_one (ps_ret (pe_cmpR op_eq (pe_callB (call_reprDK (K := K) hr rfl) (by rfl) T.repr boot_repr (pa_cons (pe_methK (pv 0) R.cl mPa Gpa (hr.room.mono (by decide)) kPa_phase (pk_cons (pv 2) pk_nil)) pa_nil)) (pe_callB (call_reprDK (K := K) hr rfl) (by rfl) T.repr boot_repr (pa_cons (pe_gd Dparts hr.room (by decide) (by rfl) (pa_cons (pv 3) pa_nil)) pa_nil)) (nomark _)))))))), ?_⟩
    obtain ⟨as, l1, l2⟩ := id hl
    have l3 := ok.l3
    have hm := List.mem_of_getElem? hi
    have okc := ok.hc cs hm
    have l5 := ok.h5 cs hm
    obtain ⟨b, hb, hrow⟩ := pd_get2 l2 i cs hi
    obtain ⟨dx, lr, lp, ll, g, h1, hin⟩ := id ht
    have pc := placesF_length cs
    have pp : prodF cs = colsF cs * rowsF cs := prod_cols cs
    have h32 := ok.h32 cs hm
    obtain ⟨cl1, cl2⟩ := cols_le okc l5
    have hbi : atI (as.map V.ref) ((i : Nat) : Int) = some (.ref b) := atI_nat (by rw [List.getElem?_map, hb]; rfl)
    refine ⟨_, rfl, _, rfl, .inl ⟨l, _, _, _, rfl, rfl, SqL.of l1, hbi, ?_⟩⟩
    refine ⟨_, rfl, .ref b, cs, rfl, hrow.at, by omega, okc, ?_⟩
    refine ⟨_, rfl, x, dx, _, rfl, h1, rfl, _, rfl, x, rs, i, cs, rfl, ht, hi, l3, _, rfl, x, dx, _, rfl, h1, rfl, _, rfl, rfl, x, rs, i, cs, rfl, ht, hi, l3, _, rfl, x, dx, _, rfl, h1, rfl, _, rfl, x, rs, i, cs, rfl, ht, hi, l3, fun t1 ht1 => ⟨(by show 3 ≤ sizeLine; decide), fun tl htl => ?_⟩⟩
    have pl : (placesF cs).length = prodF cs := by rw [pc, pp]
    rw [pl]
    have e1 := Ext.upd (o := .lst [.int (prodF cs : Nat), .int (prodF cs : Nat), .ref t1]) htl
    have smp : Sm 3 10 (dqT ((colsF cs : Int), (rowsF cs : Int))) := Sm.pr (by decide) (by show ((colsF cs : Nat) : Int).natAbs < _; omega) (by show ((rowsF cs : Nat) : Int).natAbs < _; omega)
    have smm : Sm 3 10 (.int (prodF cs : Nat)) := by show ((prodF cs : Nat) : Int).natAbs < 2 ^ 64; omega
    have sd : Sm 4 10 (.list [.int (prodF cs), .int (prodF cs), dqT ((colsF cs : Int), (rowsF cs : Int))]) := Sm.l3 (by decide) smm smm smp
    obtain ⟨s1, s2, s3, s4⟩ := sd.show (by decide)
    refine ⟨tl, _, rfl, .lst (SqL.of upd_same) (.cons (.int _) (.cons (.int _) (.cons (dp_pr (e1 _ _ ht1)) .nil))), s1, s2, s3, s4, ?_⟩
    generalize upd H tl _ = H1 at *
    refine ⟨_, rfl, _, rfl, _, rfl, b, cs, rfl, hrow.ext e1, okc, l5, fun t2 H2 e2 ht2 => ⟨(by show 3 ≤ sizeLine; decide), fun tl2 htl2 => ?_⟩⟩
    have e3 := Ext.upd (o := .lst [.int (prodF cs), .int (prodF cs), .ref t2]) htl2
    refine ⟨tl2, _, rfl, .lst (SqL.of upd_same) (.cons (.int _) (.cons (.int _) (.cons (dp_pr (e3 _ _ ht2)) .nil))), s1, s2, s3, s4, rfl, _, rfl, ite2 (fun hz => absurd hz (by simp)) (fun _ => ?_)⟩
    have E3 := (e1.trans e2).trans e3
    generalize upd H2 tl2 _ = H3 at *
    refine ⟨_, rfl, (prodF cs : Nat), rfl, by omega, by omega, for_walk (walk_r (lo := 0)) (fun j σ H' => ∃ u5 u6, σ = [some (.ref x), some (.ref l), some (.int i), some (.ref b), some (.int (prodF cs : Nat)), u5, u6] ∧ Ext H H') ⟨none, none, rfl, E3⟩ (fun _ _ _ _ => trivial) ?_ ?_⟩
    · rintro j y σ H4 hy ⟨u5, u6, rfl, E4⟩
      obtain ⟨hj, rfl⟩ := range_get hy
      have hj : j < prodF cs := hj
      have hq : (placesF cs)[j]? = some ((placesF cs)[j]'(by omega)) := List.getElem?_eq_getElem (by omega)
      generalize (placesF cs)[j]'(by omega) = q at *
      have qm := placesF_mem q (List.mem_of_getElem? hq)
      have h14 := E4 _ _ h1
      have ht4 := ht.ext E4
      refine ⟨_, rfl, _, rfl, b, cs, j, q, rfl, hrow.ext E4, okc, l5, hq, fun t H5 e5 htq => ?_⟩
      have E5 := E4.trans e5
      have h15 := e5 _ _ h14
      have ht5 := ht4.ext e5
      have qs1 : q.1.natAbs < 2 ^ 64 := by omega
      have qs2 : q.2.natAbs < 2 ^ 64 := by omega
      obtain ⟨a1, a2, a3, a4⟩ := (Sm.l2 (k := 3) (n := 10) (by decide) (Sm.pr (k := 1) (by decide) qs1 qs2) (Sm.pr (k := 1) (by decide) qs1 qs2)).show (by decide)
      refine ⟨_, rfl, x, dx, _, rfl, h15, rfl, _, rfl, _, rfl, x, rs, i, cs, j, q, rfl, ht5, hi, l3, hq, fun t1 ht1 => ⟨_, rfl, x, dx, _, rfl, h15, rfl, _, rfl, _, rfl, rfl, x, rs, i, cs, j, q, rfl, ht5, hi, l3, hq, fun t2 ht2 => ⟨(by show 2 ≤ sizeLine; decide), fun tl htl => ?_⟩⟩⟩
      have e6 := Ext.upd (o := .lst [.ref t1, .ref t2]) htl
      refine ⟨tl, .list [dqT q, dqT q], rfl, .lst (SqL.of upd_same) (.cons (dp_pr (e6 _ _ ht1)) (.cons (dp_pr (e6 _ _ ht2)) .nil)), a1, a2, a3, a4, ?_⟩
      generalize upd H5 tl _ = H6 at *
      refine ⟨_, rfl, _, rfl, (by show 2 ≤ sizeLine; decide), fun tl2 htl2 => ?_⟩
      have e7 := Ext.upd (o := .lst [.ref t, .ref t]) htl2
      have htq7 := e7 _ _ (e6 _ _ htq)
      refine ⟨tl2, .list [dqT q, dqT q], rfl, .lst (SqL.of upd_same) (.cons (dp_pr htq7) (.cons (dp_pr htq7) .nil)), a1, a2, a3, a4, rfl, _, rfl, ite2 (fun hz => absurd hz (by simp)) (fun _ => ?_)⟩
      have E7 := (E5.trans e6).trans e7
      have h17 := e7 _ _ (e6 _ _ h15)
      have ht7 := (ht5.ext e6).ext e7
      generalize upd H6 tl2 _ = H7 at *
      have mn : ∀ m, m < j → (placesF cs)[m]? ≠ some q := fun m hm2 z => absurd (place_inj okc z hq) (by omega)
      refine ⟨_, rfl, x, dx, _, rfl, h17, rfl, _, rfl, _, rfl, x, rs, i, cs, t, q, j, rfl, ht7, hi, l3, htq7, okc, hq, mn, fun H8 e8 => ⟨_, rfl, x, dx, _, rfl, e8 _ _ h17, rfl, _, rfl, _, rfl, rfl, x, rs, i, cs, t, q, j, rfl, ht7.ext e8, hi, l3, e8 _ _ htq7, okc, hq, mn, fun H9 e9 => ⟨(by show 2 ≤ sizeLine; decide), fun tl3 htl3 => ?_⟩⟩⟩
      have smj : Sm 3 10 (.int (j : Nat)) := by show ((j : Nat) : Int).natAbs < 2 ^ 64; omega
      obtain ⟨c1, c2, c3, c4⟩ := (Sm.l2 (k := 3) (n := 10) (by decide) smj smj).show (by decide)
      have e10 := Ext.upd (o := .lst [.int (j : Nat), .int (j : Nat)]) htl3
      refine ⟨tl3, .list [.int (j : Nat), .int (j : Nat)], rfl, .lst (SqL.of upd_same) (.cons (.int _) (.cons (.int _) .nil)), c1, c2, c3, c4, ?_⟩
      generalize upd H9 tl3 _ = Ha at *
      refine ⟨_, rfl, _, rfl, (by show 2 ≤ sizeLine; decide), fun tl4 htl4 => ?_⟩
      have e11 := Ext.upd (o := .lst [.int (j : Nat), .int (j : Nat)]) htl4
      refine ⟨tl4, .list [.int (j : Nat), .int (j : Nat)], rfl, .lst (SqL.of upd_same) (.cons (.int _) (.cons (.int _) .nil)), c1, c2, c3, c4, rfl, _, rfl, ite2 (fun hz => absurd hz (by simp)) (fun _ => ?_)⟩
      exact ⟨_, _, rfl, (((E7.trans e8).trans e9).trans e10).trans e11⟩
    · rintro σ H4 ⟨u5, u6, rfl, E4⟩
      have h14 := E4 _ _ h1
      have ht4 := ht.ext E4
      obtain ⟨c1, c2, c3, c4⟩ := (Sm.pr (k := 2) (n := 10) (q := ((colsF cs : Int), (rowsF cs : Int))) (by decide) (by show ((colsF cs : Nat) : Int).natAbs < _; omega) (by show ((rowsF cs : Nat) : Int).natAbs < _; omega)).show (by decide)
      refine ⟨_, rfl, x, dx, _, rfl, h14, rfl, _, rfl, rfl, x, rs, i, cs, rfl, ht4, hi, l3, fun t1 ht1 => ⟨t1, _, rfl, dp_pr (q := ((colsF cs : Int), (rowsF cs : Int))) ht1, c1, c2, c3, c4, ?_⟩⟩
      refine ⟨_, rfl, b, cs, rfl, hrow.ext E4, okc, l5, fun t2 H5 e5 ht2 => ⟨t2, _, rfl, dp_pr (q := ((colsF cs : Int), (rowsF cs : Int))) ht2, c1, c2, c3, c4, rfl, ?_⟩⟩
      rw [decide_eq_true rfl]
      exact k H5 (E4.trans e5)
end
end Mc

set_option Elab.async false
set_option linter.all false
set_option maxRecDepth 100000
set_option maxHeartbeats 4000000
namespace Mc
/-! ### names, as pure lists -/
def csA (rs : List (List Cut)) (i : Nat) : List Cut := rs.getD (i % rs.length) []
theorem csA_get {rs : List (List Cut)} (h : 0 < rs.length) (i : Nat) : rs[i % rs.length]? = some (csA rs i) := by
  have hl := Nat.mod_lt i h
  unfold csA
  rw [List.getElem?_eq_getElem hl, List.getD_eq_getElem?_getD, List.getElem?_eq_getElem hl]
  rfl
theorem csA_mem {rs : List (List Cut)} (h : 0 < rs.length) (i : Nat) : csA rs i ∈ rs := List.mem_of_getElem? (csA_get h i)
def sgF (rs : List (List Cut)) (i : Nat) : Nat := (placesF (csA rs i)).length
def NameOk (rs : List (List Cut)) (zs : List Nat) : Prop := ∀ i z, zs[i]? = some z → z < sgF rs i
theorem NameOk.nil {rs : List (List Cut)} : NameOk rs [] := fun i z h => by simp at h
theorem NameOk.take {rs : List (List Cut)} {zs : List Nat} (h : NameOk rs zs) (n : Nat) : NameOk rs (zs.take n) := fun i z e => by
  rw [List.getElem?_take] at e
  split at e
  · exact h i z e
  · cases e
theorem NameOk.snoc {rs : List (List Cut)} {zs : List Nat} {z : Nat} (h : NameOk rs zs) (hz : z < sgF rs zs.length) : NameOk rs (zs ++ [z]) := fun i y e => by
  by_cases l : i < zs.length
  · rw [List.getElem?_append_left l] at e
    exact h i y e
  · have hi : i = zs.length := by
      have := (List.getElem?_eq_some_iff.mp e).1
      rw [List.length_append, List.length_singleton] at this
      omega
    subst hi
    rw [List.getElem?_append_right (Nat.le_refl _), Nat.sub_self] at e
    cases e
    exact hz
def plA (rs : List (List Cut)) (i z : Nat) : Pr := (placesF (csA rs i)).getD z (0, 0)
theorem plA_get {rs : List (List Cut)} {i z : Nat} (h : z < sgF rs i) : (placesF (csA rs i))[z]? = some (plA rs i z) := by
  unfold plA
  have h : z < (placesF (csA rs i)).length := h
  rw [List.getD_eq_getElem?_getD, List.getElem?_eq_getElem h]
  rfl
def stepN (rs : List (List Cut)) (q : Pr) (i z : Nat) : Pr := (q.1 * (colsF (csA rs i) : Int) + (plA rs i z).1, q.2 * (rowsF (csA rs i) : Int) + (plA rs i z).2)
def pairFrom (rs : List (List Cut)) (k : Nat) (q : Pr) : List Nat → Pr
  | [] => q
  | z :: r => pairFrom rs (k + 1) (stepN rs q k z) r
def pairF (rs : List (List Cut)) (zs : List Nat) : Pr := pairFrom rs 0 (0, 0) zs
theorem pairFrom_append (rs : List (List Cut)) : ∀ (a b : List Nat) (k : Nat) (q : Pr), pairFrom rs k q (a ++ b) = pairFrom rs (k + a.length) (pairFrom rs k q a) b
  | [], b, k, q => rfl
  | z :: r, b, k, q => by
    show pairFrom rs (k + 1) (stepN rs q k z) (r ++ b) = _
    rw [pairFrom_append rs r b, List.length_cons, Nat.add_right_comm, Nat.add_assoc k]
    rfl
theorem pairF_snoc (rs : List (List Cut)) (zs : List Nat) (z : Nat) : pairF rs (zs ++ [z]) = stepN rs (pairF rs zs) zs.length z := by
  unfold pairF
  rw [pairFrom_append, Nat.zero_add]
  rfl
theorem pairF_take {rs : List (List Cut)} {zs : List Nat} {i z : Nat} (h : zs[i]? = some z) : pairF rs (zs.take (i + 1)) = stepN rs (pairF rs (zs.take i)) i z := by
  have e : zs.take (i + 1) = zs.take i ++ [z] := by
    rw [List.take_add_one, h]
    rfl
  have l : (zs.take i).length = i := by
    have := (List.getElem?_eq_some_iff.mp h).1
    rw [List.length_take]
    omega
  rw [e, pairF_snoc, l]
/-- columns (rows) of m signs from the k-th one on -/
def dcF (rs : List (List Cut)) (k : Nat) : Nat → Nat
  | 0 => 1
  | m + 1 => dcF rs k m * colsF (csA rs (k + m))
def drF (rs : List (List Cut)) (k : Nat) : Nat → Nat
  | 0 => 1
  | m + 1 => drF rs k m * rowsF (csA rs (k + m))
structure OkN (rs : List (List Cut)) : Prop where
  l1 : 0 < rs.length
  hc : ∀ cs ∈ rs, ∀ c ∈ cs, okC c
  h32 : ∀ cs ∈ rs, colsF cs * rowsF cs ≤ 32
theorem OkN.pos {rs : List (List Cut)} (ok : OkN rs) (i : Nat) : 0 < colsF (csA rs i) ∧ 0 < rowsF (csA rs i) := pos_cols (ok.hc _ (csA_mem ok.l1 i))
theorem OkN.le {rs : List (List Cut)} (ok : OkN rs) (i : Nat) : colsF (csA rs i) ≤ 32 ∧ rowsF (csA rs i) ≤ 32 := by
  have h := ok.h32 _ (csA_mem ok.l1 i)
  have p := ok.pos i
  exact ⟨Nat.le_trans (Nat.le_mul_of_pos_right _ p.2) h, Nat.le_trans (Nat.le_mul_of_pos_left _ p.1) h⟩
theorem dc_pos {rs : List (List Cut)} (ok : OkN rs) (k : Nat) : ∀ m, 0 < dcF rs k m ∧ 0 < drF rs k m
  | 0 => ⟨Nat.zero_lt_one, Nat.zero_lt_one⟩
  | m + 1 => ⟨Nat.mul_pos (dc_pos ok k m).1 (ok.pos _).1, Nat.mul_pos (dc_pos ok k m).2 (ok.pos _).2⟩
theorem dc_add (rs : List (List Cut)) (k : Nat) : ∀ m n, dcF rs k (m + n) = dcF rs k m * dcF rs (k + m) n ∧ drF rs k (m + n) = drF rs k m * drF rs (k + m) n
  | m, 0 => ⟨(Nat.mul_one _).symm, (Nat.mul_one _).symm⟩
  | m, n + 1 => by
    obtain ⟨h1, h2⟩ := dc_add rs k m n
    constructor
    · show dcF rs k (m + n) * colsF (csA rs (k + (m + n))) = dcF rs k m * (dcF rs (k + m) n * colsF (csA rs (k + m + n)))
      rw [h1, Nat.mul_assoc, Nat.add_assoc]
    · show drF rs k (m + n) * rowsF (csA rs (k + (m + n))) = drF rs k m * (drF rs (k + m) n * rowsF (csA rs (k + m + n)))
      rw [h2, Nat.mul_assoc, Nat.add_assoc]
theorem dc_bits {rs : List (List Cut)} (ok : OkN rs) (k : Nat) : ∀ m, dcF rs k m ≤ 2 ^ (5 * m) ∧ drF rs k m ≤ 2 ^ (5 * m)
  | 0 => ⟨Nat.le_refl 1, Nat.le_refl 1⟩
  | m + 1 => by
    obtain ⟨h1, h2⟩ := dc_bits ok k m
    have l := ok.le (k + m)
    rw [Nat.mul_succ, Nat.pow_add]
    exact ⟨Nat.mul_le_mul h1 l.1, Nat.mul_le_mul h2 l.2⟩
theorem pl_in {rs : List (List Cut)} {i z : Nat} (h : z < sgF rs i) : 0 ≤ (plA rs i z).1 ∧ (plA rs i z).1 < colsF (csA rs i) ∧ 0 ≤ (plA rs i z).2 ∧ (plA rs i z).2 < rowsF (csA rs i) := placesF_mem _ (List.mem_of_getElem? (plA_get h))
/-- x * (a * c) + r * c + p, one step of a row of digits -/
theorem dig_step {x r p : Int} {a c : Nat} (h0 : 0 ≤ r) (h1 : r < a) (p0 : 0 ≤ p) (p1 : p < c) : (x * (a : Int) + r) * (c : Int) + p = x * ((a * c : Nat) : Int) + (r * (c : Int) + p) ∧ 0 ≤ r * (c : Int) + p ∧ r * (c : Int) + p < ((a * c : Nat) : Int) := by
  obtain ⟨r', rfl⟩ := Int.eq_ofNat_of_zero_le h0
  have e : ((r' : Nat) : Int) * (c : Int) = ((r' * c : Nat) : Int) := (Int.natCast_mul _ _).symm
  have l := Nat.mul_le_mul_right c (show r' + 1 ≤ a by omega)
  rw [Nat.succ_mul] at l
  refine ⟨?_, ?_, ?_⟩
  · rw [Int.add_mul, Int.mul_assoc, ← Int.natCast_mul, Int.add_assoc]
  · rw [e]; omega
  · rw [e]; omega
/-- from place k on: the number so far times the columns to come, and less than these -/
theorem pairFrom_div {rs : List (List Cut)} (ok : OkN rs) (k : Nat) (q : Pr) : ∀ (n : Nat) (b : List Nat), b.length = n → (∀ i z, b[i]? = some z → z < sgF rs (k + i)) → ∃ r1 r2 : Int, pairFrom rs k q b = (q.1 * (dcF rs k n : Int) + r1, q.2 * (drF rs k n : Int) + r2) ∧ 0 ≤ r1 ∧ r1 < dcF rs k n ∧ 0 ≤ r2 ∧ r2 < drF rs k n
  | 0, [], _, _ => ⟨0, 0, by simp [pairFrom, dcF, drF], by decide, by show (0 : Int) < ((1 : Nat) : Int); decide, by decide, by show (0 : Int) < ((1 : Nat) : Int); decide⟩
  | n + 1, b, hb, h => by
    obtain ⟨a, z, rfl⟩ : ∃ a z, b = a ++ [z] := by
      have ne : b ≠ [] := fun e => by rw [e] at hb; simp at hb
      exact ⟨b.dropLast, b.getLast ne, (List.dropLast_concat_getLast ne).symm⟩
    have ha : a.length = n := by rw [List.length_append, List.length_singleton] at hb; omega
    obtain ⟨r1, r2, e, a1, a2, a3, a4⟩ := pairFrom_div ok k q n a ha fun i y hy => h i y (by rw [List.getElem?_append_left (List.getElem?_eq_some_iff.mp hy).1]; exact hy)
    have hz : z < sgF rs (k + n) := h n z (by rw [List.getElem?_append_right (by omega), ha, Nat.sub_self]; rfl)
    obtain ⟨p1, p2, p3, p4⟩ := pl_in hz
    rw [pairFrom_append, ha, e]
    obtain ⟨s1, s2, s3⟩ := dig_step (x := q.1) a1 a2 p1 p2
    obtain ⟨t1, t2, t3⟩ := dig_step (x := q.2) a3 a4 p3 p4
    refine ⟨r1 * (colsF (csA rs (k + n)) : Int) + (plA rs (k + n) z).1, r2 * (rowsF (csA rs (k + n)) : Int) + (plA rs (k + n) z).2, ?_, s2, s3, t2, t3⟩
    show stepN rs _ (k + n) z = _
    unfold stepN
    exact Prod.ext s1 t1
theorem pairF_in {rs : List (List Cut)} (ok : OkN rs) {zs : List Nat} (h : NameOk rs zs) : 0 ≤ (pairF rs zs).1 ∧ (pairF rs zs).1 < dcF rs 0 zs.length ∧ 0 ≤ (pairF rs zs).2 ∧ (pairF rs zs).2 < drF rs 0 zs.length := by
  obtain ⟨r1, r2, e, a1, a2, a3, a4⟩ := pairFrom_div ok 0 (0, 0) zs.length zs rfl fun i z hz => by rw [Nat.zero_add]; exact h i z hz
  unfold pairF
  rw [e]
  refine ⟨?_, ?_, ?_, ?_⟩ <;> simp <;> assumption
theorem pairF_bits {rs : List (List Cut)} (ok : OkN rs) {zs : List Nat} (h : NameOk rs zs) {n : Nat} (hn : zs.length ≤ n) : (pairF rs zs).1.natAbs < 2 ^ (5 * n + 1) ∧ (pairF rs zs).2.natAbs < 2 ^ (5 * n + 1) := by
  obtain ⟨a1, a2, a3, a4⟩ := pairF_in ok h
  obtain ⟨b1, b2⟩ := dc_bits ok 0 zs.length
  have b3 : 2 ^ (5 * zs.length) ≤ 2 ^ (5 * n) := Nat.pow_le_pow_right (by decide) (by omega)
  have b4 : 2 ^ (5 * n) < 2 ^ (5 * n + 1) := Nat.pow_lt_pow_right (by decide) (by omega)
  exact ⟨by omega, by omega⟩
theorem mul_mod_inj {x y p q : Int} {c : Nat} (p0 : 0 ≤ p) (p1 : p < c) (q0 : 0 ≤ q) (q1 : q < c) (h : x * (c : Int) + p = y * (c : Int) + q) : x = y ∧ p = q := by
  have hc : (c : Int) ≠ 0 := by omega
  have e1 := congrArg (· / (c : Int)) h
  have e2 := congrArg (· % (c : Int)) h
  simp only [Int.add_comm (x * _), Int.add_comm (y * _), Int.add_mul_ediv_right _ _ hc, Int.add_mul_emod_self_right] at e1 e2
  rw [Int.ediv_eq_zero_of_lt p0 p1, Int.ediv_eq_zero_of_lt q0 q1] at e1
  rw [Int.emod_eq_of_lt p0 p1, Int.emod_eq_of_lt q0 q1] at e2
  omega
/-- unlike names of one length have unlike pairs -/
theorem pairF_inj {rs : List (List Cut)} (ok : OkN rs) : ∀ (n : Nat) (a b : List Nat), a.length = n → b.length = n → NameOk rs a → NameOk rs b → pairF rs a = pairF rs b → a = b
  | 0, a, b, ha, hb, _, _, _ => by rw [List.length_eq_zero_iff.mp ha, List.length_eq_zero_iff.mp hb]
  | n + 1, a, b, ha, hb, na, nb, e => by
    have sp : ∀ c : List Nat, c.length = n + 1 → ∃ d z, c = d ++ [z] := fun c hc => by
      have ne : c ≠ [] := fun e => by rw [e] at hc; simp at hc
      exact ⟨c.dropLast, c.getLast ne, (List.dropLast_concat_getLast ne).symm⟩
    obtain ⟨a, y, rfl⟩ := sp a ha
    obtain ⟨b, z, rfl⟩ := sp b hb
    rw [List.length_append, List.length_singleton] at ha hb
    have la : a.length = n := by omega
    have lb : b.length = n := by omega
    have hy : y < sgF rs n := na n y (by rw [List.getElem?_append_right (by omega), la, Nat.sub_self]; rfl)
    have hz : z < sgF rs n := nb n z (by rw [List.getElem?_append_right (by omega), lb, Nat.sub_self]; rfl)
    have oa : NameOk rs a := by have := na.take n; rwa [List.take_append_of_le_length (by omega), List.take_of_length_le (by omega)] at this
    have ob : NameOk rs b := by have := nb.take n; rwa [List.take_append_of_le_length (by omega), List.take_of_length_le (by omega)] at this
    rw [pairF_snoc, pairF_snoc, la, lb] at e
    unfold stepN at e
    obtain ⟨y1, y2, y3, y4⟩ := pl_in hy
    obtain ⟨z1, z2, z3, z4⟩ := pl_in hz
    obtain ⟨e1, e2⟩ := mul_mod_inj y1 y2 z1 z2 (congrArg Prod.fst e)
    obtain ⟨e3, e4⟩ := mul_mod_inj y3 y4 z3 z4 (congrArg Prod.snd e)
    have ei := pairF_inj ok n a b la lb oa ob (Prod.ext e1 e3)
    have ep : plA rs n y = plA rs n z := Prod.ext e2 e4
    have hyz := place_inj (ok.hc _ (csA_mem ok.l1 n)) (plA_get hy) ((plA_get hz).trans (congrArg some ep.symm))
    rw [ei, hyz]
theorem pairF_cut {rs : List (List Cut)} (ok : OkN rs) {zs : List Nat} (h : NameOk rs zs) {n : Nat} (hn : n ≤ zs.length) : (pairF rs zs).1 / ((dcF rs 0 zs.length / dcF rs 0 n : Nat) : Int) = (pairF rs (zs.take n)).1 ∧ (pairF rs zs).2 / ((drF rs 0 zs.length / drF rs 0 n : Nat) : Int) = (pairF rs (zs.take n)).2 := by
  have el : zs.length = n + (zs.length - n) := by omega
  obtain ⟨d1, d2⟩ := dc_add rs 0 n (zs.length - n)
  rw [← el, Nat.zero_add] at d1 d2
  have q := dc_pos ok 0 n
  have ed1 : dcF rs 0 zs.length / dcF rs 0 n = dcF rs n (zs.length - n) := by rw [d1, Nat.mul_div_cancel_left _ q.1]
  have ed2 : drF rs 0 zs.length / drF rs 0 n = drF rs n (zs.length - n) := by rw [d2, Nat.mul_div_cancel_left _ q.2]
  rw [ed1, ed2]
  have tl : (zs.take n).length = n := by rw [List.length_take]; omega
  obtain ⟨r1, r2, e, a1, a2, a3, a4⟩ := pairFrom_div ok n (pairF rs (zs.take n)) (zs.length - n) (zs.drop n) (by rw [List.length_drop]) fun i z hz => h (n + i) z (by rw [List.getElem?_drop] at hz; exact hz)
  have e2 : pairF rs zs = pairFrom rs n (pairF rs (zs.take n)) (zs.drop n) := by
    conv => lhs; rw [← List.take_append_drop n zs]
    unfold pairF
    rw [pairFrom_append, Nat.zero_add, tl]
  rw [e2, e]
  have p := dc_pos ok n (zs.length - n)
  constructor
  · show ((pairF rs (zs.take n)).1 * _ + r1) / _ = _
    rw [Int.add_comm, Int.add_mul_ediv_right _ _ (by omega), Int.ediv_eq_zero_of_lt a1 a2, Int.zero_add]
  · show ((pairF rs (zs.take n)).2 * _ + r2) / _ = _
    rw [Int.add_comm, Int.add_mul_ediv_right _ _ (by omega), Int.ediv_eq_zero_of_lt a3 a4, Int.zero_add]
/-- a cell lies in another one just where the name begins with the other's -/
theorem lies_iff {rs : List (List Cut)} (ok : OkN rs) {zs ws : List Nat} (hz : NameOk rs zs) (hw : NameOk rs ws) (hn : ws.length ≤ zs.length) :
    ((pairF rs zs).1 / ((dcF rs 0 zs.length / dcF rs 0 ws.length : Nat) : Int) = (pairF rs ws).1 ∧ (pairF rs zs).2 / ((drF rs 0 zs.length / drF rs 0 ws.length : Nat) : Int) = (pairF rs ws).2) ↔ zs.take ws.length = ws := by
  obtain ⟨c1, c2⟩ := pairF_cut ok hz hn
  rw [c1, c2]
  constructor
  · rintro ⟨h1, h2⟩
    exact pairF_inj ok ws.length _ _ (by rw [List.length_take]; omega) rfl (hz.take _) hw (Prod.ext h1 h2)
  · intro h
    rw [h]
    exact ⟨rfl, rfl⟩
/-- how many signs are common -/
def lcpN : List Nat → List Nat → Nat
  | a :: x, b :: y => if a = b then lcpN x y + 1 else 0
  | _, _ => 0
def lcp (x y : List Nat) : List Nat := x.take (lcpN x y)
theorem lcpN_le : ∀ x y : List Nat, lcpN x y ≤ x.length ∧ lcpN x y ≤ y.length
  | [], y => by simp [lcpN]
  | a :: x, [] => by simp [lcpN]
  | a :: x, b :: y => by
    unfold lcpN
    have := lcpN_le x y
    split <;> simp <;> omega
theorem lcpN_get : ∀ (x y : List Nat) (m : Nat), m ≤ lcpN x y → (m < lcpN x y ↔ ∃ z, x[m]? = some z ∧ y[m]? = some z)
  | [], y, m, h => by simp [lcpN]
  | a :: x, [], m, h => by simp [lcpN]
  | a :: x, b :: y, 0, h => by
    unfold lcpN
    by_cases e : a = b
    · simp [e]
    · rw [if_neg e]
      constructor
      · intro z; omega
      · rintro ⟨z, h1, h2⟩
        simp at h1 h2
        exact absurd (h1.trans h2.symm) e
  | a :: x, b :: y, m + 1, h => by
    unfold lcpN at h ⊢
    by_cases e : a = b
    · rw [if_pos e] at h ⊢
      have := lcpN_get x y m (by omega)
      simp only [List.getElem?_cons_succ]
      rw [← this]
      omega
    · rw [if_neg e] at h
      omega
theorem lcp_take : ∀ x y : List Nat, x.take (lcpN x y) = y.take (lcpN x y)
  | [], y => by simp [lcpN]
  | a :: x, [] => by simp [lcpN]
  | a :: x, b :: y => by
    unfold lcpN
    by_cases e : a = b
    · rw [if_pos e, e, List.take_succ_cons, List.take_succ_cons, lcp_take x y]
    · rw [if_neg e]; rfl
theorem lcpN_comm : ∀ x y : List Nat, lcpN x y = lcpN y x
  | [], [] => rfl
  | [], _ :: _ => rfl
  | _ :: _, [] => rfl
  | a :: x, b :: y => by
    unfold lcpN
    rw [lcpN_comm x y]
    by_cases e : a = b
    · rw [if_pos e, if_pos e.symm]
    · rw [if_neg e, if_neg fun z => e z.symm]
theorem lcp_comm (x y : List Nat) : lcp x y = lcp y x := by
  unfold lcp
  rw [lcp_take, lcpN_comm]
theorem lcp_length (x y : List Nat) : (lcp x y).length = lcpN x y := by
  have := lcpN_le x y
  unfold lcp
  rw [List.length_take]
  omega
theorem lcp_begins (x y : List Nat) : x.take (lcp x y).length = lcp x y ∧ y.take (lcp x y).length = lcp x y := by
  rw [lcp_length]
  exact ⟨rfl, (lcp_take x y).symm⟩
theorem lcp_all : ∀ x y : List Nat, x.take y.length = y → lcpN x y = y.length
  | [], [], h => rfl
  | [], b :: y, h => by simp at h
  | a :: x, [], h => rfl
  | a :: x, b :: y, h => by
    rw [List.length_cons, List.take_succ_cons] at h
    injection h with h1 h2
    unfold lcpN
    rw [if_pos h1, lcp_all x y h2]
    rfl
theorem lcp_eq_iff (x y : List Nat) : lcp x y = y ↔ x.take y.length = y := by
  constructor
  · intro h
    have := (lcp_begins x y).1
    rwa [h] at this
  · intro h
    unfold lcp
    rw [lcp_all x y h]
    exact h

theorem OkR.n {rs : List (List Cut)} (ok : OkR rs) : OkN rs := ⟨ok.l1, ok.hc, ok.h32⟩
end Mc

set_option Elab.async false
set_option linter.all false
set_option maxRecDepth 100000
set_option maxHeartbeats 4000000
namespace Mc
/-! ### counts, rounds taken apart, moved on, turned -/
theorem csA_len (rs : List (List Cut)) (i : Nat) : csA rs (i + rs.length) = csA rs i := by
  unfold csA
  rw [Nat.add_mod_right]
theorem dc_shift (rs : List (List Cut)) (k : Nat) : ∀ m, dcF rs (k + rs.length) m = dcF rs k m ∧ drF rs (k + rs.length) m = drF rs k m
  | 0 => ⟨rfl, rfl⟩
  | m + 1 => by
    obtain ⟨h1, h2⟩ := dc_shift rs k m
    have e : csA rs (k + rs.length + m) = csA rs (k + m) := by rw [Nat.add_right_comm, csA_len]
    constructor
    · show dcF rs (k + rs.length) m * colsF (csA rs (k + rs.length + m)) = dcF rs k m * colsF (csA rs (k + m))
      rw [h1, e]
    · show drF rs (k + rs.length) m * rowsF (csA rs (k + rs.length + m)) = drF rs k m * rowsF (csA rs (k + m))
      rw [h2, e]
theorem dc_shifts (rs : List (List Cut)) (m : Nat) : ∀ q, dcF rs (rs.length * q) m = dcF rs 0 m ∧ drF rs (rs.length * q) m = drF rs 0 m
  | 0 => ⟨rfl, rfl⟩
  | q + 1 => by
    have h := dc_shift rs (rs.length * q) m
    rw [Nat.mul_succ, h.1, h.2]
    exact dc_shifts rs m q
theorem dc_pows (rs : List (List Cut)) : ∀ q, dcF rs 0 (rs.length * q) = dcF rs 0 rs.length ^ q ∧ drF rs 0 (rs.length * q) = drF rs 0 rs.length ^ q
  | 0 => ⟨rfl, rfl⟩
  | q + 1 => by
    obtain ⟨h1, h2⟩ := dc_pows rs q
    obtain ⟨a1, a2⟩ := dc_add rs 0 (rs.length * q) rs.length
    obtain ⟨s1, s2⟩ := dc_shifts rs rs.length q
    rw [Nat.mul_succ, a1, a2, h1, h2, Nat.zero_add, s1, s2, Nat.pow_succ, Nat.pow_succ]
    exact ⟨rfl, rfl⟩
theorem csA_at {rs : List (List Cut)} {r : Nat} (h : r < rs.length) : rs[r]? = some (csA rs r) := by
  have := csA_get (Nat.lt_of_le_of_lt (Nat.zero_le _) h) r
  rwa [Nat.mod_eq_of_lt h] at this
theorem mul_take (rs : List (List Cut)) : ∀ r, r ≤ rs.length → mulF ((partsF rs).take r) = (((dcF rs 0 r : Nat) : Int), ((drF rs 0 r : Nat) : Int))
  | 0, _ => by rw [List.take_zero]; rfl
  | r + 1, h => by
    have hp : (partsF rs)[r]? = some ((colsF (csA rs r) : Int), (rowsF (csA rs r) : Int)) := by
      unfold partsF
      rw [List.getElem?_map, csA_at (show r < rs.length by omega)]
      rfl
    have e : (partsF rs).take (r + 1) = (partsF rs).take r ++ [((colsF (csA rs r) : Int), (rowsF (csA rs r) : Int))] := by
      rw [List.take_add_one, hp]
      rfl
    have ih := mul_take rs r (by omega)
    rw [e]
    unfold mulF at ih ⊢
    rw [List.foldl_append, ih]
    show ((dcF rs 0 r : Int) * (colsF (csA rs r) : Int), (drF rs 0 r : Int) * (rowsF (csA rs r) : Int)) = (((dcF rs 0 r * colsF (csA rs (0 + r)) : Nat) : Int), ((drF rs 0 r * rowsF (csA rs (0 + r)) : Nat) : Int))
    rw [Nat.zero_add, Int.natCast_mul, Int.natCast_mul]
theorem growth_eq (rs : List (List Cut)) : mulF (partsF rs) = (((dcF rs 0 rs.length : Nat) : Int), ((drF rs 0 rs.length : Nat) : Int)) := by
  have := mul_take rs rs.length (Nat.le_refl _)
  rwa [List.take_of_length_le (by unfold partsF; rw [List.length_map]; exact Nat.le_refl _)] at this
theorem counts_eq {rs : List (List Cut)} (l1 : 0 < rs.length) (bal : (mulF (partsF rs)).1 = (mulF (partsF rs)).2) (n : Nat) : countsF rs n = (((dcF rs 0 n : Nat) : Int), ((drF rs 0 n : Nat) : Int)) := by
  unfold countsF
  have g := growth_eq rs
  rw [g] at bal ⊢
  have bal : ((dcF rs 0 rs.length : Nat) : Int) = ((drF rs 0 rs.length : Nat) : Int) := bal
  have ml := Nat.mod_lt n l1
  rw [mul_take rs (n % rs.length) (by omega)]
  obtain ⟨p1, p2⟩ := dc_pows rs (n / rs.length)
  obtain ⟨a1, a2⟩ := dc_add rs 0 (rs.length * (n / rs.length)) (n % rs.length)
  obtain ⟨s1, s2⟩ := dc_shifts rs (n % rs.length) (n / rs.length)
  rw [Nat.zero_add, s1, p1] at a1
  rw [Nat.zero_add, s2, p2] at a2
  have e : rs.length * (n / rs.length) + n % rs.length = n := Nat.div_add_mod n rs.length
  rw [e] at a1 a2
  rw [a1, a2]
  refine Prod.ext ?_ ?_
  · show ((dcF rs 0 (n % rs.length) : Nat) : Int) * ((dcF rs 0 rs.length : Nat) : Int) ^ (n / rs.length) = _
    rw [Int.natCast_mul, Int.natCast_pow, Int.mul_comm]
  · show ((drF rs 0 (n % rs.length) : Nat) : Int) * ((dcF rs 0 rs.length : Nat) : Int) ^ (n / rs.length) = ((drF rs 0 rs.length ^ (n / rs.length) * drF rs 0 (n % rs.length) : Nat) : Int)
    rw [Int.natCast_mul, Int.natCast_pow, ← bal, Int.mul_comm]
/-! taken apart -/
theorem cols_app (a b : List Cut) : colsF (a ++ b) = colsF a * colsF b ∧ rowsF (a ++ b) = rowsF a * rowsF b := by
  induction a with
  | nil => exact ⟨(Nat.one_mul _).symm, (Nat.one_mul _).symm⟩
  | cons c r ih =>
    constructor
    · show (if c.1 then c.2 else 1) * colsF (r ++ b) = (if c.1 then c.2 else 1) * colsF r * colsF b
      rw [ih.1, Nat.mul_assoc]
    · show (if c.1 then 1 else c.2) * rowsF (r ++ b) = (if c.1 then 1 else c.2) * rowsF r * rowsF b
      rw [ih.2, Nat.mul_assoc]
theorem place_app (a : List Cut) : ∀ b : List Cut, (∀ c ∈ b, okC c) → ∀ (g : Nat) (p q : Pr), (placesF a)[g / (placesF b).length]? = some p → (placesF b)[g % (placesF b).length]? = some q → (placesF (a ++ b))[g]? = some (p.1 * (colsF b : Int) + q.1, p.2 * (rowsF b : Int) + q.2) := by
  refine fun b => snoc_ind (P := fun b => (∀ c ∈ b, okC c) → ∀ (g : Nat) (p q : Pr), (placesF a)[g / (placesF b).length]? = some p → (placesF b)[g % (placesF b).length]? = some q → (placesF (a ++ b))[g]? = some (p.1 * (colsF b : Int) + q.1, p.2 * (rowsF b : Int) + q.2)) ?_ (fun b c ih ok g p q hp hq => ?_) b
  · intro _ g p q hp hq
    have e : (placesF []).length = 1 := rfl
    rw [e, Nat.div_one] at hp
    rw [e, Nat.mod_one] at hq
    cases hq
    rw [List.append_nil, hp]
    simp [colsF, rowsF]
  · have hc := (ok c (List.mem_append_right _ List.mem_cons_self)).1
    have h0 : 0 < c.2 := by omega
    have el : (placesF (b ++ [c])).length = (placesF b).length * c.2 := by rw [placesF_snoc, spread_length]
    rw [el] at hp hq
    rw [placesF_get b h0] at hq
    obtain ⟨q0, h1, h2⟩ := Option.map_eq_some_iff.mp hq
    have e1 : g % ((placesF b).length * c.2) / c.2 = g / c.2 % (placesF b).length := by
      rw [Nat.mul_comm (placesF b).length, Nat.mod_mul_right_div_self]
    have e2 : g % ((placesF b).length * c.2) % c.2 = g % c.2 := Nat.mod_mul_left_mod _ _ _
    rw [e1] at h1
    rw [e2] at h2
    have e3 : g / ((placesF b).length * c.2) = g / c.2 / (placesF b).length := by rw [Nat.mul_comm, Nat.div_div_eq_div_mul]
    rw [e3] at hp
    have := ih (fun d hd => ok d (List.mem_append_left _ hd)) (g / c.2) p q0 hp h1
    rw [← List.append_assoc, placesF_get (a ++ b) h0, this, ← h2]
    show some (stepC _ c (g % c.2)) = _
    rw [colsF_snoc, rowsF_snoc]
    unfold stepC
    cases c.1
    · simp only [Bool.false_eq_true, if_false, Nat.mul_one]
      rw [Int.add_mul, Int.mul_assoc, ← Int.natCast_mul, Int.add_assoc]
    · simp only [if_true, Nat.mul_one]
      rw [Int.add_mul, Int.mul_assoc, ← Int.natCast_mul, Int.add_assoc]
/-- rs with its k-th round cut behind s cuts -/
def cutR (rs : List (List Cut)) (k s : Nat) : List (List Cut) := rs.take k ++ [(csA rs k).take s, (csA rs k).drop s] ++ rs.drop (k + 1)
def posF (n k : Nat) : Nat → Nat
  | 0 => 0
  | i + 1 => posF n k i + (if i % n = k then 2 else 1)
theorem pos_mod {n k : Nat} (hk : k < n) : ∀ i, posF n k i % (n + 1) = if i % n ≤ k then i % n else i % n + 1
  | 0 => by
    rw [Nat.zero_mod, if_pos (Nat.zero_le _)]
    rfl
  | i + 1 => by
    have ih := pos_mod hk i
    have hn : 0 < n := by omega
    have hl := Nat.mod_lt i hn
    have es : (i + 1) % n = if i % n + 1 = n then 0 else i % n + 1 := by
      rw [Nat.add_mod]
      by_cases h1 : n = 1
      · subst h1
        have : i % 1 = 0 := Nat.mod_one i
        simp [this]
      · rw [Nat.mod_eq_of_lt (show 1 < n by omega)]
        by_cases h2 : i % n + 1 = n
        · rw [if_pos h2, h2, Nat.mod_self]
        · rw [if_neg h2, Nat.mod_eq_of_lt (by omega)]
    show (posF n k i + _) % (n + 1) = _
    rw [Nat.add_mod, ih, es]
    by_cases h : i % n = k
    · rw [if_pos h, if_pos (by omega)]
      by_cases h2 : i % n + 1 = n
      · rw [if_pos h2, if_pos (Nat.zero_le _)]
        by_cases h3 : n = 1
        · subst h3
          rw [h]
          have : k = 0 := by omega
          subst this
          rfl
        · rw [Nat.mod_eq_of_lt (show 2 < n + 1 by omega), show i % n + 2 = n + 1 by omega, Nat.mod_self]
      · rw [if_neg h2, if_neg (by omega), Nat.mod_eq_of_lt (show 2 < n + 1 by omega), Nat.mod_eq_of_lt (by omega)]
    · rw [if_neg h]
      have h1 : 1 < n + 1 := by omega
      rw [Nat.mod_eq_of_lt h1]
      by_cases h3 : i % n ≤ k
      · rw [if_pos h3, if_neg (show ¬ (i % n + 1 = n) by omega), if_pos (show i % n + 1 ≤ k by omega), Nat.mod_eq_of_lt (show i % n + 1 < n + 1 by omega)]
      · rw [if_neg h3]
        by_cases h2 : i % n + 1 = n
        · rw [if_pos h2, if_pos (Nat.zero_le _), show i % n + 1 + 1 = n + 1 by omega, Nat.mod_self]
        · rw [if_neg h2, if_neg (show ¬ (i % n + 1 ≤ k) by omega), Nat.mod_eq_of_lt (show i % n + 1 + 1 < n + 1 by omega)]
theorem cutR_len {rs : List (List Cut)} {k s : Nat} (hk : k < rs.length) : (cutR rs k s).length = rs.length + 1 := by
  unfold cutR
  rw [List.length_append, List.length_append, List.length_take, List.length_drop]
  show min k rs.length + 2 + _ = _
  omega
theorem cutR_at {rs : List (List Cut)} {k s : Nat} (hk : k < rs.length) (p : Nat) (hp : p < rs.length + 1) : (cutR rs k s)[p]? = some (if p < k then csA rs p else if p = k then (csA rs k).take s else if p = k + 1 then (csA rs k).drop s else csA rs (p - 1)) := by
  have tl : (rs.take k).length = k := by rw [List.length_take]; omega
  unfold cutR
  rw [List.append_assoc]
  by_cases h1 : p < k
  · rw [if_pos h1, List.getElem?_append_left (by omega), List.getElem?_take_of_lt h1]
    exact csA_at (by omega)
  · rw [if_neg h1, List.getElem?_append_right (by omega), tl]
    by_cases h2 : p = k
    · subst h2
      rw [if_pos rfl, Nat.sub_self]
      rfl
    · rw [if_neg h2]
      by_cases h3 : p = k + 1
      · subst h3
        rw [if_pos rfl, show k + 1 - k = 1 by omega]
        rfl
      · rw [if_neg h3, List.getElem?_append_right (by show 2 ≤ p - k; omega), List.getElem?_drop]
        show rs[k + 1 + (p - k - 2)]? = _
        rw [show k + 1 + (p - k - 2) = p - 1 by omega]
        exact csA_at (by omega)
theorem csA_cut {rs : List (List Cut)} {k s : Nat} (hk : k < rs.length) (i : Nat) : (i % rs.length = k → csA (cutR rs k s) (posF rs.length k i) = (csA rs k).take s ∧ csA (cutR rs k s) (posF rs.length k i + 1) = (csA rs k).drop s) ∧ (i % rs.length ≠ k → csA (cutR rs k s) (posF rs.length k i) = csA rs i) := by
  have hn : 0 < rs.length := by omega
  have cl := cutR_len (s := s) hk
  have pm := pos_mod hk i
  have hl := Nat.mod_lt i hn
  have get : ∀ j, (cutR rs k s)[j % (rs.length + 1)]? = some (csA (cutR rs k s) j) := fun j => by
    have := csA_get (rs := cutR rs k s) (by omega) j
    rwa [cl] at this
  have ci : csA rs i = csA rs (i % rs.length) := by unfold csA; rw [Nat.mod_mod]
  constructor
  · intro h
    have g1 := get (posF rs.length k i)
    rw [pm, if_pos (by omega), h, cutR_at hk k (by omega), if_neg (Nat.lt_irrefl k), if_pos rfl] at g1
    have g2 := get (posF rs.length k i + 1)
    rw [Nat.add_mod, pm, if_pos (by omega), h, Nat.mod_eq_of_lt (show 1 < rs.length + 1 by omega), Nat.mod_eq_of_lt (show k + 1 < rs.length + 1 by omega), cutR_at hk (k + 1) (by omega), if_neg (by omega), if_neg (by omega), if_pos rfl] at g2
    exact ⟨(Option.some.inj g1).symm, (Option.some.inj g2).symm⟩
  · intro h
    have g1 := get (posF rs.length k i)
    rw [pm] at g1
    by_cases h1 : i % rs.length ≤ k
    · rw [if_pos h1, cutR_at hk _ (by omega), if_pos (by omega)] at g1
      rw [ci]
      exact (Option.some.inj g1).symm
    · rw [if_neg h1, cutR_at hk _ (by omega), if_neg (by omega), if_neg (by omega)] at g1
      by_cases h2 : i % rs.length + 1 = k + 1
      · omega
      · rw [if_neg h2, Nat.add_sub_cancel] at g1
        rw [ci]
        exact (Option.some.inj g1).symm
/-- the signs of a name, each of the cut round as two -/
def apF (rs : List (List Cut)) (k s : Nat) : Nat → List Nat → List Nat
  | _, [] => []
  | i, z :: r => (if i % rs.length = k then [z / (placesF ((csA rs k).drop s)).length, z % (placesF ((csA rs k).drop s)).length] else [z]) ++ apF rs k s (i + 1) r
structure CutOk (rs : List (List Cut)) (k : Nat) : Prop where
  hk : k < rs.length
  hc : ∀ cs ∈ rs, ∀ c ∈ cs, okC c
theorem CutOk.pos {rs : List (List Cut)} {k : Nat} (o : CutOk rs k) (s : Nat) : 0 < (placesF ((csA rs k).drop s)).length := by
  have h := pos_cols (cs := (csA rs k).drop s) fun d hd => o.hc _ (csA_mem (Nat.lt_of_le_of_lt (Nat.zero_le _) o.hk) k) d (List.mem_of_mem_drop hd)
  rw [placesF_length]
  exact Nat.mul_pos h.1 h.2
theorem size_cut (cs : List Cut) (s : Nat) : (placesF cs).length = (placesF (cs.take s)).length * (placesF (cs.drop s)).length := by
  have := cols_app (cs.take s) (cs.drop s)
  rw [List.take_append_drop] at this
  rw [placesF_length, placesF_length, placesF_length, this.1, this.2]
  simp only [Nat.mul_assoc, Nat.mul_left_comm]
theorem csA_k {rs : List (List Cut)} {k i : Nat} (hk : k < rs.length) (h : i % rs.length = k) : csA rs i = csA rs k := by
  unfold csA
  rw [h, Nat.mod_eq_of_lt hk]
theorem ap_step {rs : List (List Cut)} {k : Nat} (o : CutOk rs k) (s i z : Nat) (h : i % rs.length = k) (hz : z < sgF rs i) (q : Pr) :
    stepN (cutR rs k s) (stepN (cutR rs k s) q (posF rs.length k i) (z / (placesF ((csA rs k).drop s)).length)) (posF rs.length k i + 1) (z % (placesF ((csA rs k).drop s)).length) = stepN rs q i z ∧
    z / (placesF ((csA rs k).drop s)).length < sgF (cutR rs k s) (posF rs.length k i) ∧ z % (placesF ((csA rs k).drop s)).length < sgF (cutR rs k s) (posF rs.length k i + 1) := by
  obtain ⟨c1, c2⟩ := (csA_cut (s := s) o.hk i).1 h
  have ck := csA_k o.hk h
  have p0 := o.pos s
  have hz2 : z < (placesF (csA rs k)).length := by
    have : z < (placesF (csA rs i)).length := hz
    rwa [ck] at this
  have hs := size_cut (csA rs k) s
  have b1 : z / (placesF ((csA rs k).drop s)).length < (placesF ((csA rs k).take s)).length := by
    rw [Nat.div_lt_iff_lt_mul p0]
    omega
  have b2 := Nat.mod_lt z p0
  refine ⟨?_, ?_, ?_⟩
  · have g1 : (placesF ((csA rs k).take s))[z / (placesF ((csA rs k).drop s)).length]? = some (plA (cutR rs k s) (posF rs.length k i) (z / (placesF ((csA rs k).drop s)).length)) := by
      have := plA_get (rs := cutR rs k s) (i := posF rs.length k i) (z := z / (placesF ((csA rs k).drop s)).length) (by show _ < (placesF (csA (cutR rs k s) (posF rs.length k i))).length; rw [c1]; exact b1)
      rwa [c1] at this
    have g2 : (placesF ((csA rs k).drop s))[z % (placesF ((csA rs k).drop s)).length]? = some (plA (cutR rs k s) (posF rs.length k i + 1) (z % (placesF ((csA rs k).drop s)).length)) := by
      have := plA_get (rs := cutR rs k s) (i := posF rs.length k i + 1) (z := z % (placesF ((csA rs k).drop s)).length) (by show _ < (placesF (csA (cutR rs k s) (posF rs.length k i + 1))).length; rw [c2]; exact b2)
      rwa [c2] at this
    have g3 := place_app ((csA rs k).take s) ((csA rs k).drop s) (fun d hd => o.hc _ (csA_mem (Nat.lt_of_le_of_lt (Nat.zero_le _) o.hk) k) d (List.mem_of_mem_drop hd)) z _ _ g1 g2
    rw [List.take_append_drop, ← ck] at g3
    have g4 := plA_get hz
    rw [g3] at g4
    have g5 := (Option.some.inj g4).symm
    have ca := cols_app ((csA rs k).take s) ((csA rs k).drop s)
    rw [List.take_append_drop] at ca
    unfold stepN
    rw [c1, c2, g5, ck, ca.1, ca.2]
    refine Prod.ext ?_ ?_
    · show (q.1 * _ + _) * _ + _ = q.1 * _ + (_ * _ + _)
      rw [Int.add_mul, Int.mul_assoc, ← Int.natCast_mul, Int.add_assoc]
    · show (q.2 * _ + _) * _ + _ = q.2 * _ + (_ * _ + _)
      rw [Int.add_mul, Int.mul_assoc, ← Int.natCast_mul, Int.add_assoc]
  · show _ < (placesF (csA (cutR rs k s) (posF rs.length k i))).length
    rw [c1]
    exact b1
  · show _ < (placesF (csA (cutR rs k s) (posF rs.length k i + 1))).length
    rw [c2]
    exact b2
theorem ap_pair {rs : List (List Cut)} {k : Nat} (o : CutOk rs k) (s : Nat) : ∀ (zs : List Nat) (i : Nat) (q : Pr), (∀ j z, zs[j]? = some z → z < sgF rs (i + j)) →
    pairFrom (cutR rs k s) (posF rs.length k i) q (apF rs k s i zs) = pairFrom rs i q zs ∧ (∀ j z, (apF rs k s i zs)[j]? = some z → z < sgF (cutR rs k s) (posF rs.length k i + j)) ∧ (apF rs k s i zs).length ≤ 2 * zs.length
  | [], i, q, _ => ⟨rfl, fun j z h => by simp [apF] at h, Nat.le_refl 0⟩
  | z :: r, i, q, h => by
    have hz : z < sgF rs i := h 0 z rfl
    have hr : ∀ j y, r[j]? = some y → y < sgF rs (i + 1 + j) := fun j y e => by
      have := h (j + 1) y (by simpa using e)
      rwa [show i + (j + 1) = i + 1 + j by omega] at this
    by_cases hk : i % rs.length = k
    · obtain ⟨e1, e2, e3⟩ := ap_step o s i z hk hz q
      obtain ⟨h1, h2, h3⟩ := ap_pair o s r (i + 1) (stepN rs q i z) hr
      have ep : posF rs.length k (i + 1) = posF rs.length k i + 1 + 1 := by
        show posF rs.length k i + _ = _
        rw [if_pos hk]
      have ea : apF rs k s i (z :: r) = (z / (placesF ((csA rs k).drop s)).length) :: (z % (placesF ((csA rs k).drop s)).length) :: apF rs k s (i + 1) r := by
        show (if i % rs.length = k then _ else _) ++ _ = _
        rw [if_pos hk]
        rfl
      rw [ea]
      refine ⟨?_, fun j y e => ?_, ?_⟩
      · show pairFrom (cutR rs k s) (posF rs.length k i + 1 + 1) (stepN _ (stepN _ _ _ _) _ _) (apF rs k s (i + 1) r) = pairFrom rs (i + 1) (stepN rs q i z) r
        rw [e1, ← ep]
        exact h1
      · match j, e with
        | 0, e => cases e; exact e2
        | 1, e => cases e; exact e3
        | j + 2, e =>
          have := h2 j y (by simpa using e)
          rw [ep] at this
          rwa [show posF rs.length k i + (j + 2) = posF rs.length k i + 1 + 1 + j by omega]
      · show (apF rs k s (i + 1) r).length + 1 + 1 ≤ 2 * (r.length + 1)
        omega
    · have c := (csA_cut (s := s) o.hk i).2 hk
      obtain ⟨h1, h2, h3⟩ := ap_pair o s r (i + 1) (stepN rs q i z) hr
      have ep : posF rs.length k (i + 1) = posF rs.length k i + 1 := by
        show posF rs.length k i + _ = _
        rw [if_neg hk]
      have ea : apF rs k s i (z :: r) = z :: apF rs k s (i + 1) r := by
        show (if i % rs.length = k then _ else _) ++ _ = _
        rw [if_neg hk]
        rfl
      have es : stepN (cutR rs k s) q (posF rs.length k i) z = stepN rs q i z := by
        unfold stepN plA
        rw [c]
      rw [ea]
      refine ⟨?_, fun j y e => ?_, ?_⟩
      · show pairFrom (cutR rs k s) (posF rs.length k i + 1) (stepN _ q _ z) (apF rs k s (i + 1) r) = pairFrom rs (i + 1) (stepN rs q i z) r
        rw [es, ← ep]
        exact h1
      · match j, e with
        | 0, e =>
          cases e
          show z < (placesF (csA (cutR rs k s) (posF rs.length k i))).length
          rw [c]
          exact hz
        | j + 1, e =>
          have := h2 j y (by simpa using e)
          rw [ep] at this
          rwa [show posF rs.length k i + (j + 1) = posF rs.length k i + 1 + j by omega]
      · show (apF rs k s (i + 1) r).length + 1 ≤ 2 * (r.length + 1)
        omega
theorem ap_prefix {rs : List (List Cut)} {k : Nat} (s : Nat) : ∀ (ws zs : List Nat) (i : Nat), apF rs k s i ws <+: apF rs k s i zs ↔ ws <+: zs
  | [], zs, i => ⟨fun _ => List.nil_prefix, fun _ => List.nil_prefix⟩
  | w :: ws, [], i => by
    constructor
    · intro h
      have hl := h.length_le
      have : 1 ≤ (apF rs k s i (w :: ws)).length := by
        show 1 ≤ ((if i % rs.length = k then _ else _) ++ _ : List Nat).length
        rw [List.length_append]
        split <;> simp <;> omega
      have e : (apF rs k s i []).length = 0 := rfl
      omega
    · intro h
      have := h.length_le
      simp at this
  | w :: ws, z :: zs, i => by
    show ((if i % rs.length = k then _ else _) ++ apF rs k s (i + 1) ws) <+: ((if i % rs.length = k then _ else _) ++ apF rs k s (i + 1) zs) ↔ _
    have ih := ap_prefix s ws zs (i + 1) (rs := rs) (k := k)
    by_cases hk : i % rs.length = k
    · simp only [if_pos hk, List.cons_append, List.nil_append, List.cons_prefix_cons, ih]
      constructor
      · rintro ⟨h1, h2, h3⟩
        refine ⟨?_, h3⟩
        rw [← Nat.div_add_mod w (placesF ((csA rs k).drop s)).length, h1, h2, Nat.div_add_mod]
      · rintro ⟨rfl, h⟩
        exact ⟨rfl, rfl, h⟩
    · simp only [if_neg hk, List.cons_append, List.nil_append, List.cons_prefix_cons, ih]
theorem lcp_greatest : ∀ {c x y : List Nat}, c <+: x → c <+: y → c <+: lcp x y
  | [], _, _, _, _ => List.nil_prefix
  | a :: c, [], y, h, _ => by simp at h
  | a :: c, x :: xs, [], _, h => by simp at h
  | a :: c, x :: xs, y :: ys, h1, h2 => by
    obtain ⟨e1, g1⟩ := List.cons_prefix_cons.mp h1
    obtain ⟨e2, g2⟩ := List.cons_prefix_cons.mp h2
    have ih := lcp_greatest g1 g2
    unfold lcp at ih ⊢
    unfold lcpN
    rw [if_pos (e1.symm.trans e2), List.take_succ_cons]
    exact List.cons_prefix_cons.mpr ⟨e1, ih⟩
theorem take_iff (zs ws : List Nat) : zs.take ws.length = ws ↔ ws <+: zs := by
  rw [List.prefix_iff_eq_take]
  exact eq_comm
/-! moved on by one round -/
def rotR (rs : List (List Cut)) : List (List Cut) := rs.drop 1 ++ rs.take 1
theorem csA_rot {rs : List (List Cut)} (l1 : 0 < rs.length) (i : Nat) : csA (rotR rs) i = csA rs (i + 1) := by
  match rs, l1 with
  | c :: r, _ =>
    have hn : 0 < r.length + 1 := by omega
    have hl := Nat.mod_lt i hn
    have el : (rotR (c :: r)).length = r.length + 1 := by
      unfold rotR
      show (r ++ [c]).length = _
      rw [List.length_append]
      rfl
    have g1 := csA_get (rs := rotR (c :: r)) (by omega) i
    have g2 := csA_get (rs := c :: r) (by simp) (i + 1)
    rw [el] at g1
    have e2 : (c :: r).length = r.length + 1 := rfl
    rw [e2] at g2
    have g1' : (r ++ [c])[i % (r.length + 1)]? = some (csA (rotR (c :: r)) i) := g1
    have es : (i + 1) % (r.length + 1) = if i % (r.length + 1) = r.length then 0 else i % (r.length + 1) + 1 := by
      rw [Nat.add_mod]
      by_cases h1 : r.length = 0
      · rw [h1]
        have : i % 1 = 0 := Nat.mod_one i
        simp [this]
      · rw [Nat.mod_eq_of_lt (show 1 < r.length + 1 by omega)]
        by_cases h2 : i % (r.length + 1) = r.length
        · rw [if_pos h2, h2, Nat.mod_self]
        · rw [if_neg h2, Nat.mod_eq_of_lt (by omega)]
    rw [es] at g2
    by_cases h : i % (r.length + 1) = r.length
    · rw [if_pos h] at g2
      rw [h, List.getElem?_append_right (Nat.le_refl _), Nat.sub_self] at g1'
      have a1 : c = csA (rotR (c :: r)) i := Option.some.inj g1'
      have a2 : c = csA (c :: r) (i + 1) := Option.some.inj g2
      rw [← a1]
      exact a2
    · rw [if_neg h, List.getElem?_cons_succ] at g2
      rw [List.getElem?_append_left (by omega), g2] at g1'
      exact (Option.some.inj g1').symm
theorem pair_rot {rs : List (List Cut)} (l1 : 0 < rs.length) : ∀ (t : List Nat) (k : Nat) (q : Pr), pairFrom rs (k + 1) q t = pairFrom (rotR rs) k q t
  | [], k, q => rfl
  | z :: r, k, q => by
    show pairFrom rs (k + 1 + 1) (stepN rs q (k + 1) z) r = pairFrom (rotR rs) (k + 1) (stepN (rotR rs) q k z) r
    have e : stepN (rotR rs) q k z = stepN rs q (k + 1) z := by
      unfold stepN plA
      rw [csA_rot l1]
    rw [e]
    exact pair_rot l1 r (k + 1) _
theorem pair_lin (rs : List (List Cut)) : ∀ (t : List Nat) (k : Nat) (q : Pr), pairFrom rs k q t = (q.1 * (dcF rs k t.length : Int) + (pairFrom rs k (0, 0) t).1, q.2 * (drF rs k t.length : Int) + (pairFrom rs k (0, 0) t).2)
  | [], k, q => by simp [pairFrom, dcF, drF]
  | z :: r, k, q => by
    obtain ⟨d1, d2⟩ := dc_add rs k 1 r.length
    have e1 : dcF rs k 1 = colsF (csA rs k) := by
      show 1 * colsF (csA rs (k + 0)) = _
      rw [Nat.one_mul]
      rfl
    have e2 : drF rs k 1 = rowsF (csA rs k) := by
      show 1 * rowsF (csA rs (k + 0)) = _
      rw [Nat.one_mul]
      rfl
    rw [Nat.add_comm 1, e1] at d1
    rw [Nat.add_comm 1, e2] at d2
    have h1 := pair_lin rs r (k + 1) (stepN rs q k z)
    have h2 := pair_lin rs r (k + 1) (stepN rs (0, 0) k z)
    show pairFrom rs (k + 1) (stepN rs q k z) r = (q.1 * (dcF rs k (r.length + 1) : Int) + (pairFrom rs (k + 1) (stepN rs (0, 0) k z) r).1, q.2 * (drF rs k (r.length + 1) : Int) + (pairFrom rs (k + 1) (stepN rs (0, 0) k z) r).2)
    rw [h1, h2, d1, d2, Int.natCast_mul, Int.natCast_mul]
    refine Prod.ext ?_ ?_
    · show (q.1 * _ + (plA rs k z).1) * _ + _ = q.1 * (_ * _) + ((0 * _ + (plA rs k z).1) * _ + _)
      rw [Int.add_mul, Int.zero_mul, Int.zero_add, Int.mul_assoc, Int.add_assoc]
    · show (q.2 * _ + (plA rs k z).2) * _ + _ = q.2 * (_ * _) + ((0 * _ + (plA rs k z).2) * _ + _)
      rw [Int.add_mul, Int.zero_mul, Int.zero_add, Int.mul_assoc, Int.add_assoc]
theorem rot_name {rs : List (List Cut)} (l1 : 0 < rs.length) {zs : List Nat} (h : NameOk rs zs) : NameOk (rotR rs) (zs.drop 1) := fun i z e => by
  rw [List.getElem?_drop] at e
  have := h (1 + i) z e
  show z < (placesF (csA (rotR rs) i)).length
  rw [csA_rot l1, Nat.add_comm i]
  exact this
theorem moved_eq {rs : List (List Cut)} (l1 : 0 < rs.length) {zs : List Nat} (h1 : 1 ≤ zs.length) :
    pairF rs zs = ((pairF rs (zs.take 1)).1 * (dcF rs 1 (zs.length - 1) : Int) + (pairF (rotR rs) (zs.drop 1)).1, (pairF rs (zs.take 1)).2 * (drF rs 1 (zs.length - 1) : Int) + (pairF (rotR rs) (zs.drop 1)).2) := by
  have tl : (zs.take 1).length = 1 := by rw [List.length_take]; omega
  have e : pairF rs zs = pairFrom rs 1 (pairF rs (zs.take 1)) (zs.drop 1) := by
    conv => lhs; rw [← List.take_append_drop 1 zs]
    unfold pairF
    rw [pairFrom_append, Nat.zero_add, tl]
  rw [e, pair_lin, List.length_drop]
  have := pair_rot l1 (zs.drop 1) 0 (0, 0)
  rw [Nat.zero_add] at this
  rw [this]
  rfl
/-! turned -/
theorem places_turn (cs : List Cut) : placesF (turnF cs) = (placesF cs).map fun q => (q.2, q.1) := by
  refine snoc_ind (P := fun cs => placesF (turnF cs) = (placesF cs).map fun q => (q.2, q.1)) rfl (fun cs c ih => ?_) cs
  have e : turnF (cs ++ [c]) = turnF cs ++ [(!c.1, c.2)] := by unfold turnF; rw [List.map_append]; rfl
  rw [e, placesF_snoc, placesF_snoc, ih]
  unfold spread
  rw [List.flatMap_map, List.map_flatMap]
  congr 1
  funext p
  rw [List.map_map]
  refine List.map_congr_left fun j _ => ?_
  show stepC (p.2, p.1) (!c.1, c.2) j = ((stepC p c j).2, (stepC p c j).1)
  unfold stepC
  cases c.1 <;> rfl
theorem csA_turn (rs : List (List Cut)) (i : Nat) : csA (rs.map turnF) i = turnF (csA rs i) := by
  unfold csA
  rw [List.length_map, List.getD_eq_getElem?_getD, List.getD_eq_getElem?_getD, List.getElem?_map]
  cases rs[i % rs.length]? <;> rfl
theorem pair_turn (rs : List (List Cut)) : ∀ (zs : List Nat) (k : Nat) (q : Pr), pairFrom (rs.map turnF) k (q.2, q.1) zs = ((pairFrom rs k q zs).2, (pairFrom rs k q zs).1)
  | [], k, q => rfl
  | z :: r, k, q => by
    show pairFrom (rs.map turnF) (k + 1) (stepN (rs.map turnF) (q.2, q.1) k z) r = _
    have e : stepN (rs.map turnF) (q.2, q.1) k z = ((stepN rs q k z).2, (stepN rs q k z).1) := by
      unfold stepN plA
      rw [csA_turn, places_turn, (cols_turn (csA rs k)).1, (cols_turn (csA rs k)).2, List.getD_eq_getElem?_getD, List.getD_eq_getElem?_getD, List.getElem?_map]
      cases (placesF (csA rs k))[z]? <;> rfl
    rw [e]
    exact pair_turn rs r (k + 1) _
theorem turn_name {rs : List (List Cut)} {zs : List Nat} (h : NameOk rs zs) : NameOk (rs.map turnF) zs := fun i z e => by
  have := h i z e
  show z < (placesF (csA (rs.map turnF) i)).length
  rw [csA_turn, places_turn, List.length_map]
  exact this
theorem turn_turn (rs : List (List Cut)) : (rs.map turnF).map turnF = rs := by
  rw [List.map_map]
  conv => rhs; rw [← List.map_id rs]
  refine List.map_congr_left fun cs _ => ?_
  show turnF (turnF cs) = cs
  unfold turnF
  rw [List.map_map]
  conv => rhs; rw [← List.map_id cs]
  refine List.map_congr_left fun c _ => ?_
  show (!(!c.1), c.2) = c
  rw [Bool.not_not]

theorem counts_ok {rs : List (List Cut)} (ok : OkR rs) (n : Nat) : countsF rs n = (((dcF rs 0 n : Nat) : Int), ((drF rs 0 n : Nat) : Int)) := counts_eq ok.l1 ok.bal n
end Mc

set_option Elab.async false
set_option linter.all false
set_option maxRecDepth 100000
set_option maxHeartbeats 4000000
set_option exponentiation.threshold 20000
namespace Mc
open PySem PySem.Spec PyProof.Rows L2 ClX StX
section
variable {P : Program} {w : World} {K : PySem.W.Frag} {mg : Str → Option Value} {base : Heap} {f C0 aX : Addr} {mc : Value} {fd : FuncData}
theorem sc_counts_right : FnScope ["_law_made", "_law_rows", "_law_both", "_law_fine", "_law_here"] ["_law_made", "_law_rows"] (defScope s_counts_right) := ⟨rfl, rfl, rfl, by decide +kernel, rfl, by decide +kernel, by decide +kernel⟩
def spCountsR (C0 : Addr) : Sp := fun vs H Q _ => ∃ (x l : Addr) (rs : List (List Cut)), vs = [.ref x, .ref l] ∧ PlanAt C0 H x rs ∧ RowsL H l rs ∧ OkR rs ∧ ∀ H', Ext H H' → Q (.bl true) H'
theorem ok_counts_right (F : FunD K "_law_counts_right" "_law_counts_right" (defArgs s_counts_right) (defBody s_counts_right) (defScope s_counts_right) [] [] f fd) (T : TB mg) (R : PlanT K mg C0 aX mc) {fCt : Addr} {fdCt : FuncData} (mCt : Meth K C0 "counts" fCt) (Gct : FnOk P w K mg base CX0 7 fCt fdCt ["self", "f"] (spCounts C0)) (bCt : Binds K fdCt ["self", "f"] []) (kCt_f : KBn K fdCt ["self", "f"] 1 ["f"] (fun us ws => us ++ pm [0] ws) (fun vs zs => vs ++ pm [0] zs)) {fPh : Addr} {fdPh : FuncData} (mPh : Meth K C0 "phase" fPh) (Gph : FnOk P w K mg base CX0 4 fPh fdPh ["self", "f"] (spPhase C0)) (bPh : Binds K fdPh ["self", "f"] []) (kPh_f : KBn K fdPh ["self", "f"] 1 ["f"] (fun us ws => us ++ pm [0] ws) (fun vs zs => vs ++ pm [0] zs)) {pgr fGr : Addr} {fdGr : FuncData} (pGr : PropOf K C0 "growth" pgr fGr) (Ggr : FnOk P w K mg base CX0 1 fGr fdGr ["self"] (spGrowth C0)) (bGr : Binds K fdGr ["self"] []) {fparts : Addr} {fdparts : FuncData} (Dparts : Gd P w K mg base "_law_parts" 2 ["_law_row"] (spPartsL) fparts fdparts) : FnOkG P w K mg base CX0 10 f fd ["_law_made", "_law_rows"] (spCountsR C0) := by
  refine okG F sc_counts_right (fun vs H Q E h => ?_) (fun cdv A outer s H vs Q E hr h => ?_)
  · obtain ⟨x, l, rs, rfl, ht, hl, ok, k⟩ := h
    rfl
  · obtain ⟨x, l, rs, rfl, ht, hl, ok, k⟩ := h
    refine ⟨_, (pss_cons (ps_set (i := 2) sc_counts_right.nd rfl (.inl rfl) (pe_tup (pa_cons pe_int (pa_cons pe_int pa_nil))))
      (pss_cons (ps_for PassesOwn.never rfl (pi_range1 (by rfl) T.range (pa_cons (pe_op op_add (pe_op op_mul pe_int (pe_callB call_len_seq (by rfl) T.len PySem.boot_len (pa_cons (pv 1) pa_nil))) pe_int) pa_nil)) (pg_name (i := 3) sc_counts_right.nd rfl (.inl rfl)) (pss_cons (ps_if (pt_cmpR op_ne (pe_callB (call_reprDK (K := K) hr rfl) (by rfl) T.repr boot_repr (pa_cons (pe_lst (pa_cons (pe_meth (pv 0) R.cl mCt Gct (hr.room.mono (by decide)) bCt .nil pass0 (pa_cons (pv 3) pa_nil)) (pa_cons (pe_methK (pv 0) R.cl mCt Gct (hr.room.mono (by decide)) kCt_f (pk_cons (pv 3) pk_nil)) (pa_cons (pe_meth (pv 0) R.cl mPh Gph (hr.room.mono (by decide)) bPh .nil pass0 (pa_cons (pv 3) pa_nil)) (pa_cons (pe_methK (pv 0) R.cl mPh Gph (hr.room.mono (by decide)) kPh_f (pk_cons (pv 3) pk_nil)) pa_nil))))) pa_nil)) (pe_callB (call_reprDK (K := K) hr rfl) (by rfl) T.repr boot_repr (pa_cons (pe_lst (pa_cons (pv 2) (pa_cons (pv 2) (pa_cons (pe_op op_sub (pv 3) (pe_op op_mul (pe_op op_fdiv (pv 3) (pe_callB call_len_seq (by rfl) T.len PySem.boot_len (pa_cons (pv 1) pa_nil))) (pe_callB call_len_seq (by rfl) T.len PySem.boot_len (pa_cons (pv 1) pa_nil)))) (pa_cons (pe_op op_sub (pv 3) (pe_op op_mul (pe_op op_fdiv (pv 3) (pe_callB call_len_seq (by rfl) T.len PySem.boot_len (pa_cons (pv 1) pa_nil))) (pe_callB call_len_seq (by rfl) T.len PySem.boot_len (pa_cons (pv 1) pa_nil)))) pa_nil))))) pa_nil)) (nomark _)) (pss_one (ps_ret pe_bl)) pss_nil)
      (pss_cons (ps_if (PW.pt (pw_and (pt_cmpR op_eq (pv 3) (pe_callB call_len_seq (by rfl) T.len PySem.boot_len (pa_cons (pv 1) pa_nil)) (nomark _)) (pw_and1 (pt_cmpR op_ne (pe_callB SkE.call_repr_int (by rfl) T.repr boot_repr (pa_cons (pe_prop (pv 0) R.cl pGr Ggr (hr.room.mono (by decide)) bGr .nil pass0 rfl) pa_nil)) (pe_callB SkE.call_repr_int (by rfl) T.repr boot_repr (pa_cons (pe_ix ix_seq (pv 2) pe_int (fun _ _ => rfl)) pa_nil)) (nomark _))))) (pss_one (ps_ret pe_bl)) pss_nil)
      (pss_cons (ps_set (i := 4) sc_counts_right.nd rfl (.inl rfl) (pe_gd Dparts hr.room (by decide) (by rfl) (pa_cons (pe_ix ix_seq (pv 1) (pe_op op_sub (pv 3) (pe_op op_mul (pe_op op_fdiv (pv 3) (pe_callB call_len_seq (by rfl) T.len PySem.boot_len (pa_cons (pv 1) pa_nil))) (pe_callB call_len_seq (by rfl) T.len PySem.boot_len (pa_cons (pv 1) pa_nil)))) (fun _ _ => rfl)) pa_nil)))
      (pss_one (ps_set (i := 2) sc_counts_right.nd rfl (.inl rfl) (pe_tup (pa_cons (pe_op op_mul (pe_ix ix_seq (pv 2) pe_int (fun _ _ => rfl)) (pe_ix ix_seq (pv 4) pe_int (fun _ _ => rfl))) (pa_cons (pe_op op_mul (pe_ix ix_seq (pv 2) pe_int (fun _ _ => rfl)) (pe_ix ix_seq (pv 4) pe_int (fun _ _ => rfl))) pa_nil)))))))))
      (pss_one (ps_ret pe_bl)))), ?_⟩
    obtain ⟨as, l1, l2⟩ := id hl
    have l3 := ok.l3
    have l0 := ok.l1
    have las := pd_len l2
    have lm : (as.map V.ref).length = rs.length := by rw [List.length_map, las]
    obtain ⟨dx, lr, lp, ll, g, h1, hin⟩ := id ht
    refine ⟨(by show 2 ≤ sizeLine; decide), fun t0 ht0 => ?_⟩
    have e0 := Ext.upd (o := .tup [.int 1, .int 1]) ht0
    have q0 : (upd H t0 (.tup [.int 1, .int 1])) t0 = some (.tup [.int ((dcF rs 0 0 : Nat) : Int), .int ((drF rs 0 0 : Nat) : Int)]) := upd_same
    generalize upd H t0 _ = H0 at *
    refine ⟨_, rfl, l, _, rfl, .inl (SqL.of (e0 _ _ l1)), _, _, rfl, rfl, .inl ⟨by decide, by decide⟩, _, _, rfl, rfl, ((2 * rs.length + 2 : Nat) : Int), (by rw [lm]; exact congrArg (fun z => [V.int z]) (by omega)), by omega, by omega, ?_⟩
    refine for_walk (walk_r (lo := 0)) (fun i σ H' => ∃ t u3 u4, σ = [some (.ref x), some (.ref l), some (.ref t), u3, u4] ∧ H' t = some (.tup [.int ((dcF rs 0 i : Nat) : Int), .int ((drF rs 0 i : Nat) : Int)]) ∧ Ext H H') ⟨t0, none, none, rfl, q0, e0⟩ (fun _ _ _ _ => trivial) ?_ ?_
    · rintro i y σ H2 hy ⟨t, u3, u4, rfl, ht2, E2⟩
      obtain ⟨hi, rfl⟩ := range_get hy
      rw [Int.toNat_natCast] at hi
      have hp2 := ht.ext E2
      have h12 := E2 _ _ h1
      have co := counts_ok ok i
      obtain ⟨b1, b2⟩ := dc_bits ok.n 0 i
      have pw : 2 ^ (5 * i) ≤ 2 ^ 40 := Nat.pow_le_pow_right (by decide) (by omega)
      have pw2 : (2 : Nat) ^ 40 = 1099511627776 := by decide
      have hz1 : (dcF rs 0 i) < 2 ^ 64 := by omega
      have hz2 : (drF rs 0 i) < 2 ^ 64 := by omega
      have key : (i : Int) - (i : Int) / (rs.length : Int) * (rs.length : Int) = (i : Int) % (rs.length : Int) := by rw [Int.emod_def, Int.mul_comm]
      have kn : (i : Int) % (rs.length : Int) = ((i % rs.length : Nat) : Int) := rfl
      have ml := Nat.mod_lt i l0
      have smP : Sm 3 10 (dqT (((dcF rs 0 i : Nat) : Int), ((drF rs 0 i : Nat) : Int))) := Sm.pr (by decide) (by show ((dcF rs 0 i : Nat) : Int).natAbs < _; omega) (by show ((drF rs 0 i : Nat) : Int).natAbs < _; omega)
      have smI : Sm 3 10 (.int ((i : Int) % (rs.length : Int))) := by show ((i : Int) % (rs.length : Int)).natAbs < 2 ^ 64; rw [kn]; omega
      obtain ⟨a1, a2, a3, a4⟩ := (Sm.l4 (by decide) smP smP smI smI).show (by decide)
      refine ⟨_, rfl, x, dx, _, rfl, h12, rfl, _, rfl, x, rs, i, rfl, hp2, ok, by omega, fun t1 H3 e3 ht1 => ?_⟩
      have h13 := e3 _ _ h12
      have hp3 := hp2.ext e3
      refine ⟨_, rfl, x, dx, _, rfl, h13, rfl, _, rfl, rfl, x, rs, i, rfl, hp3, ok, by omega, fun t2 H4 e4 ht3 => ?_⟩
      have h14 := e4 _ _ h13
      have hp4 := hp3.ext e4
      refine ⟨_, rfl, x, dx, _, rfl, h14, rfl, _, rfl, x, rs, i, rfl, hp4, by omega, by omega, _, rfl, x, dx, _, rfl, h14, rfl, _, rfl, rfl, x, rs, i, rfl, hp4, by omega, by omega, (by show 4 ≤ sizeLine; decide), fun tl htl => ?_⟩
      have e5 := Ext.upd (o := .lst [.ref t1, .ref t2, .int ((i : Int) % (rs.length : Int)), .int ((i : Int) % (rs.length : Int))]) htl
      rw [co] at ht1 ht3
      refine ⟨tl, _, rfl, .lst (SqL.of upd_same) (.cons (dp_pr (q := (((dcF rs 0 i : Nat) : Int), ((drF rs 0 i : Nat) : Int))) (e5 _ _ (e4 _ _ ht1))) (.cons (dp_pr (q := (((dcF rs 0 i : Nat) : Int), ((drF rs 0 i : Nat) : Int))) (e5 _ _ ht3)) (.cons (.int _) (.cons (.int _) .nil)))), a1, a2, a3, a4, ?_⟩
      have E5 := ((E2.trans e3).trans e4).trans e5
      have ht5 := e5 _ _ (e4 _ _ (e3 _ _ ht2))
      generalize upd H4 tl _ = H5 at *
      have hl5 := SqL.of (K := K) (E5 _ _ l1)
      refine ⟨_, rfl, _, rfl, _, rfl, _, rfl, _, rfl, l, _, rfl, .inl hl5, _, _, rfl, rfl, ⟨by rw [lm]; omega, by rw [lm]; omega⟩, _, rfl, l, _, rfl, .inl hl5, _, _, rfl, rfl, .inr ⟨by rw [lm]; omega, by rw [lm]; omega⟩, _, _, rfl, rfl, ?_⟩
      refine ⟨_, rfl, _, rfl, _, rfl, l, _, rfl, .inl hl5, _, _, rfl, rfl, ⟨by rw [lm]; omega, by rw [lm]; omega⟩, _, rfl, l, _, rfl, .inl hl5, _, _, rfl, rfl, .inr ⟨by rw [lm]; omega, by rw [lm]; omega⟩, _, _, rfl, rfl, (by show 4 ≤ sizeLine; decide), fun tl2 htl2 => ?_⟩
      dsimp only
      rw [lm, key]
      have e6 := Ext.upd (o := .lst [.ref t, .ref t, .int ((i : Int) % (rs.length : Int)), .int ((i : Int) % (rs.length : Int))]) htl2
      have ht6 := dp_pr (K := K) (q := (((dcF rs 0 i : Nat) : Int), ((drF rs 0 i : Nat) : Int))) (e6 _ _ ht5)
      refine ⟨tl2, _, rfl, .lst (SqL.of upd_same) (.cons ht6 (.cons ht6 (.cons (.int _) (.cons (.int _) .nil)))), a1, a2, a3, a4, rfl, _, rfl, ite2 (fun hz => absurd hz (by simp)) (fun _ => ?_)⟩
      have E6 := E5.trans e6
      have ht6 := e6 _ _ ht5
      generalize upd H5 tl2 _ = H6 at *
      have hl6 := SqL.of (K := K) (E6 _ _ l1)
      have h16 := E6 _ _ h1
      have hp6 := ht.ext E6
      refine ⟨_, rfl, _, rfl, l, _, rfl, .inl hl6, rfl, _, rfl, ite2 (fun h => ?_) (fun h => iteF ?_)⟩
      · have hn : i = rs.length := by
          have := V.int.inj (of_decide_eq_true h)
          rw [lm] at this
          omega
        have gr : (mulF (partsF rs)).1 = ((dcF rs 0 i : Nat) : Int) := by rw [growth_eq, hn]
        have lg : ((dcF rs 0 i : Nat) : Int).natAbs.log2 < 1920 := Nat.lt_of_lt_of_le (m := 64) (PySem.Flt.log2_lt_of (by decide) (by rw [Int.natAbs_natCast]; exact hz1)) (by decide)
        refine ⟨_, rfl, x, dx, _, rfl, h16, x, rs, rfl, hp6, _, rfl, by rw [gr]; exact lg, _, rfl, .inr (.inl ⟨t, _, 0, _, rfl, rfl, SqT.of ht6, rfl, _, rfl, lg, rfl, _, rfl, ite2 (fun hz => absurd hz (by rw [gr]; simp)) (fun _ => ?_)⟩)⟩
        obtain ⟨bb, hbb, hrow⟩ := pd_get2 l2 (i % rs.length) _ (csA_get l0 i)
        have mm := csA_mem l0 i
        have okc := ok.hc _ mm
        obtain ⟨cl1, cl2⟩ := cols_le okc (ok.h5 _ mm)
        refine ⟨_, rfl, _, rfl, _, rfl, _, rfl, l, _, rfl, .inl hl6, _, _, rfl, rfl, ⟨by rw [lm]; omega, by rw [lm]; omega⟩, _, rfl, l, _, rfl, .inl hl6, _, _, rfl, rfl, .inr ⟨by rw [lm]; omega, by rw [lm]; omega⟩, _, _, rfl, rfl, .inl ⟨l, _, _, .ref bb, rfl, rfl, hl6, (by rw [lm, key, kn]; exact atI_nat (by rw [List.getElem?_map, hbb]; rfl)), ?_⟩⟩
        refine ⟨bb, csA rs i, rfl, hrow.ext E6, okc, ok.h5 _ mm, fun t5 H7 e7 ht7 => ?_⟩
        have ht8 := e7 _ _ ht6
        refine ⟨_, rfl, .inr (.inl ⟨t, _, 0, _, rfl, rfl, SqT.of ht8, rfl, _, rfl, .inr (.inl ⟨t5, _, 0, _, rfl, rfl, SqT.of ht7, rfl, _, _, rfl, rfl, .inl ⟨by omega, by omega⟩, _, rfl, .inr (.inl ⟨t, _, 1, _, rfl, rfl, SqT.of ht8, rfl, _, rfl, .inr (.inl ⟨t5, _, 1, _, rfl, rfl, SqT.of ht7, rfl, _, _, rfl, rfl, .inl ⟨by omega, by omega⟩, (by show 2 ≤ sizeLine; decide), fun t9 ht9 => ?_⟩)⟩)⟩)⟩)⟩
        refine ⟨t9, _, _, rfl, ?_, (E6.trans e7).trans (Ext.upd ht9)⟩
        rw [upd_same]
        have s1 : dcF rs 0 (i + 1) = dcF rs 0 i * colsF (csA rs i) := by show dcF rs 0 i * colsF (csA rs (0 + i)) = _; rw [Nat.zero_add]
        have s2 : drF rs 0 (i + 1) = drF rs 0 i * rowsF (csA rs i) := by show drF rs 0 i * rowsF (csA rs (0 + i)) = _; rw [Nat.zero_add]
        rw [s1, s2, Int.natCast_mul, Int.natCast_mul]
      obtain ⟨bb, hbb, hrow⟩ := pd_get2 l2 (i % rs.length) _ (csA_get l0 i)
      have mm := csA_mem l0 i
      have okc := ok.hc _ mm
      obtain ⟨cl1, cl2⟩ := cols_le okc (ok.h5 _ mm)
      refine ⟨_, rfl, _, rfl, _, rfl, _, rfl, l, _, rfl, .inl hl6, _, _, rfl, rfl, ⟨by rw [lm]; omega, by rw [lm]; omega⟩, _, rfl, l, _, rfl, .inl hl6, _, _, rfl, rfl, .inr ⟨by rw [lm]; omega, by rw [lm]; omega⟩, _, _, rfl, rfl, .inl ⟨l, _, _, .ref bb, rfl, rfl, hl6, (by rw [lm, key, kn]; exact atI_nat (by rw [List.getElem?_map, hbb]; rfl)), ?_⟩⟩
      refine ⟨bb, csA rs i, rfl, hrow.ext E6, okc, ok.h5 _ mm, fun t5 H7 e7 ht7 => ?_⟩
      have ht8 := e7 _ _ ht6
      refine ⟨_, rfl, .inr (.inl ⟨t, _, 0, _, rfl, rfl, SqT.of ht8, rfl, _, rfl, .inr (.inl ⟨t5, _, 0, _, rfl, rfl, SqT.of ht7, rfl, _, _, rfl, rfl, .inl ⟨by omega, by omega⟩, _, rfl, .inr (.inl ⟨t, _, 1, _, rfl, rfl, SqT.of ht8, rfl, _, rfl, .inr (.inl ⟨t5, _, 1, _, rfl, rfl, SqT.of ht7, rfl, _, _, rfl, rfl, .inl ⟨by omega, by omega⟩, (by show 2 ≤ sizeLine; decide), fun t9 ht9 => ?_⟩)⟩)⟩)⟩)⟩
      refine ⟨t9, _, _, rfl, ?_, (E6.trans e7).trans (Ext.upd ht9)⟩
      rw [upd_same]
      have s1 : dcF rs 0 (i + 1) = dcF rs 0 i * colsF (csA rs i) := by show dcF rs 0 i * colsF (csA rs (0 + i)) = _; rw [Nat.zero_add]
      have s2 : drF rs 0 (i + 1) = drF rs 0 i * rowsF (csA rs i) := by show drF rs 0 i * rowsF (csA rs (0 + i)) = _; rw [Nat.zero_add]
      rw [s1, s2, Int.natCast_mul, Int.natCast_mul]
    · rintro σ H2 ⟨t, u3, u4, rfl, ht2, E2⟩
      exact k H2 E2
end
end Mc

set_option Elab.async false
set_option linter.all false
set_option maxRecDepth 100000
set_option maxHeartbeats 4000000
set_option exponentiation.threshold 20000
namespace Mc
open PySem PySem.Spec PyProof.Rows L2 ClX StX
section
variable {P : Program} {w : World} {K : PySem.W.Frag} {mg : Str → Option Value} {base : Heap} {f C0 aX : Addr} {mc : Value} {fd : FuncData}
theorem sc_told_right : FnScope ["_law_made", "_law_rows", "_law_told", "_law_k"] ["_law_made", "_law_rows"] (defScope s_told_right) := ⟨rfl, rfl, rfl, by decide +kernel, rfl, by decide +kernel, by decide +kernel⟩
theorem run_ownG {X : Cx} {f : Addr} {k : Nat} {fd : FuncData} {ps : List Str} {sp : Sp} {A : Around} {pins : List (Addr × Obj)} {σ : L2.St} {H : Hp} {s : Shared} {Q : VK} {us : List Value} {vs : List V} (F : FnOkG X.prog X.w X.K X.mg X.base CX0 k f fd ps sp) (hb : Binds X.K fd ps []) (hr : RoomG k A) (hf : A.frames = X.A.frames)
    (I : Inv X pins σ H s) (r : Vals vs us) (h : sp vs H Q E0) : wpAny (model X.prog X.w) A (call (.ref f) us) (EP X pins σ Q) X.xe s := by
  have hl : (us ++ []).length = ps.length := by rw [List.append_nil, ← r.length]; exact F.len _ _ _ _ h
  have hbi := hb s us I.kIn hl
  rw [List.append_nil] at hbi
  have e := I.env0
  have e0 : Env0 X.prog X.w X.K X.mg X.base A X.stack s H := ⟨by rw [hf]; exact e.frames, e.mod, e.bs, e.bsz, e.funs, e.frf, e.hok, e.bare⟩
  refine wpAny_call (codeAny_mono (F.run A X.stack s H ⟨us, []⟩ us vs Q E0 hr e0 hbi r h) fun r s' hq => ?_)
  cases r with
  | error e => exact hq.elim
  | ok fl =>
    cases fl with
    | ret u => exact I.after hq
    | next => exact hq.elim
    | brk => exact hq.elim
    | cont => exact hq.elim
theorem call_reprOG {X : Cx} {C f : Addr} {k : Nat} {fd : FuncData} {ps : List Str} {sp : Sp} (m : Meth X.K C "__repr__" f) (F : FnOkG X.prog X.w X.K X.mg X.base CX0 k f fd ps sp) (hb : Binds X.K fd ps []) (hr : RoomG (k + 1) X.A) : CallR X (.builtin "repr") (rStrO C sp) := by
  intro pins s σ H vs us Q I r h
  obtain ⟨a, dx, fs, rfl, ha, q⟩ := h
  obtain ⟨u, rfl, ru⟩ := vals1 r
  cases (show u = Value.ref a from ru)
  obtain ⟨mA, J, _⟩ := ins_get I.hok ha
  obtain ⟨od, J, _⟩ := J.look
  obtain ⟨mm, hF⟩ := I.fr
  refine PySem.W.repr_K hr.room.in1.units0 hF I.ok.mod.kin J m.at_ m.fn ?_
  refine wpAny_mono (run_ownG (vs := [V.ref a]) (us := [Value.ref a]) F hb ⟨hr.room.in1, hr.gs⟩ rfl I (.cons rfl .nil) q) (fun z s' hz => ?_) fun _ _ z => z
  obtain ⟨v', H', I', r', t, rfl, q'⟩ := hz
  obtain ⟨tk, rfl⟩ := (show ∃ tk, z = Value.str t tk from r')
  exact ⟨.str t, H', I', ⟨tk, rfl⟩, q'⟩
theorem pd_drop {α β : Type} {F : α → β → Prop} : ∀ (n : Nat) {l : List α} {m : List β}, Paired F l m → Paired F (l.drop n) (m.drop n)
  | 0, _, _, h => h
  | _ + 1, _, _, .nil => .nil
  | n + 1, _, _, .cons _ t => pd_drop n t
theorem sm_L {cs : List Cut} (h : ∀ c ∈ cs, okC c) (l5 : cs.length ≤ 10) : Sm 3 10 (dqL cs) := ⟨by rw [List.length_map]; exact l5, fun y m => by
  obtain ⟨c, hc, rfl⟩ := List.mem_map.mp m
  obtain ⟨h2, h4⟩ := h c hc
  refine ⟨by show 2 ≤ 10; decide, fun z m => ?_⟩
  simp only [List.mem_cons, List.not_mem_nil, or_false] at m
  rcases m with rfl | rfl
  · show axS c.1 = "east" ∨ axS c.1 = "north"
    cases c.1
    · exact .inr rfl
    · exact .inl rfl
  · show ((c.2 : Nat) : Int).natAbs < 2 ^ 64
    omega⟩
theorem sm_Rs {rs : List (List Cut)} (h : ∀ cs ∈ rs, (∀ c ∈ cs, okC c) ∧ cs.length ≤ 5) (l : rs.length ≤ 10) : Sm 4 10 (dqR rs) := ⟨by rw [List.length_map]; exact l, fun y m => by
  obtain ⟨cs, hc, rfl⟩ := List.mem_map.mp m
  exact sm_L (h cs hc).1 (Nat.le_trans (h cs hc).2 (by decide))⟩
theorem sm_R {rs : List (List Cut)} (ok : OkR rs) : Sm 4 10 (dqR rs) := sm_Rs (fun cs m => ⟨ok.hc cs m, ok.h5 cs m⟩) (Nat.le_trans ok.l3 (by decide))
theorem str_ext {a b : Str} (h : a.cps.toList = b.cps.toList) : a = b := by
  obtain ⟨⟨a⟩⟩ := a
  obtain ⟨⟨b⟩⟩ := b
  exact congrArg (fun z => (⟨⟨z⟩⟩ : Str)) h
theorem str_app (a b : Str) : (a ++ b).cps.toList = a.cps.toList ++ b.cps.toList := by
  show (a.cps ++ b.cps).toList = _
  rw [Array.toList_append]
theorem cut_mid (s : Str) : cutS ((Str.ofString "[" ++ s) ++ Str.ofString "]") (some ((1 : Nat) : Int)) (some (-1)) = s := by
  have hl : ((Str.ofString "[" ++ s) ++ Str.ofString "]").length = s.length + 2 := by
    rw [Str.length_append, Str.length_append]
    show 1 + s.length + 1 = _
    omega
  have h2 : HT.sIx (s.length + 2) (s.length + 2) (some (-1)) = s.length + 1 := by
    show (if (-1 : Int) < 0 then ((-1 : Int) + ((s.length + 2 : Nat) : Int)).toNat else min (-1 : Int).toNat (s.length + 2)) = _
    rw [if_pos (by decide)]
    omega
  unfold cutS
  rw [hl, HT.sIx_nat, h2, Nat.min_eq_left (by omega)]
  apply str_ext
  show List.take (s.length + 1 - 1) (List.drop 1 ((Str.ofString "[" ++ s) ++ Str.ofString "]").cps.toList) = s.cps.toList
  rw [str_app, str_app]
  show List.take (s.length + 1 - 1) (List.drop 1 ([91] ++ s.cps.toList ++ [93])) = _
  rw [List.append_assoc]
  show List.take (s.length + 1 - 1) (s.cps.toList ++ [93]) = _
  rw [Nat.add_sub_cancel, List.take_append_of_le_length (by show s.cps.size ≤ _; rw [Array.length_toList]; exact Nat.le_refl _), List.take_of_length_le (by rw [Array.length_toList]; exact Nat.le_refl _)]
theorem plan_eq (rs : List (List Cut)) : (Str.ofString "Plan(" ++ cutS (dqR rs).shown (some ((1 : Nat) : Int)) (some (-1))) ++ Str.ofString ")" = planText rs := by
  have e : PyData.shownAll (rs.map dqL) = rs.map fun cs => (dqL cs).shown := by
    induction rs with
    | nil => simp [PyData.shownAll]
    | cons c r ih => rw [List.map_cons, PyData.shownAll, ih]; rfl
  unfold dqR planText
  rw [PyData.shown, e, listText_eq_join, cut_mid, TL.join_eq]
  rfl
theorem plan_eq1 (rs : List (List Cut)) : (Str.ofString "Plan(" ++ cutS (dqR rs).shown (some 1) (some (-1))) ++ Str.ofString ")" = planText rs := plan_eq rs
def spToldR (C0 : Addr) : Sp := fun vs H Q _ => ∃ (x l : Addr) (rs : List (List Cut)), vs = [.ref x, .ref l] ∧ PlanAt C0 H x rs ∧ RowsL H l rs ∧ OkR rs ∧ ∀ H', Ext H H' → Q (.bl true) H'
theorem ok_told_right (F : FunD K "_law_told_right" "_law_told_right" (defArgs s_told_right) (defBody s_told_right) (defScope s_told_right) [] [] f fd) (T : TB mg) (R : PlanT K mg C0 aX mc) {fRo : Addr} {fdRo : FuncData} (mRo : Meth K C0 "rounds" fRo) (Gro : FnOk P w K mg base CX0 1 fRo fdRo ["self"] (spRounds C0)) (bRo : Binds K fdRo ["self"] []) {fLen : Addr} {fdLen : FuncData} (mLen : Meth K C0 "__len__" fLen) (Glen : FnOk P w K mg base CX0 1 fLen fdLen ["self"] (spLen C0)) (bLen : Binds K fdLen ["self"] []) {fRp : Addr} {fdRp : FuncData} (mRp : Meth K C0 "__repr__" fRp) (Grp : FnOkG P w K mg base CX0 3 fRp fdRp ["self"] (spReprP C0)) (bRp : Binds K fdRp ["self"] []) {fround_right : Addr} {fdround_right : FuncData} (Dround_right : Gg P w K mg base "_law_round_right" 9 ["_law_made", "_law_rows", "_law_k"] (spRoundR C0) fround_right fdround_right) {fcounts_right : Addr} {fdcounts_right : FuncData} (Dcounts_right : Gg P w K mg base "_law_counts_right" 10 ["_law_made", "_law_rows"] (spCountsR C0) fcounts_right fdcounts_right) : FnOkG P w K mg base CX0 11 f fd ["_law_made", "_law_rows"] (spToldR C0) := by
  refine okG F sc_told_right (fun vs H Q E h => ?_) (fun cdv A outer s H vs Q E hr h => ?_)
  · obtain ⟨x, l, rs, rfl, ht, hl, ok, k⟩ := h
    rfl
  · obtain ⟨x, l, rs, rfl, ht, hl, ok, k⟩ := h
    refine ⟨_, (pss_cons (ps_if (PW.pt (pw_or (pt_cmpR op_ne (pe_callB (call_reprDK (K := K) hr rfl) (by rfl) T.repr boot_repr (pa_cons (pe_meth0 (pv 0) R.cl mRo Gro (hr.room.mono (by decide)) bRo .nil pass0) pa_nil)) (pe_callB (call_reprDK (K := K) hr rfl) (by rfl) T.repr boot_repr (pa_cons (pv 1) pa_nil)) (nomark _)) (pw_or (pt_cmpR op_ne (pe_callB (call_lenO mLen Glen bLen (hr.room.mono (by decide))) (by rfl) T.len PySem.boot_len (pa_cons (pv 0) pa_nil)) (pe_callB call_len_seq (by rfl) T.len PySem.boot_len (pa_cons (pv 1) pa_nil)) (nomark _)) (pw_or1 (pt_cmpR op_ne (pe_callB (call_reprOG mRp Grp bRp (RoomG.mono hr (by decide))) (by rfl) T.repr boot_repr (pa_cons (pv 0) pa_nil)) (pe_op op_add_str (pe_op op_add_str pe_str (pe_slice sl_str (pe_callB (call_reprDK (K := K) hr rfl) (by rfl) T.repr boot_repr (pa_cons (pv 1) pa_nil)) (po_some pe_int) (po_some (pe_un un_neg pe_int)))) pe_str) (nomark _)))))) (pss_one (ps_ret pe_bl)) pss_nil)
      (pss_cons (ps_if (PW.pt (pw_or (pt_not (pt_val (pe_callB (cr_all rfl) (by rfl) T.all (by decide +kernel) (pa_cons (pe_lc (own := [("_law_k", 3)]) (g := gName 3) (tt := tYes) rfl sc_told_right.nd (pi_range1 (by rfl) T.range (pa_cons (pe_callB call_len_seq (by rfl) T.len PySem.boot_len (pa_cons (pv 1) pa_nil)) pa_nil)) (blkOk_by (own := [("_law_k", 3)]) (N := ["_law_made", "_law_rows", "_law_told", "_law_k"]) (sc := defScope s_told_right) (by decide +kernel)) (fun _ _ _ _ _ => (pg_name (i := 3) sc_told_right.nd rfl (.inl rfl))) (fun _ _ _ _ _ => pts_nil) (fun _ _ _ _ _ => (pe_gg Dround_right hr (by decide) (by rfl) (pa_cons (pv 0) (pa_cons (pv 1) (pa_cons (pv 3) pa_nil)))))) pa_nil)))) (pw_or1 (pt_not (pt_val (pe_gg Dcounts_right hr (by decide) (by rfl) (pa_cons (pv 0) (pa_cons (pv 1) pa_nil)))))))) (pss_one (ps_ret pe_bl)) pss_nil)
      (pss_cons (ps_set (i := 2) sc_told_right.nd rfl (.inl rfl) (pe_meth0 (pv 0) R.cl mRo Gro (hr.room.mono (by decide)) bRo .nil pass0))
      (pss_cons (ps_expr (pe_bm PySem.F.plainAttrs_list PySem.F.slot_list_append PySem.F.type_list_append mt_append (pe_ix ix_seq (pv 2) pe_int (fun _ _ => rfl)) (pa_cons (pe_tup (pa_cons pe_str (pa_cons pe_int pa_nil))) pa_nil)))
      (pss_cons (ps_if (pt_cmpR op_ne (pe_callB (call_reprDK (K := K) hr rfl) (by rfl) T.repr boot_repr (pa_cons (pe_slice sl_list (pv 2) (po_some pe_int) po_none) pa_nil)) (pe_callB (call_reprDK (K := K) hr rfl) (by rfl) T.repr boot_repr (pa_cons (pe_slice sl_list (pv 1) (po_some pe_int) po_none) pa_nil)) (nomark _)) (pss_one (ps_ret pe_bl)) pss_nil)
      (pss_cons (ps_expr (pe_bm PySem.F.plainAttrs_list PySem.F.slot_list_append PySem.F.type_list_append mt_append (pv 2) (pa_cons (pe_lst (pa_cons (pe_tup (pa_cons pe_str (pa_cons pe_int pa_nil))) pa_nil)) pa_nil)))
      (pss_cons (ps_expr (pe_bm0 PySem.F.plainAttrs_list PySem.F.slot_list_clear PySem.F.type_list_clear mt_clear (pe_ix ix_seq (pv 2) pe_int (fun _ _ => rfl))))
      (pss_one (ps_ret (pe_cmpR op_eq (pe_callB (call_reprDK (K := K) hr rfl) (by rfl) T.repr boot_repr (pa_cons (pe_meth0 (pv 0) R.cl mRo Gro (hr.room.mono (by decide)) bRo .nil pass0) pa_nil)) (pe_callB (call_reprDK (K := K) hr rfl) (by rfl) T.repr boot_repr (pa_cons (pv 1) pa_nil)) (nomark _))))))))))), ?_⟩
    obtain ⟨as, l1, l2⟩ := id hl
    have l3 := ok.l3
    have l0 := ok.l1
    have las := pd_len l2
    have lm : (as.map V.ref).length = rs.length := by rw [List.length_map, las]
    obtain ⟨dx, lr, lp, ll, g, h1, hin⟩ := id ht
    obtain ⟨s1, s2, s3, s4⟩ := (sm_R ok).show (by decide)
    refine ⟨_, rfl, x, dx, _, rfl, h1, rfl, x, rs, rfl, ht, l3, fun la a1 H1 e1 nl na nd nin hl1 hp1 => ?_⟩
    refine ⟨la, dqR rs, rfl, dp_rounds ⟨a1, hl1, hp1⟩, s1, s2, s3, s4, _, rfl, l, dqR rs, rfl, dp_rounds (hl.ext e1), s1, s2, s3, s4, rfl, _, rfl, ite2 (fun hz => absurd hz (by simp)) (fun _ => ?_)⟩
    have ht1 := ht.ext e1
    refine ⟨_, rfl, x, dx, _, rfl, e1 _ _ h1, x, rs, rfl, ht1, rs.length, rfl, by omega, _, rfl, l, _, rfl, .inl (SqL.of (e1 _ _ l1)), rfl, _, rfl, ite2 (fun hz => absurd hz (by rw [lm]; simp)) (fun _ => ?_)⟩
    refine ⟨_, rfl, x, dx, _, rfl, e1 _ _ h1, x, rs, rfl, ht1, ok, fun H2 e2 => ⟨_, rfl, ?_⟩⟩
    have E2 := e1.trans e2
    refine ⟨_, rfl, l, dqR rs, rfl, dp_rounds (hl.ext E2), s1, s2, s3, s4, ?_⟩
    have sl := (sm_R ok).len (by decide)
    have cl := cutS_length (dqR rs).shown (some 1) (some (-1))
    have k5 : (Str.ofString "Plan(").length = 5 := rfl
    have k1 : (Str.ofString ")").length = 1 := rfl
    refine ⟨_, rfl, _, rfl, _, rfl, _, rfl, s4, _, _, rfl, rfl, by rw [k5, sizeLine_eq]; omega, _, _, rfl, rfl, by rw [Str.length_append, k5, k1, sizeLine_eq]; omega, rfl, _, rfl, ite2 (fun hz => absurd hz (by rw [plan_eq1]; simp)) (fun _ => ?_)⟩
    refine ⟨_, rfl, l, _, rfl, .inl (SqL.of (E2 _ _ l1)), _, rfl, by rw [lm]; omega, by rw [lm]; omega, fun D hD => lc_walk (walk_r (lo := 0)) (fun i H' => H' D = some (.lst (List.replicate i (.bl true))) ∧ Ext H2 H') ⟨upd_same, Ext.upd hD⟩ (fun _ _ _ => trivial) ?_ ?_⟩
    · rintro i y H3 hy ⟨hD2, e3⟩
      obtain ⟨hi, rfl⟩ := range_get hy
      rw [lm, Int.toNat_natCast] at hi
      refine ⟨rfl, lc_yes ⟨_, rfl, _, rfl, _, rfl, x, l, rs, i, _, rfl, ht.ext (E2.trans e3), hl.ext (E2.trans e3), ok, List.getElem?_eq_getElem hi, fun H4 e4 => ?_⟩⟩
      refine ⟨_, e4 _ _ hD2, by rw [List.length_replicate, sizeLine_eq]; omega, ?_, ext_put (e3.trans e4) hD⟩
      rw [upd_same, rep_put]
    rintro H3 ⟨hD2, e3⟩
    obtain ⟨N, hN⟩ : ∃ N, H3 D = some (.lst (List.replicate N (.bl true))) := ⟨_, hD2⟩
    refine ⟨D, List.replicate N true, rfl, SqL.of (by rw [hN, List.map_replicate]), ?_⟩
    rw [all_rep]
    have E3 := E2.trans e3
    refine ⟨_, rfl, iteF ⟨_, rfl, _, rfl, x, l, rs, rfl, ht.ext E3, hl.ext E3, ok, fun H4 e4 => ⟨_, rfl, iteF ?_⟩⟩⟩
    have E4 := E3.trans e4
    clear hD2 hN e3
    refine ⟨_, rfl, x, dx, _, rfl, E4 _ _ h1, rfl, x, rs, rfl, ht.ext E4, l3, fun lt at_ Ht et nl2 na2 nd2 nin2 hlt hpt => ?_⟩
    obtain ⟨a0, ar, rfl⟩ : ∃ a0 ar, at_ = a0 :: ar := by
      cases at_ with
      | nil => have := pd_len hpt; simp at this; omega
      | cons a r => exact ⟨a, r, rfl⟩
    have p0 := pd_drop 1 hpt
    obtain ⟨c0, hc0, bs0, b0, b1⟩ := pd_get hpt 0 a0 rfl
    have n0 : H4 a0 = none := na2 a0 (.head _)
    have l0ne : lt ≠ a0 := fun z => nin2 (z ▸ .head _)
    have hbs5 : bs0.length ≤ 5 := by rw [pd_len b1]; exact ok.h5 _ (List.mem_of_getElem? hc0)
    refine ⟨_, rfl, .inl ⟨lt, _, 0, .ref a0, rfl, rfl, SqL.of hlt, (show atI _ ((0 : Nat) : Int) = _ from atI_nat rfl), .inl ⟨rfl, _, SqL.of b0⟩, (by show 2 ≤ sizeLine; decide), fun tt htt => ⟨a0, _, _, rfl, rfl, Ext.upd htt _ _ b0, by rw [List.length_map, sizeLine_eq]; omega, ?_⟩⟩⟩
    have ett := Ext.upd (o := .tup [.str "east", .int 2]) htt
    have E5 : Ext H4 (upd (upd Ht tt (.tup [.str "east", .int 2])) a0 (.lst (bs0.map V.ref ++ [.ref tt]))) := ext_put (et.trans ett) n0
    have lt5 : (upd (upd Ht tt (.tup [.str "east", .int 2])) a0 (.lst (bs0.map V.ref ++ [.ref tt]))) lt = some (.lst ((a0 :: ar).map V.ref)) := by rw [upd_ne l0ne]; exact ett _ _ hlt
    have a05 : (upd (upd Ht tt (.tup [.str "east", .int 2])) a0 (.lst (bs0.map V.ref ++ [.ref tt]))) a0 = some (.lst (bs0.map V.ref ++ [.ref tt])) := upd_same
    have ndp := List.nodup_cons.mp nd2
    have p5 : Paired (CutsL (upd (upd Ht tt (.tup [.str "east", .int 2])) a0 (.lst (bs0.map V.ref ++ [.ref tt])))) ar (rs.drop 1) := by
      have go : ∀ {l : List Addr} {m : List (List Cut)}, Paired (CutsL Ht) l m → a0 ∉ l → Paired (CutsL (upd (upd Ht tt (.tup [.str "east", .int 2])) a0 (.lst (bs0.map V.ref ++ [.ref tt])))) l m := fun pd => by
        induction pd with
        | nil => intro _; exact .nil
        | cons r t ih =>
          intro hn
          exact .cons (side_cuts (ett _ _ b0) (fun z => hn (z ▸ .head _)) (r.ext ett)) (ih fun m => hn (.tail _ m))
      exact go p0 ndp.1
    generalize upd (upd Ht tt (.tup [.str "east", .int 2])) a0 (.lst (bs0.map V.ref ++ [.ref tt])) = H5 at *
    have E05 := E4.trans E5
    obtain ⟨v1, v2, v3, v4⟩ := (sm_Rs (rs := rs.drop 1) (fun cs m => ⟨ok.hc cs (List.mem_of_mem_drop m), ok.h5 cs (List.mem_of_mem_drop m)⟩) (by rw [List.length_drop]; omega)).show (by decide)
    refine ⟨_, rfl, _, rfl, lt, _, rfl, SqL.of lt5, fun r1 hr1 => ?_⟩
    have e6 := Ext.upd (o := .lst (L2.cutV ((a0 :: ar).map V.ref) (some ((1 : Nat) : Int)) Option.none)) hr1
    have q6 : (upd H5 r1 (.lst (L2.cutV ((a0 :: ar).map V.ref) (some ((1 : Nat) : Int)) Option.none))) r1 = some (.lst (ar.map V.ref)) := by rw [upd_same, cut_dropU]; rfl
    refine ⟨r1, dqR (rs.drop 1), rfl, dp_rounds ⟨ar, q6, pd_imp (fun _ _ z => z.ext e6) p5⟩, v1, v2, v3, v4, ?_⟩
    generalize upd H5 r1 _ = H6 at *
    have E06 := E05.trans e6
    refine ⟨_, rfl, _, rfl, l, _, rfl, SqL.of (E06 _ _ l1), fun r2 hr2 => ?_⟩
    have e7 := Ext.upd (o := .lst (L2.cutV (as.map V.ref) (some ((1 : Nat) : Int)) Option.none)) hr2
    have q7 : (upd H6 r2 (.lst (L2.cutV (as.map V.ref) (some ((1 : Nat) : Int)) Option.none))) r2 = some (.lst ((as.drop 1).map V.ref)) := by rw [upd_same, cut_dropU, List.map_drop]
    refine ⟨r2, dqR (rs.drop 1), rfl, dp_rounds ⟨as.drop 1, q7, pd_drop 1 (pd_imp (fun _ _ z => z.ext (E06.trans e7)) l2)⟩, v1, v2, v3, v4, rfl, _, rfl, ite2 (fun hz => absurd hz (by simp)) (fun _ => ?_)⟩
    generalize upd H6 r2 _ = H7 at *
    have E07 := E06.trans e7
    have lt7 := e7 _ _ (e6 _ _ lt5)
    have a07 := e7 _ _ (e6 _ _ a05)
    have nlt : H4 lt = none := nl2
    refine ⟨_, rfl, .inl ⟨rfl, _, SqL.of lt7⟩, (by show 2 ≤ sizeLine; decide), fun t3 ht3 => ⟨(by show 1 ≤ sizeLine; decide), fun l4 hl4 => ⟨lt, _, _, rfl, rfl, Ext.upd hl4 _ _ (Ext.upd ht3 _ _ lt7), ?_, ?_⟩⟩⟩
    · rw [List.length_map, sizeLine_eq]
      have := pd_len hpt
      omega
    have e8 := (Ext.upd (o := .tup [.str "north", .int 3]) ht3).trans (Ext.upd (o := .lst [.ref t3]) hl4)
    have E08 : Ext H4 (upd (upd (upd H7 t3 (.tup [.str "north", .int 3])) l4 (.lst [.ref t3])) lt (.lst ((a0 :: ar).map V.ref ++ [.ref l4]))) := ext_put (((E5.trans e6).trans e7).trans e8) nlt
    have lt8 : (upd (upd (upd H7 t3 (.tup [.str "north", .int 3])) l4 (.lst [.ref t3])) lt (.lst ((a0 :: ar).map V.ref ++ [.ref l4]))) lt = some (.lst (.ref a0 :: (ar.map V.ref ++ [.ref l4]))) := upd_same
    have a08 : (upd (upd (upd H7 t3 (.tup [.str "north", .int 3])) l4 (.lst [.ref t3])) lt (.lst ((a0 :: ar).map V.ref ++ [.ref l4]))) a0 = some (.lst (bs0.map V.ref ++ [.ref tt])) := by rw [upd_ne (Ne.symm l0ne)]; exact e8 _ _ a07
    generalize upd (upd (upd H7 t3 (.tup [.str "north", .int 3])) l4 (.lst [.ref t3])) lt (.lst ((a0 :: ar).map V.ref ++ [.ref l4])) = H8 at *
    refine ⟨_, rfl, .inl ⟨lt, _, 0, .ref a0, rfl, rfl, SqL.of lt8, (show atI _ ((0 : Nat) : Int) = _ from atI_nat rfl), ?_⟩⟩
    refine ⟨.inl ⟨rfl, _, SqL.of a08⟩, a0, _, rfl, rfl, a08, ?_⟩
    have E09 : Ext H (upd H8 a0 (.lst [])) := E4.trans (ext_put E08 n0)
    generalize upd H8 a0 (.lst []) = H9 at *
    refine ⟨_, rfl, x, dx, _, rfl, E09 _ _ h1, rfl, x, rs, rfl, ht.ext E09, l3, fun lz az Hz ez _ _ _ _ hlz hpz => ?_⟩
    refine ⟨lz, dqR rs, rfl, dp_rounds ⟨az, hlz, hpz⟩, s1, s2, s3, s4, _, rfl, l, dqR rs, rfl, dp_rounds (hl.ext (E09.trans ez)), s1, s2, s3, s4, rfl, ?_⟩
    rw [decide_eq_true rfl]
    exact k Hz (E09.trans ez)
end
end Mc

set_option Elab.async false
set_option linter.all false
set_option maxRecDepth 100000
set_option maxHeartbeats 4000000
set_option exponentiation.threshold 20000
namespace Mc
open PySem PySem.Spec PyProof.Rows L2 ClX StX
section
variable {P : Program} {w : World} {K : PySem.W.Frag} {mg : Str → Option Value} {base : Heap} {f C0 aX : Addr} {mc : Value} {fd : FuncData}
theorem sc_turned_right : FnScope ["_law_made", "_law_rows", "_law_due", "_law_found", "_law_row", "_law_axis", "_law_pieces"] ["_law_made", "_law_rows"] (defScope s_turned_right) := ⟨rfl, rfl, rfl, by decide +kernel, rfl, by decide +kernel, by decide +kernel⟩
theorem op_eqK {X : Cx} {K : PySem.W.Frag} {C f : Addr} {k : Nat} {fd : FuncData} {ps : List Str} {sp : Sp} (m : Meth K C "__eq__" f) (F : FnOk X.prog X.w K X.mg X.base CX0 k f fd ps sp) (hb : Binds K fd ps []) (hr : Room k X.A) (e : X.K = K) :
    OpR X (compareOp .Eq) (rOwnC K C sp false) := by
  subst e
  exact op_eqO m F hb hr
theorem le19 : 1 ≤ 8 := by decide
def spTurnedR (C0 : Addr) : Sp := fun vs H Q _ => ∃ (x l : Addr) (rs : List (List Cut)), vs = [.ref x, .ref l] ∧ PlanAt C0 H x rs ∧ RowsL H l rs ∧ OkR rs ∧ ∀ H', Ext H H' → Q (.bl true) H'
theorem ok_turned_right (F : FunD K "_law_turned_right" "_law_turned_right" (defArgs s_turned_right) (defBody s_turned_right) (defScope s_turned_right) [] [] f fd) (T : TB mg) (R : PlanT K mg C0 aX mc) (RE : PlanE K C0) {fE : Addr} {fdE : FuncData} (mE : Meth K C0 "__eq__" fE) (GE : FnOk P w K mg base CX0 1 fE fdE ["self", "other"] (spEqP K C0)) (bE : Binds K fdE ["self", "other"] []) {fTu : Addr} {fdTu : FuncData} (mTu : Meth K C0 "turned" fTu) (Gtu : FnOk P w K mg base CX0 8 fTu fdTu ["self"] (spTurned C0)) (bTu : Binds K fdTu ["self"] []) {fRo : Addr} {fdRo : FuncData} (mRo : Meth K C0 "rounds" fRo) (Gro : FnOk P w K mg base CX0 1 fRo fdRo ["self"] (spRounds C0)) (bRo : Binds K fdRo ["self"] []) {ftold_right : Addr} {fdtold_right : FuncData} (Dtold_right : Gg P w K mg base "_law_told_right" 11 ["_law_made", "_law_rows"] (spToldR C0) ftold_right fdtold_right) : FnOkG P w K mg base CX0 12 f fd ["_law_made", "_law_rows"] (spTurnedR C0) := by
  refine okG F sc_turned_right (fun vs H Q E h => ?_) (fun cdv A outer s H vs Q E hr h => ?_)
  · obtain ⟨x, l, rs, rfl, ht, hl, ok, k⟩ := h
    rfl
  · obtain ⟨x, l, rs, rfl, ht, hl, ok, k⟩ := h
    refine ⟨_, (pss_cons (ps_setLc (i := 2) (own := [("_law_row", 4)]) (g := gName 4) (tt := tYes) rfl sc_turned_right.nd rfl rfl (sw_true rfl rfl rfl (by decide +kernel)) (pi_list (pv 1)) (blkOk_by (own := [("_law_row", 4)]) (N := ["_law_made", "_law_rows", "_law_due", "_law_found", "_law_row", "_law_axis", "_law_pieces"]) (sc := defScope s_turned_right) (by decide +kernel)) (fun _ _ _ _ _ => (pg_name (i := 4) sc_turned_right.nd rfl (.inl rfl))) (fun _ _ _ _ _ => pts_nil) (fun _ _ _ _ _ => (pe_lc (own := [("_law_axis", 5), ("_law_pieces", 6)]) (g := gTup K 2 (gCons (gName 5) (gCons (gName 6) gNil))) (tt := tYes) rfl sc_turned_right.nd (pi_listK (K := K) rfl (pv 4)) (blkOk_free (own := [("_law_axis", 5), ("_law_pieces", 6)]) (N := ["_law_made", "_law_rows", "_law_due", "_law_found", "_law_row", "_law_axis", "_law_pieces"]) (by decide +kernel)) (fun _ _ _ _ _ => (pg_tup rfl (pgs_cons (pg_name (i := 5) sc_turned_right.nd rfl (.inl rfl)) (pgs_cons (pg_name (i := 6) sc_turned_right.nd rfl (.inl rfl)) pgs_nil)))) (fun _ _ _ _ _ => pts_nil) (fun _ _ _ _ _ => (pe_tup (pa_cons (pe_ifExp (pt_cmpR op_eq (pv 5) pe_str (nomark _)) pe_str pe_str) (pa_cons (pv 6) pa_nil)))))))
      (pss_cons (ps_set (i := 3) sc_turned_right.nd rfl (.inl rfl) (pe_meth0 (pv 0) R.cl mTu Gtu (hr.room.mono (by decide)) bTu .nil pass0))
      (pss_one (ps_ret (pe_and (pe_gg Dtold_right hr (by decide) (by rfl) (pa_cons (pv 3) (pa_cons (pv 2) pa_nil))) (pe_and (pe_cmpR (op_eqO mE GE bE (hr.room.mono (by decide))) (pe_meth0 (pv 3) R.cl mTu Gtu (hr.room.mono (by decide)) bTu .nil pass0) (pv 0) (nomark _)) (pe_one (pe_cmpR op_eq (pe_callB (call_reprDK (K := K) hr rfl) (by rfl) T.repr boot_repr (pa_cons (pe_meth0 (pv 0) R.cl mRo Gro (hr.room.mono (by decide)) bRo .nil pass0) pa_nil)) (pe_callB (call_reprDK (K := K) hr rfl) (by rfl) T.repr boot_repr (pa_cons (pv 1) pa_nil)) (nomark _))))))))), ?_⟩
    obtain ⟨as, l1, l2⟩ := id hl
    have l3 := ok.l3
    have szl : sizeLine = 16777216 := sizeLine_eq
    obtain ⟨dx, lr, lp, ll, g, h1, hin⟩ := id ht
    obtain ⟨s1, s2, s3, s4⟩ := (sm_R ok).show (by decide)
    refine ⟨_, rfl, l, rfl, ⟨_, SqL.of l1⟩, fun D hD => lc_walk (xs := as.map V.ref) walk_l (fun i H' => ∃ ds : List Addr, H' D = some (.lst (ds.map V.ref)) ∧ Paired (fun a cs => CutsL H' a cs ∧ a ≠ D) ds ((rs.take i).map turnF) ∧ Ext H H') ⟨[], upd_same, .nil, Ext.upd hD⟩ (fun _ _ ⟨_, _, _, e⟩ => SqL.of (e _ _ l1)) ?_ ?_⟩
    · rintro i y H1 hy ⟨ds, d1, d2, e⟩
      obtain ⟨a, rfl, cs, hci, bs, b1, b2⟩ := refs_get l2 hy
      have hm := List.mem_of_getElem? hci
      refine ⟨rfl, lc_yes ⟨_, rfl, a, rfl, ⟨_, SqL.of (e _ _ b1)⟩, fun D2 hD2 => lc_walk (xs := bs.map V.ref) walk_l (fun j H2 => ∃ es : List Addr, H2 D2 = some (.lst (es.map V.ref)) ∧ Paired (fun a c => H2 a = some (.tup (cutV c))) es (turnF (cs.take j)) ∧ Ext H1 H2) ⟨[], upd_same, .nil, Ext.upd hD2⟩ (fun _ _ ⟨_, _, _, e2⟩ => SqL.of (e2 _ _ (e _ _ b1))) ?_ ?_⟩⟩
      · rintro j z H2 hz ⟨es, f1, f2, e2⟩
        obtain ⟨b, rfl, c, hcj, hb⟩ := refs_get b2 hz
        have hb2 := e2 _ _ (e _ _ hb)
        refine ⟨b, _, rfl, SqT.of hb2, rfl, _, _, rfl, _, _, rfl, rfl, rfl, lc_yes ?_⟩
        have fin : ∀ tt, H2 tt = none → ∃ acc, (upd H2 tt (.tup (cutV (!c.1, c.2)))) D2 = some (.lst acc) ∧ acc.length < sizeLine ∧ ∃ es' : List Addr, (upd (upd H2 tt (.tup (cutV (!c.1, c.2)))) D2 (.lst (acc ++ [.ref tt]))) D2 = some (.lst (es'.map V.ref)) ∧ Paired (fun a c' => (upd (upd H2 tt (.tup (cutV (!c.1, c.2)))) D2 (.lst (acc ++ [.ref tt]))) a = some (.tup (cutV c'))) es' (turnF (cs.take (j + 1))) ∧ Ext H1 (upd (upd H2 tt (.tup (cutV (!c.1, c.2)))) D2 (.lst (acc ++ [.ref tt]))) := fun tt htt => by
          have e3 := Ext.upd (o := .tup (cutV (!c.1, c.2))) htt
          have D2t : D2 ≠ tt := fun z => by rw [← z, f1] at htt; cases htt
          refine ⟨_, e3 _ _ f1, ?_, es ++ [tt], ?_, ?_, ext_put (e2.trans e3) hD2⟩
          · have := ok.h5 cs hm
            rw [List.length_map, pd_len f2, turnF, List.length_map, List.length_take, szl]
            omega
          · rw [upd_same, List.map_append]
            rfl
          · rw [take_snoc hcj, turnF, List.map_append]
            exact pd_snoc (pd_imp (fun _ _ z => side_t (e3 _ _ f1) (e3 _ _ z)) f2) (by rw [upd_ne (Ne.symm D2t), upd_same])
        obtain ⟨ax, n⟩ := c
        cases ax with
        | false => exact ⟨_, rfl, rfl, _, rfl, ite2 (fun h => absurd (axS_inj (a := false) (b := true) (V.str.inj (of_decide_eq_true h))) (by decide)) (fun _ => ⟨_, rfl, (by show 2 ≤ sizeLine; decide), fun tt htt => fin tt htt⟩)⟩
        | true => exact ⟨_, rfl, rfl, _, rfl, ite2 (fun _ => ⟨_, rfl, (by show 2 ≤ sizeLine; decide), fun tt htt => fin tt htt⟩) (fun h => absurd (decide_eq_true rfl) h)⟩
      · rintro H2 ⟨es, f1, f2, e2⟩
        rw [List.length_map, pd_len b2, List.take_length] at f2
        have n2 : D2 ≠ D := fun z => by rw [z, d1] at hD2; cases hD2
        refine ⟨_, e2 _ _ d1, ?_, ds ++ [D2], ?_, ?_, ext_put (e.trans e2) hD⟩
        · rw [List.length_map, pd_len d2, List.length_map, List.length_take, szl]
          omega
        · rw [upd_same, List.map_append]
          rfl
        · rw [take_snoc hci, List.map_append]
          exact pd_snoc (pd_imp (fun b c q => ⟨side_cuts (e2 _ _ d1) q.2 (q.1.ext e2), q.2⟩) d2) ⟨side_cuts (e2 _ _ d1) n2 ⟨es, f1, f2⟩, n2⟩
    rintro H1 ⟨ds, d1, d2, e⟩
    rw [List.length_map, pd_len l2, List.take_length] at d2
    have hrows : RowsL H1 D (rs.map turnF) := ⟨ds, d1, pd_imp (fun _ _ q => q.1) d2⟩
    clear d1 d2
    refine ⟨_, rfl, x, dx, _, rfl, e _ _ h1, rfl, x, rs, rfl, ht.ext e, ok, fun y H2 e2 ny hy => ?_⟩
    refine ⟨_, rfl, _, rfl, y, D, rs.map turnF, rfl, hy, hrows.ext e2, ok_turn ok, fun H3 e3 => ⟨_, rfl, iteT ?_⟩⟩
    have E3 := (e.trans e2).trans e3
    have hy3 := hy.ext e3
    obtain ⟨dy, lr2, lp2, ll2, g2, k1, k2⟩ := id hy3
    refine ⟨_, rfl, y, dy, _, rfl, k1, rfl, y, rs.map turnF, rfl, hy3, ok_turn ok, fun z H4 e4 nz hz => ?_⟩
    rw [turn_turn] at hz
    obtain ⟨dz, lr3, lp3, ll3, g3, z1, z2⟩ := id hz
    have E4 := E3.trans e4
    refine ⟨_, rfl, z, dz, _, _, rfl, z1, .base (.ins (E4 _ _ h1) R.cl RE.ca RE.cn RE.ct RE.cm), by simp [PySem.W.notFirst], z, .ref x, rs, rfl, hz, l3, .inl ⟨x, rs, rfl, ht.ext E4, l3, true, by rw [decide_eq_true rfl], _, rfl, iteT ?_⟩⟩
    refine ⟨_, rfl, x, dx, _, rfl, E4 _ _ h1, rfl, x, rs, rfl, ht.ext E4, l3, fun lz az Hz ez _ _ _ _ hlz hpz => ?_⟩
    refine ⟨lz, dqR rs, rfl, dp_rounds ⟨az, hlz, hpz⟩, s1, s2, s3, s4, _, rfl, l, dqR rs, rfl, dp_rounds (hl.ext (E4.trans ez)), s1, s2, s3, s4, rfl, ?_⟩
    rw [decide_eq_true rfl]
    exact k Hz (E4.trans ez)
end
end Mc

set_option Elab.async false
set_option linter.all false
set_option maxRecDepth 100000
set_option maxHeartbeats 4000000
set_option exponentiation.threshold 20000
namespace Mc
open PySem PySem.Spec PyProof.Rows L2 ClX StX
section
variable {P : Program} {w : World} {K : PySem.W.Frag} {mg : Str → Option Value} {base : Heap} {f C0 aX : Addr} {mc : Value} {fd : FuncData}
theorem sc_equal_right : FnScope ["_law_made", "_law_rows", "_law_more", "_law_other", "_law_is_same", "_law_one"] ["_law_made", "_law_rows", "_law_more"] (defScope s_equal_right) := ⟨rfl, rfl, rfl, by decide +kernel, rfl, by decide +kernel, by decide +kernel⟩
def spEqualR (C0 : Addr) : Sp := fun vs H Q _ => ∃ (x l m : Addr) (rs ms : List (List Cut)), vs = [.ref x, .ref l, .ref m] ∧ PlanAt C0 H x rs ∧ RowsL H l rs ∧ OkR rs ∧ RowsL H m ms ∧ OkR ms ∧ ∀ H', Ext H H' → Q (.bl true) H'
theorem ok_equal_right (F : FunD K "_law_equal_right" "_law_equal_right" (defArgs s_equal_right) (defBody s_equal_right) (defScope s_equal_right) [] [] f fd) (T : TB mg) (R : PlanT K mg C0 aX mc) (RE : PlanE K C0) {fE : Addr} {fdE : FuncData} (mE : Meth K C0 "__eq__" fE) (GE : FnOk P w K mg base CX0 1 fE fdE ["self", "other"] (spEqP K C0)) (bE : Binds K fdE ["self", "other"] []) {fRo : Addr} {fdRo : FuncData} (mRo : Meth K C0 "rounds" fRo) (Gro : FnOk P w K mg base CX0 1 fRo fdRo ["self"] (spRounds C0)) (bRo : Binds K fdRo ["self"] []) {fRp : Addr} {fdRp : FuncData} (mRp : Meth K C0 "__repr__" fRp) (Grp : FnOkG P w K mg base CX0 3 fRp fdRp ["self"] (spReprP C0)) (bRp : Binds K fdRp ["self"] []) {fplan : Addr} {fdplan : FuncData} (Dplan : Gd P w K mg base "_law_plan" 8 ["_law_rows"] (spPlanL K C0) fplan fdplan) : FnOkG P w K mg base CX0 9 f fd ["_law_made", "_law_rows", "_law_more"] (spEqualR C0) := by
  refine okG F sc_equal_right (fun vs H Q E h => ?_) (fun cdv A outer s H vs Q E hr h => ?_)
  · obtain ⟨x, l, m, rs, ms, rfl, ht, hl, ok, hm, okm, k⟩ := h
    rfl
  · obtain ⟨x, l, m, rs, ms, rfl, ht, hl, ok, hm, okm, k⟩ := h
    refine ⟨_, (pss_cons (ps_par (i := 3) (j := 4) (by rfl) sc_equal_right.nd rfl rfl (by decide) rfl rfl (pa_cons (pe_gd Dplan hr.room (by decide) (by rfl) (pa_cons (pv 2) pa_nil)) (pa_cons (pe_cmpR (op_eqD (hu64 hr.room)) (pv 1) (pv 2) (nomark _)) pa_nil)) (by rfl))
      (pss_cons (ps_if (pt_cmpR op_ne (pe_callB (call_reprDK (K := K) hr rfl) (by rfl) T.repr boot_repr (pa_cons (pe_lst (pa_cons (pe_cmpR (op_eqO mE GE bE (hr.room.mono (by decide))) (pv 0) (pv 3) (nomark _)) (pa_cons (pe_cmpR (op_eqO mE GE bE (hr.room.mono (by decide))) (pv 3) (pv 0) (nomark _)) (pa_cons (pe_cmpR (op_neO mE RE.ne RE.cm GE bE (hr.room.mono (by decide))) (pv 0) (pv 3) (nomark _)) (pa_cons (pe_cmpR (op_neO mE RE.ne RE.cm GE bE (hr.room.mono (by decide))) (pv 3) (pv 0) (nomark _)) pa_nil))))) pa_nil)) (pe_callB (call_reprDK (K := K) hr rfl) (by rfl) T.repr boot_repr (pa_cons (pe_lst (pa_cons (pv 4) (pa_cons (pv 4) (pa_cons (pe_not (pv 4)) (pa_cons (pe_not (pv 4)) pa_nil))))) pa_nil)) (nomark _)) (pss_one (ps_ret pe_bl)) pss_nil)
      (pss_one (ps_ret (pe_not (pe_callB (cr_any rfl) (by rfl) T.any (by decide +kernel) (pa_cons (pe_lc (own := [("_law_one", 5)]) (g := gName 5) (tt := tYes) rfl sc_equal_right.nd (pi_list (pe_lst (pa_cons pe_non (pa_cons (pv 1) (pa_cons (pe_callB (call_reprOG mRp Grp bRp (RoomG.mono hr (by decide))) (by rfl) T.repr boot_repr (pa_cons (pv 0) pa_nil)) (pa_cons (pe_meth0 (pv 0) R.cl mRo Gro (hr.room.mono (by decide)) bRo .nil pass0) (pa_cons (pe_callTy call_tuple_of (by rfl) T.tuple (by decide +kernel) (pa_cons (pv 1) pa_nil)) (pa_cons pe_int (pa_cons pe_dnewK (pa_cons (pe_callB call_len_seq (by rfl) T.len PySem.boot_len (pa_cons (pv 1) pa_nil)) pa_nil)))))))))) (blkOk_by (own := [("_law_one", 5)]) (N := ["_law_made", "_law_rows", "_law_more", "_law_other", "_law_is_same", "_law_one"]) (sc := defScope s_equal_right) (by decide +kernel)) (fun _ _ _ _ _ => (pg_name (i := 5) sc_equal_right.nd rfl (.inl rfl))) (fun _ _ _ _ _ => pts_nil) (fun _ _ _ _ _ => (pe_cmpR (op_eqK mE GE bE (hr.room.mono le19) rfl) (pv 0) (pv 5) (nomark _)))) pa_nil))))))), ?_⟩
    obtain ⟨as, l1, l2⟩ := id hl
    obtain ⟨as2, m1, m2⟩ := id hm
    have l3 := ok.l3
    have m3 := okm.l3
    obtain ⟨dx, lr, lp, ll, g, h1, hin⟩ := id ht
    refine ⟨_, rfl, m, as2.map V.ref, ms, rfl, m1, pd_refs (pd_imp (fun _ _ q => q.at) m2), okm, fun y H1 e1 ny hyn => ?_⟩
    have hy := hyn.at
    obtain ⟨dy, lr2, lp2, ll2, g2, y1, y2⟩ := id hy
    refine ⟨_, rfl, _, rfl, dqR rs, dqR ms, dp_rounds (hl.ext e1), dp_rounds (hm.ext e1), shaped_R _, shaped_R _, _, _, rfl, ?_⟩
    rw [eqv_R]
    have ht1 := ht.ext e1
    have h11 := e1 _ _ h1
    have tx : TyX K H1 (.ref x) (.ref C0) := .base (.ins h11 R.cl RE.ca RE.cn RE.ct RE.cm)
    have ty : TyX K H1 (.ref y) (.ref C0) := .base (.ins y1 R.cl RE.ca RE.cn RE.ct RE.cm)
    have nf : PySem.W.notFirst K C0 (.ref C0) = true := by simp [PySem.W.notFirst]
    refine ⟨_, rfl, _, rfl, x, dx, _, _, rfl, h11, ty, nf, x, .ref y, rs, rfl, ht1, l3, .inl ⟨y, ms, rfl, hy, m3, _, rfl, ?_⟩⟩
    refine ⟨_, rfl, _, rfl, y, dy, _, _, rfl, y1, tx, nf, y, .ref x, ms, rfl, hy, m3, .inl ⟨x, rs, rfl, ht1, l3, _, rfl, ?_⟩⟩
    refine ⟨_, rfl, _, rfl, x, dx, _, _, rfl, h11, ty, nf, x, .ref y, rs, rfl, ht1, l3, .inl ⟨y, ms, rfl, hy, m3, _, rfl, ?_⟩⟩
    refine ⟨_, rfl, _, rfl, y, dy, _, _, rfl, y1, tx, nf, y, .ref x, ms, rfl, hy, m3, .inl ⟨x, rs, rfl, ht1, l3, _, rfl, ?_⟩⟩
    have es : decide (ms = rs) = decide (rs = ms) := by
      rw [Bool.eq_iff_iff, decide_eq_true_eq, decide_eq_true_eq]
      exact eq_comm
    rw [es]
    obtain ⟨sm, hsm⟩ : ∃ sm, sm = decide (rs = ms) := ⟨_, rfl⟩
    rw [← hsm]
    refine ⟨(by show 4 ≤ sizeLine; decide), fun tl htl => ?_⟩
    have e2 := Ext.upd (o := .lst [.bl sm, .bl sm, .bl (!sm), .bl (!sm)]) htl
    obtain ⟨c1, c2, c3, c4⟩ := (Sm.l4 (k := 3) (n := 10) (a := .bool sm) (b := .bool sm) (c := .bool (!sm)) (d := .bool (!sm)) (by decide) trivial trivial trivial trivial).show (by decide)
    refine ⟨tl, .list [.bool sm, .bool sm, .bool (!sm), .bool (!sm)], rfl, .lst (SqL.of (xs := [.bl sm, .bl sm, .bl (!sm), .bl (!sm)]) upd_same) (.cons (.bl _) (.cons (.bl _) (.cons (.bl _) (.cons (.bl _) .nil)))), c1, c2, c3, c4, ?_⟩
    refine ⟨_, rfl, _, rfl, _, rfl, _, rfl, _, rfl, _, rfl, (by show 4 ≤ sizeLine; decide), fun tl2 htl2 => ?_⟩
    refine ⟨tl2, .list [.bool sm, .bool sm, .bool (!sm), .bool (!sm)], rfl, .lst (SqL.of (xs := [.bl sm, .bl sm, .bl (!sm), .bl (!sm)]) upd_same) (.cons (.bl _) (.cons (.bl _) (.cons (.bl _) (.cons (.bl _) .nil)))), c1, c2, c3, c4, rfl, _, rfl, ite2 (fun hz => absurd hz (by simp)) (fun _ => ?_)⟩
    have e3 := Ext.upd (o := .lst [.bl sm, .bl sm, .bl (!sm), .bl (!sm)]) htl2
    have E3 : Ext H (upd (upd H1 tl (.lst [.bl sm, .bl sm, .bl (!sm), .bl (!sm)])) tl2 (.lst [.bl sm, .bl sm, .bl (!sm), .bl (!sm)])) := (e1.trans e2).trans e3
    have E3' : ∀ H', H' = (upd (upd H1 tl (.lst [.bl sm, .bl sm, .bl (!sm), .bl (!sm)])) tl2 (.lst [.bl sm, .bl sm, .bl (!sm), .bl (!sm)])) → Ext H H' := fun _ z => z ▸ E3
    generalize hH3 : upd (upd H1 tl _) tl2 _ = H3 at *
    have E3 := E3' H3 hH3.symm
    clear E3' hH3 e2 e3 htl htl2
    refine ⟨_, rfl, _, rfl, x, dx, _, rfl, E3 _ _ h1, x, rs, rfl, ht.ext E3, ok, fun H4 e4 => ⟨_, rfl, ?_⟩⟩
    have E4 := E3.trans e4
    refine ⟨_, rfl, x, dx, _, rfl, E4 _ _ h1, rfl, x, rs, rfl, ht.ext E4, l3, fun la a1 H5 e5 _ _ _ _ hla hpa => ?_⟩
    have E5 := E4.trans e5
    refine ⟨_, rfl, l, _, rfl, .inl ⟨SqL.of (E5 _ _ l1), fun tt htt => ?_⟩⟩
    have e6 := Ext.upd (o := .tup (as.map V.ref)) htt
    have qt : (upd H5 tt (.tup (as.map V.ref))) tt = some (.tup (as.map V.ref)) := upd_same
    generalize upd H5 tt _ = H6 at *
    refine fun dd hdd => ?_
    have e7 := Ext.upd (o := .dK []) hdd
    have qd : (upd H6 dd (.dK [])) dd = some (.dK []) := upd_same
    generalize upd H6 dd _ = H7 at *
    refine ⟨_, rfl, l, _, rfl, .inl (SqL.of (e7 _ _ (e6 _ _ (E5 _ _ l1)))), (by show 8 ≤ sizeLine; decide), fun ml hml => ⟨ml, rfl, ⟨_, SqL.of upd_same⟩, ?_⟩⟩
    have e8 := Ext.upd (o := .lst [.non, .ref l, .str (planText rs), .ref la, .ref tt, .int 0, .ref dd, .int ((as.map V.ref).length : Nat)]) hml
    have qm : (upd H7 ml (.lst [.non, .ref l, .str (planText rs), .ref la, .ref tt, .int 0, .ref dd, .int ((as.map V.ref).length : Nat)])) ml = some (.lst [.non, .ref l, .str (planText rs), .ref la, .ref tt, .int 0, .ref dd, .int ((as.map V.ref).length : Nat)]) := upd_same
    generalize upd H7 ml _ = H8 at *
    have E8 := ((E5.trans e6).trans e7).trans e8
    have hla8 := e8 _ _ (e7 _ _ (e6 _ _ hla))
    have qt8 := e8 _ _ (e7 _ _ qt)
    have qd8 := e8 _ _ qd
    refine fun D hD => lc_walk (xs := [.non, .ref l, .str (planText rs), .ref la, .ref tt, .int 0, .ref dd, .int ((as.map V.ref).length : Nat)]) walk_l (fun i H' => H' D = some (.lst (List.replicate i (.bl false))) ∧ Ext H8 H') ⟨upd_same, Ext.upd hD⟩ (fun _ _ ⟨_, e⟩ => SqL.of (e _ _ qm)) ?_ ?_
    · rintro i v H9 hv ⟨d1, e⟩
      have hi := (List.getElem?_eq_some_iff.mp hv).1
      have hi : i < 8 := hi
      have tyv : ∃ t : String, TyX K H9 v (.type t) ∧ t ∈ (["NoneType", "bool", "int", "str", "list", "tuple", "dict"] : List String) := by
        match i, hv with
        | 0, hv => cases hv; exact ⟨_, .base .non, by decide⟩
        | 1, hv => cases hv; exact ⟨_, .base (.lst (e _ _ (E8 _ _ l1))), by decide⟩
        | 2, hv => cases hv; exact ⟨_, .base (.str _), by decide⟩
        | 3, hv => cases hv; exact ⟨_, .base (.lst (e _ _ hla8)), by decide⟩
        | 4, hv => cases hv; exact ⟨_, .base (.tup (e _ _ qt8)), by decide⟩
        | 5, hv => cases hv; exact ⟨_, .base (.int _), by decide⟩
        | 6, hv => cases hv; exact ⟨_, .base (.dK (e _ _ qd8)), by decide⟩
        | 7, hv => cases hv; exact ⟨_, .base (.int _), by decide⟩
      obtain ⟨t, tyv, tm⟩ := tyv
      refine ⟨rfl, lc_yes ⟨_, rfl, _, rfl, x, dx, _, _, rfl, e _ _ (E8 _ _ h1), tyv, RE.nf t tm, x, v, rs, rfl, ht.ext (E8.trans e), l3, .inr ⟨t, tyv, tm, _, rfl, _, d1, ?_, ?_, ext_put e hD⟩⟩⟩
      · rw [List.length_replicate, sizeLine_eq]
        omega
      · rw [upd_same]
        exact congrArg (fun z => some (HO.lst z)) (rep_put i _)
    · rintro H9 ⟨d1, e⟩
      refine ⟨D, List.replicate 8 false, rfl, SqL.of (by rw [List.map_replicate]; exact d1), false, rfl, ?_⟩
      exact k H9 (E8.trans e)
end
end Mc

set_option Elab.async false
set_option linter.all false
set_option maxRecDepth 100000
set_option maxHeartbeats 4000000
set_option exponentiation.threshold 20000
namespace Mc
open PySem PySem.Spec PyProof.Rows L2 ClX StX
section
variable {P : Program} {w : World} {K : PySem.W.Frag} {mg : Str → Option Value} {base : Heap} {f C0 aX : Addr} {mc : Value} {fd : FuncData}
theorem sc_rounds : FnScope ["_law_pot_here", "_law_rows", "_law_pieces", "_law_others_here", "_law_turn", "_law_one", "_law_axes", "_law_cuts", "_law_cut", "_law_room", "_law_near", "_law_row", "_law_k"] ["_law_pot_here"] (defScope s_rounds) := ⟨rfl, rfl, rfl, by decide +kernel, rfl, by decide +kernel, by decide +kernel⟩
theorem op_neDK {X : Cx} {K : PySem.W.Frag} (hK : X.K = K) (hu : X.A.units + 64 < cLine) : OpR X (compareOp .NotEq) (rNeD K) := by
  subst hK
  exact op_neD hu
def mulN (l : List Nat) : Nat := l.foldl (fun a b => a * b) 1
theorem foldl_muln (l : List Nat) (q : Nat) : l.foldl (fun a b => a * b) q = q * mulN l := by
  induction l generalizing q with
  | nil => exact (Nat.mul_one q).symm
  | cons c r ih => unfold mulN; rw [List.foldl_cons, List.foldl_cons, ih, ih (1 * c), Nat.one_mul, Nat.mul_assoc]
theorem mulN_app (a b : List Nat) : mulN (a ++ b) = mulN a * mulN b := by
  unfold mulN
  rw [List.foldl_append, foldl_muln b]
  rfl
theorem mulN_cons (c : Nat) (r : List Nat) : mulN (c :: r) = c * mulN r := by
  show List.foldl _ (1 * c) r = _
  rw [foldl_muln, Nat.one_mul]
theorem perm_cols {l m : List Cut} (h : l.Perm m) : colsF l = colsF m ∧ rowsF l = rowsF m := by
  induction h with
  | nil => exact ⟨rfl, rfl⟩
  | cons x _ ih => exact ⟨by show _ * _ = _ * _; rw [ih.1], by show _ * _ = _ * _; rw [ih.2]⟩
  | swap x y l => exact ⟨by show _ * (_ * _) = _ * (_ * _); rw [Nat.mul_left_comm], by show _ * (_ * _) = _ * (_ * _); rw [Nat.mul_left_comm]⟩
  | trans _ _ h1 h2 => exact ⟨h1.1.trans h2.1, h1.2.trans h2.2⟩
theorem cols_ax (b : Bool) (ps os : List Nat) : colsF ((ps.map fun n => (b, n)) ++ os.map fun n => (!b, n)) = (if b then mulN ps else mulN os) ∧ rowsF ((ps.map fun n => (b, n)) ++ os.map fun n => (!b, n)) = (if b then mulN os else mulN ps) := by
  have one : ∀ (c : Bool) (l : List Nat), colsF (l.map fun n => (c, n)) = (if c then mulN l else 1) ∧ rowsF (l.map fun n => (c, n)) = (if c then 1 else mulN l) := fun c l => by
    induction l with
    | nil => cases c <;> exact ⟨rfl, rfl⟩
    | cons n r ih =>
      rw [List.map_cons, mulN_cons]
      obtain ⟨i1, i2⟩ := ih
      cases c
      · refine ⟨?_, ?_⟩
        · show 1 * colsF _ = 1
          rw [i1]; rfl
        · show n * rowsF _ = n * mulN r
          rw [i2]; rfl
      · refine ⟨?_, ?_⟩
        · show n * colsF _ = n * mulN r
          rw [i1]; rfl
        · show 1 * rowsF _ = 1
          rw [i2]; rfl
  obtain ⟨a1, a2⟩ := cols_app (ps.map fun n => (b, n)) (os.map fun n => (!b, n))
  obtain ⟨b1, b2⟩ := one b ps
  obtain ⟨c1, c2⟩ := one (!b) os
  rw [a1, a2, b1, b2, c1, c2]
  cases b <;> simp
theorem mul_flat : ∀ (R : List (List Cut)), mulF (partsF R) = ((colsF R.flatten : Int), (rowsF R.flatten : Int)) := fun R => by
  have go : ∀ (R : List (List Cut)) (q : Pr), (R.map fun cs => ((colsF cs : Int), (rowsF cs : Int))).foldl (fun q r => (q.1 * r.1, q.2 * r.2)) q = (q.1 * (colsF R.flatten : Int), q.2 * (rowsF R.flatten : Int)) := fun R => by
    induction R with
    | nil => intro q; show q = (q.1 * ((1 : Nat) : Int), q.2 * ((1 : Nat) : Int)); rw [show ((1 : Nat) : Int) = 1 from rfl, Int.mul_one, Int.mul_one]
    | cons c r ih =>
      intro q
      rw [List.map_cons, List.foldl_cons, ih, List.flatten_cons]
      obtain ⟨a1, a2⟩ := cols_app c r.flatten
      rw [a1, a2, Int.natCast_mul, Int.natCast_mul, Int.mul_assoc, Int.mul_assoc]
  have := go R (1, 1)
  rw [Int.one_mul, Int.one_mul] at this
  exact this
theorem flat_filter (R : List (List Cut)) : (R.filter fun cs => !cs.isEmpty).flatten = R.flatten := by
  induction R with
  | nil => rfl
  | cons c r ih =>
    rw [List.filter_cons]
    cases c with
    | nil => simpa using ih
    | cons a b => simp [ih]
theorem perm_set : ∀ {R : List (List Cut)} {i : Nat} {cs : List Cut} (c : Cut), R[i]? = some cs → ((R.set i (cs ++ [c])).flatten).Perm (R.flatten ++ [c])
  | [], _, _, _, h => by simp at h
  | d :: r, 0, cs, c, h => by
    have : d = cs := by simpa using h
    subst this
    rw [List.set_cons_zero, List.flatten_cons, List.flatten_cons, List.append_assoc, List.append_assoc]
    exact List.Perm.append_left _ List.perm_append_comm
  | d :: r, i + 1, cs, c, h => by
    rw [List.set_cons_succ, List.flatten_cons, List.flatten_cons, List.append_assoc]
    exact List.Perm.append_left _ (perm_set c (by simpa using h))
/-- what the rows keep -/
structure RowsOk (R : List (List Cut)) : Prop where
  l3 : R.length ≤ 3
  h5 : ∀ cs ∈ R, cs.length ≤ 5
  hc : ∀ cs ∈ R, ∀ c ∈ cs, okC c
  h32 : ∀ cs ∈ R, prodF cs ≤ 32
theorem RowsOk.put {R : List (List Cut)} (r : RowsOk R) {i : Nat} {cs : List Cut} {c : Cut} (h : R[i]? = some cs) (hc : okC c) (h5 : cs.length < 5) (h32 : prodF cs * c.2 ≤ 32) : RowsOk (R.set i (cs ++ [c])) := by
  have mem : ∀ d ∈ R.set i (cs ++ [c]), d ∈ R ∨ d = cs ++ [c] := fun d m => List.mem_or_eq_of_mem_set m
  have hm := List.mem_of_getElem? h
  have pe : prodF (cs ++ [c]) = prodF cs * c.2 := by
    unfold prodF
    rw [List.foldl_append]
    rfl
  refine ⟨by rw [List.length_set]; exact r.l3, fun d m => ?_, fun d m x hx => ?_, fun d m => ?_⟩
  · rcases mem d m with h | rfl
    · exact r.h5 d h
    · rw [List.length_append]; show cs.length + 1 ≤ 5; omega
  · rcases mem d m with h | rfl
    · exact r.hc d h x hx
    · rcases List.mem_append.mp hx with h | h
      · exact r.hc cs hm x h
      · rw [List.mem_singleton.mp h]; exact hc
  · rcases mem d m with h | rfl
    · exact r.h32 d h
    · rw [pe]; exact h32
theorem RowsOk.okR {R : List (List Cut)} (r : RowsOk R) {b : Bool} {ps os : List Nat} (pm : R.flatten.Perm ((ps.map fun n => (b, n)) ++ os.map fun n => (!b, n))) (e : mulN ps = mulN os) (n : 0 < ps.length) : OkR (R.filter fun cs => !cs.isEmpty) := by
  have mem : ∀ cs ∈ R.filter fun cs => !cs.isEmpty, cs ∈ R ∧ cs ≠ [] := fun cs m => by
    obtain ⟨h1, h2⟩ := List.mem_filter.mp m
    refine ⟨h1, fun z => ?_⟩
    rw [z] at h2
    cases h2
  refine ⟨?_, Nat.le_trans (List.length_filter_le _ _) r.l3, fun cs m => ?_, fun cs m => r.h5 cs (mem cs m).1, fun cs m => r.hc cs (mem cs m).1, fun cs m => ?_, ?_⟩
  · cases h : R.filter fun cs => !cs.isEmpty with
    | cons a b => rw [List.length_cons]; omega
    | nil =>
      have := flat_filter R
      rw [h] at this
      rw [← this] at pm
      have := pm.length_eq
      rw [List.length_append, List.length_map] at this
      simp at this
      omega
  · have := (mem cs m).2
    exact List.length_pos_iff.mpr this
  · have := r.h32 cs (mem cs m).1
    rwa [prod_cols] at this
  · rw [mul_flat, flat_filter]
    obtain ⟨h1, h2⟩ := perm_cols pm
    obtain ⟨c1, c2⟩ := cols_ax b ps os
    show ((colsF R.flatten : Nat) : Int) = ((rowsF R.flatten : Nat) : Int)
    rw [h1, h2, c1, c2, e]
def spRoundsC : Sp := fun vs H Q _ => ∃ p : Addr, vs = [.ref p] ∧ Pot H p ∧ ∀ l H' rs, Frm [p] H H' → Pot H' p → RowsL H' l rs → OkR rs → H l = none → Q (.ref l) H'
theorem Frm.putN {p : Addr} {H H' : Hp} (f : Frm [p] H H') {q : Addr} {o : HO} (n : H q = none) : Frm [p] H (upd H' q o) := fun a u z m => by
  rw [upd_ne (fun w => by rw [w, n] at z; cases z)]
  exact f a u z m
theorem pd_perm {α β : Type} {F : α → β → Prop} {l' l : List α} (h : l'.Perm l) : ∀ {m : List β}, Paired F l m → ∃ m', Paired F l' m' ∧ m'.Perm m := by
  induction h with
  | nil => intro m pd; cases pd; exact ⟨[], .nil, .nil⟩
  | cons x _ ih =>
    intro m pd
    cases pd with
    | cons r t =>
      obtain ⟨m', h1, h2⟩ := ih t
      exact ⟨_ :: m', .cons r h1, h2.cons _⟩
  | swap x y l =>
    intro m pd
    cases pd with
    | cons r t =>
      cases t with
      | cons r2 t2 => exact ⟨_, .cons r2 (.cons r t2), .swap _ _ _⟩
  | trans _ _ ih1 ih2 =>
    intro m pd
    obtain ⟨m1, h1, h2⟩ := ih2 pd
    obtain ⟨m2, g1, g2⟩ := ih1 h1
    exact ⟨m2, g1, g2.trans h2⟩
/-- the rows as they stand while they are filled -/
structure RowsH (H : Hp) (p D : Addr) (as : List Addr) (R : List (List Cut)) : Prop where
  l : H D = some (.lst (as.map V.ref))
  r : Paired (CutsL H) as R
  nd : as.Nodup
  nD : D ∉ as
  np : p ∉ as
  Dp : D ≠ p
theorem CutsL.frm {H H' : Hp} {p a : Addr} {cs : List Cut} (h : CutsL H a cs) (hp : Pot H p) (n : a ≠ p) (f : Frm [p] H H') : CutsL H' a cs := by
  obtain ⟨bs, h1, h2⟩ := h
  exact ⟨bs, f _ _ h1 (fun z => n (List.mem_singleton.mp z)), pd_imp (fun _ _ q => f.tup hp q) h2⟩
theorem pd_impL {α β : Type} {F G : α → β → Prop} : ∀ {l : List α} {m : List β}, (∀ a b, a ∈ l → F a b → G a b) → Paired F l m → Paired G l m
  | _, _, _, .nil => .nil
  | _, _, h, .cons r t => .cons (h _ _ (.head _) r) (pd_impL (fun a b m => h a b (.tail _ m)) t)
theorem RowsH.frm {H H' : Hp} {p D : Addr} {as : List Addr} {R : List (List Cut)} (h : RowsH H p D as R) (hp : Pot H p) (f : Frm [p] H H') : RowsH H' p D as R :=
  ⟨f _ _ h.l (fun z => h.Dp (List.mem_singleton.mp z)), pd_impL (fun a cs m q => q.frm hp (fun z => h.np (z ▸ m)) f) h.r, h.nd, h.nD, h.np, h.Dp⟩
theorem pd_set {H H' : Hp} {as : List Addr} {R : List (List Cut)} {i : Nat} {a : Addr} {cs' : List Cut} (h : Paired (CutsL H) as R) (nd : as.Nodup) (ha : as[i]? = some a) (h1 : ∀ b cs, b ≠ a → CutsL H b cs → CutsL H' b cs) (h2 : CutsL H' a cs') : Paired (CutsL H') as (R.set i cs') := by
  induction h generalizing i with
  | nil => simp at ha
  | @cons b c l m r t ih =>
    obtain ⟨n1, n2⟩ := List.nodup_cons.mp nd
    cases i with
    | zero =>
      have : b = a := by simpa using ha
      subst this
      exact .cons h2 (pd_impL (fun x cs m q => h1 x cs (fun z => n1 (z ▸ m)) q) t)
    | succ j =>
      have ha' : l[j]? = some a := by simpa using ha
      have nb : b ≠ a := fun z => n1 (z ▸ List.mem_of_getElem? ha')
      exact .cons (h1 _ _ nb r) (ih n2 ha')
theorem RowsH.ext {H H' : Hp} {p D : Addr} {as : List Addr} {R : List (List Cut)} (h : RowsH H p D as R) (e : Ext H H') : RowsH H' p D as R :=
  ⟨e _ _ h.l, pd_imp (fun _ _ q => q.ext e) h.r, h.nd, h.nD, h.np, h.Dp⟩
theorem RowsH.put {H : Hp} {p D q : Addr} {as : List Addr} {R : List (List Cut)} {xs ys : List V} (h : RowsH H p D as R) (hq : H q = some (.lst xs)) (n1 : q ≠ D) (n2 : q ∉ as) : RowsH (upd H q (.lst ys)) p D as R :=
  ⟨by rw [upd_ne (Ne.symm n1)]; exact h.l, pd_impL (fun a cs m r => side_cuts hq (fun z => n2 (z ▸ m)) r) h.r, h.nd, h.nD, h.np, h.Dp⟩
theorem Pot.putN {H : Hp} {p q : Addr} {o : HO} (h : Pot H p) (n : q ≠ p) : Pot (upd H q o) p := by
  obtain ⟨a, b, e, ok⟩ := h
  exact ⟨a, b, by rw [upd_ne (Ne.symm n)]; exact e, ok⟩
theorem nat_get {zs : List Nat} {i : Nat} {x : V} (h : (zs.map fun z : Nat => V.int z)[i]? = some x) : ∃ z : Nat, zs[i]? = some z ∧ x = .int (z : Nat) := by
  rw [List.getElem?_map] at h
  cases e : zs[i]? with
  | none => rw [e] at h; cases h
  | some z => rw [e] at h; exact ⟨z, rfl, (Option.some.inj h).symm⟩
theorem pd_app {α β : Type} {F : α → β → Prop} : ∀ {l : List α} {m : List β} {l' : List α} {m' : List β}, Paired F l m → Paired F l' m' → Paired F (l ++ l') (m ++ m')
  | _, _, _, _, .nil, h => h
  | _, _, _, _, .cons r t, h => .cons r (pd_app t h)
theorem pd_mapV {F : V → Cut → Prop} : ∀ {l : List Addr} {m : List Cut}, Paired (fun a c => F (.ref a) c) l m → Paired F (l.map V.ref) m
  | _, _, .nil => .nil
  | _, _, .cons r t => .cons r (pd_mapV t)
theorem ok_rounds (F : FunD K "_law_rounds" "_law_rounds" (defArgs s_rounds) (defBody s_rounds) (defScope s_rounds) [] [] f fd) (T : TB mg) {fdraw : Addr} {fddraw : FuncData} (Ddraw : Gd P w K mg base "_law_draw" 1 ["_law_pot_here", "_law_size"] (spDraw) fdraw fddraw) {fpick : Addr} {fdpick : FuncData} (Dpick : Gd P w K mg base "_law_pick" 2 ["_law_pot_here", "_law_some"] (spPick) fpick fdpick) {fproduct : Addr} {fdproduct : FuncData} (Dproduct : Gd P w K mg base "_law_product" 1 ["_law_row"] (spProduct K) fproduct fdproduct) {fmixed : Addr} {fdmixed : FuncData} (Dmixed : Gd P w K mg base "_law_mixed" 2 ["_law_pot_here", "_law_some"] (spMixedV) fmixed fdmixed) : FnOk P w K mg base CX0 3 f fd ["_law_pot_here"] (spRoundsC) := by
  refine F.ok sc_rounds (fun vs H Q E h => ?_) (fun cdv A outer s H vs Q E hr h => ?_)
  · obtain ⟨p, rfl, hp, k⟩ := h
    rfl
  · obtain ⟨p, rfl, hp, k⟩ := h
    refine ⟨_, (PSs.nox (pss_cons (ps_par3 (i := 1) (j := 2) (l := 3) (by rfl) sc_rounds.nd rfl rfl rfl (by decide) (by decide) (by decide) rfl rfl rfl (pa_cons (pe_lc (own := [("_law_k", 12)]) (g := gName 12) (tt := tYes) rfl sc_rounds.nd (pi_range1 (by rfl) T.range (pa_cons (pe_op op_add pe_int (pe_gd Ddraw hr (by decide) (by rfl) (pa_cons (pv 0) (pa_cons pe_int pa_nil)))) pa_nil)) (blkOk_by (own := [("_law_k", 12)]) (N := ["_law_pot_here", "_law_rows", "_law_pieces", "_law_others_here", "_law_turn", "_law_one", "_law_axes", "_law_cuts", "_law_cut", "_law_room", "_law_near", "_law_row", "_law_k"]) (sc := defScope s_rounds) (by decide +kernel)) (fun _ _ _ _ _ => (pg_name (i := 12) sc_rounds.nd rfl (.inl rfl))) (fun _ _ _ _ _ => pts_nil) (fun _ _ _ _ _ => (pe_lst pa_nil))) (pa_cons (pe_lst pa_nil) (pa_cons (pe_lst pa_nil) pa_nil))) (by rfl))
      (pss_cons (ps_for PassesOwn.never rfl (pi_range1 (by rfl) T.range (pa_cons (pe_op op_add pe_int (pe_gd Ddraw hr (by decide) (by rfl) (pa_cons (pv 0) (pa_cons pe_int pa_nil)))) pa_nil)) (pg_name (i := 4) sc_rounds.nd rfl (.inl rfl)) (pss_cons (ps_set (i := 5) sc_rounds.nd rfl (.inl rfl) (pe_gd Dpick hr (by decide) (by rfl) (pa_cons (pv 0) (pa_cons (pe_lst (pa_cons pe_int (pa_cons pe_int (pa_cons pe_int (pa_cons pe_int pa_nil))))) pa_nil))))
      (pss_cons (ps_expr (pe_bm PySem.F.plainAttrs_list PySem.F.slot_list_append PySem.F.type_list_append mt_append (pv 2) (pa_cons (pv 5) pa_nil)))
      (pss_one (ps_expr (pe_bm PySem.F.plainAttrs_list PySem.F.slot_list_extend PySem.F.type_list_extend mt_extend (pv 3) (pa_cons (pe_ifExp (PW.pt (pw_and (pt_cmpR op_eq (pv 5) pe_int (nomark _)) (pw_and1 (pt_cmpR op_eq (pe_gd Ddraw hr (by decide) (by rfl) (pa_cons (pv 0) (pa_cons pe_int pa_nil))) pe_int (nomark _))))) (pe_lst (pa_cons pe_int (pa_cons pe_int pa_nil))) (pe_lst (pa_cons (pv 5) pa_nil))) pa_nil)))))))
      (pss_cons (ps_set (i := 6) sc_rounds.nd rfl (.inr rfl) (pe_gd Dpick hr (by decide) (by rfl) (pa_cons (pv 0) (pa_cons (pe_lst (pa_cons (pe_lst (pa_cons pe_str (pa_cons pe_str pa_nil))) (pa_cons (pe_lst (pa_cons pe_str (pa_cons pe_str pa_nil))) pa_nil))) pa_nil))))
      (pss_cons (ps_set (i := 7) sc_rounds.nd rfl (.inl rfl) (pe_op op_cat (pe_lc (own := [("_law_one", 5)]) (g := gName 5) (tt := tYes) rfl sc_rounds.nd (pi_list (pv 2)) (blkOk_by (own := [("_law_one", 5)]) (N := ["_law_pot_here", "_law_rows", "_law_pieces", "_law_others_here", "_law_turn", "_law_one", "_law_axes", "_law_cuts", "_law_cut", "_law_room", "_law_near", "_law_row", "_law_k"]) (sc := defScope s_rounds) (by decide +kernel)) (fun _ _ _ _ _ => (pg_name (i := 5) sc_rounds.nd rfl (.inl rfl))) (fun _ _ _ _ _ => pts_nil) (fun _ _ _ _ _ => (pe_tup (pa_cons (pe_ix (ix_seqK (K := K) rfl) (pv 6) pe_int (fun _ _ => rfl)) (pa_cons (pv 5) pa_nil))))) (pe_lc (own := [("_law_one", 5)]) (g := gName 5) (tt := tYes) rfl sc_rounds.nd (pi_list (pv 3)) (blkOk_by (own := [("_law_one", 5)]) (N := ["_law_pot_here", "_law_rows", "_law_pieces", "_law_others_here", "_law_turn", "_law_one", "_law_axes", "_law_cuts", "_law_cut", "_law_room", "_law_near", "_law_row", "_law_k"]) (sc := defScope s_rounds) (by decide +kernel)) (fun _ _ _ _ _ => (pg_name (i := 5) sc_rounds.nd rfl (.inl rfl))) (fun _ _ _ _ _ => pts_nil) (fun _ _ _ _ _ => (pe_tup (pa_cons (pe_ix (ix_seqK (K := K) rfl) (pv 6) pe_int (fun _ _ => rfl)) (pa_cons (pv 5) pa_nil)))))))
      (pss_cons (ps_for PassesOwn.never rfl (pi_list (pe_gd Dmixed hr (by decide) (by rfl) (pa_cons (pv 0) (pa_cons (pv 7) pa_nil)))) (pg_name (i := 8) sc_rounds.nd rfl (.inr rfl)) (pss_cons (ps_setLc (i := 9) (own := [("_law_row", 11)]) (g := gName 11) rfl sc_rounds.nd rfl rfl (sw_true rfl rfl rfl (by decide +kernel)) (pi_list (pv 1)) (blkOk_by (own := [("_law_row", 11)]) (N := ["_law_pot_here", "_law_rows", "_law_pieces", "_law_others_here", "_law_turn", "_law_one", "_law_axes", "_law_cuts", "_law_cut", "_law_room", "_law_near", "_law_row", "_law_k"]) (sc := defScope s_rounds) (by decide +kernel)) (fun _ _ _ _ _ => (pg_name (i := 11) sc_rounds.nd rfl (.inl rfl))) (fun _ _ _ _ _ => (pts_one (PW.pt (pw_and (pt_cmpR op_lt (pe_callB (call_lenK (K := K) rfl) (by rfl) T.len PySem.boot_len (pa_cons (pv 11) pa_nil)) pe_int (nomark _)) (pw_and1 (pt_cmpR op_le (pe_op op_mul (pe_gd Dproduct hr (by decide) (by rfl) (pa_cons (pv 11) pa_nil)) (pe_ix (ix_seqK (K := K) rfl) (pv 8) pe_int (fun _ _ => rfl))) pe_int (nomark _))))))) (fun _ _ _ _ _ => (pv 11)))
      (pss_cons (ps_if (pt_cmpR (op_eqD (hu64 hr)) (pv 9) (pe_lst pa_nil) (nomark _)) (pss_one (ps_ret (pe_lst (pa_cons (pe_lst (pa_cons (pe_tup (pa_cons pe_str (pa_cons pe_int pa_nil))) (pa_cons (pe_tup (pa_cons pe_str (pa_cons pe_int pa_nil))) pa_nil))) pa_nil)))) pss_nil)
      (pss_cons (ps_set (i := 10) sc_rounds.nd rfl (.inl rfl) (pe_gd Dpick hr (by decide) (by rfl) (pa_cons (pv 0) (pa_cons (pv 9) pa_nil))))
      (pss_one (ps_expr (pe_bm PySem.F.plainAttrs_list PySem.F.slot_list_append PySem.F.type_list_append mt_append (pv 10) (pa_cons (pv 8) pa_nil))))))))
      (pss_one (ps_ret (pe_lc (own := [("_law_row", 11)]) (g := gName 11) rfl sc_rounds.nd (pi_list (pv 1)) (blkOk_by (own := [("_law_row", 11)]) (N := ["_law_pot_here", "_law_rows", "_law_pieces", "_law_others_here", "_law_turn", "_law_one", "_law_axes", "_law_cuts", "_law_cut", "_law_room", "_law_near", "_law_row", "_law_k"]) (sc := defScope s_rounds) (by decide +kernel)) (fun _ _ _ _ _ => (pg_name (i := 11) sc_rounds.nd rfl (.inl rfl))) (fun _ _ _ _ _ => (pts_one (pt_cmpR (op_neDK (K := K) rfl (hu64 hr)) (pv 11) (pe_lst pa_nil) (nomark _)))) (fun _ _ _ _ _ => (pv 11))))))))))), ?_⟩
    have szl : sizeLine = 16777216 := sizeLine_eq
    refine ⟨_, rfl, p, 3, rfl, hp, by decide, by decide, fun r1 H1 a0 a1 F1 hp1 => ?_⟩
    obtain ⟨r1, rfl⟩ := Int.eq_ofNat_of_zero_le a0
    refine ⟨_, _, rfl, rfl, ((1 + r1 : Nat) : Int), rfl, by omega, by omega, fun D hD => ?_⟩
    have Dp : D ≠ p := hp1.ne hD
    have DH := F1.free hD (fun z => Dp (List.mem_singleton.mp z))
    refine lc_walk (walk_r (lo := 0)) (fun i H' => ∃ as : List Addr, H' D = some (.lst (as.map V.ref)) ∧ as.length = i ∧ (∀ a ∈ as, H' a = some (.lst []) ∧ H1 a = none ∧ a ≠ D) ∧ as.Nodup ∧ Ext H1 H') ⟨[], upd_same, rfl, (fun a m => nomatch m), List.nodup_nil, Ext.upd hD⟩ (fun _ _ _ => trivial) ?_ ?_
    · rintro i y H2 hy ⟨as, d1, la, aa, nd, e⟩
      obtain ⟨hi, _⟩ := range_get hy
      rw [Int.toNat_natCast] at hi
      refine ⟨rfl, lc_yes ⟨(by show 0 ≤ sizeLine; decide), fun a ha => ?_⟩⟩
      have e3 := Ext.upd (o := .lst []) ha
      have Da : a ≠ D := fun z => by rw [z, d1] at ha; cases ha
      have an : a ∉ as := fun m => by rw [(aa a m).1] at ha; cases ha
      refine ⟨_, e3 _ _ d1, by rw [List.length_map, szl]; omega, as ++ [a], by rw [upd_same, List.map_append]; rfl, by rw [List.length_append, la]; rfl, fun b m => ?_, ?_, ext_put (e.trans e3) hD⟩
      · rcases List.mem_append.mp m with h | h
        · obtain ⟨b1, b2, b3⟩ := aa b h
          exact ⟨by rw [upd_ne b3]; exact e3 _ _ b1, b2, b3⟩
        · rw [List.mem_singleton.mp h]
          exact ⟨by rw [upd_ne Da, upd_same], none_of e ha, Da⟩
      · rw [List.nodup_append]
        exact ⟨nd, List.nodup_cons.mpr ⟨by simp, List.nodup_nil⟩, fun x hx y hy z => by rw [z, List.mem_singleton.mp hy] at hx; exact an hx⟩
    rintro H2 ⟨as, d1, la, aa, nd, e⟩
    rw [List.length_map, List.length_range, Int.toNat_natCast] at la
    have FA : Frm [p] H H2 := F1.trans (Frm.ext e)
    have hp2 := hp1.frm (M := []) (Frm.ext e) (fun z => nomatch z)
    have aH : ∀ a ∈ as, H a = none ∧ a ≠ p := fun a m => by
      have h1 := (aa a m).2.1
      have h2 := hp1.ne h1
      exact ⟨F1.free h1 (fun z => h2 (List.mem_singleton.mp z)), h2⟩
    refine ⟨(by show 0 ≤ sizeLine; decide), fun P1 hP1 => ⟨(by show 0 ≤ sizeLine; decide), fun P2 hP2 => ⟨_, _, _, rfl, ?_⟩⟩⟩
    have P12 : P1 ≠ P2 := fun z => by rw [← z, upd_same] at hP2; cases hP2
    have hP2' := none_of (Ext.upd hP1) hP2
    have P1p : P1 ≠ p := hp2.ne hP1
    have P2p : P2 ≠ p := hp2.ne hP2'
    have P1H := FA.free hP1 (fun z => P1p (List.mem_singleton.mp z))
    have P2H := FA.free hP2' (fun z => P2p (List.mem_singleton.mp z))
    have P1D : P1 ≠ D := fun z => by rw [z, d1] at hP1; cases hP1
    have P2D : P2 ≠ D := fun z => by rw [z, d1] at hP2'; cases hP2'
    have e3 := (Ext.upd (o := .lst []) hP1).trans (Ext.upd (o := .lst []) hP2)
    have q1 : (upd (upd H2 P1 (.lst [])) P2 (.lst [])) P1 = some (.lst (([] : List Nat).map fun n : Nat => V.int n)) := by rw [upd_ne P12, upd_same]; rfl
    have q2 : (upd (upd H2 P1 (.lst [])) P2 (.lst [])) P2 = some (.lst (([] : List Nat).map fun n : Nat => V.int n)) := upd_same
    have rw0 : RowsH (upd (upd H2 P1 (.lst [])) P2 (.lst [])) p D as (List.replicate as.length []) := by
      refine ⟨e3 _ _ d1, ?_, nd, fun m => (aa D m).2.2 rfl, fun m => (aH p m).2 rfl, Dp⟩
      have go : ∀ l : List Addr, (∀ a ∈ l, a ∈ as) → Paired (CutsL (upd (upd H2 P1 (.lst [])) P2 (.lst []))) l (List.replicate l.length []) := fun l => by
        induction l with
        | nil => intro _; exact .nil
        | cons a t ih => intro h; exact .cons ⟨[], e3 _ _ (aa a (h a (.head _))).1, .nil⟩ (ih fun b m => h b (.tail _ m))
      exact go as fun _ m => m
    have FB := FA.trans (Frm.ext (M := [p]) e3)
    have hpB := hp2.frm (M := []) (Frm.ext e3) (fun z => nomatch z)
    generalize upd (upd H2 P1 (.lst [])) P2 (.lst []) = H3 at *
    have las3 : as.length ≤ 3 := by omega
    refine ⟨_, rfl, p, 3, rfl, hpB, by decide, by decide, fun r2 H4 b0 b1 F4 hp4 => ?_⟩
    obtain ⟨r2, rfl⟩ := Int.eq_ofNat_of_zero_le b0
    have q1 := F4 _ _ q1 (fun z => P1p (List.mem_singleton.mp z))
    have q2 := F4 _ _ q2 (fun z => P2p (List.mem_singleton.mp z))
    have rw0 := rw0.frm hpB F4
    have FB := FB.trans F4
    have nP1 : P1 ∉ as := fun m => by obtain ⟨b1, b2, b3⟩ := aa P1 m; rw [b1] at hP1; cases hP1
    have nP2 : P2 ∉ as := fun m => by obtain ⟨b1, b2, b3⟩ := aa P2 m; rw [b1] at hP2'; cases hP2'
    clear aa hP1 hP2 hP2' e3 d1 F1 hp1 F4 hpB
    refine ⟨_, _, rfl, rfl, ((1 + r2 : Nat) : Int), rfl, by omega, by omega, for_walk (walk_r (lo := 0)) (fun i σ H' => ∃ u4 u5 ps os, σ = [some (.ref p), some (.ref D), some (.ref P1), some (.ref P2), u4, u5, none, none, none, none, none, none, none] ∧ H' P1 = some (.lst (ps.map fun n : Nat => V.int n)) ∧ H' P2 = some (.lst (os.map fun n : Nat => V.int n)) ∧ mulN ps = mulN os ∧ ps.length = i ∧ os.length ≤ 2 * i ∧ (∀ n ∈ ps ++ os, 2 ≤ n ∧ n ≤ 4) ∧ Pot H' p ∧ Frm [p] H H' ∧ RowsH H' p D as (List.replicate as.length [])) ⟨none, none, [], [], rfl, q1, q2, rfl, rfl, Nat.zero_le _, (fun n m => absurd m (by simp)), hp4, FB, rw0⟩ (fun _ _ _ _ => trivial) ?_ ?_⟩
    · rintro i y σ H5 hy ⟨u4, u5, ps, os, rfl, c1, c2, em, lp, lo, mem, hp5, F5, rw5⟩
      obtain ⟨hi, rfl⟩ := range_get hy
      rw [Int.toNat_natCast] at hi
      refine ⟨_, rfl, (by show 4 ≤ sizeLine; decide), fun ml hml => ⟨p, ml, _, rfl, hp5.new hml, upd_same, hp5.ne hml, (by show 0 < 4; decide), (by show 4 ≤ 1000; decide), fun j v H6 hv F6 hp6 => ?_⟩⟩
      obtain ⟨n, rfl, hn⟩ : ∃ n : Nat, v = .int (n : Nat) ∧ (n = 2 ∨ n = 3 ∨ n = 4) := by
        match j, hv with
        | 0, hv => exact ⟨2, by cases hv; rfl, .inl rfl⟩
        | 1, hv => exact ⟨2, by cases hv; rfl, .inl rfl⟩
        | 2, hv => exact ⟨3, by cases hv; rfl, .inr (.inl rfl)⟩
        | 3, hv => exact ⟨4, by cases hv; rfl, .inr (.inr rfl)⟩
      have F56 : Frm [p] H5 H6 := (Frm.new hml).trans F6
      have np1 : P1 ∉ [p] := fun z => P1p (List.mem_singleton.mp z)
      have np2 : P2 ∉ [p] := fun z => P2p (List.mem_singleton.mp z)
      have c1 := F56 _ _ c1 np1
      have c2 := F56 _ _ c2 np2
      have rw6 := rw5.frm hp5 F56
      have F6' := F5.trans F56
      refine ⟨_, rfl, .inl ⟨rfl, _, SqL.of c1⟩, _, rfl, P1, _, _, rfl, rfl, c1, by rw [List.length_map, szl]; omega, ?_⟩
      have c1' : (upd H6 P1 (.lst (ps.map (fun n : Nat => V.int n) ++ [.int (n : Nat)]))) P1 = some (.lst ((ps ++ [n]).map fun n : Nat => V.int n)) := by rw [upd_same, List.map_append]; rfl
      have c2' : (upd H6 P1 (.lst (ps.map (fun n : Nat => V.int n) ++ [.int (n : Nat)]))) P2 = some (.lst (os.map fun n : Nat => V.int n)) := by rw [upd_ne (Ne.symm P12)]; exact c2
      have rw7 := rw6.put (ys := ps.map (fun n : Nat => V.int n) ++ [.int (n : Nat)]) c1 P1D nP1
      have hp7 := hp6.putN (o := .lst (ps.map (fun n : Nat => V.int n) ++ [.int (n : Nat)])) P1p
      have F7 := F6'.putN (o := .lst (ps.map (fun n : Nat => V.int n) ++ [.int (n : Nat)])) P1H
      generalize upd H6 P1 (.lst (ps.map (fun n : Nat => V.int n) ++ [.int (n : Nat)])) = H7 at *
      have fin : ∀ (zs : List Nat) (H8 : Hp) (q : Addr), mulN zs = n → zs.length ≤ 2 → (∀ m ∈ zs, 2 ≤ m ∧ m ≤ 4) → H8 q = none → H8 P1 = some (.lst ((ps ++ [n]).map fun n : Nat => V.int n)) → H8 P2 = some (.lst (os.map fun n : Nat => V.int n)) → Pot H8 p → Frm [p] H H8 → RowsH H8 p D as (List.replicate as.length []) →
          ∃ ys ws, (upd H8 q (.lst (zs.map fun n : Nat => V.int n))) P2 = some (.lst ys) ∧ (upd H8 q (.lst (zs.map fun n : Nat => V.int n))) q = some (.lst ws) ∧ ys.length + ws.length ≤ sizeLine ∧ ∃ u4 u5 ps' os', ([some (.ref p), some (.ref D), some (.ref P1), some (.ref P2), some (.int (i : Nat)), some (.int (n : Nat)), none, none, none, none, none, none, none] : L2.St) = [some (.ref p), some (.ref D), some (.ref P1), some (.ref P2), u4, u5, none, none, none, none, none, none, none] ∧ (upd (upd H8 q (.lst (zs.map fun n : Nat => V.int n))) P2 (.lst (ys ++ ws))) P1 = some (.lst (ps'.map fun n : Nat => V.int n)) ∧ (upd (upd H8 q (.lst (zs.map fun n : Nat => V.int n))) P2 (.lst (ys ++ ws))) P2 = some (.lst (os'.map fun n : Nat => V.int n)) ∧ mulN ps' = mulN os' ∧ ps'.length = i + 1 ∧ os'.length ≤ 2 * (i + 1) ∧ (∀ n ∈ ps' ++ os', 2 ≤ n ∧ n ≤ 4) ∧ Pot (upd (upd H8 q (.lst (zs.map fun n : Nat => V.int n))) P2 (.lst (ys ++ ws))) p ∧ Frm [p] H (upd (upd H8 q (.lst (zs.map fun n : Nat => V.int n))) P2 (.lst (ys ++ ws))) ∧ RowsH (upd (upd H8 q (.lst (zs.map fun n : Nat => V.int n))) P2 (.lst (ys ++ ws))) p D as (List.replicate as.length []) := fun zs H8 q hz lz mz hq g1 g2 hp8 F8 rw8 => by
        have eq := Ext.upd (o := .lst (zs.map fun n : Nat => V.int n)) hq
        refine ⟨_, _, eq _ _ g2, upd_same, by rw [List.length_map, List.length_map, szl]; omega, _, _, ps ++ [n], os ++ zs, rfl, by rw [upd_ne P12]; exact eq _ _ g1, by rw [upd_same, List.map_append], ?_, by rw [List.length_append, lp]; rfl, by rw [List.length_append]; omega, fun m hm => ?_, (hp8.new hq).putN P2p, (F8.trans (Frm.ext eq)).putN P2H, (rw8.ext eq).put (eq _ _ g2) P2D nP2⟩
        · rw [mulN_app, mulN_app, em, hz]
          show mulN os * mulN [n] = _
          rw [mulN_cons]
          show mulN os * (n * 1) = _
          rw [Nat.mul_one]
        · rcases List.mem_append.mp hm with h | h
          · rcases List.mem_append.mp h with h | h
            · exact mem m (List.mem_append.mpr (.inl h))
            · rw [List.mem_singleton.mp h]; omega
          · rcases List.mem_append.mp h with h | h
            · exact mem m (List.mem_append.mpr (.inr h))
            · exact mz m h
      have one : mulN [n] = n := by rw [mulN_cons]; exact Nat.mul_one n
      refine ⟨_, rfl, .inl ⟨rfl, _, SqL.of c2'⟩, _, rfl, rfl, _, rfl, ite2 (fun h4 => ?_) (fun h4 => iteF ?_)⟩
      · have hn4 : n = 4 := by
          have := V.int.inj (of_decide_eq_true h4)
          omega
        refine ⟨_, rfl, p, 2, rfl, hp7, by decide, by decide, fun r3 H8 d0 d1 F8 hp8 => ⟨rfl, _, rfl, ite2 (fun hd => ?_) (fun hd => ?_)⟩⟩
        · refine ⟨(by show 2 ≤ sizeLine; decide), fun q hq => ?_⟩
          obtain ⟨ys, ws, g1, g2, g3, g4⟩ := fin [2, 2] H8 q (by rw [hn4]; rfl) (by decide) (by decide) hq (F8 _ _ c1' np1) (F8 _ _ c2' np2) hp8 (F7.trans F8) (rw7.frm hp7 F8)
          exact ⟨P2, q, ys, ws, rfl, rfl, g1, g2, g3, g4⟩
        · refine ⟨_, rfl, (by show 1 ≤ sizeLine; decide), fun q hq => ?_⟩
          obtain ⟨ys, ws, g1, g2, g3, g4⟩ := fin [n] H8 q one (by show 1 ≤ 2; decide) (fun m h => by rw [List.mem_singleton.mp h]; omega) hq (F8 _ _ c1' np1) (F8 _ _ c2' np2) hp8 (F7.trans F8) (rw7.frm hp7 F8)
          exact ⟨P2, q, ys, ws, rfl, rfl, g1, g2, g3, g4⟩
      · refine ⟨_, rfl, (by show 1 ≤ sizeLine; decide), fun q hq => ?_⟩
        obtain ⟨ys, ws, g1, g2, g3, g4⟩ := fin [n] H7 q one (by show 1 ≤ 2; decide) (fun m h => by rw [List.mem_singleton.mp h]; omega) hq c1' c2' hp7 F7 rw7
        exact ⟨P2, q, ys, ws, rfl, rfl, g1, g2, g3, g4⟩
    clear q1 q2 rw0 FB hp4 hp2 FA e P12
    rintro σ H5 ⟨u4, u5, ps, os, rfl, c1, c2, em, lp, lo, mem, hp5, F5, rw5⟩
    rw [List.length_map, List.length_range, Int.toNat_natCast] at lp lo
    refine ⟨_, rfl, (by show 2 ≤ sizeLine; decide), fun x1 hx1 => ⟨(by show 2 ≤ sizeLine; decide), fun x2 hx2 => ⟨(by show 2 ≤ sizeLine; decide), fun ml hml => ?_⟩⟩⟩
    have ex1 := Ext.upd (o := .lst [.str "east", .str "north"]) hx1
    have ex2 := Ext.upd (o := .lst [.str "north", .str "east"]) hx2
    have ex3 := Ext.upd (o := .lst [.ref x1, .ref x2]) hml
    have ex := (ex1.trans ex2).trans ex3
    have v1 := ex3 _ _ (ex2 _ _ (upd_same (H := H5) (a := x1) (o := .lst [.str "east", .str "north"])))
    have v2 := ex3 _ _ (upd_same (H := upd H5 x1 (.lst [.str "east", .str "north"])) (a := x2) (o := .lst [.str "north", .str "east"]))
    have qm := upd_same (H := upd (upd H5 x1 (.lst [.str "east", .str "north"])) x2 (.lst [.str "north", .str "east"])) (a := ml) (o := .lst [.ref x1, .ref x2])
    have x1p := hp5.ne hx1
    have x2p : x2 ≠ p := hp5.ne (none_of ex1 hx2)
    have mlp : ml ≠ p := hp5.ne (none_of (ex1.trans ex2) hml)
    have hp6 := hp5.frm (M := []) (Frm.ext ex) (fun z => nomatch z)
    have rw6 := rw5.ext ex
    have F6 := F5.trans (Frm.ext (M := [p]) ex)
    have c1 := ex _ _ c1
    have c2 := ex _ _ c2
    generalize upd (upd (upd H5 x1 (.lst [.str "east", .str "north"])) x2 (.lst [.str "north", .str "east"])) ml (.lst [.ref x1, .ref x2]) = H6 at *
    refine ⟨p, ml, _, rfl, hp6, qm, mlp, (by show 0 < 2; decide), (by show 2 ≤ 1000; decide), fun j v H7 hv F7 hp7 => ?_⟩
    have np1 : P1 ∉ [p] := fun z => P1p (List.mem_singleton.mp z)
    have np2 : P2 ∉ [p] := fun z => P2p (List.mem_singleton.mp z)
    obtain ⟨ax, b, rfl, hax⟩ : ∃ (ax : Addr) (b : Bool), v = .ref ax ∧ H7 ax = some (.lst [.str (axS b), .str (axS (!b))]) := by
      match j, hv with
      | 0, hv => exact ⟨x1, true, by cases hv; rfl, F7 _ _ v1 (fun z => x1p (List.mem_singleton.mp z))⟩
      | 1, hv => exact ⟨x2, false, by cases hv; rfl, F7 _ _ v2 (fun z => x2p (List.mem_singleton.mp z))⟩
    have c1 := F7 _ _ c1 np1
    have c2 := F7 _ _ c2 np2
    have rw7 := rw6.frm hp6 F7
    have F7' := F6.trans F7
    clear v1 v2 qm ex1 ex2 ex3 ex F5 F6 rw5 rw6 hp5 hp6 hx1 hx2 hml F7 hv
    have mkc : ∀ (b : Bool) (k : Int) (P : Addr) (ls : List Nat) (H8 : Hp), atI [V.str (axS b), V.str (axS b)] k = some (.str (axS b)) → True := fun _ _ _ _ _ _ => trivial
    refine ⟨_, rfl, P1, rfl, ⟨_, SqL.of c1⟩, fun D1 hD1 => lc_walk (xs := ps.map fun n : Nat => V.int n) walk_l (fun i H' => ∃ ts : List Addr, H' D1 = some (.lst (ts.map V.ref)) ∧ Paired (fun t c => H' t = some (.tup (cutV c))) ts ((ps.take i).map fun n => (b, n)) ∧ Ext H7 H') ⟨[], upd_same, .nil, Ext.upd hD1⟩ (fun _ _ ⟨_, _, _, e⟩ => SqL.of (e _ _ c1)) ?_ ?_⟩
    · rintro i y H8 hy ⟨ts, d1, d2, e⟩
      obtain ⟨n, hni, rfl⟩ := nat_get hy
      have hi := (List.getElem?_eq_some_iff.mp hni).1
      refine ⟨rfl, lc_yes ⟨_, rfl, .inl ⟨ax, _, 0, _, rfl, rfl, SqL.of (e _ _ hax), rfl, _, rfl, (by show 2 ≤ sizeLine; decide), fun tt htt => ?_⟩⟩⟩
      have e3 := Ext.upd (o := .tup (cutV (b, n))) htt
      have D1t : D1 ≠ tt := fun z => by rw [← z, d1] at htt; cases htt
      refine ⟨_, e3 _ _ d1, ?_, ts ++ [tt], ?_, ?_, ext_put (e.trans e3) hD1⟩
      · rw [List.length_map, pd_len d2, List.length_map, List.length_take, szl]
        omega
      · rw [upd_same, List.map_append]
        rfl
      · rw [take_snoc hni, List.map_append]
        exact pd_snoc (pd_imp (fun _ _ z => side_t (e3 _ _ d1) (e3 _ _ z)) d2) (by rw [upd_ne (Ne.symm D1t)]; exact upd_same)
    rintro H8 ⟨ts1, d1, t1, e8⟩
    rw [List.length_map, List.take_length] at t1
    have c2 := e8 _ _ c2
    have hax := e8 _ _ hax
    refine ⟨_, rfl, P2, rfl, ⟨_, SqL.of c2⟩, fun D2 hD2 => lc_walk (xs := os.map fun n : Nat => V.int n) walk_l (fun i H' => ∃ ts : List Addr, H' D2 = some (.lst (ts.map V.ref)) ∧ Paired (fun t c => H' t = some (.tup (cutV c))) ts ((os.take i).map fun n => (!b, n)) ∧ Ext H8 H') ⟨[], upd_same, .nil, Ext.upd hD2⟩ (fun _ _ ⟨_, _, _, e⟩ => SqL.of (e _ _ c2)) ?_ ?_⟩
    · rintro i y H9 hy ⟨ts, d2, t2, e⟩
      obtain ⟨n, hni, rfl⟩ := nat_get hy
      have hi := (List.getElem?_eq_some_iff.mp hni).1
      refine ⟨rfl, lc_yes ⟨_, rfl, .inl ⟨ax, _, 1, _, rfl, rfl, SqL.of (e _ _ hax), rfl, _, rfl, (by show 2 ≤ sizeLine; decide), fun tt htt => ?_⟩⟩⟩
      have e3 := Ext.upd (o := .tup (cutV (!b, n))) htt
      have D2t : D2 ≠ tt := fun z => by rw [← z, d2] at htt; cases htt
      refine ⟨_, e3 _ _ d2, ?_, ts ++ [tt], ?_, ?_, ext_put (e.trans e3) hD2⟩
      · rw [List.length_map, pd_len t2, List.length_map, List.length_take, szl]
        omega
      · rw [upd_same, List.map_append]
        rfl
      · rw [take_snoc hni, List.map_append]
        exact pd_snoc (pd_imp (fun _ _ z => side_t (e3 _ _ d2) (e3 _ _ z)) t2) (by rw [upd_ne (Ne.symm D2t)]; exact upd_same)
    rintro H9 ⟨ts2, d2, t2, e9⟩
    rw [List.length_map, List.take_length] at t2
    have d1 := e9 _ _ d1
    have lt1 := pd_len t1
    have lt2 := pd_len t2
    rw [List.length_map] at lt1 lt2
    refine ⟨D1, D2, _, _, rfl, rfl, d1, d2, by rw [List.length_map, List.length_map, szl]; omega, fun cl hcl => ?_⟩
    have ea := Ext.upd (o := .lst (ts1.map V.ref ++ ts2.map V.ref)) hcl
    have qc : (upd H9 cl (.lst (ts1.map V.ref ++ ts2.map V.ref))) cl = some (.lst ((ts1 ++ ts2).map V.ref)) := by rw [upd_same, List.map_append]
    have tc : Paired (fun t c => (upd H9 cl (.lst (ts1.map V.ref ++ ts2.map V.ref))) t = some (.tup (cutV c))) (ts1 ++ ts2) ((ps.map fun n => (b, n)) ++ os.map fun n => (!b, n)) := pd_app (pd_imp (fun _ _ z => ea _ _ (e9 _ _ z)) t1) (pd_imp (fun _ _ z => ea _ _ z) t2)
    have E7 := (e8.trans e9).trans ea
    have hp9 := hp7.frm (M := []) (Frm.ext E7) (fun z => nomatch z)
    have clp : cl ≠ p := (hp7.frm (M := []) (Frm.ext (e8.trans e9)) (fun z => nomatch z)).ne hcl
    have rw9 := rw7.ext E7
    have F9 := F7'.trans (Frm.ext (M := [p]) E7)
    generalize upd H9 cl (.lst (ts1.map V.ref ++ ts2.map V.ref)) = Ha at *
    clear c1 c2 hax d1 d2 t1 t2 e8 e9 ea E7 rw7 F7' hcl hD1 hD2 mkc
    refine ⟨_, rfl, _, rfl, p, cl, _, rfl, hp9, qc, clp, by rw [List.length_map, List.length_append]; omega, fun mx ys Hb Fb hpb nmx hmx pmx => ⟨mx, rfl, ⟨_, SqL.of hmx⟩, ?_⟩⟩
    obtain ⟨cs', hcs, pmc⟩ := pd_perm pmx (pd_mapV (F := fun v c => ∃ t : Addr, v = .ref t ∧ Hb t = some (.tup (cutV c))) (pd_imp (fun t c z => ⟨t, rfl, Fb.tup hp9 z⟩) tc))
    have rwb := rw9.frm hp9 Fb
    have Fb' := F9.trans Fb
    have lys := pd_len hcs
    have okc' : ∀ c ∈ cs', okC c := fun c m => by
      have := pmc.mem_iff.mp m
      rcases List.mem_append.mp this with h | h
      · obtain ⟨n, hn, rfl⟩ := List.mem_map.mp h
        exact mem n (List.mem_append.mpr (.inl hn))
      · obtain ⟨n, hn, rfl⟩ := List.mem_map.mp h
        exact mem n (List.mem_append.mpr (.inr hn))
    have mxp : mx ≠ p := hp9.ne nmx
    have mxas : mx ∉ as := fun m => by
      obtain ⟨j, hj⟩ := List.getElem?_of_mem m
      obtain ⟨c, _, bs, hb, _⟩ := pd_get rw9.r j mx hj
      rw [hb] at nmx
      cases nmx
    have hl9 : cs'.length ≤ 40 := by
      have := pmc.length_eq
      rw [List.length_append, List.length_map, List.length_map] at this
      omega
    clear pmx tc qc rw9 F9 Fb hp9
    refine for_walk (xs := ys) walk_l (fun i σ H' => ∃ u8 u9 u10 R, σ = [some (.ref p), some (.ref D), some (.ref P1), some (.ref P2), u4, u5, some (.ref ax), some (.ref cl), u8, u9, u10, none, none] ∧ RowsH H' p D as R ∧ RowsOk R ∧ R.flatten.Perm (cs'.take i) ∧ Pot H' p ∧ Frm [p] H H' ∧ H' mx = some (.lst ys) ∧ Paired (fun v c => ∃ t : Addr, v = .ref t ∧ H' t = some (.tup (cutV c))) ys cs') ⟨none, none, none, List.replicate as.length [], rfl, rwb, ?_, ?_, hpb, Fb', hmx, hcs⟩ (fun _ _ _ ⟨_, _, _, _, _, _, _, _, _, _, h, _⟩ => SqL.of h) ?_ ?_
    · exact ⟨by rw [List.length_replicate]; exact las3, fun cs m => by rw [(List.mem_replicate.mp m).2]; exact Nat.zero_le _, (fun cs m c hc => by rw [(List.mem_replicate.mp m).2] at hc; exact (nomatch hc)), fun cs m => by rw [(List.mem_replicate.mp m).2]; decide⟩
    · have : (List.replicate as.length ([] : List Cut)).flatten = [] := by simp
      rw [this]
      exact .nil
    · rintro i y σ H1 hy ⟨u8, u9, u10, R, rfl, rw1, ro, pm, hp1, F1, hm1, tc1⟩
      obtain ⟨c, hci, t, rfl, ht⟩ := pd_get tc1 i y hy
      have hi := (List.getElem?_eq_some_iff.mp hci).1
      have hc := okc' c (List.mem_of_getElem? hci)
      have hc4 := hc.2
      have laR := pd_len rw1.r
      refine ⟨_, rfl, D, rfl, ⟨_, SqL.of rw1.l⟩, fun Dr hDr => lc_walk (xs := as.map V.ref) walk_l (fun j H2 => ∃ (fs : List Addr) (Rf : List (List Cut)), H2 Dr = some (.lst (fs.map V.ref)) ∧ Paired (fun (a : Addr) (cs : List Cut) => (∃ k : Nat, as[k]? = some a ∧ R[k]? = some cs) ∧ cs.length < 5 ∧ prodF cs * c.2 ≤ 32) fs Rf ∧ fs.length ≤ j ∧ Ext H1 H2) ⟨[], [], upd_same, .nil, Nat.zero_le _, Ext.upd hDr⟩ (fun _ _ h => SqL.of (by obtain ⟨_, _, _, _, _, e⟩ := h; exact e _ _ rw1.l)) ?_ ?_⟩
      · rintro j z H2 hz ⟨fs, Rf, d1, f1, lf, e⟩
        obtain ⟨a, rfl, cs, hcj, hcl⟩ := refs_get rw1.r hz
        have hj := (List.getElem?_eq_some_iff.mp hz).1
        rw [List.length_map] at hj
        have haj : as[j]? = some a := by
          rw [List.getElem?_map] at hz
          cases q : as[j]? with
          | none => rw [q] at hz; cases hz
          | some b => rw [q] at hz; rw [V.ref.inj (Option.some.inj hz)]
        have hm := List.mem_of_getElem? hcj
        have hcl2 := hcl.ext e
        obtain ⟨bs, b1, b2⟩ := id hcl2
        have lbs := pd_len b2
        have h5 := ro.h5 cs hm
        have h32 := ro.h32 cs hm
        refine ⟨rfl, _, rfl, a, _, rfl, .inl (SqL.of b1), _, _, rfl, rfl, _, rfl, ite2 (fun hl => ?_) (fun hl => iteF ⟨fs, Rf, d1, f1, by omega, e⟩)⟩
        have hl5 : cs.length < 5 := by
          have := of_decide_eq_true hl
          rw [List.length_map, lbs] at this
          omega
        refine ⟨_, rfl, .ref a, cs, rfl, hcl2.at, by omega, ro.hc cs hm, _, rfl, .inr (.inl ⟨t, _, 1, _, rfl, rfl, SqT.of (e _ _ ht), rfl, _, _, rfl, rfl, .inl ⟨by omega, by omega⟩, _, _, rfl, rfl, _, rfl, ite2 (fun hq => ?_) (fun hq => ⟨fs, Rf, d1, f1, by omega, e⟩)⟩)⟩
        have hq32 : prodF cs * c.2 ≤ 32 := by
          have h' := of_decide_eq_true hq
          have h' : ((prodF cs : Nat) : Int) * ((c.2 : Nat) : Int) ≤ 32 := h'
          rw [← Int.natCast_mul] at h'
          omega
        refine ⟨_, rfl, _, d1, by rw [List.length_map, szl]; omega, fs ++ [a], Rf ++ [cs], by rw [upd_same, List.map_append]; rfl, pd_snoc f1 ⟨⟨j, haj, hcj⟩, hl5, hq32⟩, by rw [List.length_append]; show fs.length + 1 ≤ j + 1; omega, ext_put e hDr⟩
      · rintro H2 ⟨fs, Rf, d1, f1, lf, e⟩
        rw [List.length_map] at lf
        have fc : Paired (CutsL H2) fs Rf := pd_imp (fun a cs q => by
          obtain ⟨⟨k, k1, k2⟩, _⟩ := q
          obtain ⟨cs2, k3, k4⟩ := pd_get rw1.r k a k1
          rw [k2] at k3
          rw [Option.some.inj k3]
          exact k4.ext e) f1
        refine ⟨_, rfl, (by show 0 ≤ sizeLine; decide), fun q hq => ⟨dqR Rf, dqR [], dp_rounds ⟨fs, Ext.upd hq _ _ d1, pd_imp (fun _ _ z => z.ext (Ext.upd hq)) fc⟩, .lst (SqL.of upd_same) .nil, shaped_R _, shaped_R _, _, rfl, ?_⟩⟩
        rw [eqv_R]
        have eq := e.trans (Ext.upd (o := .lst []) hq)
        have d1 := Ext.upd (o := .lst []) hq _ _ d1
        generalize upd H2 q (.lst []) = H3 at *
        have hp3 := hp1.frm (M := []) (Frm.ext eq) (fun z => nomatch z)
        have F3 := F1.trans (Frm.ext (M := [p]) eq)
        refine ite2 (fun _ => ?_) (fun hne => ?_)
        · refine ⟨(by show 2 ≤ sizeLine; decide), fun t1 ht1 => ⟨(by show 2 ≤ sizeLine; decide), fun t2 ht2 => ⟨(by show 2 ≤ sizeLine; decide), fun lx hlx => ⟨(by show 1 ≤ sizeLine; decide), fun lz hlz => ?_⟩⟩⟩⟩
          have g1 := Ext.upd (o := .tup [.str "east", .int 2]) ht1
          have g2 := Ext.upd (o := .tup [.str "north", .int 2]) ht2
          have g3 := Ext.upd (o := .lst [.ref t1, .ref t2]) hlx
          have g4 := Ext.upd (o := .lst [.ref lx]) hlz
          have G := (g1.trans g2).trans (g3.trans g4)
          have lzH := F3.free (none_of ((g1.trans g2).trans g3) hlz) (fun z => (hp3.ne (none_of ((g1.trans g2).trans g3) hlz)) (List.mem_singleton.mp z))
          refine k lz _ (sqR 2) (F3.trans (Frm.ext G)) (hp3.frm (M := []) (Frm.ext G) (fun z => nomatch z)) ⟨[lx], upd_same, .cons ⟨[t1, t2], g4 _ _ upd_same, .cons (g4 _ _ (g3 _ _ (g2 _ _ upd_same))) (.cons (g4 _ _ (g3 _ _ upd_same)) .nil)⟩ .nil⟩ (ok_sq (by decide) (by decide)) lzH
        · have hRf : Rf ≠ [] := fun z => hne (by rw [z]; exact decide_eq_true rfl)
          have lfs : 0 < fs.length := by rw [pd_len f1]; exact List.length_pos_iff.mpr hRf
          have Drp : Dr ≠ p := hp1.ne hDr
          refine ⟨_, rfl, _, rfl, p, Dr, _, rfl, hp3, d1, Drp, by rw [List.length_map]; exact lfs, by rw [List.length_map]; omega, fun j v H4 hv F4 hp4 => ?_⟩
          obtain ⟨a, rfl, cs, hcj, ⟨kk, k1, k2⟩, hl5, hq32⟩ := refs_get f1 hv
          have am := List.mem_of_getElem? k1
          have rw4 := (rw1.ext eq).frm hp3 F4
          obtain ⟨cs2, k3, bs, b1, b2⟩ := pd_get rw4.r kk a k1
          rw [k2] at k3
          cases k3
          have htt4 := F4.tup hp3 (eq _ _ ht)
          have hm4 := F4 _ _ (eq _ _ hm1) (fun z => mxp (List.mem_singleton.mp z))
          have tc4 : Paired (fun v c => ∃ t : Addr, v = .ref t ∧ H4 t = some (.tup (cutV c))) ys cs' := pd_imp (fun v c z => by
            obtain ⟨t, z1, z2⟩ := z
            exact ⟨t, z1, F4.tup hp3 (eq _ _ z2)⟩) tc1
          have nap : a ≠ p := fun z => rw4.np (z ▸ am)
          have aD : a ≠ D := fun z => rw4.nD (z ▸ am)
          have amx : mx ≠ a := fun z => mxas (z ▸ am)
          have lbs := pd_len b2
          refine ⟨_, rfl, .inl ⟨rfl, _, SqL.of b1⟩, _, rfl, a, _, _, rfl, rfl, b1, by rw [List.length_map, szl]; omega, ?_⟩
          refine ⟨_, _, _, R.set kk (cs ++ [c]), rfl, ⟨by rw [upd_ne (Ne.symm aD)]; exact rw4.l, pd_set rw4.r rw4.nd k1 (fun b ds nb q => side_cuts b1 nb q) ⟨bs ++ [t], by rw [upd_same, List.map_append]; rfl, pd_snoc (pd_imp (fun _ _ z => side_t b1 z) b2) (side_t b1 htt4)⟩, rw4.nd, rw4.nD, rw4.np, rw4.Dp⟩, ro.put k2 hc hl5 hq32, ?_, hp4.putN nap, (F3.trans F4).putN (aH a am).1, by rw [upd_ne amx]; exact hm4, pd_imp (fun v c z => by
            obtain ⟨t, z1, z2⟩ := z
            exact ⟨t, z1, side_t b1 z2⟩) tc4⟩
          rw [take_snoc hci]
          exact (perm_set c k2).trans (pm.append_right [c])
    · rintro σ H1 ⟨u8, u9, u10, R, rfl, rw1, ro, pm, hp1, F1, hm1, tc1⟩
      rw [lys, List.take_length] at pm
      have okf := ro.okR (pm.trans pmc) em (by omega)
      have laR := pd_len rw1.r
      refine ⟨_, rfl, D, rfl, ⟨_, SqL.of rw1.l⟩, fun Dz hDz => lc_walk (xs := as.map V.ref) walk_l (fun j H2 => ∃ fs : List Addr, H2 Dz = some (.lst (fs.map V.ref)) ∧ Paired (fun a cs => CutsL H2 a cs ∧ a ≠ Dz) fs ((R.take j).filter fun cs => !cs.isEmpty) ∧ Ext H1 H2) ⟨[], upd_same, .nil, Ext.upd hDz⟩ (fun _ _ ⟨_, _, _, e⟩ => SqL.of (e _ _ rw1.l)) ?_ ?_⟩
      · rintro j z H2 hz ⟨fs, d1, f1, e⟩
        obtain ⟨a, rfl, cs, hcj, hcl⟩ := refs_get rw1.r hz
        have hm := List.mem_of_getElem? hcj
        have hj := (List.getElem?_eq_some_iff.mp hcj).1
        have hcl2 := hcl.ext e
        have naz : a ≠ Dz := fun w => by
          obtain ⟨bs, b1, _⟩ := hcl
          rw [w, hDz] at b1
          cases b1
        have fl : ((R.take (j + 1)).filter fun cs => !cs.isEmpty) = ((R.take j).filter fun cs => !cs.isEmpty) ++ (if !cs.isEmpty then [cs] else []) := by
          rw [take_snoc hcj, List.filter_append, List.filter_cons, List.filter_nil]
        refine ⟨rfl, _, rfl, (by show 0 ≤ sizeLine; decide), fun q hq => ?_⟩
        have eq := Ext.upd (o := .lst []) hq
        obtain ⟨bs, b1, b2⟩ := id hcl2
        refine ⟨dqL cs, dqL [], .lst (SqL.of (eq _ _ b1)) (dp_cuts (pd_imp (fun _ _ z => eq _ _ z) b2)), .lst (SqL.of upd_same) .nil, (sm_L (ro.hc cs hm) (Nat.le_trans (ro.h5 cs hm) (by decide))).shaped (by decide), by decide +kernel, _, rfl, ?_⟩
        rw [eqv_L]
        have d1' := eq _ _ d1
        have f1' : Paired (fun a cs => CutsL (upd H2 q (.lst [])) a cs ∧ a ≠ Dz) fs ((R.take j).filter fun cs => !cs.isEmpty) := pd_imp (fun _ _ z => ⟨z.1.ext eq, z.2⟩) f1
        have hcl3 := hcl2.ext eq
        have e' := e.trans eq
        generalize upd H2 q (.lst []) = H3 at *
        cases cs with
        | nil =>
          refine iteF ⟨fs, d1', ?_, e'⟩
          rw [fl]
          show Paired _ fs (_ ++ [])
          rw [List.append_nil]
          exact f1'
        | cons c0 cr =>
          refine iteT ⟨_, rfl, _, d1', ?_, fs ++ [a], by rw [upd_same, List.map_append]; rfl, ?_, ext_put e' hDz⟩
          · have := List.length_filter_le (fun cs : List Cut => !cs.isEmpty) (R.take j)
            rw [List.length_take] at this
            rw [List.length_map, pd_len f1', szl]
            have := ro.l3
            omega
          · rw [fl]
            exact pd_snoc (pd_imp (fun _ _ z => ⟨side_cuts d1' z.2 z.1, z.2⟩) f1') ⟨side_cuts d1' naz hcl3, naz⟩
      · rintro H2 ⟨fs, d1, f1, e⟩
        rw [List.length_map, laR, List.take_length] at f1
        exact k Dz H2 _ (F1.trans (Frm.ext e)) (hp1.frm (M := []) (Frm.ext e) (fun z => nomatch z)) ⟨fs, d1, pd_imp (fun _ _ z => z.1) f1⟩ okf (F1.free hDz (fun z => (hp1.ne hDz) (List.mem_singleton.mp z)))
end
end Mc

set_option Elab.async false
set_option linter.all false
set_option maxRecDepth 100000
set_option maxHeartbeats 4000000
set_option exponentiation.threshold 20000
namespace Mc
open PySem PySem.Spec PyProof.Rows L2 ClX StX
section
variable {P : Program} {w : World} {K : PySem.W.Frag} {mg : Str → Option Value} {base : Heap} {f C0 aX : Addr} {mc : Value} {fd : FuncData}
theorem sc_others : FnScope ["_law_pot_here", "_law_rows", "_law_mode", "_law_found", "_law_row", "_law_cut"] ["_law_pot_here", "_law_rows"] (defScope s_others) := ⟨rfl, rfl, rfl, by decide +kernel, rfl, by decide +kernel, by decide +kernel⟩
theorem perm_flat {l m : List (List Cut)} (h : l.Perm m) : l.flatten.Perm m.flatten := by
  induction h with
  | nil => exact .refl _
  | cons x _ ih => exact List.Perm.append_left x ih
  | swap x y l =>
    show (y ++ (x ++ l.flatten)).Perm (x ++ (y ++ l.flatten))
    rw [← List.append_assoc, ← List.append_assoc]
    exact List.Perm.append_right _ List.perm_append_comm
  | trans _ _ h1 h2 => exact h1.trans h2
theorem pd_flat : ∀ {l m : List (List Cut)}, Paired (fun m c : List Cut => m.Perm c) l m → l.flatten.Perm m.flatten
  | _, _, .nil => .refl _
  | _, _, .cons r t => by
    rw [List.flatten_cons, List.flatten_cons]
    exact List.Perm.append r (pd_flat t)
theorem okR_like {rs ms : List (List Cut)} (ok : OkR rs) (l1 : 1 ≤ ms.length) (l3 : ms.length ≤ 3) (each : ∀ m ∈ ms, ∃ c, c ∈ rs ∧ m.Perm c) (fl : ms.flatten.Perm rs.flatten) : OkR ms := by
  refine ⟨l1, l3, fun m h => ?_, fun m h => ?_, fun m h x hx => ?_, fun m h => ?_, ?_⟩
  · obtain ⟨c, hc, pm⟩ := each m h
    rw [pm.length_eq]; exact ok.h1 c hc
  · obtain ⟨c, hc, pm⟩ := each m h
    rw [pm.length_eq]; exact ok.h5 c hc
  · obtain ⟨c, hc, pm⟩ := each m h
    exact ok.hc c hc x (pm.mem_iff.mp hx)
  · obtain ⟨c, hc, pm⟩ := each m h
    obtain ⟨h1, h2⟩ := perm_cols pm
    rw [h1, h2]; exact ok.h32 c hc
  · have b := ok.bal
    rw [mul_flat] at b ⊢
    obtain ⟨h1, h2⟩ := perm_cols fl
    rw [h1, h2]
    exact b
theorem pd_refsV {P : Addr → Cut → Prop} : ∀ {ys : List V} {cs : List Cut}, Paired (fun v c => ∃ t : Addr, v = .ref t ∧ P t c) ys cs → ∃ bs : List Addr, ys = bs.map V.ref ∧ Paired P bs cs
  | _, _, .nil => ⟨[], rfl, .nil⟩
  | _, _, .cons r t => by
    obtain ⟨bs, rfl, h⟩ := pd_refsV t
    obtain ⟨a, rfl, ha⟩ := r
    exact ⟨a :: bs, rfl, .cons ha h⟩
theorem refs_ne_pot {H : Hp} {p a : Addr} {bs : List Addr} (hp : Pot H p) (h : H a = some (.lst (bs.map V.ref))) : a ≠ p := fun z => by
  obtain ⟨x, y, e', _⟩ := hp
  rw [← z, h] at e'
  have := HO.lst.inj (Option.some.inj e')
  cases bs with
  | nil => cases this
  | cons a t => cases (List.cons.inj this).1
theorem RowsL.frm {H H' : Hp} {p l : Addr} {rs : List (List Cut)} (h : RowsL H l rs) (_ok : OkR rs) (hp : Pot H p) (f : Frm [p] H H') : RowsL H' l rs := by
  obtain ⟨as, h1, h2⟩ := h
  exact ⟨as, f _ _ h1 (fun z => refs_ne_pot hp h1 (List.mem_singleton.mp z)), pd_imp (fun a cs q => by
    obtain ⟨bs, b1, b2⟩ := q
    exact ⟨bs, f _ _ b1 (fun z => refs_ne_pot hp b1 (List.mem_singleton.mp z)), pd_imp (fun _ _ w => f.tup hp w) b2⟩) h2⟩
def spOthers : Sp := fun vs H Q _ => ∃ (p l : Addr) (rs : List (List Cut)), vs = [.ref p, .ref l] ∧ Pot H p ∧ RowsL H l rs ∧ OkR rs ∧ ∀ l' H' ms, Frm [p] H H' → Pot H' p → RowsL H' l' ms → OkR ms → Q (.ref l') H'
theorem ok_others (F : FunD K "_law_others" "_law_others" (defArgs s_others) (defBody s_others) (defScope s_others) [] [] f fd) (T : TB mg) {fdraw : Addr} {fddraw : FuncData} (Ddraw : Gd P w K mg base "_law_draw" 1 ["_law_pot_here", "_law_size"] (spDraw) fdraw fddraw) {fmixed : Addr} {fdmixed : FuncData} (Dmixed : Gd P w K mg base "_law_mixed" 2 ["_law_pot_here", "_law_some"] (spMixedV) fmixed fdmixed) {frounds : Addr} {fdrounds : FuncData} (Drounds : Gd P w K mg base "_law_rounds" 3 ["_law_pot_here"] (spRoundsC) frounds fdrounds) : FnOk P w K mg base CX0 4 f fd ["_law_pot_here", "_law_rows"] (spOthers) := by
  refine F.ok sc_others (fun vs H Q E h => ?_) (fun cdv A outer s H vs Q E hr h => ?_)
  · obtain ⟨p, l, rs, rfl, hp, hl, ok, k⟩ := h
    rfl
  · obtain ⟨p, l, rs, rfl, hp, hl, ok, k⟩ := h
    refine ⟨_, (PSs.nox (pss_cons (ps_par (i := 2) (j := 3) (by rfl) sc_others.nd rfl rfl (by decide) rfl rfl (pa_cons (pe_gd Ddraw hr (by decide) (by rfl) (pa_cons (pv 0) (pa_cons pe_int pa_nil))) (pa_cons (pe_lc (own := [("_law_row", 4)]) (g := gName 4) (tt := tYes) rfl sc_others.nd (pi_list (pv 1)) (blkOk_by (own := [("_law_row", 4)]) (N := ["_law_pot_here", "_law_rows", "_law_mode", "_law_found", "_law_row", "_law_cut"]) (sc := defScope s_others) (by decide +kernel)) (fun _ _ _ _ _ => (pg_name (i := 4) sc_others.nd rfl (.inl rfl))) (fun _ _ _ _ _ => pts_nil) (fun _ _ _ _ _ => (pe_callTy (call_listK (K := K) rfl) (by rfl) T.list (by decide +kernel) (pa_cons (pv 4) pa_nil)))) pa_nil)) (by rfl))
      (pss_cons (ps_if (pt_cmpR op_eq (pv 2) pe_int (nomark _)) (pss_one (ps_ret (pe_revL (pv 3)))) pss_nil)
      (pss_cons (ps_if (pt_cmpR op_eq (pv 2) pe_int (nomark _)) (pss_one (ps_ret (pe_lc (own := [("_law_row", 4)]) (g := gName 4) (tt := tYes) rfl sc_others.nd (pi_list (pv 3)) (blkOk_by (own := [("_law_row", 4)]) (N := ["_law_pot_here", "_law_rows", "_law_mode", "_law_found", "_law_row", "_law_cut"]) (sc := defScope s_others) (by decide +kernel)) (fun _ _ _ _ _ => (pg_name (i := 4) sc_others.nd rfl (.inl rfl))) (fun _ _ _ _ _ => pts_nil) (fun _ _ _ _ _ => (pe_gd Dmixed hr (by decide) (by rfl) (pa_cons (pv 0) (pa_cons (pv 4) pa_nil))))))) pss_nil)
      (pss_cons (ps_if (PW.pt (pw_and (pt_cmpR op_eq (pv 2) pe_int (nomark _)) (pw_and1 (pt_cmpR op_eq (pe_callB call_len_seq (by rfl) T.len PySem.boot_len (pa_cons (pv 3) pa_nil)) pe_int (nomark _))))) (pss_one (ps_ret (pe_op op_cat (pv 3) (pe_lst (pa_cons (pe_callTy call_list_of (by rfl) T.list (by decide +kernel) (pa_cons (pe_ix ix_seq (pv 3) pe_int (fun _ _ => rfl)) pa_nil)) pa_nil))))) pss_nil)
      (pss_cons (ps_if (pt_cmpR op_eq (pv 2) pe_int (nomark _)) (pss_one (ps_ret (pe_lc (own := [("_law_row", 4)]) (g := gName 4) (tt := tYes) rfl sc_others.nd (pi_list (pv 3)) (blkOk_by (own := [("_law_row", 4)]) (N := ["_law_pot_here", "_law_rows", "_law_mode", "_law_found", "_law_row", "_law_cut"]) (sc := defScope s_others) (by decide +kernel)) (fun _ _ _ _ _ => (pg_name (i := 4) sc_others.nd rfl (.inl rfl))) (fun _ _ _ _ _ => pts_nil) (fun _ _ _ _ _ => (pe_lc (own := [("_law_cut", 5)]) (g := gName 5) (tt := tYes) rfl sc_others.nd (pi_listK (K := K) rfl (pv 4)) (blkOk_free (own := [("_law_cut", 5)]) (N := ["_law_pot_here", "_law_rows", "_law_mode", "_law_found", "_law_row", "_law_cut"]) (by decide +kernel)) (fun _ _ _ _ _ => (pg_name (i := 5) sc_others.nd rfl (.inl rfl))) (fun _ _ _ _ _ => pts_nil) (fun _ _ _ _ _ => (pe_tup (pa_cons (pe_ifExp (pt_cmpR op_eq (pe_ix (ix_seqK (K := K) rfl) (pv 5) pe_int (fun _ _ => rfl)) pe_str (nomark _)) pe_str pe_str) (pa_cons (pe_ix (ix_seqK (K := K) rfl) (pv 5) pe_int (fun _ _ => rfl)) pa_nil))))))))) pss_nil)
      (pss_one (ps_ret (pe_gd Drounds hr (by decide) (by rfl) (pa_cons (pv 0) pa_nil)))))))))), ?_⟩
    obtain ⟨as, l1, l2⟩ := id hl
    have l3 := ok.l3
    have l0 := ok.l1
    have szl : sizeLine = 16777216 := sizeLine_eq
    have las := pd_len l2
    refine ⟨_, rfl, p, 5, rfl, hp, by decide, by decide, fun md H1 d0 d5 F1 hp1 => ?_⟩
    have hl1 := hl.frm ok hp F1
    obtain ⟨as, l1, l2⟩ := hl1
    have las := pd_len l2
    refine ⟨_, rfl, l, rfl, ⟨_, SqL.of l1⟩, fun D hD => lc_walk (xs := as.map V.ref) walk_l (fun i H' => ∃ ds : List Addr, H' D = some (.lst (ds.map V.ref)) ∧ Paired (fun a cs => CutsL H' a cs ∧ a ≠ D) ds (rs.take i) ∧ Ext H1 H') ⟨[], upd_same, .nil, Ext.upd hD⟩ (fun _ _ ⟨_, _, _, e⟩ => SqL.of (e _ _ l1)) ?_ ?_⟩
    · rintro i y H2 hy ⟨ds, d1, d2, e⟩
      obtain ⟨a, rfl, cs, hci, bs, b1, b2⟩ := refs_get l2 hy
      refine ⟨rfl, lc_yes ⟨_, rfl, a, _, rfl, .inl (SqL.of (e _ _ b1)), fun c hc => ?_⟩⟩
      have e3 := Ext.upd (o := .lst (bs.map V.ref)) hc
      have cD : c ≠ D := fun z => by rw [z, d1] at hc; cases hc
      refine ⟨_, e3 _ _ d1, ?_, ds ++ [c], by rw [upd_same, List.map_append]; rfl, ?_, ext_put (e.trans e3) hD⟩
      · rw [List.length_map, pd_len d2, List.length_take, szl]
        omega
      · rw [take_snoc hci]
        exact pd_snoc (pd_imp (fun _ _ z => ⟨side_cuts (e3 _ _ d1) z.2 (z.1.ext e3), z.2⟩) d2) ⟨side_cuts (e3 _ _ d1) cD ⟨bs, upd_same, pd_imp (fun _ _ z => e3 _ _ (e _ _ z)) b2⟩, cD⟩
    rintro H2 ⟨ds, d1, d2, e⟩
    rw [List.length_map, las, List.take_length] at d2
    have d2 := pd_imp (fun _ _ q => q.1) d2
    have F2 := F1.trans (Frm.ext (M := [p]) e)
    have hp2 := hp1.frm (M := []) (Frm.ext e) (fun z => nomatch z)
    have lds := pd_len d2
    have fD : RowsL H2 D rs := ⟨ds, d1, d2⟩
    clear d0 d5 F1 hp1 hD e l1 l2 las hl
    refine ⟨_, _, rfl, ?_⟩
    refine ⟨_, rfl, rfl, _, rfl, ite2 (fun _ => ?_) (fun _ => ?_)⟩
    · refine ⟨_, rfl, D, _, rfl, SqL.of d1, fun r hr => ?_⟩
      have e3 := Ext.upd (o := .lst (ds.map V.ref).reverse) hr
      exact k r _ rs.reverse (F2.trans (Frm.ext e3)) (hp2.new hr) ⟨ds.reverse, by rw [upd_same, List.map_reverse], pd_rev (pd_imp (fun _ _ z => z.ext e3) d2)⟩ (okR_like ok (by rw [List.length_reverse]; exact l0) (by rw [List.length_reverse]; exact l3) (fun m h => ⟨m, List.mem_reverse.mp h, .refl _⟩) (perm_flat (List.reverse_perm rs)))
    refine ⟨_, rfl, rfl, _, rfl, ite2 (fun _ => ?_) (fun _ => ?_)⟩
    · refine ⟨_, rfl, D, rfl, ⟨_, SqL.of d1⟩, fun D2 hD2 => ?_⟩
      have D2p : D2 ≠ p := hp2.ne hD2
      have D2n : D2 ∉ [p] := fun z => D2p (List.mem_singleton.mp z)
      have DD2 : D ≠ D2 := fun z => by rw [← z, d1] at hD2; cases hD2
      have Dp : D ≠ p := fun z => by
        obtain ⟨x, y, e', _⟩ := hp2
        rw [← z, d1] at e'
        have := HO.lst.inj (Option.some.inj e')
        cases ds with
        | nil => cases this
        | cons a t => cases (List.cons.inj this).1
      have eD2 := Ext.upd (o := .lst []) hD2
      refine lc_walk (xs := ds.map V.ref) walk_l (fun i H' => ∃ (es : List Addr) (ms : List (List Cut)), H' D2 = some (.lst (es.map V.ref)) ∧ Paired (fun a cs => CutsL H' a cs ∧ a ≠ D2 ∧ a ≠ p) es ms ∧ Paired (fun m c : List Cut => m.Perm c) ms (rs.take i) ∧ Pot H' p ∧ Frm [p] H2 H' ∧ H' D = some (.lst (ds.map V.ref)) ∧ Paired (CutsL H') ds rs) ⟨[], [], upd_same, .nil, .nil, hp2.new hD2, Frm.ext eD2, eD2 _ _ d1, pd_imp (fun _ _ z => z.ext eD2) d2⟩ (fun _ _ h => SqL.of (by obtain ⟨_, _, _, _, _, _, _, h, _⟩ := h; exact h)) ?_ ?_
      · rintro i y H3 hy ⟨es, ms, g1, g2, g3, hp3, F3, gd, gr⟩
        obtain ⟨a, rfl, cs, hci, bs, b1, b2⟩ := refs_get gr hy
        have hm := List.mem_of_getElem? hci
        have hi := (List.getElem?_eq_some_iff.mp hci).1
        have ap : a ≠ p := fun z => by
          obtain ⟨x, y, e', _⟩ := hp3
          rw [← z, b1] at e'
          have := HO.lst.inj (Option.some.inj e')
          cases bs with
          | nil => cases this
          | cons a t => cases (List.cons.inj this).1
        refine ⟨rfl, lc_yes ⟨_, rfl, _, rfl, p, a, _, rfl, hp3, b1, ap, by rw [List.length_map, pd_len b2]; have := ok.h5 cs hm; omega, fun c ys H4 F4 hp4 nc hc pm => ?_⟩⟩
        obtain ⟨cs', h1, h2⟩ := pd_perm pm (pd_mapV (F := fun v c => ∃ t : Addr, v = .ref t ∧ H4 t = some (.tup (cutV c))) (pd_imp (fun t c z => ⟨t, rfl, F4.tup hp3 z⟩) b2))
        obtain ⟨bs', rfl, h3⟩ := pd_refsV h1
        have g1 := F4 _ _ g1 D2n
        have cD2 : c ≠ D2 := fun z => by
          rw [z] at nc
          rw [show H3 D2 = some (.lst (es.map V.ref)) from by assumption] at nc
          cases nc
        have cp : c ≠ p := hp3.ne nc
        refine ⟨_, g1, ?_, es ++ [c], ms ++ [cs'], by rw [upd_same, List.map_append]; rfl, pd_snoc (pd_imp (fun _ _ z => ⟨side_cuts g1 z.2.1 (z.1.frm hp3 z.2.2 F4), z.2⟩) g2) ⟨side_cuts g1 cD2 ⟨bs', hc, h3⟩, cD2, cp⟩, by rw [take_snoc hci]; exact pd_snoc g3 h2, hp4.putN D2p, (F3.trans F4).putN hD2, by rw [upd_ne DD2]; exact F4 _ _ gd (fun z => Dp (List.mem_singleton.mp z)), ?_⟩
        · rw [List.length_map, pd_len g2, pd_len g3, List.length_take, szl]
          omega
        · refine pd_impL (fun b cs m q => ?_) gr
          have bp : b ≠ p := fun z => by
            obtain ⟨xs, q1, q2⟩ := q
            obtain ⟨x, y, e', _⟩ := hp3
            rw [← z, q1] at e'
            have := HO.lst.inj (Option.some.inj e')
            cases xs with
            | nil => cases this
            | cons a t => cases (List.cons.inj this).1
          have bD2 : b ≠ D2 := fun z => by
            obtain ⟨j, hj⟩ := List.getElem?_of_mem m
            obtain ⟨_, _, xs, q1, _⟩ := pd_get d2 j b hj
            rw [z, hD2] at q1
            cases q1
          exact side_cuts g1 bD2 (q.frm hp3 bp F4)
      · rintro H3 ⟨es, ms, g1, g2, g3, hp3, F3, gd, gr⟩
        rw [List.length_map, lds, List.take_length] at g3
        have lms := pd_len g3
        exact k D2 H3 ms (F2.trans F3) hp3 ⟨es, g1, pd_imp (fun _ _ z => z.1) g2⟩ (okR_like ok (by omega) (by omega) (fun m h => by
          obtain ⟨j, hj⟩ := List.getElem?_of_mem h
          obtain ⟨c, hc, hpm⟩ := pd_get g3 j m hj
          exact ⟨c, List.mem_of_getElem? hc, hpm⟩) (pd_flat g3))
    refine ⟨_, rfl, rfl, _, rfl, ite2 (fun _ => ⟨_, rfl, D, _, rfl, .inl (SqL.of d1), rfl, _, rfl, ite2 (fun h => ?_) (fun _ => ?_)⟩) (fun _ => iteF ?_)⟩
    · have h1 : rs.length = 1 := by
        have := V.int.inj (of_decide_eq_true h)
        rw [List.length_map, lds] at this
        omega
      obtain ⟨c0, rfl⟩ := List.length_eq_one_iff.mp h1
      obtain ⟨a0, rfl⟩ := List.length_eq_one_iff.mp lds
      obtain ⟨_, hc0, bs, b1, b2⟩ := pd_get d2 0 a0 rfl
      cases (Option.some.inj hc0)
      refine ⟨_, rfl, _, rfl, .inl ⟨D, _, 0, .ref a0, rfl, rfl, SqL.of d1, (show atI _ ((0 : Nat) : Int) = _ from atI_nat rfl), a0, _, rfl, .inl (SqL.of b1), fun c hc => ⟨(by show 1 ≤ sizeLine; decide), fun lx hlx => ?_⟩⟩⟩
      have e3 := Ext.upd (o := .lst (bs.map V.ref)) hc
      have e4 := Ext.upd (o := .lst [.ref c]) hlx
      refine ⟨D, lx, _, _, rfl, rfl, e4 _ _ (e3 _ _ d1), upd_same, by show 1 + 1 ≤ sizeLine; decide, fun r hr => ?_⟩
      have e5 := Ext.upd (o := .lst ([a0].map V.ref ++ [.ref c])) hr
      have E := (e3.trans e4).trans e5
      have cm := ok.bal
      rw [mul_flat] at cm
      have cm : ((colsF (c0 ++ []) : Nat) : Int) = ((rowsF (c0 ++ []) : Nat) : Int) := cm
      rw [List.append_nil] at cm
      refine k r _ [c0, c0] (F2.trans (Frm.ext E)) (hp2.frm (M := []) (Frm.ext E) (fun z => nomatch z)) ⟨[a0, c], upd_same, .cons (CutsL.ext ⟨bs, b1, b2⟩ E) (.cons ⟨bs, e5 _ _ (e4 _ _ upd_same), pd_imp (fun _ _ z => E _ _ z) b2⟩ .nil)⟩ ⟨by show 1 ≤ 2; decide, by show 2 ≤ 3; decide, fun cs m => ok.h1 cs ?_, fun cs m => ok.h5 cs ?_, fun cs m => ok.hc cs ?_, fun cs m => ok.h32 cs ?_, ?_⟩
      any_goals
        simp only [List.mem_cons, List.not_mem_nil, or_false, or_self] at m
        rw [m]
        exact .head _
      rw [mul_flat]
      show ((colsF (c0 ++ (c0 ++ [])) : Nat) : Int) = ((rowsF (c0 ++ (c0 ++ [])) : Nat) : Int)
      obtain ⟨q1, q2⟩ := cols_app c0 c0
      rw [List.append_nil, q1, q2, Int.natCast_mul, Int.natCast_mul, cm]
    · refine ⟨_, rfl, rfl, _, rfl, ite2 (fun _ => ?_) (fun _ => ⟨_, rfl, p, rfl, hp2, fun l' H' ms F hp' hl' ok' _ => k l' H' ms (F2.trans F) hp' hl' ok'⟩)⟩
      refine ⟨_, rfl, D, rfl, ⟨_, SqL.of d1⟩, fun Dz hDz => lc_walk (xs := ds.map V.ref) walk_l (fun i H' => ∃ es : List Addr, H' Dz = some (.lst (es.map V.ref)) ∧ Paired (fun a cs => CutsL H' a cs ∧ a ≠ Dz) es ((rs.take i).map turnF) ∧ Ext H2 H') ⟨[], upd_same, .nil, Ext.upd hDz⟩ (fun _ _ ⟨_, _, _, e⟩ => SqL.of (e _ _ d1)) ?_ ?_⟩
      · rintro i y H3 hy ⟨es, g1, g2, e⟩
        obtain ⟨a, rfl, cs, hci, bs, b1, b2⟩ := refs_get d2 hy
        have hm := List.mem_of_getElem? hci
        refine ⟨rfl, lc_yes ⟨_, rfl, a, rfl, ⟨_, SqL.of (e _ _ b1)⟩, fun D2 hD2 => lc_walk (xs := bs.map V.ref) walk_l (fun j H4 => ∃ fs : List Addr, H4 D2 = some (.lst (fs.map V.ref)) ∧ Paired (fun a c => H4 a = some (.tup (cutV c))) fs (turnF (cs.take j)) ∧ Ext H3 H4) ⟨[], upd_same, .nil, Ext.upd hD2⟩ (fun _ _ ⟨_, _, _, e2⟩ => SqL.of (e2 _ _ (e _ _ b1))) ?_ ?_⟩⟩
        · rintro j z H4 hz ⟨fs, f1, f2, e2⟩
          obtain ⟨b, rfl, c, hcj, hb⟩ := refs_get b2 hz
          have hb2 := e2 _ _ (e _ _ hb)
          have fin : ∀ tt, H4 tt = none → ∃ acc, (upd H4 tt (.tup (cutV (!c.1, c.2)))) D2 = some (.lst acc) ∧ acc.length < sizeLine ∧ ∃ es' : List Addr, (upd (upd H4 tt (.tup (cutV (!c.1, c.2)))) D2 (.lst (acc ++ [.ref tt]))) D2 = some (.lst (es'.map V.ref)) ∧ Paired (fun a c' => (upd (upd H4 tt (.tup (cutV (!c.1, c.2)))) D2 (.lst (acc ++ [.ref tt]))) a = some (.tup (cutV c'))) es' (turnF (cs.take (j + 1))) ∧ Ext H3 (upd (upd H4 tt (.tup (cutV (!c.1, c.2)))) D2 (.lst (acc ++ [.ref tt]))) := fun tt htt => by
            have e3 := Ext.upd (o := .tup (cutV (!c.1, c.2))) htt
            have D2t : D2 ≠ tt := fun z => by rw [← z, f1] at htt; cases htt
            refine ⟨_, e3 _ _ f1, ?_, fs ++ [tt], ?_, ?_, ext_put (e2.trans e3) hD2⟩
            · have := ok.h5 cs hm
              rw [List.length_map, pd_len f2, turnF, List.length_map, List.length_take, szl]
              omega
            · rw [upd_same, List.map_append]
              rfl
            · rw [take_snoc hcj, turnF, List.map_append]
              exact pd_snoc (pd_imp (fun _ _ z => side_t (e3 _ _ f1) (e3 _ _ z)) f2) (by rw [upd_ne (Ne.symm D2t), upd_same])
          obtain ⟨ax, n⟩ := c
          cases ax with
          | false => exact ⟨rfl, lc_yes ⟨_, rfl, .inr (.inl ⟨b, _, 0, _, rfl, rfl, SqT.of hb2, rfl, rfl, _, rfl, ite2 (fun h => absurd (axS_inj (a := false) (b := true) (V.str.inj (of_decide_eq_true h))) (by decide)) (fun _ => ⟨_, rfl, .inr (.inl ⟨b, _, 1, _, rfl, rfl, SqT.of hb2, rfl, (by show 2 ≤ sizeLine; decide), fun tt htt => fin tt htt⟩)⟩)⟩)⟩⟩
          | true => exact ⟨rfl, lc_yes ⟨_, rfl, .inr (.inl ⟨b, _, 0, _, rfl, rfl, SqT.of hb2, rfl, rfl, _, rfl, ite2 (fun _ => ⟨_, rfl, .inr (.inl ⟨b, _, 1, _, rfl, rfl, SqT.of hb2, rfl, (by show 2 ≤ sizeLine; decide), fun tt htt => fin tt htt⟩)⟩) (fun h => absurd (decide_eq_true rfl) h)⟩)⟩⟩
        · rintro H4 ⟨fs, f1, f2, e2⟩
          rw [List.length_map, pd_len b2, List.take_length] at f2
          have n2 : D2 ≠ Dz := fun z => by rw [z, g1] at hD2; cases hD2
          refine ⟨_, e2 _ _ g1, ?_, es ++ [D2], ?_, ?_, ext_put (e.trans e2) hDz⟩
          · rw [List.length_map, pd_len g2, List.length_map, List.length_take, szl]
            omega
          · rw [upd_same, List.map_append]
            rfl
          · rw [take_snoc hci, List.map_append]
            exact pd_snoc (pd_imp (fun b c q => ⟨side_cuts (e2 _ _ g1) q.2 (q.1.ext e2), q.2⟩) g2) ⟨side_cuts (e2 _ _ g1) n2 ⟨fs, f1, f2⟩, n2⟩
      · rintro H3 ⟨es, g1, g2, e⟩
        rw [List.length_map, lds, List.take_length] at g2
        exact k Dz H3 _ (F2.trans (Frm.ext e)) (hp2.frm (M := []) (Frm.ext e) (fun z => nomatch z)) ⟨es, g1, pd_imp (fun _ _ z => z.1) g2⟩ (ok_turn ok)
    · refine ⟨_, rfl, rfl, _, rfl, ite2 (fun _ => ?_) (fun _ => ⟨_, rfl, p, rfl, hp2, fun l' H' ms F hp' hl' ok' _ => k l' H' ms (F2.trans F) hp' hl' ok'⟩)⟩
      refine ⟨_, rfl, D, rfl, ⟨_, SqL.of d1⟩, fun Dz hDz => lc_walk (xs := ds.map V.ref) walk_l (fun i H' => ∃ es : List Addr, H' Dz = some (.lst (es.map V.ref)) ∧ Paired (fun a cs => CutsL H' a cs ∧ a ≠ Dz) es ((rs.take i).map turnF) ∧ Ext H2 H') ⟨[], upd_same, .nil, Ext.upd hDz⟩ (fun _ _ ⟨_, _, _, e⟩ => SqL.of (e _ _ d1)) ?_ ?_⟩
      · rintro i y H3 hy ⟨es, g1, g2, e⟩
        obtain ⟨a, rfl, cs, hci, bs, b1, b2⟩ := refs_get d2 hy
        have hm := List.mem_of_getElem? hci
        refine ⟨rfl, lc_yes ⟨_, rfl, a, rfl, ⟨_, SqL.of (e _ _ b1)⟩, fun D2 hD2 => lc_walk (xs := bs.map V.ref) walk_l (fun j H4 => ∃ fs : List Addr, H4 D2 = some (.lst (fs.map V.ref)) ∧ Paired (fun a c => H4 a = some (.tup (cutV c))) fs (turnF (cs.take j)) ∧ Ext H3 H4) ⟨[], upd_same, .nil, Ext.upd hD2⟩ (fun _ _ ⟨_, _, _, e2⟩ => SqL.of (e2 _ _ (e _ _ b1))) ?_ ?_⟩⟩
        · rintro j z H4 hz ⟨fs, f1, f2, e2⟩
          obtain ⟨b, rfl, c, hcj, hb⟩ := refs_get b2 hz
          have hb2 := e2 _ _ (e _ _ hb)
          have fin : ∀ tt, H4 tt = none → ∃ acc, (upd H4 tt (.tup (cutV (!c.1, c.2)))) D2 = some (.lst acc) ∧ acc.length < sizeLine ∧ ∃ es' : List Addr, (upd (upd H4 tt (.tup (cutV (!c.1, c.2)))) D2 (.lst (acc ++ [.ref tt]))) D2 = some (.lst (es'.map V.ref)) ∧ Paired (fun a c' => (upd (upd H4 tt (.tup (cutV (!c.1, c.2)))) D2 (.lst (acc ++ [.ref tt]))) a = some (.tup (cutV c'))) es' (turnF (cs.take (j + 1))) ∧ Ext H3 (upd (upd H4 tt (.tup (cutV (!c.1, c.2)))) D2 (.lst (acc ++ [.ref tt]))) := fun tt htt => by
            have e3 := Ext.upd (o := .tup (cutV (!c.1, c.2))) htt
            have D2t : D2 ≠ tt := fun z => by rw [← z, f1] at htt; cases htt
            refine ⟨_, e3 _ _ f1, ?_, fs ++ [tt], ?_, ?_, ext_put (e2.trans e3) hD2⟩
            · have := ok.h5 cs hm
              rw [List.length_map, pd_len f2, turnF, List.length_map, List.length_take, szl]
              omega
            · rw [upd_same, List.map_append]
              rfl
            · rw [take_snoc hcj, turnF, List.map_append]
              exact pd_snoc (pd_imp (fun _ _ z => side_t (e3 _ _ f1) (e3 _ _ z)) f2) (by rw [upd_ne (Ne.symm D2t), upd_same])
          obtain ⟨ax, n⟩ := c
          cases ax with
          | false => exact ⟨rfl, lc_yes ⟨_, rfl, .inr (.inl ⟨b, _, 0, _, rfl, rfl, SqT.of hb2, rfl, rfl, _, rfl, ite2 (fun h => absurd (axS_inj (a := false) (b := true) (V.str.inj (of_decide_eq_true h))) (by decide)) (fun _ => ⟨_, rfl, .inr (.inl ⟨b, _, 1, _, rfl, rfl, SqT.of hb2, rfl, (by show 2 ≤ sizeLine; decide), fun tt htt => fin tt htt⟩)⟩)⟩)⟩⟩
          | true => exact ⟨rfl, lc_yes ⟨_, rfl, .inr (.inl ⟨b, _, 0, _, rfl, rfl, SqT.of hb2, rfl, rfl, _, rfl, ite2 (fun _ => ⟨_, rfl, .inr (.inl ⟨b, _, 1, _, rfl, rfl, SqT.of hb2, rfl, (by show 2 ≤ sizeLine; decide), fun tt htt => fin tt htt⟩)⟩) (fun h => absurd (decide_eq_true rfl) h)⟩)⟩⟩
        · rintro H4 ⟨fs, f1, f2, e2⟩
          rw [List.length_map, pd_len b2, List.take_length] at f2
          have n2 : D2 ≠ Dz := fun z => by rw [z, g1] at hD2; cases hD2
          refine ⟨_, e2 _ _ g1, ?_, es ++ [D2], ?_, ?_, ext_put (e.trans e2) hDz⟩
          · rw [List.length_map, pd_len g2, List.length_map, List.length_take, szl]
            omega
          · rw [upd_same, List.map_append]
            rfl
          · rw [take_snoc hci, List.map_append]
            exact pd_snoc (pd_imp (fun b c q => ⟨side_cuts (e2 _ _ g1) q.2 (q.1.ext e2), q.2⟩) g2) ⟨side_cuts (e2 _ _ g1) n2 ⟨fs, f1, f2⟩, n2⟩
      · rintro H3 ⟨es, g1, g2, e⟩
        rw [List.length_map, lds, List.take_length] at g2
        exact k Dz H3 _ (F2.trans (Frm.ext e)) (hp2.frm (M := []) (Frm.ext e) (fun z => nomatch z)) ⟨es, g1, pd_imp (fun _ _ z => z.1) g2⟩ (ok_turn ok)
end
end Mc

set_option Elab.async false
set_option linter.all false
set_option maxRecDepth 100000
set_option maxHeartbeats 4000000
set_option exponentiation.threshold 20000
namespace Mc
open PySem PySem.Spec PyProof.Rows L2 ClX ClX StX
section
variable {X : Cx} {C p f q : Addr} {mc : Value} {m : Str} {k n : Nat} {fd : FuncData} {ps ks : List Str} {sp : Sp} {o e : Expr} {es : List Expr} {to : TE} {t tk : TA} {pos apos : Pos} {pl : Sem Bool} {kws : List Keyword} {g : List Value → List Value → List Value} {gV : List V → List V → List V} {pins : List (Addr × Obj)} {σ : L2.St} {H : Hp} {s : Shared}
theorem run_cmF {Q : VK} {us us' : List Value} {kw : List (Str × Value)} {vs' : List V} (F : FnOk X.prog X.w X.K X.mg X.base CX0 k f fd ps sp) (hr : Room k X.A) (I : Inv X ((q, PySem.W.methodObj (.ref f) (.ref C)) :: pins) σ H s)
    (hb : BindsTo s fd ⟨.ref C :: us, kw⟩ (ps.zip us')) (r : Vals vs' us') (h : sp vs' H Q E0) : wpAny (model X.prog X.w) X.A (call (.ref q) us kw) (EP X pins σ Q) X.xe s := by
  have z : wpAny (model X.prog X.w) X.A (call (.ref q) us kw) (EP X ((q, PySem.W.methodObj (.ref f) (.ref C)) :: pins) σ Q) X.xe s :=
    wpAny_call (PySem.W.method_call (pin_at I) (codeAny_mono (F.run X.A X.stack s H ⟨.ref C :: us, kw⟩ us' vs' Q E0 hr I.env0 hb r h) fun r s' hq => by
      cases r with
      | error e => exact hq.elim
      | ok fl =>
        cases fl with
        | ret u => exact I.after hq
        | next => exact hq.elim
        | brk => exact hq.elim
        | cont => exact hq.elim))
  exact thn z fun _ _ y => unpinE y
/-- C.m(), m a classmethod -/
def tCMeth0 (C : Addr) (sp : Sp) (ta : TE) : TE := fun σ H Q => ta σ H fun x H1 => x = .ref C ∧ sp [.ref C] H1 Q E0
theorem pe_cmeth0 (he : PE X o to) (r : CRead X.K C mc) (c : CMet X.K C mc m p f) (F : FnOk X.prog X.w X.K X.mg X.base CX0 k f fd ps sp) (hr : Room k X.A) (hb : Binds X.K fd ps [])
    (ht : eval (.Call (.Attribute o m apos) [] [] pos) X.env = (do
      let ov ← eval o X.env
      standAt apos.atName
      let (f, first) ← holding [ov] (getMethod ov m pl)
      callWith pos f first (backTo pos (starEach [] X.env)) (backToKw pos (keywordEach [] X.env))) := by rfl) : PE X (.Call (.Attribute o m apos) [] [] pos) (tCMeth0 C sp to) := by
  refine ⟨fun pins s σ H Q I h => ?_⟩
  refine PySem.W.methodCall_KW (pl := pl) (thn (he.run pins s σ H _ I h) fun u s1 ⟨x, H1, I1, rx, ex, q⟩ => ?_) ht
  subst ex
  obtain rfl : u = Value.ref C := rx
  refine getmethcm_ok I1 r c fun s2 I2 => ?_
  refine PySem.W.callWith_M0 ⟨pin_at I2, I2.kIn⟩ c.fi ?_
  have hb2 := hb s2 [.ref C] I2.kIn (F.len _ _ _ _ q)
  exact run_cmF (us := []) (us' := [.ref C]) (vs' := [.ref C]) F hr I2 hb2 (.cons rfl .nil) q
/-- C.m(e, ..) -/
theorem pe_cmethP (he : PE X o to) (r : CRead X.K C mc) (c : CMet X.K C mc m p f) (F : FnOk X.prog X.w X.K X.mg X.base CX0 k f fd ps sp) (hr : Room k X.A) (hb : Binds X.K fd ps []) (ha : PA X (e :: es) t)
    (hst : starEach (e :: es) X.env = (false, eval e X.env) :: starEach es X.env := by rfl) (hpl : (backTo pos (starEach es X.env)).any (·.1) = false := by rfl)
    (ht : eval (.Call (.Attribute o m apos) (e :: es) [] pos) X.env = (do
      let ov ← eval o X.env
      standAt apos.atName
      let (f, first) ← holding [ov] (getMethod ov m pl)
      callWith pos f first (backTo pos (starEach (e :: es) X.env)) (backToKw pos (keywordEach [] X.env))) := by rfl) : PE X (.Call (.Attribute o m apos) (e :: es) [] pos) (tCMeth C sp E0 to t) := by
  refine ⟨fun pins s σ H Q I h => ?_⟩
  refine PySem.W.methodCall_KW (pl := pl) (thn (he.run pins s σ H _ I h) fun u s1 ⟨x, H1, I1, rx, ex, q⟩ => ?_) ht
  subst ex
  obtain rfl : u = Value.ref C := rx
  refine getmethcm_ok I1 r c fun s2 I2 => ?_
  refine callwith_cm I2 (base_none I1 (Nat.le_refl _)) c.fi (thn (ha.run pos _ s2 σ H1 _ I2 q) fun us s3 ⟨vs, H2, I3, rv, q2⟩ => ⟨⟨pin_at I3, I3.kIn⟩, ?_⟩) hst hpl
  have hl : (Value.ref C :: us).length = ps.length := by rw [← F.len _ _ _ _ q2, List.length_cons, List.length_cons, rv.length]
  have hb2 := hb s3 (.ref C :: us) I3.kIn (by rw [List.append_nil]; exact hl)
  rw [List.append_nil] at hb2
  exact run_cmF (us' := .ref C :: us) (vs' := .ref C :: vs) F hr I3 hb2 (.cons rfl rv) q2
/-- C.m(x=e, ..) -/
def tCMethK (sp : Sp) (C : Addr) (m : Nat) (gV : List V → List V → List V) (to : TE) (tk : TA) : TE := fun σ H Q => to σ H fun x H0 => x = .ref C ∧ tk σ H0 fun zs H1 => zs.length = m ∧ sp (gV [.ref C] zs) H1 Q E0
theorem pe_cmethK (he : PE X o to) (r : CRead X.K C mc) (c : CMet X.K C mc m p f) (F : FnOk X.prog X.w X.K X.mg X.base CX0 k f fd ps sp) (hr : Room k X.A) (hb : KBn X.K fd ps 1 ks g gV) (hkw : PK X kws tk)
    (hall : (backToKw pos (keywordEach kws X.env)).all (·.1.isSome) = true := by rfl) (hks : (backToKw pos (keywordEach kws X.env)).filterMap (·.1) = ks := by rfl)
    (hpl : ((backTo pos (starEach [] X.env)).any (·.1) || (backToKw pos (keywordEach kws X.env)).any (·.1.isNone)) = false := by rfl)
    (ht : eval (.Call (.Attribute o m apos) [] kws pos) X.env = (do
      let ov ← eval o X.env
      standAt apos.atName
      let (f, first) ← holding [ov] (getMethod ov m pl)
      callWith pos f first (backTo pos (starEach [] X.env)) (backToKw pos (keywordEach kws X.env))) := by rfl) : PE X (.Call (.Attribute o m apos) [] kws pos) (tCMethK sp C ks.length gV to tk) := by
  refine ⟨fun pins s σ H Q I h => ?_⟩
  refine PySem.W.methodCall_KW (pl := pl) (thn (he.run pins s σ H _ I h) fun u s1 ⟨x, H1, I1, rx, ex, q⟩ => ?_) ht
  subst ex
  obtain rfl : u = Value.ref C := rx
  refine getmethcm_ok I1 r c fun s2 I2 => ?_
  refine PySem.W.callWith_of (P := PySem.W.MethP X.K s1.heap.objs.size f (.ref C)) hpl (PySem.W.keeps_M c.fi) (evalArgs_kw2_nil hall ?_)
  refine thn (hkw.run pos _ s2 σ H1 _ I2 q) fun ws s3 ⟨zs, H2, I3, rz, l2, q2⟩ => ⟨⟨pin_at I3, I3.kIn⟩, ?_⟩
  rw [hks]
  exact run_cmF (us := []) (us' := g [.ref C] ws) (vs' := gV [.ref C] zs) F hr I3 (hb.to s3 [.ref C] ws I3.kIn rfl (rz.length.symm.trans l2)) (hb.rel (.cons (show L2.RelV (V.ref C) (Value.ref C) from rfl) .nil) rz) q2
end
section
variable {P : Program} {w : World} {K : PySem.W.Frag} {mg : Str → Option Value} {base : Heap} {f C0 aX : Addr} {mc : Value} {fd : FuncData}
theorem sc_known_right : FnScope ["_law_pot_here", "_law_n", "_law_twos", "_law_codes", "_law_row"] ["_law_pot_here"] (defScope s_known_right) := ⟨rfl, rfl, rfl, by decide +kernel, rfl, by decide +kernel, by decide +kernel⟩
def spKnownR : Sp := fun vs H Q _ => ∃ p : Addr, vs = [.ref p] ∧ Pot H p ∧ ∀ H', Frm [p] H H' → Pot H' p → Q (.bl true) H'
theorem ok_known_right (F : FunD K "_law_known_right" "_law_known_right" (defArgs s_known_right) (defBody s_known_right) (defScope s_known_right) [] [] f fd) (T : TB mg) (R : PlanT K mg C0 aX mc) {fI : Addr} (MkP : Mk K C0 fI) (GN : FnR P w K mg base CX0 6 fI (spPlanN K C0)) (RE : PlanE K C0) {fE : Addr} {fdE : FuncData} (mE : Meth K C0 "__eq__" fE) (GE : FnOk P w K mg base CX0 1 fE fdE ["self", "other"] (spEqP K C0)) (bE : Binds K fdE ["self", "other"] []) {pSq fSq : Addr} {fdSq : FuncData} (cSq : ClX.CMet K C0 mc "squares" pSq fSq) (Gsq : FnOk P w K mg base CX0 8 fSq fdSq ["cls", "parts"] (spSquares C0)) (bSq : Binds K fdSq ["cls", "parts"] []) (kSq : KBn K fdSq ["cls", "parts"] 1 ["parts"] (fun us ws => us ++ pm [0] ws) (fun vs zs => vs ++ pm [0] zs)) {pCo fCo : Addr} {fdCo : FuncData} (cCo : ClX.CMet K C0 mc "codes" pCo fCo) (Gco : FnOk P w K mg base CX0 8 fCo fdCo ["cls"] (spCodes C0)) (bCo : Binds K fdCo ["cls"] []) {fdraw : Addr} {fddraw : FuncData} (Ddraw : Gd P w K mg base "_law_draw" 1 ["_law_pot_here", "_law_size"] (spDraw) fdraw fddraw) {ftold_right : Addr} {fdtold_right : FuncData} (Dtold_right : Gg P w K mg base "_law_told_right" 11 ["_law_made", "_law_rows"] (spToldR C0) ftold_right fdtold_right) : FnOkG P w K mg base CX0 12 f fd ["_law_pot_here"] (spKnownR) := by
  refine okG F sc_known_right (fun vs H Q E h => ?_) (fun cdv A outer s H vs Q E hr h => ?_)
  · obtain ⟨p, rfl, hp, k⟩ := h
    rfl
  · obtain ⟨p, rfl, hp, k⟩ := h
    refine ⟨_, (pss_cons (ps_set (i := 1) sc_known_right.nd rfl (.inl rfl) (pe_op op_add pe_int (pe_gd Ddraw hr.room (by decide) (by rfl) (pa_cons (pv 0) (pa_cons pe_int pa_nil)))))
      (pss_cons (ps_set (i := 2) sc_known_right.nd rfl (.inl rfl) (pe_lst (pa_cons (pe_tup (pa_cons pe_str (pa_cons pe_int pa_nil))) (pa_cons (pe_tup (pa_cons pe_str (pa_cons pe_int pa_nil))) (pa_cons (pe_tup (pa_cons pe_str (pa_cons pe_int pa_nil))) (pa_cons (pe_tup (pa_cons pe_str (pa_cons pe_int pa_nil))) (pa_cons (pe_tup (pa_cons pe_str (pa_cons pe_int pa_nil))) pa_nil)))))))
      (pss_cons (ps_set (i := 3) sc_known_right.nd rfl (.inl rfl) (pe_lst (pa_cons (pv 2) (pa_cons (pe_lst (pa_cons (pe_tup (pa_cons pe_str (pa_cons pe_int pa_nil))) (pa_cons (pe_tup (pa_cons pe_str (pa_cons pe_int pa_nil))) (pa_cons (pe_tup (pa_cons pe_str (pa_cons pe_int pa_nil))) (pa_cons (pe_tup (pa_cons pe_str (pa_cons pe_int pa_nil))) (pa_cons (pe_tup (pa_cons pe_str (pa_cons pe_int pa_nil))) pa_nil)))))) pa_nil))))
      (pss_cons (ps_if (PW.pt (pw_or (pt_not (pt_val (pe_gg Dtold_right hr (by decide) (by rfl) (pa_cons (pe_cmethP (pe_glob (v := .ref C0) (by rfl) R.mgP rfl) R.cr cSq Gsq (hr.room.mono (by decide)) bSq (pa_cons (pv 1) pa_nil)) (pa_cons (pe_lst (pa_cons (pe_lst (pa_cons (pe_tup (pa_cons pe_str (pa_cons (pv 1) pa_nil))) (pa_cons (pe_tup (pa_cons pe_str (pa_cons (pv 1) pa_nil))) pa_nil))) pa_nil)) pa_nil))))) (pw_or1 (pt_cmpR (op_neO mE RE.ne RE.cm GE bE (hr.room.mono (by decide))) (pe_cmethK (pe_glob (v := .ref C0) (by rfl) R.mgP rfl) R.cr cSq Gsq (hr.room.mono (by decide)) kSq (pk_cons (pv 1) pk_nil)) (pe_cmethP (pe_glob (v := .ref C0) (by rfl) R.mgP rfl) R.cr cSq Gsq (hr.room.mono (by decide)) bSq (pa_cons (pv 1) pa_nil)) (nomark _))))) (pss_one (ps_ret pe_bl)) pss_nil)
      (pss_cons (ps_set (i := 4) sc_known_right.nd rfl (.inl rfl) (pe_lst (pa_cons (pe_tup (pa_cons pe_str (pa_cons (pv 1) pa_nil))) (pa_cons (pe_tup (pa_cons pe_str (pa_cons (pv 1) pa_nil))) pa_nil))))
      (pss_cons (ps_if (PW.pt (pw_or (pt_not (pt_val (pe_gg Dtold_right hr (by decide) (by rfl) (pa_cons (pe_cmeth0 (pe_glob (v := .ref C0) (by rfl) R.mgP rfl) R.cr cCo Gco (hr.room.mono (by decide)) bCo) (pa_cons (pv 3) pa_nil))))) (pw_or1 (pt_not (pt_val (pe_gg Dtold_right hr (by decide) (by rfl) (pa_cons (pe_makeR MkP GN (hr.room.mono (by decide)) (by rfl) R.mgP pass0 (pa_cons (pv 4) (pa_cons (pv 4) pa_nil))) (pa_cons (pe_lst (pa_cons (pe_callTy call_list_of (by rfl) T.list (by decide +kernel) (pa_cons (pv 4) pa_nil)) (pa_cons (pe_callTy call_list_of (by rfl) T.list (by decide +kernel) (pa_cons (pv 4) pa_nil)) pa_nil))) pa_nil)))))))) (pss_one (ps_ret pe_bl)) pss_nil)
      (pss_one (ps_ret (pe_cmpR op_eq (pe_callB (call_reprDK (K := K) hr rfl) (by rfl) T.repr boot_repr (pa_cons (pe_lst (pa_cons (pe_cval (pe_glob (v := .ref C0) (by rfl) R.mgP rfl)) (pa_cons (pe_cval (pe_glob (v := .ref C0) (by rfl) R.mgP rfl)) (pa_cons (pe_cval (pe_glob (v := .ref C0) (by rfl) R.mgP rfl)) pa_nil)))) pa_nil)) (pe_callB (call_reprDK (K := K) hr rfl) (by rfl) T.repr boot_repr (pa_cons (pe_lst (pa_cons pe_int (pa_cons pe_int (pa_cons pe_int pa_nil)))) pa_nil)) (nomark _)))))))))), ?_⟩
    refine ⟨_, rfl, p, 3, rfl, hp, by decide, by decide, fun r H1 a0 a1 F1 hp1 => ?_⟩
    obtain ⟨r, rfl⟩ := Int.eq_ofNat_of_zero_le a0
    refine ⟨_, _, rfl, rfl, ?_⟩
    refine ⟨(by show 2 ≤ sizeLine; decide), fun t1 h1 => ⟨(by show 2 ≤ sizeLine; decide), fun t2 h2 => ⟨(by show 2 ≤ sizeLine; decide), fun t3 h3 => ⟨(by show 2 ≤ sizeLine; decide), fun t4 h4 => ⟨(by show 2 ≤ sizeLine; decide), fun t5 h5 => ⟨(by show 5 ≤ sizeLine; decide), fun tw htw => ?_⟩⟩⟩⟩⟩⟩
    refine ⟨_, rfl, (by show 2 ≤ sizeLine; decide), fun t6 h6 => ⟨(by show 2 ≤ sizeLine; decide), fun t7 h7 => ⟨(by show 2 ≤ sizeLine; decide), fun t8 h8 => ⟨(by show 2 ≤ sizeLine; decide), fun t9 h9 => ⟨(by show 2 ≤ sizeLine; decide), fun ta ha => ⟨(by show 5 ≤ sizeLine; decide), fun tx htx => ⟨(by show 2 ≤ sizeLine; decide), fun cd hcd => ?_⟩⟩⟩⟩⟩⟩⟩
    have x1 := Ext.upd (o := .tup (cutV (true, 2))) h1
    have x2 := Ext.upd (o := .tup (cutV (false, 2))) h2
    have x3 := Ext.upd (o := .tup (cutV (true, 2))) h3
    have x4 := Ext.upd (o := .tup (cutV (false, 2))) h4
    have x5 := Ext.upd (o := .tup (cutV (true, 2))) h5
    have xw := Ext.upd (o := .lst [.ref t1, .ref t2, .ref t3, .ref t4, .ref t5]) htw
    have x6 := Ext.upd (o := .tup (cutV (false, 2))) h6
    have x7 := Ext.upd (o := .tup (cutV (true, 2))) h7
    have x8 := Ext.upd (o := .tup (cutV (false, 2))) h8
    have x9 := Ext.upd (o := .tup (cutV (true, 2))) h9
    have xa := Ext.upd (o := .tup (cutV (false, 2))) ha
    have xx := Ext.upd (o := .lst [.ref t6, .ref t7, .ref t8, .ref t9, .ref ta]) htx
    have xc := Ext.upd (o := .lst [.ref tw, .ref tx]) hcd
    have y3 := xx.trans xc
    have ya := xa.trans y3
    have y9 := x9.trans ya
    have y8 := x8.trans y9
    have y7 := x7.trans y8
    have y6 := x6.trans y7
    have yw := xw.trans y6
    have y5 := x5.trans yw
    have y4 := x4.trans y5
    have y3' := x3.trans y4
    have y2 := x2.trans y3'
    have y1 := x1.trans y2
    have hcd2 : RowsL (upd _ cd (.lst [V.ref tw, V.ref tx])) cd codesR := ⟨[tw, tx], upd_same, .cons ⟨[t1, t2, t3, t4, t5], y6 _ _ upd_same, .cons (y2 _ _ upd_same) (.cons (y3' _ _ upd_same) (.cons (y4 _ _ upd_same) (.cons (y5 _ _ upd_same) (.cons (yw _ _ upd_same) .nil))))⟩ (.cons ⟨[t6, t7, t8, t9, ta], xc _ _ upd_same, .cons (y7 _ _ upd_same) (.cons (y8 _ _ upd_same) (.cons (y9 _ _ upd_same) (.cons (ya _ _ upd_same) (.cons (y3 _ _ upd_same) .nil))))⟩ .nil)⟩
    have hp2 := hp1.frm (M := []) (Frm.ext y1) (fun z => nomatch z)
    have F2 := F1.trans (Frm.ext (M := [p]) y1)
    generalize upd _ cd _ = H2 at *
    clear x1 x2 x3 x4 x5 xw x6 x7 x8 x9 xa xx xc y3 ya y9 y8 y7 y6 yw y5 y4 y3' y2 y1
    have n2 : 2 ≤ 2 + r := by omega
    have n4 : 2 + r ≤ 4 := by omega
    refine ⟨rfl, _, rfl, 2 + r, rfl, n2, n4, fun y H3 e3 ny hy => ?_⟩
    refine ⟨_, rfl, (by show 2 ≤ sizeLine; decide), fun s1 hs1 => ⟨_, rfl, (by show 2 ≤ sizeLine; decide), fun s2 hs2 => ⟨(by show 2 ≤ sizeLine; decide), fun s3 hs3 => ⟨(by show 1 ≤ sizeLine; decide), fun s4 hs4 => ?_⟩⟩⟩⟩
    have z1 := Ext.upd (o := .tup (cutV (true, 2 + r))) hs1
    have z2 := Ext.upd (o := .tup (cutV (false, 2 + r))) hs2
    have z3 := Ext.upd (o := .lst [.ref s1, .ref s2]) hs3
    have z4 := Ext.upd (o := .lst [.ref s3]) hs4
    have Z := (z1.trans z2).trans (z3.trans z4)
    refine ⟨y, s4, sqR (2 + r), rfl, hy.ext Z, ⟨[s3], upd_same, .cons ⟨[s1, s2], z4 _ _ upd_same, .cons (z4 _ _ (z3 _ _ (z2 _ _ upd_same))) (.cons (z4 _ _ (z3 _ _ upd_same)) .nil)⟩ .nil⟩, ok_sq n2 n4, fun H4 e4 => ⟨_, rfl, iteF ?_⟩⟩
    have E4 := (e3.trans Z).trans e4
    clear z1 z2 z3 z4 Z
    refine ⟨rfl, _, rfl, rfl, 2 + r, rfl, n2, n4, fun y1 H5 e5 ny1 hy1 => ⟨rfl, _, rfl, 2 + r, rfl, n2, n4, fun y2 H6 e6 ny2 hy2 => ?_⟩⟩
    have hy16 := hy1.ext e6
    obtain ⟨d1, lr1, lp1, ll1, g1, i1, i2⟩ := id hy16
    obtain ⟨d2, lr2, lp2, ll2, g2, j1, j2⟩ := id hy2
    refine ⟨y1, d1, _, _, rfl, i1, .base (.ins j1 R.cl RE.ca RE.cn RE.ct RE.cm), by simp [PySem.W.notFirst], y1, .ref y2, sqR (2 + r), rfl, hy16, by show 1 ≤ 3; decide, .inl ⟨y2, sqR (2 + r), rfl, hy2, by show 1 ≤ 3; decide, true, by rw [decide_eq_true rfl], _, rfl, iteF ?_⟩⟩
    have E6 := (E4.trans e5).trans e6
    refine ⟨_, rfl, (by show 2 ≤ sizeLine; decide), fun s1 hs1 => ⟨_, rfl, (by show 2 ≤ sizeLine; decide), fun s2 hs2 => ⟨(by show 2 ≤ sizeLine; decide), fun rw_ hrw => ?_⟩⟩⟩
    have z1 := Ext.upd (o := .tup (cutV (true, 2 + r))) hs1
    have z2 := Ext.upd (o := .tup (cutV (false, 2 + r))) hs2
    have z3 := Ext.upd (o := .lst [.ref s1, .ref s2]) hrw
    have Z := (z1.trans z2).trans z3
    have hrow : CutsL (upd _ rw_ (.lst [V.ref s1, V.ref s2])) rw_ [(true, 2 + r), (false, 2 + r)] := ⟨[s1, s2], upd_same, .cons (z3 _ _ (z2 _ _ upd_same)) (.cons (z3 _ _ upd_same) .nil)⟩
    have E7 := E6.trans Z
    generalize upd _ rw_ _ = H7 at *
    clear z1 z2 z3 Z
    refine ⟨rfl, rfl, fun y3 H8 e8 ny3 hy3 => ⟨_, rfl, y3, cd, codesR, rfl, hy3, hcd2.ext (E7.trans e8), ok_codes, fun H9 e9 => ⟨_, rfl, iteF ?_⟩⟩⟩
    have E9 := (E7.trans e8).trans e9
    have hrow9 := (hrow.ext e8).ext e9
    have okp : OkR [[(true, 2 + r), (false, 2 + r)], [(true, 2 + r), (false, 2 + r)]] := by
      have e : r = 0 ∨ r = 1 ∨ r = 2 := by omega
      rcases e with rfl | rfl | rfl <;> exact ⟨by decide, by decide, by decide, by decide, by decide, by decide, by decide⟩
    refine ⟨_, rfl, _, rfl, fun x dx hx hdx ne => ?_⟩
    have em : Ext H9 (upd (upd H9 dx (.own x)) x (.ins C0 dx [])) := mk_ext hx hdx
    refine ⟨x, dx, [.ref rw_, .ref rw_], _, rfl, upd_same, .cons (hrow9.ext em).at (.cons (hrow9.ext em).at .nil), okp, fun Ha fa hpa => ⟨rfl, ?_⟩⟩
    have ea := made_ext hx hdx fa
    have hrowa := hrow9.ext ea
    obtain ⟨rs0, q1, q2⟩ := id hrowa
    refine ⟨_, rfl, rw_, _, rfl, .inl (SqL.of q1), fun c1 hc1 => ⟨_, rfl, rw_, _, rfl, .inl (SqL.of (Ext.upd hc1 _ _ q1)), fun c2 hc2 => ⟨(by show 2 ≤ sizeLine; decide), fun l2 hl2 => ?_⟩⟩⟩
    have w1 := Ext.upd (o := .lst (rs0.map V.ref)) hc1
    have w2 := Ext.upd (o := .lst (rs0.map V.ref)) hc2
    have w3 := Ext.upd (o := .lst [.ref c1, .ref c2]) hl2
    have W := (w1.trans w2).trans w3
    refine ⟨x, l2, _, rfl, hpa.at.ext W, ⟨[c1, c2], upd_same, .cons ⟨rs0, w3 _ _ (w2 _ _ upd_same), pd_imp (fun _ _ z => W _ _ z) q2⟩ (.cons ⟨rs0, w3 _ _ upd_same, pd_imp (fun _ _ z => W _ _ z) q2⟩ .nil)⟩, okp, fun Hb eb => ⟨_, rfl, iteF ?_⟩⟩
    have Eb := ((E9.trans ea).trans W).trans eb
    obtain ⟨u3, hu3⟩ := R.cR
    obtain ⟨u5, hu5⟩ := R.cC
    obtain ⟨u32, hu32⟩ := R.cS
    obtain ⟨c1', c2', c3', c4'⟩ := (Sm.l3 (k := 3) (n := 10) (a := .int 3) (b := .int 5) (c := .int 32) (by decide) (by show (3 : Int).natAbs < 2 ^ 64; decide) (by show (5 : Int).natAbs < 2 ^ 64; decide) (by show (32 : Int).natAbs < 2 ^ 64; decide)).show (by decide)
    refine ⟨C0, mc, _, u3, rfl, R.cr, hu3, C0, mc, _, u5, rfl, R.cr, hu5, C0, mc, _, u32, rfl, R.cr, hu32, (by show 3 ≤ sizeLine; decide), fun tl htl => ?_⟩
    have v1 := Ext.upd (o := .lst [.int 3, .int 5, .int 32]) htl
    refine ⟨tl, .list [.int 3, .int 5, .int 32], rfl, .lst (SqL.of upd_same) (.cons (.int _) (.cons (.int _) (.cons (.int _) .nil))), c1', c2', c3', c4', (by show 3 ≤ sizeLine; decide), fun tl2 htl2 => ?_⟩
    have v2 := Ext.upd (o := .lst [.int 3, .int 5, .int 32]) htl2
    refine ⟨tl2, .list [.int 3, .int 5, .int 32], rfl, .lst (SqL.of upd_same) (.cons (.int _) (.cons (.int _) (.cons (.int _) .nil))), c1', c2', c3', c4', rfl, ?_⟩
    rw [decide_eq_true rfl]
    have EE := (Eb.trans v1).trans v2
    exact k _ (F2.trans (Frm.ext EE)) (hp2.frm (M := []) (Frm.ext EE) (fun z => nomatch z))
end
end Mc

set_option Elab.async false
set_option linter.all false
set_option maxRecDepth 100000
set_option maxHeartbeats 4000000
set_option exponentiation.threshold 20000
namespace Mc
open PySem PySem.Spec PyProof.Rows L2 ClX StX
section
variable {P : Program} {w : World} {K : PySem.W.Frag} {mg : Str → Option Value} {base : Heap} {f C0 aX : Addr} {mc : Value} {fd : FuncData}
theorem sc_right : FnScope ["_law_pot_here", "_law_rows", "_law_row", "_law_passed", "_law_made", "_law_turn"] ["_law_pot_here"] (defScope s_right) := ⟨rfl, rfl, rfl, by decide +kernel, rfl, by decide +kernel, by decide +kernel⟩
theorem call_tupleK {X : Cx} {K : PySem.W.Frag} (hK : X.K = K) : CallR X (.type "tuple") (fun xs H Q => ∃ p ys, xs = [.ref p] ∧ ((SqL K H p ys ∧ ∀ l, H l = none → Q (.ref l) (upd H l (.tup ys))) ∨ (SqT K H p ys ∧ Q (.ref p) H))) := by
  subst hK
  exact call_tuple_of
theorem plan_frm14 {C0 : Addr} {H H' : Hp} {p t : Addr} {rs : List (List Cut)} (h : PlanAt C0 H t rs) (hp : Pot H p) (f : Frm [p] H H') : PlanAt C0 H' t rs := by
  obtain ⟨dx, lr, lp, ll, g, h1, ⟨⟨a1, r1, r2⟩, ⟨a2, p1, p2⟩, ⟨a3, q1, q2⟩, hg⟩⟩ := h
  have nt : t ∉ [p] := fun z => by
    obtain ⟨x, y, e, _⟩ := hp
    rw [List.mem_singleton.mp z, e] at h1
    cases h1
  have ls : ∀ {a : Addr} {bs : List Addr}, H a = some (.lst (bs.map V.ref)) → H' a = some (.lst (bs.map V.ref)) := fun {a bs} z => f _ _ z (fun w => refs_ne_pot hp z (List.mem_singleton.mp w))
  exact ⟨dx, lr, lp, ll, g, f _ _ h1 nt, ⟨a1, ls r1, pd_imp (fun a cs q => by
    obtain ⟨bs, b1, b2⟩ := q
    exact ⟨bs, ls b1, pd_imp (fun _ _ w => f.tup hp w) b2⟩) r2⟩, ⟨a2, ls p1, pd_imp (fun _ _ w => f.tup hp w) p2⟩, ⟨a3, ls q1, pd_imp (fun a cs q => by
    obtain ⟨bs, b1, b2⟩ := q
    exact ⟨bs, ls b1, pd_imp (fun _ _ w => f.tup hp w) b2⟩) q2⟩, hg⟩
/-- a row that is passed on: a new list or a tuple -/
def PV (H0 : Hp) (p D : Addr) (H : Hp) (v : V) (cs : List Cut) : Prop := ∃ (a : Addr) (bs : List Addr), v = .ref a ∧ (H a = some (.lst (bs.map V.ref)) ∨ H a = some (.tup (bs.map V.ref))) ∧ Paired (fun t c => H t = some (.tup (cutV c))) bs cs ∧ a ≠ D ∧ a ≠ p ∧ H0 a = none
def PM (H0 H2 : Hp) (p D : Addr) (n : Nat) (H : Hp) (v : V) : Prop := ∃ a : Addr, v = .ref a ∧ a ≠ D ∧ a ≠ p ∧ H0 a = none ∧ ((∃ y ys xs, H a = some (.lst (y :: ys)) ∧ ys.length ≤ n ∧ H2 a = some (.lst xs)) ∨ ∃ xs, H a = some (.tup xs))
def spRight14 : Sp := fun vs H Q _ => ∃ p : Addr, vs = [.ref p] ∧ Pot H p ∧ ∀ H', Frm [p] H H' → Pot H' p → Q (.bl true) H'
theorem PV.cuts {K : PySem.W.Frag} {H0 H : Hp} {p D : Addr} {v : V} {cs : List Cut} (h : PV H0 p D H v cs) : CutsAt K H v cs := by
  obtain ⟨a, bs, rfl, h1, h2, _⟩ := h
  rcases h1 with h1 | h1
  · exact ⟨a, bs, rfl, .inl (SqL.of h1), h2⟩
  · exact ⟨a, bs, rfl, .inr (SqT.of h1), h2⟩
theorem PV.frm {H0 H H' : Hp} {p D : Addr} {v : V} {cs : List Cut} (h : PV H0 p D H v cs) (hp : Pot H p) (f : Frm [p] H H') : PV H0 p D H' v cs := by
  obtain ⟨a, bs, rfl, h1, h2, h3, h4, h5⟩ := h
  refine ⟨a, bs, rfl, ?_, pd_imp (fun _ _ z => f.tup hp z) h2, h3, h4, h5⟩
  rcases h1 with h1 | h1
  · exact .inl (f _ _ h1 (fun z => h4 (List.mem_singleton.mp z)))
  · exact .inr (f _ _ h1 (fun z => h4 (List.mem_singleton.mp z)))
theorem PV.putD {H0 H : Hp} {p D : Addr} {v : V} {cs : List Cut} {xs ys : List V} (h : PV H0 p D H v cs) (hD : H D = some (.lst xs)) : PV H0 p D (upd H D (.lst ys)) v cs := by
  obtain ⟨a, bs, rfl, h1, h2, h3, h4, h5⟩ := h
  refine ⟨a, bs, rfl, ?_, pd_imp (fun _ _ z => side_t hD z) h2, h3, h4, h5⟩
  rw [upd_ne h3]
  exact h1
theorem pd_memV {F : V → List Cut → Prop} {rs : List (List Cut)} : ∀ {vs : List V}, Paired F vs rs → ∀ v ∈ vs, ∃ cs, cs ∈ rs ∧ F v cs := fun {vs} h v m => by
  obtain ⟨j, hj⟩ := List.getElem?_of_mem m
  obtain ⟨cs, h1, h2⟩ := pd_get h j v hj
  exact ⟨cs, List.mem_of_getElem? h1, h2⟩
theorem ext_frm {H H1 H2 : Hp} {q : Addr} (e : Ext H H1) (f : Frm [q] H1 H2) (hq : H q = none) : Ext H H2 := fun a o z => f a o (e a o z) fun m => by
  rw [List.mem_singleton.mp m, hq] at z
  cases z
theorem span5 (n : Int) : 1 ≤ (if (if 4 < n then 4 else n) > 1 then (if 4 < n then 4 else n) else 1) ∧ (if (if 4 < n then 4 else n) > 1 then (if 4 < n then 4 else n) else 1) ≤ 4 := by
  constructor <;> (split <;> split <;> omega)
theorem ok_right (F : FunD K "_law_right" "_law_right" (defArgs s_right) (defBody s_right) (defScope s_right) [] [] f fd) (T : TB mg) (R : PlanT K mg C0 aX mc) {fdraw : Addr} {fddraw : FuncData} (Ddraw : Gd P w K mg base "_law_draw" 1 ["_law_pot_here", "_law_size"] (spDraw) fdraw fddraw) {frounds : Addr} {fdrounds : FuncData} (Drounds : Gd P w K mg base "_law_rounds" 3 ["_law_pot_here"] (spRoundsC) frounds fdrounds) {fplan : Addr} {fdplan : FuncData} (Dplan : Gd P w K mg base "_law_plan" 8 ["_law_rows"] (spPlanL K C0) fplan fdplan) {fothers : Addr} {fdothers : FuncData} (Dothers : Gd P w K mg base "_law_others" 4 ["_law_pot_here", "_law_rows"] (spOthers) fothers fdothers) {ftold_right : Addr} {fdtold_right : FuncData} (Dtold_right : Gg P w K mg base "_law_told_right" 11 ["_law_made", "_law_rows"] (spToldR C0) ftold_right fdtold_right) {fequal_right : Addr} {fdequal_right : FuncData} (Dequal_right : Gg P w K mg base "_law_equal_right" 9 ["_law_made", "_law_rows", "_law_more"] (spEqualR C0) fequal_right fdequal_right) {fturned_right : Addr} {fdturned_right : FuncData} (Dturned_right : Gg P w K mg base "_law_turned_right" 12 ["_law_made", "_law_rows"] (spTurnedR C0) fturned_right fdturned_right) {fknown_right : Addr} {fdknown_right : FuncData} (Dknown_right : Gg P w K mg base "_law_known_right" 12 ["_law_pot_here"] (spKnownR) fknown_right fdknown_right) : FnOkG P w K mg base CX0 13 f fd ["_law_pot_here"] (spRight14) := by
  refine okG F sc_right (fun vs H Q E h => ?_) (fun cdv A outer s H vs Q E hr h => ?_)
  · obtain ⟨p, rfl, hp, k⟩ := h
    rfl
  · obtain ⟨p, rfl, hp, k⟩ := h
    refine ⟨_, (pss_cons (ps_set (i := 1) sc_right.nd rfl (.inl rfl) (pe_gd Drounds hr.room (by decide) (by rfl) (pa_cons (pv 0) pa_nil)))
      (pss_cons (ps_setLc (i := 3) (own := [("_law_row", 2)]) (g := gName 2) (tt := tYes) rfl sc_right.nd rfl rfl (sw_true rfl rfl rfl (by decide +kernel)) (pi_list (pv 1)) (blkOk_by (own := [("_law_row", 2)]) (N := ["_law_pot_here", "_law_rows", "_law_row", "_law_passed", "_law_made", "_law_turn"]) (sc := defScope s_right) (by decide +kernel)) (fun _ _ _ _ _ => (pg_name (i := 2) sc_right.nd rfl (.inl rfl))) (fun _ _ _ _ _ => pts_nil) (fun _ _ _ _ _ => (pe_ifExp (pt_cmpR op_eq (pe_gd Ddraw hr.room (by decide) (by rfl) (pa_cons (pv 0) (pa_cons pe_int pa_nil))) pe_int (nomark _)) (pe_callTy (call_listK (K := K) rfl) (by rfl) T.list (by decide +kernel) (pa_cons (pv 2) pa_nil)) (pe_callTy (call_tupleK (K := K) rfl) (by rfl) T.tuple (by decide +kernel) (pa_cons (pv 2) pa_nil)))))
      (pss_cons (ps_set (i := 4) sc_right.nd rfl (.inl rfl) (pe_gd Dplan hr.room (by decide) (by rfl) (pa_cons (pv 3) pa_nil)))
      (pss_cons (ps_for PassesOwn.never rfl (pi_list (pv 3)) (pg_name (i := 2) sc_right.nd rfl (.inl rfl)) (pss_one (ps_if (pt_val (pe_callB call_isi (by rfl) T.isinstance (by decide +kernel) (pa_cons (pv 2) (pa_cons (pe_bltn (v := .ty "list") (by rfl) T.list (by decide +kernel) rfl) pa_nil)))) (pss_cons (ps_expr (pe_bm PySem.F.plainAttrs_list PySem.F.slot_list_append PySem.F.type_list_append mt_append (pv 2) (pa_cons (pe_tup (pa_cons pe_str (pa_cons pe_int pa_nil))) pa_nil)))
      (pss_one (ps_asg (pe_tup (pa_cons pe_str (pa_cons pe_int pa_nil))) (pg_sub (pv 2) pe_int set_list)))) pss_nil)))
      (pss_cons (ps_expr (pe_bm0 PySem.F.plainAttrs_list PySem.F.slot_list_clear PySem.F.type_list_clear mt_clear (pv 3)))
      (pss_cons (ps_if (PW.pt (pw_or (pt_not (pt_val (pe_gg Dtold_right hr (by decide) (by rfl) (pa_cons (pv 4) (pa_cons (pv 1) pa_nil))))) (pw_or1 (pt_not (pt_val (pe_gg Dturned_right hr (by decide) (by rfl) (pa_cons (pv 4) (pa_cons (pv 1) pa_nil)))))))) (pss_one (ps_ret pe_bl)) pss_nil)
      (pss_cons (ps_for PassesOwn.never rfl (pi_range1 (by rfl) T.range (pa_cons pe_int pa_nil)) (pg_name (i := 5) sc_right.nd rfl (.inl rfl)) (pss_one (ps_if (pt_not (pt_val (pe_gg Dequal_right hr (by decide) (by rfl) (pa_cons (pv 4) (pa_cons (pv 1) (pa_cons (pe_gd Dothers hr.room (by decide) (by rfl) (pa_cons (pv 0) (pa_cons (pv 1) pa_nil))) pa_nil)))))) (pss_one (ps_ret pe_bl)) pss_nil)))
      (pss_one (ps_ret (pe_and (pe_gg Dequal_right hr (by decide) (by rfl) (pa_cons (pv 4) (pa_cons (pv 1) (pa_cons (pe_lc (own := [("_law_row", 2)]) (g := gName 2) (tt := tYes) rfl sc_right.nd (pi_list (pv 1)) (blkOk_by (own := [("_law_row", 2)]) (N := ["_law_pot_here", "_law_rows", "_law_row", "_law_passed", "_law_made", "_law_turn"]) (sc := defScope s_right) (by decide +kernel)) (fun _ _ _ _ _ => (pg_name (i := 2) sc_right.nd rfl (.inl rfl))) (fun _ _ _ _ _ => pts_nil) (fun _ _ _ _ _ => (pe_callTy (call_listK (K := K) rfl) (by rfl) T.list (by decide +kernel) (pa_cons (pv 2) pa_nil)))) pa_nil)))) (pe_one (pe_gg Dknown_right hr (by decide) (by rfl) (pa_cons (pv 0) pa_nil))))))))))))), ?_⟩
    have szl : sizeLine = 16777216 := sizeLine_eq
    refine ⟨_, rfl, p, rfl, hp, fun l H1 rs F1 hp1 hl ok nl => ?_⟩
    obtain ⟨as, l1, l2⟩ := id hl
    have las := pd_len l2
    have l3 := ok.l3
    have lp : l ≠ p := refs_ne_pot hp1 l1
    refine ⟨_, rfl, l, rfl, ⟨_, SqL.of l1⟩, fun D hD => ?_⟩
    have Dp : D ≠ p := hp1.ne hD
    have Dn : D ∉ [p] := fun z => Dp (List.mem_singleton.mp z)
    refine lc_walk (xs := as.map V.ref) walk_l (fun i H' => ∃ vs : List V, H' D = some (.lst vs) ∧ Paired (PV H1 p D H') vs (rs.take i) ∧ Pot H' p ∧ Frm [p] H1 H') ⟨[], upd_same, .nil, hp1.new hD, Frm.new hD⟩ (fun _ _ h => SqL.of (by obtain ⟨_, _, _, _, f⟩ := h; exact f _ _ l1 (fun z => lp (List.mem_singleton.mp z)))) ?_ ?_
    · rintro i y H2 hy ⟨vs, d1, d2, hp2, F2⟩
      obtain ⟨a, rfl, cs, hci, bs, b1, b2⟩ := refs_get l2 hy
      have ap := refs_ne_pot hp1 b1
      have an : a ∉ [p] := fun z => ap (List.mem_singleton.mp z)
      have lvs := pd_len d2
      rw [List.length_take] at lvs
      have fin : ∀ (H3 : Hp) (c : Addr) (o : HO), Pot H3 p → Frm [p] H2 H3 → H3 c = none → (o = .lst (bs.map V.ref) ∨ o = .tup (bs.map V.ref)) → ∃ acc, (upd H3 c o) D = some (.lst acc) ∧ acc.length < sizeLine ∧ ∃ vs' : List V, (upd (upd H3 c o) D (.lst (acc ++ [.ref c]))) D = some (.lst vs') ∧ Paired (PV H1 p D (upd (upd H3 c o) D (.lst (acc ++ [.ref c])))) vs' (rs.take (i + 1)) ∧ Pot (upd (upd H3 c o) D (.lst (acc ++ [.ref c]))) p ∧ Frm [p] H1 (upd (upd H3 c o) D (.lst (acc ++ [.ref c]))) := fun H3 c o hp3 F3 hc ho => by
        have F13 := F2.trans F3
        have d1' := F3 _ _ d1 Dn
        have ec := Ext.upd (o := o) hc
        have cD : c ≠ D := fun z => by rw [z, d1'] at hc; cases hc
        have cp := hp3.ne hc
        have c1 := F13.free hc (fun z => cp (List.mem_singleton.mp z))
        refine ⟨vs, ec _ _ d1', by rw [szl]; omega, vs ++ [.ref c], upd_same, ?_, (hp3.new hc).putN Dp, (F13.trans (Frm.ext ec)).putN hD⟩
        rw [take_snoc hci]
        refine pd_snoc (pd_imp (fun _ _ z => ((z.frm hp2 F3).frm hp3 (Frm.ext ec)).putD (ec _ _ d1')) d2) ⟨c, bs, rfl, ?_, pd_imp (fun _ _ z => side_t (ec _ _ d1') (ec _ _ (F13.tup hp1 z))) b2, cD, cp, c1⟩
        rw [upd_ne cD, upd_same]
        rcases ho with rfl | rfl
        · exact .inl rfl
        · exact .inr rfl
      refine ⟨rfl, lc_yes ⟨_, rfl, p, 2, rfl, hp2, by decide, by decide, fun r H3 r0 r1 F3 hp3 => ⟨rfl, _, rfl, ite2 (fun _ => ?_) (fun _ => ?_)⟩⟩⟩
      · exact ⟨_, rfl, a, _, rfl, .inl (SqL.of ((F2.trans F3) _ _ b1 an)), fun c hc => fin H3 c _ hp3 F3 hc (.inl rfl)⟩
      · exact ⟨_, rfl, a, _, rfl, .inl ⟨SqL.of ((F2.trans F3) _ _ b1 an), fun c hc => fin H3 c _ hp3 F3 hc (.inr rfl)⟩⟩
    rintro H2 ⟨vs, d1, d2, hp2, F2⟩
    rw [List.length_map, las, List.take_length] at d2
    refine ⟨_, rfl, D, vs, rs, rfl, d1, pd_imp (fun _ _ z => z.cuts) d2, ok, fun x H3 e3 nx hx => ?_⟩
    have hp3 := hp2.frm (M := []) (Frm.ext e3) (fun z => nomatch z)
    have F3 := F2.trans (Frm.ext (M := [p]) e3)
    have pm0 : ∀ v ∈ vs, PM H1 H2 p D 10 H3 v := fun v m => by
      obtain ⟨cs, hcs, a, bs, rfl, h1, h2, h3, h4, h5⟩ := pd_memV d2 v m
      refine ⟨a, rfl, h3, h4, h5, ?_⟩
      have lb := pd_len h2
      have lc1 := ok.h1 cs hcs
      have lc5 := ok.h5 cs hcs
      rcases h1 with h1 | h1
      · cases bs with
        | nil => simp at lb; omega
        | cons b t => exact .inl ⟨.ref b, t.map V.ref, _, e3 _ _ h1, by rw [List.length_map]; rw [List.length_cons] at lb; omega, h1⟩
      · exact .inr ⟨_, e3 _ _ h1⟩
    have d3 := e3 _ _ d1
    refine ⟨_, rfl, D, rfl, ⟨_, SqL.of d3⟩, ?_⟩
    have keep0 : ∀ a o, H3 a = some o → (H2 a = none ∨ (∀ xs, o ≠ .lst xs)) → H3 a = some o := fun _ _ h _ => h
    have lvs := pd_len d2
    refine for_walk (xs := vs) walk_l (fun i σ H' => ∃ u2, σ = [some (.ref p), some (.ref l), u2, some (.ref D), some (.ref x), none] ∧ (∀ a o, H3 a = some o → (H2 a = none ∨ (∀ xs, o ≠ .lst xs)) → H' a = some o) ∧ Pot H' p ∧ Frm [p] H1 H' ∧ H' D = some (.lst vs) ∧ (∀ v ∈ vs, PM H1 H2 p D (10 + i) H' v)) ⟨none, rfl, keep0, hp3, F3, d3, pm0⟩ (fun _ _ _ hh => SqL.of (by obtain ⟨_, _, _, _, _, h, _⟩ := hh; exact h)) ?_ ?_
    · rintro i v σ H4 hv ⟨u2, rfl, kp, hp4, F4, d4, pm4⟩
      have hi := (List.getElem?_eq_some_iff.mp hv).1
      obtain ⟨a, rfl, aD, ap, a1, hcase⟩ := pm4 v (List.mem_of_getElem? hv)
      rcases hcase with ⟨y, ys, xs, h4, hy, h2⟩ | ⟨xs, h4⟩
      · refine ⟨_, rfl, .ref a, .ty "list", _, _, true, rfl, .ty "list", .base (.lst h4), kit_ty (by decide +kernel), _, rfl, iteT ?_⟩
        refine ⟨_, rfl, .inl ⟨rfl, _, SqL.of h4⟩, (by show 2 ≤ sizeLine; decide), fun t ht => ⟨a, _, _, rfl, rfl, Ext.upd ht _ _ h4, by rw [List.length_cons, szl]; omega, ?_⟩⟩
        refine ⟨(by show 2 ≤ sizeLine; decide), fun t2 ht2 => ?_⟩
        have et := Ext.upd (o := .tup [.str "east", .int 2]) ht
        have ta : t ≠ a := fun z => by rw [z, h4] at ht; cases ht
        have t2a : t2 ≠ a := fun z => by rw [z, upd_same] at ht2; cases ht2
        refine ⟨_, rfl, a, y :: ys ++ [.ref t], 0, 0, rfl, rfl, by rw [upd_ne (Ne.symm t2a), upd_same], by unfold ixN; rw [if_pos (by decide), if_pos (by rw [List.length_append, List.length_cons]; omega)]; rfl, ?_⟩
        have oth : ∀ b o, b ≠ a → H4 b = some o → (upd (upd (upd (upd H4 t (.tup [.str "east", .int 2])) a (.lst (y :: ys ++ [.ref t]))) t2 (.tup [.str "north", .int 4])) a (.lst ((y :: ys ++ [V.ref t]).set 0 (V.ref t2)))) b = some o := fun b o nb hb => by
          have hb1 := et _ _ hb
          have n2 : b ≠ t2 := fun z => by
            rw [z] at hb1 nb
            rw [upd_ne nb, hb1] at ht2
            cases ht2
          rw [upd_ne nb, upd_ne n2, upd_ne nb]
          exact hb1
        refine ⟨_, rfl, fun b o hb ho => ?_, ?_, fun b o hb hn => ?_, oth _ _ (Ne.symm aD) d4, fun w hw => ?_⟩
        · refine oth b o (fun z => ?_) (kp b o hb ho)
          rw [z, e3 _ _ h2] at hb
          rcases ho with ho | ho
          · rw [z, h2] at ho; cases ho
          · exact ho xs (Option.some.inj hb).symm
        · obtain ⟨q1, q2, q3, q4⟩ := hp4
          exact ⟨q1, q2, oth _ _ (Ne.symm ap) q3, q4⟩
        · exact oth b o (fun z => by rw [z, a1] at hb; cases hb) (F4 _ _ hb hn)
        · obtain ⟨c, rfl, c1, c2, c3, hc⟩ := pm4 w hw
          by_cases z : c = a
          · subst z
            exact ⟨c, rfl, c1, c2, c3, .inl ⟨.ref t2, ys ++ [.ref t], xs, upd_same, by rw [List.length_append]; show ys.length + 1 ≤ 10 + (i + 1); omega, h2⟩⟩
          · refine ⟨c, rfl, c1, c2, c3, ?_⟩
            rcases hc with ⟨y', ys', xs', q1, q2, q3⟩ | ⟨xs', q1⟩
            · exact .inl ⟨y', ys', xs', oth _ _ z q1, by omega, q3⟩
            · exact .inr ⟨xs', oth _ _ z q1⟩
      · refine ⟨_, rfl, .ref a, .ty "list", _, _, false, rfl, .ty "list", .base (.tup h4), kit_ty (by decide +kernel), _, rfl, iteF ?_⟩
        exact ⟨_, rfl, kp, hp4, F4, d4, fun w hw => by
          obtain ⟨c, rfl, c1, c2, c3, hc⟩ := pm4 w hw
          refine ⟨c, rfl, c1, c2, c3, ?_⟩
          rcases hc with ⟨y', ys', xs', q1, q2, q3⟩ | ⟨xs', q1⟩
          · exact .inl ⟨y', ys', xs', q1, by omega, q3⟩
          · exact .inr ⟨xs', q1⟩⟩
    rintro σ H4 ⟨u2, rfl, kp, hp4, F4, d4, pm4⟩
    have hx4 := (hx.keep (H' := H4) kp).at
    refine ⟨_, rfl, .inl ⟨rfl, _, SqL.of d4⟩, D, _, rfl, rfl, d4, ?_⟩
    have hp5 := hp4.putN (o := .lst []) Dp
    have F5 := F4.putN (o := .lst []) hD
    have hl5 := hl.frm ok hp1 F5
    have hx5 : PlanAt C0 (upd H4 D (.lst [])) x rs := by
      have := hx.keep (H' := upd H4 D (.lst [])) (fun a o ha ho => by
        have z : a ≠ D := fun z => by
          rw [z] at ha ho
          rw [d3] at ha
          rcases ho with ho | ho
          · rw [d1] at ho; cases ho
          · exact ho _ (Option.some.inj ha).symm
        rw [upd_ne z]
        exact kp a o ha ho)
      exact this.at
    generalize upd H4 D (.lst []) = H5 at *
    refine ⟨_, rfl, _, rfl, x, l, rs, rfl, hx5, hl5, ok, fun H6 e6 => ⟨_, rfl, iteF ⟨_, rfl, _, rfl, x, l, rs, rfl, hx5.ext e6, hl5.ext e6, ok, fun H7 e7 => ⟨_, rfl, iteF ?_⟩⟩⟩⟩
    have E7 := e6.trans e7
    have hx7 := hx5.ext E7
    have hl7 := hl5.ext E7
    have hp7 := hp5.frm (M := []) (Frm.ext E7) (fun z => nomatch z)
    have F7 := F5.trans (Frm.ext (M := [p]) E7)
    refine ⟨3, rfl, by decide, by decide, for_walk (walk_r (lo := 0)) (fun i σ H' => ∃ u5, σ = [some (.ref p), some (.ref l), u2, some (.ref D), some (.ref x), u5] ∧ Pot H' p ∧ Frm [p] H7 H') ⟨_, rfl, hp7, Frm.refl _ _⟩ (fun _ _ _ _ => trivial) ?_ ?_⟩
    · rintro i y σ H8 hy ⟨u5, rfl, hp8, F8⟩
      refine ⟨_, rfl, _, rfl, _, rfl, _, rfl, p, l, rs, rfl, hp8, hl7.frm ok hp7 F8, ok, fun m H9 ms F9 hp9 hm okm => ?_⟩
      have F89 := F8.trans F9
      refine ⟨x, l, m, rs, ms, rfl, plan_frm14 hx7 hp7 F89, hl7.frm ok hp7 F89, ok, hm, okm, fun Ha ea => ⟨_, rfl, iteF ?_⟩⟩
      exact ⟨_, rfl, hp9.frm (M := []) (Frm.ext ea) (fun z => nomatch z), F89.trans (Frm.ext ea)⟩
    · rintro σ H8 ⟨u5, rfl, hp8, F8⟩
      have hx8 := plan_frm14 hx7 hp7 F8
      have hl8 := hl7.frm ok hp7 F8
      obtain ⟨as8, l18, l28⟩ := id hl8
      have las8 := pd_len l28
      refine ⟨_, rfl, _, rfl, _, rfl, l, rfl, ⟨_, SqL.of l18⟩, fun Dz hDz => lc_walk (xs := as8.map V.ref) walk_l (fun i H' => ∃ ds : List Addr, H' Dz = some (.lst (ds.map V.ref)) ∧ Paired (fun a cs => CutsL H' a cs ∧ a ≠ Dz) ds (rs.take i) ∧ Ext H8 H') ⟨[], upd_same, .nil, Ext.upd hDz⟩ (fun _ _ ⟨_, _, _, e⟩ => SqL.of (e _ _ l18)) ?_ ?_⟩
      · rintro i y H9 hy ⟨ds, g1, g2, e⟩
        obtain ⟨a, rfl, cs, hci, bs, b1, b2⟩ := refs_get l28 hy
        refine ⟨rfl, lc_yes ⟨_, rfl, a, _, rfl, .inl (SqL.of (e _ _ b1)), fun c hc => ?_⟩⟩
        have e3 := Ext.upd (o := .lst (bs.map V.ref)) hc
        have cD : c ≠ Dz := fun z => by rw [z, g1] at hc; cases hc
        refine ⟨_, e3 _ _ g1, ?_, ds ++ [c], by rw [upd_same, List.map_append]; rfl, ?_, ext_put (e.trans e3) hDz⟩
        · rw [List.length_map, pd_len g2, List.length_take, szl]
          omega
        · rw [take_snoc hci]
          exact pd_snoc (pd_imp (fun _ _ z => ⟨side_cuts (e3 _ _ g1) z.2 (z.1.ext e3), z.2⟩) g2) ⟨side_cuts (e3 _ _ g1) cD ⟨bs, upd_same, pd_imp (fun _ _ z => e3 _ _ (e _ _ z)) b2⟩, cD⟩
      · rintro H9 ⟨ds, g1, g2, e⟩
        rw [List.length_map, las8, List.take_length] at g2
        refine ⟨x, l, Dz, rs, rs, rfl, hx8.ext e, hl8.ext e, ok, ⟨ds, g1, pd_imp (fun _ _ q => q.1) g2⟩, ok, fun Ha ea => ⟨_, rfl, iteT ?_⟩⟩
        have Ea := e.trans ea
        refine ⟨_, rfl, p, rfl, hp8.frm (M := []) (Frm.ext Ea) (fun z => nomatch z), fun Hb Fb hpb => ?_⟩
        exact k Hb (F1.trans (F7.trans (F8.trans ((Frm.ext Ea).trans Fb)))) hpb
theorem sc_law : FnScope ["_law_script", "_law_k", "_law_pot_here"] ["_law_script"] (defScope s_law) := ⟨rfl, rfl, rfl, by decide +kernel, rfl, by decide +kernel, by decide +kernel⟩
theorem ok_law (F : FunD K "law" "law" (defArgs s_law) (defBody s_law) (defScope s_law) [] [] f fd) (T : TB mg) {fpot : Addr} {fdpot : FuncData} (Dpot : Gd P w K mg base "_law_pot" 1 ["_law_script", "_law_k"] (spPot K) fpot fdpot) {fright : Addr} {fdright : FuncData} (Dright : Gg P w K mg base "_law_right" 13 ["_law_pot_here"] (spRight14) fright fdright) : FnOkG P w K mg base CX0 14 f fd ["_law_script"] (spLaw K) := by
  refine okG F sc_law (fun vs H Q E h => ?_) (fun cdv A outer s H vs Q E hr h => ?_)
  · obtain ⟨l, ns, rfl, hl, k⟩ := h
    rfl
  · obtain ⟨l, ns, rfl, hl, k⟩ := h
    refine ⟨_, (pss_cons (ps_for PassesOwn.never rfl (pi_range1 (by rfl) T.range (pa_cons (pe_callB (call_max2 rfl) (by rfl) T.max (by decide +kernel) (pa_cons pe_int (pa_cons (pe_callB (call_min2 rfl) (by rfl) T.min (by decide +kernel) (pa_cons (pe_callB call_len_seq (by rfl) T.len PySem.boot_len (pa_cons (pv 0) pa_nil)) (pa_cons pe_int pa_nil))) pa_nil))) pa_nil)) (pg_name (i := 1) sc_law.nd rfl (.inl rfl)) (pss_cons (ps_set (i := 2) sc_law.nd rfl (.inl rfl) (pe_gd Dpot hr.room (by decide) (by rfl) (pa_cons (pv 0) (pa_cons (pv 1) pa_nil))))
      (pss_one (ps_if (PW.pt (pw_or (pt_not (pt_val (pe_gg Dright hr (by decide) (by rfl) (pa_cons (pv 2) pa_nil)))) (pw_or1 (pt_not (pt_val (pe_gg Dright hr (by decide) (by rfl) (pa_cons (pv 2) pa_nil))))))) (pss_one (ps_ret pe_bl)) pss_nil))))
      (pss_one (ps_ret pe_bl))), ?_⟩
    refine ⟨_, rfl, l, _, rfl, .inl hl, _, _, rfl, _, _, rfl, _, rfl, Int.le_trans (by decide) (span5 _).1, Int.lt_of_le_of_lt (span5 _).2 (by decide), ?_⟩
    refine for_walk (walk_r (lo := 0)) (fun i σ H' => ∃ u1 u2, σ = [some (.ref l), u1, u2] ∧ Ext H H') ⟨none, none, rfl, Ext.rfl'⟩ (fun _ _ _ _ => trivial) ?_ ?_
    · rintro i x σ H' hx ⟨u1, u2, rfl, e⟩
      obtain ⟨hi, rfl⟩ := range_get hx
      have hs := (span5 ((List.map V.int ns).length : Int)).2
      have hi4 : i < 64 := Nat.lt_of_lt_of_le hi (Nat.le_trans (Int.toNat_le.mpr hs) (by decide))
      refine ⟨_, rfl, _, rfl, l, ns, i, rfl, hl.ext e, hi4, fun q H1 hq F1 hp1 => ?_⟩
      have e1 : Ext H' H1 := fun a o z => F1 a o z (fun m => nomatch m)
      refine ⟨_, rfl, q, rfl, hp1, fun H3 F3 hp3 => ⟨_, rfl, iteF ⟨_, rfl, q, rfl, hp3, fun H5 F5 hp5 => ⟨_, rfl, iteF ?_⟩⟩⟩⟩
      exact ⟨_, _, rfl, e.trans (ext_frm (ext_frm e1 F3 hq) F5 hq)⟩
    · rintro σ H2 ⟨u1, u2, rfl, e⟩
      exact k H2
end
end Mc

set_option Elab.async false
set_option linter.all false
set_option maxRecDepth 100000
set_option maxHeartbeats 4000000
namespace Mc
open PySem PySem.Spec PyProof.Rows L2
def CMtD (K : PySem.W.Frag) (C : Addr) (mc : Value) (x qual : Str) (st : Stmt) : Prop := ∃ p f fd, ClX.CMet K C mc x p f ∧ FD K x qual st f fd
section
variable {K : PySem.W.Frag} {C f p : Addr} {mc : Value} {x qual : Str} {st : Stmt} {od an : Option Addr} {sl : Array (Option Value)} {oc dV kV dc pm cd ct : Value} {rest : List Value}
theorem cmt_mk (a : PySem.W.findCls K (.ref C) mc x = some (.get (.builtin "classmethod.__get__") (.ref p) .none (.ref C))) (r : PySem.W.recIn K p "classmethod" = some (.ref f :: rest)) (fi : PySem.W.fnIn K f = true)
    (l : K.lookup f = some ⟨oc, od, .func (PySem.W.fnOf x qual (defArgs st) (defBody st) (defScope st) .none kV dc pm an cd ct), sl⟩) (c : PySem.W.codeIn K cd qual = true) (k : PySem.W.keepIn K (.ref f) = true) : CMtD K C mc x qual st :=
  ⟨p, f, _, ⟨a, ⟨_, r⟩, fi⟩, fd_mk l c k⟩
end
section
variable {P : Program} {w : World} {K : PySem.W.Frag} {mg : Str → Option Value} {base h : Heap} {C0 aX : Addr} {mc : Value}
theorem all_law {fa : Addr} (X : K.In h) (G : h.Ns mainGlobals mg) (hfa : mg "law" = some (.ref fa)) (T : TB mg) (R : PlanT K mg C0 aX mc) (RE : PlanE K C0) (L__law_pot : GloD K "_law_pot" sPot) (L__law_draw : GloD K "_law_draw" sDraw) (L__law_pick : GloD K "_law_pick" sPick) (L__law_product : GloD K "_law_product" s_product) (L__law_mixed : GloD K "_law_mixed" s_mixed) (L__law_rounds : GloD K "_law_rounds" s_rounds) (L_is_list : GloD K "is_list" s_is_list) (L_is_tuple_of : GloD K "is_tuple_of" s_is_tuple_of) (L_is_axis : GloD K "is_axis" s_is_axis) (L_is_int : GloD K "is_int" s_is_int) (L__is_parts : GloD K "_is_parts" s_is_parts) (L__is_cut : GloD K "_is_cut" s_is_cut) (L__is_cuts : GloD K "_is_cuts" s_is_cuts) (L__within : GloD K "_within" s_within) (L__places_of : GloD K "_places_of" s_places_of) (L__parts_of : GloD K "_parts_of" s_parts_of) (L__multiplied : GloD K "_multiplied" s_multiplied) (L__check_rounds : GloD K "_check_rounds" s_check_rounds) (L__plain_cuts : GloD K "_plain_cuts" s_plain_cuts) (L_Plan___init__ : IniD0 K C0 "Plan.__init__" s_Plan___init) (L__law_plan : GloD K "_law_plan" s_plan) (L__law_others : GloD K "_law_others" s_others) (L_Plan_rounds : MetD K C0 "rounds" "Plan.rounds" s_Plan_rounds) (L_Plan___len__ : MetD K C0 "__len__" "Plan.__len__" s_Plan___len) (L_Plan___repr__ : MetD K C0 "__repr__" "Plan.__repr__" s_Plan___repr) (L_is_count : GloD K "is_count" s_is_count) (L_is_count_below : GloD K "is_count_below" s_is_count_below) (L_check_phase : GloD K "check_phase" s_check_phase) (L_Plan_signs : MetD K C0 "signs" "Plan.signs" s_Plan_signs) (L_Plan_parts : MetD K C0 "parts" "Plan.parts" s_Plan_parts) (L_check_sign : GloD K "check_sign" s_check_sign) (L_Plan_place_of : MetD K C0 "place_of" "Plan.place_of" s_Plan_place_of) (L_check_pair : GloD K "check_pair" s_check_pair) (L_Plan_sign_at : MetD K C0 "sign_at" "Plan.sign_at" s_Plan_sign_at) (L__law_parts : GloD K "_law_parts" s_parts) (L__law_place : GloD K "_law_place" s_place) (L__law_round_right : GloD K "_law_round_right" s_round_right) (L_check_fineness : GloD K "check_fineness" s_check_fineness) (L_Plan_growth : PrpD K C0 "growth" "Plan.growth" s_Plan_growth) (L__power : GloD K "_power" s_power) (L_counts_at : GloD K "counts_at" s_counts_at) (L_Plan_counts : MetD K C0 "counts" "Plan.counts" s_Plan_counts) (L_Plan_phase : MetD K C0 "phase" "Plan.phase" s_Plan_phase) (L__law_counts_right : GloD K "_law_counts_right" s_counts_right) (L__law_told_right : GloD K "_law_told_right" s_told_right) (L_Plan___eq__ : MetD K C0 "__eq__" "Plan.__eq__" s_Plan___eq) (L__law_equal_right : GloD K "_law_equal_right" s_equal_right) (L__turned_cuts : GloD K "_turned_cuts" s_turned_cuts) (L_Plan_turned : MetD K C0 "turned" "Plan.turned" s_Plan_turned) (L__law_turned_right : GloD K "_law_turned_right" s_turned_right) (L__law_known_right : GloD K "_law_known_right" s_known_right) (L__law_right : GloD K "_law_right" s_right) (L_law : GloD K "law" s_law) (L_Plan_squares : CMtD K C0 mc "squares" "Plan.squares" s_Plan_squares) (L_Plan_codes : CMtD K C0 mc "codes" "Plan.codes" s_Plan_codes) :
    ∃ fd : FuncData, (∀ (s : Shared) (v : Value), BindsTo s fd ⟨[v], []⟩ [("_law_script", v)]) ∧ ∀ base : Heap, K.In base → base.Ns mainGlobals mg → FnOkG P w K mg base CX0 14 fa fd ["_law_script"] (spLaw K) := by
  obtain ⟨fl, fdl, al, Fl⟩ := L_law
  have e := hfa.symm.trans (PySem.W.mg_of X G al)
  cases e
  refine ⟨fdl, fun s v => Fl.bindsA (ps := ["_law_script"]) (fun _ _ _ _ _ _ us hl => match us, hl with | [_], _ => rfl) s [v] rfl, fun base hK hG => ?_⟩
  obtain ⟨f__law_pot, fd__law_pot, a__law_pot, F__law_pot⟩ := L__law_pot
  have Dpot : Gd P w K mg base "_law_pot" 1 ["_law_script", "_law_k"] (spPot K) f__law_pot fd__law_pot := ⟨PySem.W.mg_of X G a__law_pot, F__law_pot.kp, F__law_pot.bindsN fun _ _ _ _ _ _ us hl => match us, hl with | [_, _], _ => rfl, ok_pot F__law_pot.fun T⟩
  obtain ⟨f__law_draw, fd__law_draw, a__law_draw, F__law_draw⟩ := L__law_draw
  have Ddraw : Gd P w K mg base "_law_draw" 1 ["_law_pot_here", "_law_size"] (spDraw) f__law_draw fd__law_draw := ⟨PySem.W.mg_of X G a__law_draw, F__law_draw.kp, F__law_draw.bindsN fun _ _ _ _ _ _ us hl => match us, hl with | [_, _], _ => rfl, ok_draw F__law_draw.fun T.divmod T.int⟩
  obtain ⟨f__law_pick, fd__law_pick, a__law_pick, F__law_pick⟩ := L__law_pick
  have Dpick : Gd P w K mg base "_law_pick" 2 ["_law_pot_here", "_law_some"] (spPick) f__law_pick fd__law_pick := ⟨PySem.W.mg_of X G a__law_pick, F__law_pick.kp, F__law_pick.bindsN fun _ _ _ _ _ _ us hl => match us, hl with | [_, _], _ => rfl, ok_pick F__law_pick.fun Ddraw T.len⟩
  obtain ⟨f__law_product, fd__law_product, a__law_product, F__law_product⟩ := L__law_product
  have Dproduct : Gd P w K mg base "_law_product" 1 ["_law_row"] (spProduct K) f__law_product fd__law_product := ⟨PySem.W.mg_of X G a__law_product, F__law_product.kp, F__law_product.bindsN fun _ _ _ _ _ _ us hl => match us, hl with | [_], _ => rfl, ok_product F__law_product T ⟩
  obtain ⟨f__law_mixed, fd__law_mixed, a__law_mixed, F__law_mixed⟩ := L__law_mixed
  have Dmixed : Gd P w K mg base "_law_mixed" 2 ["_law_pot_here", "_law_some"] (spMixedV) f__law_mixed fd__law_mixed := ⟨PySem.W.mg_of X G a__law_mixed, F__law_mixed.kp, F__law_mixed.bindsN fun _ _ _ _ _ _ us hl => match us, hl with | [_, _], _ => rfl, ok_mixed F__law_mixed T Ddraw⟩
  obtain ⟨f__law_rounds, fd__law_rounds, a__law_rounds, F__law_rounds⟩ := L__law_rounds
  have Drounds : Gd P w K mg base "_law_rounds" 3 ["_law_pot_here"] (spRoundsC) f__law_rounds fd__law_rounds := ⟨PySem.W.mg_of X G a__law_rounds, F__law_rounds.kp, F__law_rounds.bindsN fun _ _ _ _ _ _ us hl => match us, hl with | [_], _ => rfl, ok_rounds F__law_rounds T Ddraw Dpick Dproduct Dmixed⟩
  obtain ⟨f_is_list, fd_is_list, a_is_list, F_is_list⟩ := L_is_list
  have Dis_list : Gd P w K mg base "is_list" 1 ["value"] (spIsList K) f_is_list fd_is_list := ⟨PySem.W.mg_of X G a_is_list, F_is_list.kp, F_is_list.bindsN fun _ _ _ _ _ _ us hl => match us, hl with | [_], _ => rfl, ok_is_list F_is_list T ⟩
  obtain ⟨f_is_tuple_of, fd_is_tuple_of, a_is_tuple_of, F_is_tuple_of⟩ := L_is_tuple_of
  have Dis_tuple_of : Gd P w K mg base "is_tuple_of" 1 ["value", "many"] (spTupOf) f_is_tuple_of fd_is_tuple_of := ⟨PySem.W.mg_of X G a_is_tuple_of, F_is_tuple_of.kp, F_is_tuple_of.bindsN fun _ _ _ _ _ _ us hl => match us, hl with | [_, _], _ => rfl, ok_is_tuple_of F_is_tuple_of T ⟩
  obtain ⟨f_is_axis, fd_is_axis, a_is_axis, F_is_axis⟩ := L_is_axis
  have Dis_axis : Gd P w K mg base "is_axis" 1 ["value"] (spAxis) f_is_axis fd_is_axis := ⟨PySem.W.mg_of X G a_is_axis, F_is_axis.kp, F_is_axis.bindsN fun _ _ _ _ _ _ us hl => match us, hl with | [_], _ => rfl, ok_is_axis F_is_axis T R⟩
  obtain ⟨f_is_int, fd_is_int, a_is_int, F_is_int⟩ := L_is_int
  have Dis_int : Gd P w K mg base "is_int" 1 ["value"] (spIsInt) f_is_int fd_is_int := ⟨PySem.W.mg_of X G a_is_int, F_is_int.kp, F_is_int.bindsN fun _ _ _ _ _ _ us hl => match us, hl with | [_], _ => rfl, ok_is_int F_is_int T ⟩
  obtain ⟨f__is_parts, fd__is_parts, a__is_parts, F__is_parts⟩ := L__is_parts
  have Dis_parts : Gd P w K mg base "_is_parts" 2 ["value"] (spParts) f__is_parts fd__is_parts := ⟨PySem.W.mg_of X G a__is_parts, F__is_parts.kp, F__is_parts.bindsN fun _ _ _ _ _ _ us hl => match us, hl with | [_], _ => rfl, ok_is_parts F__is_parts T R Dis_int⟩
  obtain ⟨f__is_cut, fd__is_cut, a__is_cut, F__is_cut⟩ := L__is_cut
  have Dis_cut : Gd P w K mg base "_is_cut" 3 ["value"] (spCut) f__is_cut fd__is_cut := ⟨PySem.W.mg_of X G a__is_cut, F__is_cut.kp, F__is_cut.bindsN fun _ _ _ _ _ _ us hl => match us, hl with | [_], _ => rfl, ok_is_cut F__is_cut T Dis_tuple_of Dis_axis Dis_parts⟩
  obtain ⟨f__is_cuts, fd__is_cuts, a__is_cuts, F__is_cuts⟩ := L__is_cuts
  have Dis_cuts : Gd P w K mg base "_is_cuts" 4 ["value"] (spCuts K) f__is_cuts fd__is_cuts := ⟨PySem.W.mg_of X G a__is_cuts, F__is_cuts.kp, F__is_cuts.bindsN fun _ _ _ _ _ _ us hl => match us, hl with | [_], _ => rfl, ok_is_cuts F__is_cuts T R Dis_list Dis_cut⟩
  obtain ⟨f__within, fd__within, a__within, F__within⟩ := L__within
  have Dwithin : Gd P w K mg base "_within" 1 ["place", "axis", "parts", "part"] (spWithin) f__within fd__within := ⟨PySem.W.mg_of X G a__within, F__within.kp, F__within.bindsN fun _ _ _ _ _ _ us hl => match us, hl with | [_, _, _, _], _ => rfl, ok_within F__within T ⟩
  obtain ⟨f__places_of, fd__places_of, a__places_of, F__places_of⟩ := L__places_of
  have Dplaces_of : Gd P w K mg base "_places_of" 2 ["cuts"] (spPlaces K) f__places_of fd__places_of := ⟨PySem.W.mg_of X G a__places_of, F__places_of.kp, F__places_of.bindsN fun _ _ _ _ _ _ us hl => match us, hl with | [_], _ => rfl, ok_places_of F__places_of T Dwithin⟩
  obtain ⟨f__parts_of, fd__parts_of, a__parts_of, F__parts_of⟩ := L__parts_of
  have Dparts_of : Gd P w K mg base "_parts_of" 3 ["cuts"] (spPartsOf K) f__parts_of fd__parts_of := ⟨PySem.W.mg_of X G a__parts_of, F__parts_of.kp, F__parts_of.bindsN fun _ _ _ _ _ _ us hl => match us, hl with | [_], _ => rfl, ok_parts_of F__parts_of T Dplaces_of⟩
  obtain ⟨f__multiplied, fd__multiplied, a__multiplied, F__multiplied⟩ := L__multiplied
  have Dmultiplied : Gd P w K mg base "_multiplied" 1 ["all_parts"] (spMul K) f__multiplied fd__multiplied := ⟨PySem.W.mg_of X G a__multiplied, F__multiplied.kp, F__multiplied.bindsN fun _ _ _ _ _ _ us hl => match us, hl with | [_], _ => rfl, ok_multiplied F__multiplied T ⟩
  obtain ⟨f__check_rounds, fd__check_rounds, a__check_rounds, F__check_rounds⟩ := L__check_rounds
  have Dcheck_rounds : Gd P w K mg base "_check_rounds" 5 ["rounds"] (spCheck K) f__check_rounds fd__check_rounds := ⟨PySem.W.mg_of X G a__check_rounds, F__check_rounds.kp, F__check_rounds.bindsN fun _ _ _ _ _ _ us hl => match us, hl with | [_], _ => rfl, ok_check_rounds F__check_rounds T R Dis_cuts Dparts_of Dmultiplied⟩
  obtain ⟨f__plain_cuts, fd__plain_cuts, a__plain_cuts, F__plain_cuts⟩ := L__plain_cuts
  have Dplain_cuts : Gd P w K mg base "_plain_cuts" 1 ["cuts"] (spPlain K) f__plain_cuts fd__plain_cuts := ⟨PySem.W.mg_of X G a__plain_cuts, F__plain_cuts.kp, F__plain_cuts.bindsN fun _ _ _ _ _ _ us hl => match us, hl with | [_], _ => rfl, ok_plain_cuts F__plain_cuts T R⟩
  obtain ⟨f_Plan___init__, fd_Plan___init__, MkP, F_Plan___init__⟩ := L_Plan___init__
  have GN : FnR P w K mg base CX0 6 f_Plan___init__ (spPlanN K C0) := ok_Plan___initN F_Plan___init__ T R Dcheck_rounds Dplain_cuts Dparts_of Dplaces_of Dmultiplied
  have GP := planI_N GN
  obtain ⟨f__law_plan, fd__law_plan, a__law_plan, F__law_plan⟩ := L__law_plan
  have Dplan : Gd P w K mg base "_law_plan" 8 ["_law_rows"] (spPlanL K C0) f__law_plan fd__law_plan := ⟨PySem.W.mg_of X G a__law_plan, F__law_plan.kp, F__law_plan.bindsN fun _ _ _ _ _ _ us hl => match us, hl with | [_], _ => rfl, ok_plan F__law_plan T R MkP GN⟩
  obtain ⟨f__law_others, fd__law_others, a__law_others, F__law_others⟩ := L__law_others
  have Dothers : Gd P w K mg base "_law_others" 4 ["_law_pot_here", "_law_rows"] (spOthers) f__law_others fd__law_others := ⟨PySem.W.mg_of X G a__law_others, F__law_others.kp, F__law_others.bindsN fun _ _ _ _ _ _ us hl => match us, hl with | [_, _], _ => rfl, ok_others F__law_others T Ddraw Dmixed Drounds⟩
  obtain ⟨f_Plan_rounds, fd_Plan_rounds, mRo, F_Plan_rounds⟩ := L_Plan_rounds
  have Gro : FnOk P w K mg base CX0 1 f_Plan_rounds fd_Plan_rounds ["self"] (spRounds C0) := ok_Plan_rounds F_Plan_rounds T R
  have bRo : Binds K fd_Plan_rounds ["self"] [] := F_Plan_rounds.bindsN fun _ _ _ _ _ _ us hl => match us, hl with | [_], _ => rfl
  obtain ⟨f_Plan___len__, fd_Plan___len__, mLen, F_Plan___len__⟩ := L_Plan___len__
  have Glen : FnOk P w K mg base CX0 1 f_Plan___len__ fd_Plan___len__ ["self"] (spLen C0) := ok_Plan___len F_Plan___len__ T R
  have bLen : Binds K fd_Plan___len__ ["self"] [] := F_Plan___len__.bindsN fun _ _ _ _ _ _ us hl => match us, hl with | [_], _ => rfl
  obtain ⟨f_Plan___repr__, fd_Plan___repr__, mRp, F_Plan___repr__⟩ := L_Plan___repr__
  have Grp : FnOkG P w K mg base CX0 3 f_Plan___repr__ fd_Plan___repr__ ["self"] (spReprP C0) := ok_Plan___repr F_Plan___repr__ T R
  have bRp : Binds K fd_Plan___repr__ ["self"] [] := F_Plan___repr__.bindsN fun _ _ _ _ _ _ us hl => match us, hl with | [_], _ => rfl
  obtain ⟨f_is_count, fd_is_count, a_is_count, F_is_count⟩ := L_is_count
  have Dis_count : Gd P w K mg base "is_count" 2 ["value"] (spCount) f_is_count fd_is_count := ⟨PySem.W.mg_of X G a_is_count, F_is_count.kp, F_is_count.bindsN fun _ _ _ _ _ _ us hl => match us, hl with | [_], _ => rfl, ok_is_count F_is_count T Dis_int⟩
  obtain ⟨f_is_count_below, fd_is_count_below, a_is_count_below, F_is_count_below⟩ := L_is_count_below
  have Dis_count_below : Gd P w K mg base "is_count_below" 3 ["value", "bound"] (spBelow) f_is_count_below fd_is_count_below := ⟨PySem.W.mg_of X G a_is_count_below, F_is_count_below.kp, F_is_count_below.bindsN fun _ _ _ _ _ _ us hl => match us, hl with | [_, _], _ => rfl, ok_is_count_below F_is_count_below T Dis_count⟩
  obtain ⟨f_check_phase, fd_check_phase, a_check_phase, F_check_phase⟩ := L_check_phase
  have Dcheck_phase : Gd P w K mg base "check_phase" 4 ["plan", "phase"] (spPhaseOk C0) f_check_phase fd_check_phase := ⟨PySem.W.mg_of X G a_check_phase, F_check_phase.kp, F_check_phase.bindsN fun _ _ _ _ _ _ us hl => match us, hl with | [_, _], _ => rfl, ok_check_phase F_check_phase T R Dis_count_below mLen Glen bLen⟩
  obtain ⟨f_Plan_signs, fd_Plan_signs, mSg, F_Plan_signs⟩ := L_Plan_signs
  have Gsg : FnOk P w K mg base CX0 5 f_Plan_signs fd_Plan_signs ["self", "phase"] (spSigns C0) := ok_Plan_signs F_Plan_signs T R Dcheck_phase
  have bSg : Binds K fd_Plan_signs ["self", "phase"] [] := F_Plan_signs.bindsN fun _ _ _ _ _ _ us hl => match us, hl with | [_, _], _ => rfl
  have kSg_phase : KBn K fd_Plan_signs ["self", "phase"] 1 ["phase"] (fun us ws => us ++ pm [0] ws) (fun vs zs => vs ++ pm [0] zs) := F_Plan_signs.kb 1 ["phase"] (fun _ _ _ _ _ _ us ws h1 h2 => match us, h1, ws, h2 with | [_], _, [_], _ => rfl) fun a b => a.append (pm_vals b _)
  obtain ⟨f_Plan_parts, fd_Plan_parts, mPa, F_Plan_parts⟩ := L_Plan_parts
  have Gpa : FnOk P w K mg base CX0 5 f_Plan_parts fd_Plan_parts ["self", "phase"] (spPartsM C0) := ok_Plan_parts F_Plan_parts T R Dcheck_phase
  have bPa : Binds K fd_Plan_parts ["self", "phase"] [] := F_Plan_parts.bindsN fun _ _ _ _ _ _ us hl => match us, hl with | [_, _], _ => rfl
  have kPa_phase : KBn K fd_Plan_parts ["self", "phase"] 1 ["phase"] (fun us ws => us ++ pm [0] ws) (fun vs zs => vs ++ pm [0] zs) := F_Plan_parts.kb 1 ["phase"] (fun _ _ _ _ _ _ us ws h1 h2 => match us, h1, ws, h2 with | [_], _, [_], _ => rfl) fun a b => a.append (pm_vals b _)
  obtain ⟨f_check_sign, fd_check_sign, a_check_sign, F_check_sign⟩ := L_check_sign
  have Dcheck_sign : Gd P w K mg base "check_sign" 6 ["plan", "phase", "sign"] (spSignOk C0) f_check_sign fd_check_sign := ⟨PySem.W.mg_of X G a_check_sign, F_check_sign.kp, F_check_sign.bindsN fun _ _ _ _ _ _ us hl => match us, hl with | [_, _, _], _ => rfl, ok_check_sign F_check_sign T R Dis_count_below mSg Gsg bSg⟩
  obtain ⟨f_Plan_place_of, fd_Plan_place_of, mPo, F_Plan_place_of⟩ := L_Plan_place_of
  have Gpo : FnOk P w K mg base CX0 7 f_Plan_place_of fd_Plan_place_of ["self", "phase", "sign"] (spPlaceOf C0) := ok_Plan_place_of F_Plan_place_of T R Dcheck_sign
  have bPo : Binds K fd_Plan_place_of ["self", "phase", "sign"] [] := F_Plan_place_of.bindsN fun _ _ _ _ _ _ us hl => match us, hl with | [_, _, _], _ => rfl
  have kPo_sign_phase : KBn K fd_Plan_place_of ["self", "phase", "sign"] 1 ["sign", "phase"] (fun us ws => us ++ pm [1, 0] ws) (fun vs zs => vs ++ pm [1, 0] zs) := F_Plan_place_of.kb 1 ["sign", "phase"] (fun _ _ _ _ _ _ us ws h1 h2 => match us, h1, ws, h2 with | [_], _, [_, _], _ => rfl) fun a b => a.append (pm_vals b _)
  obtain ⟨f_check_pair, fd_check_pair, a_check_pair, F_check_pair⟩ := L_check_pair
  have Dcheck_pair : Gd P w K mg base "check_pair" 4 ["pair", "parts"] (spPairOk) f_check_pair fd_check_pair := ⟨PySem.W.mg_of X G a_check_pair, F_check_pair.kp, F_check_pair.bindsN fun _ _ _ _ _ _ us hl => match us, hl with | [_, _], _ => rfl, ok_check_pair F_check_pair T R Dis_tuple_of Dis_count_below⟩
  obtain ⟨f_Plan_sign_at, fd_Plan_sign_at, mSa, F_Plan_sign_at⟩ := L_Plan_sign_at
  have Gsa : FnOk P w K mg base CX0 6 f_Plan_sign_at fd_Plan_sign_at ["self", "phase", "pair"] (spSignAt C0) := ok_Plan_sign_at F_Plan_sign_at T R Dcheck_phase Dcheck_pair
  have bSa : Binds K fd_Plan_sign_at ["self", "phase", "pair"] [] := F_Plan_sign_at.bindsN fun _ _ _ _ _ _ us hl => match us, hl with | [_, _, _], _ => rfl
  have kSa_pair_phase : KBn K fd_Plan_sign_at ["self", "phase", "pair"] 1 ["pair", "phase"] (fun us ws => us ++ pm [1, 0] ws) (fun vs zs => vs ++ pm [1, 0] zs) := F_Plan_sign_at.kb 1 ["pair", "phase"] (fun _ _ _ _ _ _ us ws h1 h2 => match us, h1, ws, h2 with | [_], _, [_, _], _ => rfl) fun a b => a.append (pm_vals b _)
  obtain ⟨f__law_parts, fd__law_parts, a__law_parts, F__law_parts⟩ := L__law_parts
  have Dparts : Gd P w K mg base "_law_parts" 2 ["_law_row"] (spPartsL) f__law_parts fd__law_parts := ⟨PySem.W.mg_of X G a__law_parts, F__law_parts.kp, F__law_parts.bindsN fun _ _ _ _ _ _ us hl => match us, hl with | [_], _ => rfl, ok_parts F__law_parts T Dproduct⟩
  obtain ⟨f__law_place, fd__law_place, a__law_place, F__law_place⟩ := L__law_place
  have Dplace : Gd P w K mg base "_law_place" 1 ["_law_row", "_law_glyph"] (spPlaceL) f__law_place fd__law_place := ⟨PySem.W.mg_of X G a__law_place, F__law_place.kp, F__law_place.bindsN fun _ _ _ _ _ _ us hl => match us, hl with | [_, _], _ => rfl, ok_place F__law_place T ⟩
  obtain ⟨f__law_round_right, fd__law_round_right, a__law_round_right, F__law_round_right⟩ := L__law_round_right
  have Dround_right : Gg P w K mg base "_law_round_right" 9 ["_law_made", "_law_rows", "_law_k"] (spRoundR C0) f__law_round_right fd__law_round_right := ⟨PySem.W.mg_of X G a__law_round_right, F__law_round_right.kp, F__law_round_right.bindsN fun _ _ _ _ _ _ us hl => match us, hl with | [_, _, _], _ => rfl, ok_round_right F__law_round_right T R mSg Gsg bSg kSg_phase mPa Gpa bPa kPa_phase mPo Gpo bPo kPo_sign_phase mSa Gsa bSa kSa_pair_phase Dproduct Dparts Dplace⟩
  obtain ⟨f_check_fineness, fd_check_fineness, a_check_fineness, F_check_fineness⟩ := L_check_fineness
  have Dcheck_fineness : Gd P w K mg base "check_fineness" 3 ["f"] (spFine) f_check_fineness fd_check_fineness := ⟨PySem.W.mg_of X G a_check_fineness, F_check_fineness.kp, F_check_fineness.bindsN fun _ _ _ _ _ _ us hl => match us, hl with | [_], _ => rfl, ok_check_fineness F_check_fineness T R Dis_count⟩
  obtain ⟨p_Plan_growth, f_Plan_growth, fd_Plan_growth, pGr, F_Plan_growth⟩ := L_Plan_growth
  have Ggr : FnOk P w K mg base CX0 1 f_Plan_growth fd_Plan_growth ["self"] (spGrowth C0) := ok_Plan_growth F_Plan_growth T R
  have bGr : Binds K fd_Plan_growth ["self"] [] := F_Plan_growth.bindsN fun _ _ _ _ _ _ us hl => match us, hl with | [_], _ => rfl
  obtain ⟨f__power, fd__power, a__power, F__power⟩ := L__power
  have Dpower : Gd P w K mg base "_power" 1 ["base", "exponent"] (spPower) f__power fd__power := ⟨PySem.W.mg_of X G a__power, F__power.kp, F__power.bindsN fun _ _ _ _ _ _ us hl => match us, hl with | [_, _], _ => rfl, ok_power F__power T ⟩
  obtain ⟨f_counts_at, fd_counts_at, a_counts_at, F_counts_at⟩ := L_counts_at
  have Dcounts_at : Gd P w K mg base "counts_at" 6 ["plan", "f"] (spCounts C0) f_counts_at fd_counts_at := ⟨PySem.W.mg_of X G a_counts_at, F_counts_at.kp, F_counts_at.bindsN fun _ _ _ _ _ _ us hl => match us, hl with | [_, _], _ => rfl, ok_counts_at F_counts_at T R mLen Glen bLen mPa Gpa bPa pGr Ggr bGr Dmultiplied Dpower⟩
  obtain ⟨f_Plan_counts, fd_Plan_counts, mCt, F_Plan_counts⟩ := L_Plan_counts
  have Gct : FnOk P w K mg base CX0 7 f_Plan_counts fd_Plan_counts ["self", "f"] (spCounts C0) := ok_Plan_counts F_Plan_counts T Dcheck_fineness Dcounts_at
  have bCt : Binds K fd_Plan_counts ["self", "f"] [] := F_Plan_counts.bindsN fun _ _ _ _ _ _ us hl => match us, hl with | [_, _], _ => rfl
  have kCt_f : KBn K fd_Plan_counts ["self", "f"] 1 ["f"] (fun us ws => us ++ pm [0] ws) (fun vs zs => vs ++ pm [0] zs) := F_Plan_counts.kb 1 ["f"] (fun _ _ _ _ _ _ us ws h1 h2 => match us, h1, ws, h2 with | [_], _, [_], _ => rfl) fun a b => a.append (pm_vals b _)
  obtain ⟨f_Plan_phase, fd_Plan_phase, mPh, F_Plan_phase⟩ := L_Plan_phase
  have Gph : FnOk P w K mg base CX0 4 f_Plan_phase fd_Plan_phase ["self", "f"] (spPhase C0) := ok_Plan_phase F_Plan_phase T R Dcheck_fineness
  have bPh : Binds K fd_Plan_phase ["self", "f"] [] := F_Plan_phase.bindsN fun _ _ _ _ _ _ us hl => match us, hl with | [_, _], _ => rfl
  have kPh_f : KBn K fd_Plan_phase ["self", "f"] 1 ["f"] (fun us ws => us ++ pm [0] ws) (fun vs zs => vs ++ pm [0] zs) := F_Plan_phase.kb 1 ["f"] (fun _ _ _ _ _ _ us ws h1 h2 => match us, h1, ws, h2 with | [_], _, [_], _ => rfl) fun a b => a.append (pm_vals b _)
  obtain ⟨f__law_counts_right, fd__law_counts_right, a__law_counts_right, F__law_counts_right⟩ := L__law_counts_right
  have Dcounts_right : Gg P w K mg base "_law_counts_right" 10 ["_law_made", "_law_rows"] (spCountsR C0) f__law_counts_right fd__law_counts_right := ⟨PySem.W.mg_of X G a__law_counts_right, F__law_counts_right.kp, F__law_counts_right.bindsN fun _ _ _ _ _ _ us hl => match us, hl with | [_, _], _ => rfl, ok_counts_right F__law_counts_right T R mCt Gct bCt kCt_f mPh Gph bPh kPh_f pGr Ggr bGr Dparts⟩
  obtain ⟨f__law_told_right, fd__law_told_right, a__law_told_right, F__law_told_right⟩ := L__law_told_right
  have Dtold_right : Gg P w K mg base "_law_told_right" 11 ["_law_made", "_law_rows"] (spToldR C0) f__law_told_right fd__law_told_right := ⟨PySem.W.mg_of X G a__law_told_right, F__law_told_right.kp, F__law_told_right.bindsN fun _ _ _ _ _ _ us hl => match us, hl with | [_, _], _ => rfl, ok_told_right F__law_told_right T R mRo Gro bRo mLen Glen bLen mRp Grp bRp Dround_right Dcounts_right⟩
  obtain ⟨f_Plan___eq__, fd_Plan___eq__, mE, F_Plan___eq__⟩ := L_Plan___eq__
  have GE : FnOk P w K mg base CX0 1 f_Plan___eq__ fd_Plan___eq__ ["self", "other"] (spEqP K C0) := ok_Plan___eq F_Plan___eq__ T R RE
  have bE : Binds K fd_Plan___eq__ ["self", "other"] [] := F_Plan___eq__.bindsN fun _ _ _ _ _ _ us hl => match us, hl with | [_, _], _ => rfl
  obtain ⟨f__law_equal_right, fd__law_equal_right, a__law_equal_right, F__law_equal_right⟩ := L__law_equal_right
  have Dequal_right : Gg P w K mg base "_law_equal_right" 9 ["_law_made", "_law_rows", "_law_more"] (spEqualR C0) f__law_equal_right fd__law_equal_right := ⟨PySem.W.mg_of X G a__law_equal_right, F__law_equal_right.kp, F__law_equal_right.bindsN fun _ _ _ _ _ _ us hl => match us, hl with | [_, _, _], _ => rfl, ok_equal_right F__law_equal_right T R RE mE GE bE mRo Gro bRo mRp Grp bRp Dplan⟩
  obtain ⟨f__turned_cuts, fd__turned_cuts, a__turned_cuts, F__turned_cuts⟩ := L__turned_cuts
  have Dturned_cuts : Gd P w K mg base "_turned_cuts" 1 ["cuts"] (spTurn K) f__turned_cuts fd__turned_cuts := ⟨PySem.W.mg_of X G a__turned_cuts, F__turned_cuts.kp, F__turned_cuts.bindsN fun _ _ _ _ _ _ us hl => match us, hl with | [_], _ => rfl, ok_turned_cuts F__turned_cuts T R⟩
  obtain ⟨f_Plan_turned, fd_Plan_turned, mTu, F_Plan_turned⟩ := L_Plan_turned
  have Gtu : FnOk P w K mg base CX0 8 f_Plan_turned fd_Plan_turned ["self"] (spTurned C0) := ok_Plan_turned F_Plan_turned T R Dturned_cuts MkP GP
  have bTu : Binds K fd_Plan_turned ["self"] [] := F_Plan_turned.bindsN fun _ _ _ _ _ _ us hl => match us, hl with | [_], _ => rfl
  obtain ⟨f__law_turned_right, fd__law_turned_right, a__law_turned_right, F__law_turned_right⟩ := L__law_turned_right
  have Dturned_right : Gg P w K mg base "_law_turned_right" 12 ["_law_made", "_law_rows"] (spTurnedR C0) f__law_turned_right fd__law_turned_right := ⟨PySem.W.mg_of X G a__law_turned_right, F__law_turned_right.kp, F__law_turned_right.bindsN fun _ _ _ _ _ _ us hl => match us, hl with | [_, _], _ => rfl, ok_turned_right F__law_turned_right T R RE mE GE bE mTu Gtu bTu mRo Gro bRo Dtold_right⟩
  obtain ⟨p_Plan_squares, f_Plan_squares, fd_Plan_squares, cSq, F_Plan_squares⟩ := L_Plan_squares
  have Gsq : FnOk P w K mg base CX0 8 f_Plan_squares fd_Plan_squares ["cls", "parts"] (spSquares C0) := ok_Plan_squares F_Plan_squares T R Dis_parts MkP GP
  have bSq : Binds K fd_Plan_squares ["cls", "parts"] [] := F_Plan_squares.bindsN fun _ _ _ _ _ _ us hl => match us, hl with | [_, _], _ => rfl
  have kSq : KBn K fd_Plan_squares ["cls", "parts"] 1 ["parts"] (fun us ws => us ++ pm [0] ws) (fun vs zs => vs ++ pm [0] zs) := F_Plan_squares.kb 1 ["parts"] (fun _ _ _ _ _ _ us ws h1 h2 => match us, h1, ws, h2 with | [_], _, [_], _ => rfl) fun a b => a.append (pm_vals b _)
  obtain ⟨p_Plan_codes, f_Plan_codes, fd_Plan_codes, cCo, F_Plan_codes⟩ := L_Plan_codes
  have Gco : FnOk P w K mg base CX0 8 f_Plan_codes fd_Plan_codes ["cls"] (spCodes C0) := ok_Plan_codes F_Plan_codes T R MkP GP
  have bCo : Binds K fd_Plan_codes ["cls"] [] := F_Plan_codes.bindsN fun _ _ _ _ _ _ us hl => match us, hl with | [_], _ => rfl
  obtain ⟨f__law_known_right, fd__law_known_right, a__law_known_right, F__law_known_right⟩ := L__law_known_right
  have Dknown_right : Gg P w K mg base "_law_known_right" 12 ["_law_pot_here"] (spKnownR) f__law_known_right fd__law_known_right := ⟨PySem.W.mg_of X G a__law_known_right, F__law_known_right.kp, F__law_known_right.bindsN fun _ _ _ _ _ _ us hl => match us, hl with | [_], _ => rfl, ok_known_right F__law_known_right T R MkP GN RE mE GE bE cSq Gsq bSq kSq cCo Gco bCo Ddraw Dtold_right⟩
  obtain ⟨f__law_right, fd__law_right, a__law_right, F__law_right⟩ := L__law_right
  have Dright : Gg P w K mg base "_law_right" 13 ["_law_pot_here"] (spRight14) f__law_right fd__law_right := ⟨PySem.W.mg_of X G a__law_right, F__law_right.kp, F__law_right.bindsN fun _ _ _ _ _ _ us hl => match us, hl with | [_], _ => rfl, ok_right F__law_right T R Ddraw Drounds Dplan Dothers Dtold_right Dequal_right Dturned_right Dknown_right⟩
  exact ok_law Fl T Dpot Dright
end
end Mc

open PySem PySem.W PyProof.Rows
set_option maxRecDepth 100000
set_option maxHeartbeats 0
theorem PySem.Challenge.cw_movecells_k14_plans_told_holds : PySem.Challenge.rw_movecells_k14_plans_told.Holds := by
  refine head ?_
  k_fill
  refine Mc.walkG (n := 63) (k := 14) (x := "_law_script") (l := PySem.Challenge.rw_movecells_k14_plans_told) rfl (by decide) rfl ⟨⟨rfl, by decide, by decide⟩, rfl⟩ (fun w h Y => PySem.W.kIn_of Y) ?F
  case F =>
    intro w mg fa h KX G hmg
    have L__law_pot : Mc.GloD (head.heap_39 w.params) "_law_pot" Mc.sPot := by
      refine' Mc.glo_mk ?a ?l ?c ?k
      (case a => k_is); (case l => k_is); (case c => k_is); (case k => k_is)
    have L__law_draw : Mc.GloD (head.heap_39 w.params) "_law_draw" Mc.sDraw := by
      refine' Mc.glo_mk ?a ?l ?c ?k
      (case a => k_is); (case l => k_is); (case c => k_is); (case k => k_is)
    have L__law_pick : Mc.GloD (head.heap_39 w.params) "_law_pick" Mc.sPick := by
      refine' Mc.glo_mk ?a ?l ?c ?k
      (case a => k_is); (case l => k_is); (case c => k_is); (case k => k_is)
    have L__law_product : Mc.GloD (head.heap_39 w.params) "_law_product" Mc.s_product := by
      refine' Mc.glo_mk ?a ?l ?c ?k
      (case a => k_is); (case l => k_is); (case c => k_is); (case k => k_is)
    have L__law_mixed : Mc.GloD (head.heap_39 w.params) "_law_mixed" Mc.s_mixed := by
      refine' Mc.glo_mk ?a ?l ?c ?k
      (case a => k_is); (case l => k_is); (case c => k_is); (case k => k_is)
    have L__law_rounds : Mc.GloD (head.heap_39 w.params) "_law_rounds" Mc.s_rounds := by
      refine' Mc.glo_mk ?a ?l ?c ?k
      (case a => k_is); (case l => k_is); (case c => k_is); (case k => k_is)
    have L_is_list : Mc.GloD (head.heap_39 w.params) "is_list" Mc.s_is_list := by
      refine' Mc.glo_mk ?a ?l ?c ?k
      (case a => k_is); (case l => k_is); (case c => k_is); (case k => k_is)
    have L_is_tuple_of : Mc.GloD (head.heap_39 w.params) "is_tuple_of" Mc.s_is_tuple_of := by
      refine' Mc.glo_mk ?a ?l ?c ?k
      (case a => k_is); (case l => k_is); (case c => k_is); (case k => k_is)
    have L_is_axis : Mc.GloD (head.heap_39 w.params) "is_axis" Mc.s_is_axis := by
      refine' Mc.glo_mk ?a ?l ?c ?k
      (case a => k_is); (case l => k_is); (case c => k_is); (case k => k_is)
    have L_is_int : Mc.GloD (head.heap_39 w.params) "is_int" Mc.s_is_int := by
      refine' Mc.glo_mk ?a ?l ?c ?k
      (case a => k_is); (case l => k_is); (case c => k_is); (case k => k_is)
    have L__is_parts : Mc.GloD (head.heap_39 w.params) "_is_parts" Mc.s_is_parts := by
      refine' Mc.glo_mk ?a ?l ?c ?k
      (case a => k_is); (case l => k_is); (case c => k_is); (case k => k_is)
    have L__is_cut : Mc.GloD (head.heap_39 w.params) "_is_cut" Mc.s_is_cut := by
      refine' Mc.glo_mk ?a ?l ?c ?k
      (case a => k_is); (case l => k_is); (case c => k_is); (case k => k_is)
    have L__is_cuts : Mc.GloD (head.heap_39 w.params) "_is_cuts" Mc.s_is_cuts := by
      refine' Mc.glo_mk ?a ?l ?c ?k
      (case a => k_is); (case l => k_is); (case c => k_is); (case k => k_is)
    have L__within : Mc.GloD (head.heap_39 w.params) "_within" Mc.s_within := by
      refine' Mc.glo_mk ?a ?l ?c ?k
      (case a => k_is); (case l => k_is); (case c => k_is); (case k => k_is)
    have L__places_of : Mc.GloD (head.heap_39 w.params) "_places_of" Mc.s_places_of := by
      refine' Mc.glo_mk ?a ?l ?c ?k
      (case a => k_is); (case l => k_is); (case c => k_is); (case k => k_is)
    have L__parts_of : Mc.GloD (head.heap_39 w.params) "_parts_of" Mc.s_parts_of := by
      refine' Mc.glo_mk ?a ?l ?c ?k
      (case a => k_is); (case l => k_is); (case c => k_is); (case k => k_is)
    have L__multiplied : Mc.GloD (head.heap_39 w.params) "_multiplied" Mc.s_multiplied := by
      refine' Mc.glo_mk ?a ?l ?c ?k
      (case a => k_is); (case l => k_is); (case c => k_is); (case k => k_is)
    have L__check_rounds : Mc.GloD (head.heap_39 w.params) "_check_rounds" Mc.s_check_rounds := by
      refine' Mc.glo_mk ?a ?l ?c ?k
      (case a => k_is); (case l => k_is); (case c => k_is); (case k => k_is)
    have L__plain_cuts : Mc.GloD (head.heap_39 w.params) "_plain_cuts" Mc.s_plain_cuts := by
      refine' Mc.glo_mk ?a ?l ?c ?k
      (case a => k_is); (case l => k_is); (case c => k_is); (case k => k_is)
    have L_Plan___init__ : Mc.IniD0 (head.heap_39 w.params) 343 "Plan.__init__" Mc.s_Plan___init := by
      refine' Mc.ini0_mk ?m ?a ?i ?kc ?l ?c ?k
      (case m => k_is); (case a => k_is); (case i => k_is); (case kc => k_is); (case l => k_is); (case c => k_is); (case k => k_is)
    have L__law_plan : Mc.GloD (head.heap_39 w.params) "_law_plan" Mc.s_plan := by
      refine' Mc.glo_mk ?a ?l ?c ?k
      (case a => k_is); (case l => k_is); (case c => k_is); (case k => k_is)
    have L__law_others : Mc.GloD (head.heap_39 w.params) "_law_others" Mc.s_others := by
      refine' Mc.glo_mk ?a ?l ?c ?k
      (case a => k_is); (case l => k_is); (case c => k_is); (case k => k_is)
    have L_Plan_rounds : Mc.MetD (head.heap_39 w.params) 343 "rounds" "Plan.rounds" Mc.s_Plan_rounds := by
      refine' Mc.met_mk ?a ?i ?l ?c ?k
      (case a => k_is); (case i => k_is); (case l => k_is); (case c => k_is); (case k => k_is)
    have L_Plan___len__ : Mc.MetD (head.heap_39 w.params) 343 "__len__" "Plan.__len__" Mc.s_Plan___len := by
      refine' Mc.met_mk ?a ?i ?l ?c ?k
      (case a => k_is); (case i => k_is); (case l => k_is); (case c => k_is); (case k => k_is)
    have L_Plan___repr__ : Mc.MetD (head.heap_39 w.params) 343 "__repr__" "Plan.__repr__" Mc.s_Plan___repr := by
      refine' Mc.met_mk ?a ?i ?l ?c ?k
      (case a => k_is); (case i => k_is); (case l => k_is); (case c => k_is); (case k => k_is)
    have L_is_count : Mc.GloD (head.heap_39 w.params) "is_count" Mc.s_is_count := by
      refine' Mc.glo_mk ?a ?l ?c ?k
      (case a => k_is); (case l => k_is); (case c => k_is); (case k => k_is)
    have L_is_count_below : Mc.GloD (head.heap_39 w.params) "is_count_below" Mc.s_is_count_below := by
      refine' Mc.glo_mk ?a ?l ?c ?k
      (case a => k_is); (case l => k_is); (case c => k_is); (case k => k_is)
    have L_check_phase : Mc.GloD (head.heap_39 w.params) "check_phase" Mc.s_check_phase := by
      refine' Mc.glo_mk ?a ?l ?c ?k
      (case a => k_is); (case l => k_is); (case c => k_is); (case k => k_is)
    have L_Plan_signs : Mc.MetD (head.heap_39 w.params) 343 "signs" "Plan.signs" Mc.s_Plan_signs := by
      refine' Mc.met_mk ?a ?i ?l ?c ?k
      (case a => k_is); (case i => k_is); (case l => k_is); (case c => k_is); (case k => k_is)
    have L_Plan_parts : Mc.MetD (head.heap_39 w.params) 343 "parts" "Plan.parts" Mc.s_Plan_parts := by
      refine' Mc.met_mk ?a ?i ?l ?c ?k
      (case a => k_is); (case i => k_is); (case l => k_is); (case c => k_is); (case k => k_is)
    have L_check_sign : Mc.GloD (head.heap_39 w.params) "check_sign" Mc.s_check_sign := by
      refine' Mc.glo_mk ?a ?l ?c ?k
      (case a => k_is); (case l => k_is); (case c => k_is); (case k => k_is)
    have L_Plan_place_of : Mc.MetD (head.heap_39 w.params) 343 "place_of" "Plan.place_of" Mc.s_Plan_place_of := by
      refine' Mc.met_mk ?a ?i ?l ?c ?k
      (case a => k_is); (case i => k_is); (case l => k_is); (case c => k_is); (case k => k_is)
    have L_check_pair : Mc.GloD (head.heap_39 w.params) "check_pair" Mc.s_check_pair := by
      refine' Mc.glo_mk ?a ?l ?c ?k
      (case a => k_is); (case l => k_is); (case c => k_is); (case k => k_is)
    have L_Plan_sign_at : Mc.MetD (head.heap_39 w.params) 343 "sign_at" "Plan.sign_at" Mc.s_Plan_sign_at := by
      refine' Mc.met_mk ?a ?i ?l ?c ?k
      (case a => k_is); (case i => k_is); (case l => k_is); (case c => k_is); (case k => k_is)
    have L__law_parts : Mc.GloD (head.heap_39 w.params) "_law_parts" Mc.s_parts := by
      refine' Mc.glo_mk ?a ?l ?c ?k
      (case a => k_is); (case l => k_is); (case c => k_is); (case k => k_is)
    have L__law_place : Mc.GloD (head.heap_39 w.params) "_law_place" Mc.s_place := by
      refine' Mc.glo_mk ?a ?l ?c ?k
      (case a => k_is); (case l => k_is); (case c => k_is); (case k => k_is)
    have L__law_round_right : Mc.GloD (head.heap_39 w.params) "_law_round_right" Mc.s_round_right := by
      refine' Mc.glo_mk ?a ?l ?c ?k
      (case a => k_is); (case l => k_is); (case c => k_is); (case k => k_is)
    have L_check_fineness : Mc.GloD (head.heap_39 w.params) "check_fineness" Mc.s_check_fineness := by
      refine' Mc.glo_mk ?a ?l ?c ?k
      (case a => k_is); (case l => k_is); (case c => k_is); (case k => k_is)
    have L_Plan_growth : Mc.PrpD (head.heap_39 w.params) 343 "growth" "Plan.growth" Mc.s_Plan_growth := by
      refine' Mc.prp_mk ?a ?g ?t ?r ?l ?c ?k
      (case a => k_is); (case g => k_is); (case t => k_is); (case r => k_is); (case l => k_is); (case c => k_is); (case k => k_is)
    have L__power : Mc.GloD (head.heap_39 w.params) "_power" Mc.s_power := by
      refine' Mc.glo_mk ?a ?l ?c ?k
      (case a => k_is); (case l => k_is); (case c => k_is); (case k => k_is)
    have L_counts_at : Mc.GloD (head.heap_39 w.params) "counts_at" Mc.s_counts_at := by
      refine' Mc.glo_mk ?a ?l ?c ?k
      (case a => k_is); (case l => k_is); (case c => k_is); (case k => k_is)
    have L_Plan_counts : Mc.MetD (head.heap_39 w.params) 343 "counts" "Plan.counts" Mc.s_Plan_counts := by
      refine' Mc.met_mk ?a ?i ?l ?c ?k
      (case a => k_is); (case i => k_is); (case l => k_is); (case c => k_is); (case k => k_is)
    have L_Plan_phase : Mc.MetD (head.heap_39 w.params) 343 "phase" "Plan.phase" Mc.s_Plan_phase := by
      refine' Mc.met_mk ?a ?i ?l ?c ?k
      (case a => k_is); (case i => k_is); (case l => k_is); (case c => k_is); (case k => k_is)
    have L__law_counts_right : Mc.GloD (head.heap_39 w.params) "_law_counts_right" Mc.s_counts_right := by
      refine' Mc.glo_mk ?a ?l ?c ?k
      (case a => k_is); (case l => k_is); (case c => k_is); (case k => k_is)
    have L__law_told_right : Mc.GloD (head.heap_39 w.params) "_law_told_right" Mc.s_told_right := by
      refine' Mc.glo_mk ?a ?l ?c ?k
      (case a => k_is); (case l => k_is); (case c => k_is); (case k => k_is)
    have L_Plan___eq__ : Mc.MetD (head.heap_39 w.params) 343 "__eq__" "Plan.__eq__" Mc.s_Plan___eq := by
      refine' Mc.met_mk ?a ?i ?l ?c ?k
      (case a => k_is); (case i => k_is); (case l => k_is); (case c => k_is); (case k => k_is)
    have L__law_equal_right : Mc.GloD (head.heap_39 w.params) "_law_equal_right" Mc.s_equal_right := by
      refine' Mc.glo_mk ?a ?l ?c ?k
      (case a => k_is); (case l => k_is); (case c => k_is); (case k => k_is)
    have L__turned_cuts : Mc.GloD (head.heap_39 w.params) "_turned_cuts" Mc.s_turned_cuts := by
      refine' Mc.glo_mk ?a ?l ?c ?k
      (case a => k_is); (case l => k_is); (case c => k_is); (case k => k_is)
    have L_Plan_turned : Mc.MetD (head.heap_39 w.params) 343 "turned" "Plan.turned" Mc.s_Plan_turned := by
      refine' Mc.met_mk ?a ?i ?l ?c ?k
      (case a => k_is); (case i => k_is); (case l => k_is); (case c => k_is); (case k => k_is)
    have L__law_turned_right : Mc.GloD (head.heap_39 w.params) "_law_turned_right" Mc.s_turned_right := by
      refine' Mc.glo_mk ?a ?l ?c ?k
      (case a => k_is); (case l => k_is); (case c => k_is); (case k => k_is)
    have L__law_known_right : Mc.GloD (head.heap_39 w.params) "_law_known_right" Mc.s_known_right := by
      refine' Mc.glo_mk ?a ?l ?c ?k
      (case a => k_is); (case l => k_is); (case c => k_is); (case k => k_is)
    have L__law_right : Mc.GloD (head.heap_39 w.params) "_law_right" Mc.s_right := by
      refine' Mc.glo_mk ?a ?l ?c ?k
      (case a => k_is); (case l => k_is); (case c => k_is); (case k => k_is)
    have L_law : Mc.GloD (head.heap_39 w.params) "law" Mc.s_law := by
      refine' Mc.glo_mk ?a ?l ?c ?k
      (case a => k_is); (case l => k_is); (case c => k_is); (case k => k_is)
    have L_Plan_squares : Mc.CMtD (head.heap_39 w.params) 343 (.type "type") "squares" "Plan.squares" Mc.s_Plan_squares := by
      refine' Mc.cmt_mk ?a ?r ?fi ?l ?c ?k
      (case a => k_is); (case r => k_is); (case fi => k_is); (case l => k_is); (case c => k_is); (case k => k_is)
    have L_Plan_codes : Mc.CMtD (head.heap_39 w.params) 343 (.type "type") "codes" "Plan.codes" Mc.s_Plan_codes := by
      refine' Mc.cmt_mk ?a ?r ?fi ?l ?c ?k
      (case a => k_is); (case r => k_is); (case fi => k_is); (case l => k_is); (case c => k_is); (case k => k_is)
    have T : Mc.TB mg := by
      refine' ⟨PySem.W.mg_none_of KX G ?z0, PySem.W.mg_none_of KX G ?z1, PySem.W.mg_none_of KX G ?z2, PySem.W.mg_none_of KX G ?z3, PySem.W.mg_none_of KX G ?z4, PySem.W.mg_none_of KX G ?z5, PySem.W.mg_none_of KX G ?z6, PySem.W.mg_none_of KX G ?z7, PySem.W.mg_none_of KX G ?z8, PySem.W.mg_none_of KX G ?z9, PySem.W.mg_none_of KX G ?z10, PySem.W.mg_none_of KX G ?z11, PySem.W.mg_none_of KX G ?z12, PySem.W.mg_none_of KX G ?z13, PySem.W.mg_none_of KX G ?z14, PySem.W.mg_none_of KX G ?z15, PySem.W.mg_none_of KX G ?z16⟩
      all_goals k_is
    have R : Mc.PlanT (head.heap_39 w.params) mg 343 229 (.type "type") := by
      refine' ⟨⟨?pg, ?hd, ?po, ?sa⟩, ?nR, ?nP, ?nL, ?nG, PySem.W.mg_of KX G ?mgP, Mc.md_mk (PySem.W.mg_of KX G ?mF), Mc.md_mk (PySem.W.mg_of KX G ?lP), Mc.md_mk (PySem.W.mg_of KX G ?mP), PySem.W.mg_of KX G ?ax, Mc.ax_mk ?axl ?axz ?axv, Mc.axT_mk ?axl2, ⟨?cra, ?crb⟩, Mc.cv_mk ?cR, Mc.cv_mk ?cC, Mc.cv_mk ?cS⟩
      (case pg => k_is); (case hd => k_is); (case po => k_is); (case sa => k_is)
      (case nR => unfold L2.NoAttr; k_is); (case nP => unfold L2.NoAttr; k_is); (case nL => unfold L2.NoAttr; k_is); (case nG => unfold L2.NoAttr; k_is)
      (case mgP => k_is); (case mF => k_is); (case lP => k_is); (case mP => k_is); (case ax => k_is); (case axl => k_is); (case axl2 => k_is); (case cra => k_is); (case crb => k_is); (case cR => k_is); (case cC => k_is); (case cS => k_is)
      (case axz => show 2 ≤ PySem.sizeLine; decide)
      (case axv => exact .cons ⟨_, rfl⟩ (.cons ⟨_, rfl⟩ .nil))
    have RE : Mc.PlanE (head.heap_39 w.params) 343 := by
      refine' ⟨?ca, ?cn, ?ct, ?cm, ?ne, ?kR, ?kk, ?nf⟩
      (case ca => k_is); (case cn => k_is); (case ct => k_is); (case cm => k_is); (case ne => k_is)
      (case kR => kit_is)
      case kk =>
        intro x hx
        simp only [List.mem_cons, List.not_mem_nil, or_false] at hx
        rcases hx with rfl | rfl | rfl | rfl | rfl | rfl | rfl <;> kit_is
      case nf =>
        intro x hx
        simp only [List.mem_cons, List.not_mem_nil, or_false] at hx
        rcases hx with rfl | rfl | rfl | rfl | rfl | rfl | rfl <;> k_is
    exact Mc.all_law KX G hmg T R RE L__law_pot L__law_draw L__law_pick L__law_product L__law_mixed L__law_rounds L_is_list L_is_tuple_of L_is_axis L_is_int L__is_parts L__is_cut L__is_cuts L__within L__places_of L__parts_of L__multiplied L__check_rounds L__plain_cuts L_Plan___init__ L__law_plan L__law_others L_Plan_rounds L_Plan___len__ L_Plan___repr__ L_is_count L_is_count_below L_check_phase L_Plan_signs L_Plan_parts L_check_sign L_Plan_place_of L_check_pair L_Plan_sign_at L__law_parts L__law_place L__law_round_right L_check_fineness L_Plan_growth L__power L_counts_at L_Plan_counts L_Plan_phase L__law_counts_right L__law_told_right L_Plan___eq__ L__law_equal_right L__turned_cuts L_Plan_turned L__law_turned_right L__law_known_right L__law_right L_law L_Plan_squares L_Plan_codes
