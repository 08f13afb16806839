import PyProof.Rows.All
import Wide.All
import OpenK.AllK
import Wide.FinOn
import PyProof.EqAt
import PyProof.EqKinds
import PyProof.TupleCall
import HandS.ForMost
import HandS.Wide
import HandS.EndBits
import HandS.IsInst
import HandS.TupAny
import HandS.Exc
import HandS.TryOnly
import HandS.ExcOwn
import HandS.WordsExc
import HandS.ExcIs
import PySem.Challenge.RW_setmend_k01_inverses
set_option Elab.async false
set_option linter.all false
set_option maxRecDepth 100000
set_option maxHeartbeats 4000000
namespace My
open PySem PySem.Spec PyProof.Rows L2
/-! ### heaps and the drawing state -/
theorem same_upd {H : Hp} {p : Addr} {o : HO} (h : H p = none) : Same H (upd H p o) := fun b x e => by
  rw [upd_ne (ne_of_none e h)]
  exact e
theorem rd_same {H H' : Hp} {a : Addr} {u : HO} (e : Same H H') (h : Rd H a u) : Rd H' a u := by
  rcases h with h | ⟨o, h⟩
  · exact .inl (e a _ h)
  · exact .inr ⟨o, e a _ h⟩
theorem seqT_same {K : PySem.W.Frag} {H H' : Hp} {a : Addr} {xs : List V} (e : Same H H') (h : SqT K H a xs) : SqT K H' a xs := by
  rcases h with h | h
  · exact .inl (rd_same e h)
  · exact .inr h
theorem int_at {ns : List Int} {i : Nat} {y : V} (h : (ns.map V.int)[i]? = some y) : ∃ z, ns[i]? = some z ∧ y = V.int z := by
  rw [List.getElem?_map] at h
  cases e : ns[i]? with
  | none =>
    rw [e] at h
    cases h
  | some z =>
    rw [e] at h
    exact ⟨z, rfl, (Option.some.inj h).symm⟩
/-- the law's drawing state: a list of the script, how many were taken, a mixed number, a rest -/
structure StAt (K : PySem.W.Frag) (a st : Addr) (H : Hp) : Prop where
  ex : ∃ i m r : Int, 0 ≤ i ∧ H st = some (.lst [.ref a, .int i, .int m, .int r])
  sc : ∃ ns : List Int, SqL K H a (ns.map V.int)
/-- what drawing may do to the heap -/
structure Go (K : PySem.W.Frag) (st : Addr) (H H' : Hp) : Prop where
  keep : ∀ b o, b ≠ st → H b = some o → H' b = some o
  st : ∀ a, StAt K a st H → StAt K a st H'
section
variable {K : PySem.W.Frag} {st a : Addr} {H H1 H2 H' : Hp}
theorem Go.refl (H : Hp) : Go K st H H := ⟨fun _ _ _ e => e, fun _ h => h⟩
theorem Go.trans (x : Go K st H H1) (y : Go K st H1 H2) : Go K st H H2 := ⟨fun b o hb e => y.keep b o hb (x.keep b o hb e), fun a h => y.st a (x.st a h)⟩
theorem StAt.same (e : Same H H') (h : StAt K a st H) : StAt K a st H' := by
  obtain ⟨⟨i, m, r, hi, hs⟩, ns, hn⟩ := h
  exact ⟨⟨i, m, r, hi, e _ _ hs⟩, ns, e.seq hn⟩
theorem Go.of (e : Same H H') : Go K st H H' := ⟨fun b o _ h => e b o h, fun _ h => h.same e⟩
theorem Go.new {p : Addr} {o : HO} (h : H p = none) : Go K st H (upd H p o) := Go.of (same_upd h)
theorem StAt.ne {b : Addr} {o : HO} (h : StAt K a st H) (e : H b = some o) (hb : ∀ xs, o ≠ .lst xs) : b ≠ st := fun z => by
  obtain ⟨⟨i, m, r, _, hs⟩, _⟩ := h
  rw [z, hs] at e
  exact hb _ (Option.some.inj e).symm
/-- a stored state -/
theorem StAt.upd {i m r : Int} (h : StAt K a st H) (hi : 0 ≤ i) : StAt K a st (upd H st (.lst [.ref a, .int i, .int m, .int r])) := by
  obtain ⟨⟨i0, m0, r0, hi0, hs⟩, ns, hn⟩ := h
  refine ⟨⟨i, m, r, hi, upd_same⟩, ns, ?_⟩
  rcases hn with (hn | ⟨o, hn⟩) | hn
  · have hne : a ≠ st := fun z => by
      rw [z, hs] at hn
      have e := HO.lst.inj (Option.some.inj hn)
      cases ns with
      | nil => cases e
      | cons n r => cases e
    exact .inl (.inl (by rw [upd_ne hne]; exact hn))
  · have hne : a ≠ st := fun z => by
      rw [z, hs] at hn
      cases hn
    exact .inl (.inr ⟨o, by rw [upd_ne hne]; exact hn⟩)
  · exact .inr hn
theorem Go.upd {i m r : Int} (h : StAt K a st H) (hi : 0 ≤ i) : Go K st H (L2.upd H st (.lst [.ref a, .int i, .int m, .int r])) := by
  refine ⟨fun b o hb e => by rw [upd_ne hb]; exact e, fun a' h' => ?_⟩
  have e : a' = a := by
    obtain ⟨⟨i0, m0, r0, hi0, hs⟩, _⟩ := h
    obtain ⟨⟨i1, m1, r1, hi1, hs1⟩, _⟩ := h'
    rw [hs] at hs1
    injection hs1 with e1
    injection e1 with e2
    injection e2 with e3
    injection e3 with e4
    exact e4.symm
  subst e
  exact h'.upd hi
theorem Go.seqT {b : Addr} {xs : List V} (g : Go K st H H') (h : StAt K a st H) (hb : SqT K H b xs) : SqT K H' b xs := by
  rcases hb with (e | ⟨o, e⟩) | e
  · exact .inl (.inl (g.keep b _ (h.ne e (fun _ z => nomatch z)) e))
  · exact .inl (.inr ⟨o, g.keep b _ (h.ne e (fun _ z => nomatch z)) e⟩)
  · exact .inr e
theorem Go.free {p : Addr} (g : Go K st H H') (h : StAt K a st H) (hp : H' p = none) : H p = none := by
  cases e : H p with
  | none => rfl
  | some o =>
    by_cases hq : p = st
    · obtain ⟨⟨i, m, r, _, hs⟩, _⟩ := g.st a h
      rw [hq, hs] at hp
      cases hp
    · rw [g.keep p o hq e] at hp
      cases hp
end
theorem StAt.fresh {K : PySem.W.Frag} {a st p : Addr} {H : Hp} (h : StAt K a st H) (hp : H p = none) : p ≠ st := fun z => by
  obtain ⟨⟨i, m, r, _, hs⟩, _⟩ := h
  rw [z, hs] at hp
  cases hp
/-- a new object may change -/
theorem Go.mut {K : PySem.W.Frag} {st a p : Addr} {H H' : Hp} {o : HO} (g : Go K st H H') (h : StAt K a st H) (hp : H p = none) : Go K st H (L2.upd H' p o) := by
  have hne := h.fresh hp
  refine ⟨fun b u hb e => by rw [upd_ne (ne_of_none e hp)]; exact g.keep b u hb e, fun a' h' => ?_⟩
  obtain ⟨⟨i, m, r, hi, hs⟩, _⟩ := g.st a' h'
  obtain ⟨⟨i0, m0, r0, hi0, hs0⟩, ns, hn⟩ := h'
  refine ⟨⟨i, m, r, hi, by rw [upd_ne hne.symm]; exact hs⟩, ns, ?_⟩
  rcases hn with (hn | ⟨o', hn⟩) | hn
  · have hne' : a' ≠ st := fun z => by
      rw [z, hs0] at hn
      have e := HO.lst.inj (Option.some.inj hn)
      cases ns with
      | nil => cases e
      | cons n r => cases e
    exact .inl (.inl (by rw [upd_ne (ne_of_none hn hp)]; exact g.keep _ _ hne' hn))
  · have hne' : a' ≠ st := fun z => by
      rw [z, hs0] at hn
      cases hn
    exact .inl (.inr ⟨o', by rw [upd_ne (ne_of_none hn hp)]; exact g.keep _ _ hne' hn⟩)
  · exact .inr hn
/-- [f(..) for x in range(n)], each an int of which P holds, drawing meanwhile -/
theorem lc_ints {K : PySem.W.Frag} {st a D : Addr} {H : Hp} {te : TE} {σ : L2.St} {vs : List Nat} {j : Nat} {lo : Int} {n : Nat} {Qd : Hp → Prop} (P : Int → Prop) (hS : StAt K a st H) (hD : H D = none) (hn : n ≤ 10000)
    (hw : ∀ x, wipe ((wipe σ vs).set j (some x)) vs = wipe σ vs)
    (ht : ∀ (i : Nat) (H1 : Hp), i < n → Go K st H H1 → ∀ Q : VK, (∀ (v : Int) (H2 : Hp), P v → Go K st H1 H2 → Q (.int v) H2) → te ((wipe σ vs).set j (some (.int (lo + (i : Int))))) H1 Q)
    (q : ∀ (ns : List Int) (H' : Hp), ns.length = n → (∀ z ∈ ns, P z) → Go K st H H' → H' D = some (.lst (ns.map V.int)) → Qd H') :
    ∃ W : Nat → Nat → Hp → Prop, (∃ m, W 0 m (upd H D (.lst []))) ∧ ∀ i m H, W i m H →
      ((Itr lo n).stop i H ∧ Qd H) ∨ ((Itr lo n).go i H ∧ ∃ Nx : Hp → Prop, (∀ H', Nx H' → ∃ m', m' < m ∧ W (i + 1) m' H') ∧ ∀ x H', (Itr lo n).yld i H x H' → (gName j) x (wipe σ vs) H' fun σ2 H2 => wipe σ2 vs = wipe σ vs ∧ tYes σ2 H2 fun b H3 =>
        if b = true then te σ2 H3 fun y H4 => ∃ acc, H4 D = some (.lst acc) ∧ acc.length < sizeLine ∧ Nx (upd H4 D (.lst (acc ++ [y]))) else Nx H3) := by
  refine lc_range (fun i H' => ∃ ns : List Int, ns.length = i ∧ (∀ z ∈ ns, P z) ∧ Go K st H H' ∧ H' D = some (.lst (ns.map V.int))) ⟨[], rfl, (fun _ z => nomatch z), Go.new hD, upd_same⟩ ?_ ?_
  · rintro i H1 hi ⟨ns, hl, hP, g, hd⟩
    refine ⟨hw _, ?_⟩
    show te ((wipe σ vs).set j (some (.int (lo + (i : Int))))) H1 _
    refine ht i H1 hi g _ fun v H2 hv g2 => ?_
    have hd2 : H2 D = some (.lst (ns.map V.int)) := g2.keep _ _ (hS.fresh hD) hd
    refine ⟨_, hd2, ?_, ns ++ [v], ?_, ?_, (g.trans g2).mut hS hD, ?_⟩
    · rw [List.length_map]
      exact Nat.lt_of_lt_of_le (by omega : ns.length < 10000) (by decide)
    · rw [List.length_append, hl]
      rfl
    · intro z hz
      rcases List.mem_append.mp hz with h | h
      · exact hP z h
      · rw [List.mem_singleton.mp h]
        exact hv
    · rw [upd_same, List.map_append]
      rfl
  · rintro H' ⟨ns, hl, hP, g, hd⟩
    exact q ns H' hl hP g hd
theorem pickI {ns : List Int} {v lo hi : Int} (h : ∀ z ∈ ns, lo ≤ z ∧ z ≤ hi) (h0 : 0 ≤ v) (h1 : v < (ns.length : Int)) : ∃ z, atI (ns.map V.int) v = some (.int z) ∧ lo ≤ z ∧ z ≤ hi := by
  have hlt : v.toNat < ns.length := by omega
  refine ⟨ns[v.toNat], at_of (j := v.toNat) (by omega) ?_, h _ (List.getElem_mem hlt)⟩
  rw [List.getElem?_map, List.getElem?_eq_getElem hlt]
  rfl
theorem nat8000 {n : Int} (h0 : 0 ≤ n) (h : n < 10 ^ 70) : n.natAbs < 2 ^ 8000 := Nat.lt_of_lt_of_le (by omega : n.natAbs < 10 ^ 70) (by decide +kernel)
/-! ### the promises of the drawing defs -/
def sp__law_start (K : PySem.W.Frag) : Sp := fun vs H Q _ => ∃ (a : Addr) (ns : List Int), vs = [.ref a] ∧ SqL K H a (ns.map V.int) ∧
  ∀ st H', H st = none → Same H H' → StAt K a st H' → Q (.ref st) H'
def sp__law_drawn (K : PySem.W.Frag) : Sp := fun vs H Q _ => ∃ (a st : Addr) (n : Int), vs = [.ref st, .int n] ∧ StAt K a st H ∧ 0 < n ∧ n.natAbs < 2 ^ 8000 ∧
  ∀ (v : Int) H', 0 ≤ v → v < n → Go K st H H' → Q (.int v) H'
end My
namespace L2
open PySem PySem.Spec PyProof.Rows
/-! ### isinstance of the error that a suite holds -/
def rIsEx (K : PySem.W.Frag) (cls : Value) (d : Option Addr) (a : Addr) : List V → Hp → VK → Prop := fun xs H Q => ∃ (D : Addr), cls = .ref D ∧ d = none ∧ ExcC K D ∧ rIsE K D a xs H Q
theorem call_isEx {X : Cx} {a : Addr} {oe : Obj} {cls : Value} {d : Option Addr} {pn : List (Addr × Obj)} (hz : Zc cls d oe) (hf : ∃ vs, oe.data = .fields vs) : CallR (X.suite a ((a, oe) :: pn)) (.builtin "isinstance") (rIsEx X.K cls d a) := by
  intro pins s σ H xs us Q I r h
  obtain ⟨D, rfl, rfl, C, h⟩ := h
  exact call_isE C hz hf pins s σ H xs us Q I r h
def rIsExT (K : PySem.W.Frag) (cls : Value) (d : Option Addr) (a : Addr) : List V → Hp → VK → Prop := fun xs H Q => ∃ (D tp : Addr) (cs : List V) (ts : List Value) (b : Bool), cls = .ref D ∧ d = none ∧ ExcC K D ∧ xs = [.ref a, .ref tp] ∧ H tp = some (.tup cs) ∧ Paired ClsV cs ts ∧ PySem.W.kitAny K (.ref D) ts = some b ∧ Q (.bl b) H
theorem call_isExT {X : Cx} {a : Addr} {oe : Obj} {cls : Value} {d : Option Addr} {pn : List (Addr × Obj)} (hz : Zc cls d oe) (hf : ∃ vs, oe.data = .fields vs) : CallR (X.suite a ((a, oe) :: pn)) (.builtin "isinstance") (rIsExT X.K cls d a) := by
  intro pins s σ H xs us Q I r h
  obtain ⟨D, tp, cs, ts, b, rfl, rfl, C, rfl, hT, k, e, q⟩ := h
  obtain ⟨u1, u2, rfl, r1, r2⟩ := vals2 r
  cases (show u2 = Value.ref tp from r2)
  cases (show u1 = Value.ref a from r1)
  obtain ⟨hget, _⟩ := I.pin (a, oe) (List.mem_append.mpr (.inl List.mem_cons_self))
  obtain ⟨vs, hv⟩ := hf
  have J : PySem.W.InstAt s.heap a oe D none := by
    obtain ⟨oc, od, oda, osl⟩ := oe
    obtain ⟨h1, h2⟩ := hz
    dsimp only at h1 h2 hv
    subst h1 h2 hv
    exact ⟨hget, rfl, rfl, trivial⟩
  obtain ⟨_, its, rv, o, h1, h2, n, h3⟩ := (show ObjOk X.prog X.w H s.heap tp (.tup cs) from I.hok tp _ hT)
  have e3 := ClsV.all k rv
  subst e3
  obtain ⟨oc, od, dt, sl⟩ := o
  simp only at h2 h3
  subst h2 h3
  exact PySem.W.kia_tup (PySem.W.handS_kitx_exc C.hg C.hk C.hs C.hd C.ha C.hn C.ht C.hm) I.kIn J h1 e (fun z => nomatch z) fun tk => ⟨.bl b, H, I.kept (t' := tk) fun _ _ z => z, rfl, q⟩
end L2
namespace My
open PySem PySem.Spec PyProof.Rows L2
def sp_inverse (C : Addr) : Sp := fun vs H Q E => ∃ n : Int, vs = [.int n] ∧ (n % 97 = 0 → E (.ref C) none H) ∧ (n % 97 ≠ 0 → ∀ g : Int, 1 ≤ g → g ≤ 96 → n * g % 97 = 1 → Q (.int g) H)
def sp__law_number (K : PySem.W.Frag) : Sp := fun vs H Q _ => ∃ (a st : Addr), vs = [.ref st] ∧ StAt K a st H ∧ ∀ (v : Int) H', Go K st H H' → Q (.int v) H'
def sp__law_refused (K : PySem.W.Frag) : Sp := fun vs H Q _ => ∃ n : Int, vs = [.int n] ∧ n % 97 = 0 ∧ ∀ H', Same H H' → Q (.bl true) H'
def sp_law (K : PySem.W.Frag) : Sp := fun vs H Q _ => ∃ (a : Addr) (ns : List Int), vs = [.ref a] ∧ SqL K H a (ns.map V.int) ∧ ns.length ≤ 63 ∧ ∀ H', Q (.bl true) H'
theorem has_inv : ∀ r : Fin 97, r.val ≠ 0 → ∃ g : Fin 96, (r.val * (g.val + 1)) % 97 = 1 := by decide +kernel
theorem no_inv {n : Int} (h : ∀ g : Nat, g < 96 → n % 97 * (1 + (g : Int)) % 97 ≠ 1) : n % 97 = 0 := by
  have h0 := Int.emod_nonneg n (show (97 : Int) ≠ 0 by decide)
  have h1 := Int.emod_lt_of_pos n (show (0 : Int) < 97 by decide)
  by_cases z : n % 97 = 0
  · exact z
  · exfalso
    obtain ⟨g, hg⟩ := has_inv ⟨(n % 97).toNat, by omega⟩ (by show (n % 97).toNat ≠ 0; omega)
    have hg' : (n % 97).toNat * (g.val + 1) % 97 = 1 := hg
    refine h g.val g.isLt ?_
    have e : n % 97 * (1 + (g.val : Int)) = (((n % 97).toNat * (g.val + 1) : Nat) : Int) := by
      rw [Int.natCast_mul, Int.toNat_of_nonneg h0, Int.natCast_add]
      congr 1
      omega
    rw [e]
    omega
end My
namespace My
open PySem PySem.Spec PyProof.Rows L2
/-! ### the text -/
def topS (i : Nat) : Stmt := PySem.Challenge.pw_setmend_k01_inverses.main.body.getD i (.Pass ⟨0, 0, 0, 0⟩)
abbrev s_inverse : Stmt := topS 15
theorem sc_inverse : FnScope ["number", "rest", "guess"] ["number"] (defScope s_inverse) := ⟨rfl, rfl, rfl, by decide +kernel, rfl, by decide +kernel, by decide +kernel⟩
abbrev s__law_start : Stmt := topS 17
theorem sc__law_start : FnScope ["_law_script", "_law_mixed", "_law_cell"] ["_law_script"] (defScope s__law_start) := ⟨rfl, rfl, rfl, by decide +kernel, rfl, by decide +kernel, by decide +kernel⟩
abbrev s__law_drawn : Stmt := topS 18
theorem sc__law_drawn : FnScope ["_law_state", "_law_many", "_law_found", "_law_cell"] ["_law_state", "_law_many"] (defScope s__law_drawn) := ⟨rfl, rfl, rfl, by decide +kernel, rfl, by decide +kernel, by decide +kernel⟩
abbrev s__law_number : Stmt := topS 19
theorem sc__law_number : FnScope ["_law_state", "_law_far", "_law_number_here"] ["_law_state"] (defScope s__law_number) := ⟨rfl, rfl, rfl, by decide +kernel, rfl, by decide +kernel, by decide +kernel⟩
abbrev s__law_refused : Stmt := topS 20
theorem sc__law_refused : FnScope ["_law_number_here", "e", "_law_other"] ["_law_number_here"] (defScope s__law_refused) := ⟨rfl, rfl, rfl, by decide +kernel, rfl, by decide +kernel, by decide +kernel⟩
abbrev s_law : Stmt := topS 21
theorem sc_law : FnScope ["_law_script", "_law_state", "_law_number_here", "_law_found", "_law_k"] ["_law_script"] (defScope s_law) := ⟨rfl, rfl, rfl, by decide +kernel, rfl, by decide +kernel, by decide +kernel⟩
structure Ad where
  f_inverse : Addr
  d_inverse : FuncData
  f__law_start : Addr
  d__law_start : FuncData
  f__law_drawn : Addr
  d__law_drawn : FuncData
  f__law_number : Addr
  d__law_number : FuncData
  f__law_refused : Addr
  d__law_refused : FuncData
  f_law : Addr
  d_law : FuncData
  e_MendError : Addr
  e_NoSet : Addr
  e_NoMark : Addr
  e_NoInverse : Addr
  e_NoCount : Addr
  e_NoHand : Addr
  e_NoLetter : Addr
  e_NoText : Addr
  e_Held : Addr
  e_NotHeld : Addr
  e_Unlike : Addr
  e_Late : Addr
  t_WHEEL : Nat
structure Txt (K : PySem.W.Frag) (mg : Str → Option Value) (A : Ad) : Prop where
  F_inverse : Fun K "inverse" "inverse" s_inverse A.f_inverse A.d_inverse
  k_inverse : PySem.W.keepIn K (.ref A.f_inverse) = true
  g_inverse : mg "inverse" = some (.ref A.f_inverse)
  b_inverse : Binds K A.d_inverse ["number"] []
  F__law_start : Fun K "_law_start" "_law_start" s__law_start A.f__law_start A.d__law_start
  k__law_start : PySem.W.keepIn K (.ref A.f__law_start) = true
  g__law_start : mg "_law_start" = some (.ref A.f__law_start)
  b__law_start : Binds K A.d__law_start ["_law_script"] []
  F__law_drawn : Fun K "_law_drawn" "_law_drawn" s__law_drawn A.f__law_drawn A.d__law_drawn
  k__law_drawn : PySem.W.keepIn K (.ref A.f__law_drawn) = true
  g__law_drawn : mg "_law_drawn" = some (.ref A.f__law_drawn)
  b__law_drawn : Binds K A.d__law_drawn ["_law_state", "_law_many"] []
  F__law_number : Fun K "_law_number" "_law_number" s__law_number A.f__law_number A.d__law_number
  k__law_number : PySem.W.keepIn K (.ref A.f__law_number) = true
  g__law_number : mg "_law_number" = some (.ref A.f__law_number)
  b__law_number : Binds K A.d__law_number ["_law_state"] []
  F__law_refused : Fun K "_law_refused" "_law_refused" s__law_refused A.f__law_refused A.d__law_refused
  k__law_refused : PySem.W.keepIn K (.ref A.f__law_refused) = true
  g__law_refused : mg "_law_refused" = some (.ref A.f__law_refused)
  b__law_refused : Binds K A.d__law_refused ["_law_number_here"] []
  F_law : Fun K "law" "law" s_law A.f_law A.d_law
  k_law : PySem.W.keepIn K (.ref A.f_law) = true
  g_law : mg "law" = some (.ref A.f_law)
  b_law : Binds K A.d_law ["_law_script"] []
  c_WHEEL : mg "WHEEL" = some (.int 97 A.t_WHEEL)
  z_ValueError : mg "ValueError" = none
  z_bool : mg "bool" = none
  z_int : mg "int" = none
  z_isinstance : mg "isinstance" = none
  z_len : mg "len" = none
  z_range : mg "range" = none
  g_MendError : mg "MendError" = some (.ref A.e_MendError)
  g_NoSet : mg "NoSet" = some (.ref A.e_NoSet)
  g_NoMark : mg "NoMark" = some (.ref A.e_NoMark)
  g_NoInverse : mg "NoInverse" = some (.ref A.e_NoInverse)
  g_NoCount : mg "NoCount" = some (.ref A.e_NoCount)
  g_NoHand : mg "NoHand" = some (.ref A.e_NoHand)
  g_NoLetter : mg "NoLetter" = some (.ref A.e_NoLetter)
  g_NoText : mg "NoText" = some (.ref A.e_NoText)
  g_Held : mg "Held" = some (.ref A.e_Held)
  g_NotHeld : mg "NotHeld" = some (.ref A.e_NotHeld)
  g_Unlike : mg "Unlike" = some (.ref A.e_Unlike)
  g_Late : mg "Late" = some (.ref A.e_Late)
  x_NoInverse : PySem.W.excIn K A.e_NoInverse [.type "ValueError", .type "Exception", .type "BaseException", .type "object"] "ValueError.__new__" = true
  k_NoInverse : PySem.W.keepIn K (.ref A.e_NoInverse) = true
  bb_NoInverse : PySem.W.subIn K (.ref A.e_NoInverse) (.type "BaseException") = some true
  tt_NoInverse : PySem.W.typeIn K (.ref A.e_NoInverse) = some (.type "type")
  kv : PySem.W.kitOne K (.ref A.e_NoInverse) (.type "ValueError") = some true
  ko : PySem.W.kitOne K (.ref A.e_NoInverse) (.ref A.e_NoInverse) = some true
  kt : PySem.W.kitAny K (.ref A.e_NoInverse) [.ref A.e_Held, .ref A.e_Late, .ref A.e_NoCount, .ref A.e_NoHand, .ref A.e_NoLetter, .ref A.e_NoMark, .ref A.e_NoSet, .ref A.e_NoText, .ref A.e_NotHeld, .ref A.e_Unlike] = some false
  q1_NoInverse : PySem.W.findIn K (.ref A.e_NoInverse) "__getattribute__" = some (some (.builtin "BaseException.__getattribute__"))
  q2_NoInverse : PySem.W.findIn K (.ref A.e_NoInverse) "__getattr__" = some none
  q3_NoInverse : PySem.W.subIn K (.ref A.e_NoInverse) (.type "BaseException") = some true
  q4_NoInverse : PySem.W.hasDictIn K A.e_NoInverse = true
  q5_NoInverse : PySem.W.findIn K (.ref A.e_NoInverse) "__class__" = some (some (.builtin "object.__class__"))
  q6_NoInverse : PySem.W.specialIn K (.builtin "object.__class__") "__get__" = some (some (.builtin "getset_descriptor.__get__"))
  q7_NoInverse : PySem.W.takesIn K (.builtin "object.__class__") = some true
  q8_NoInverse : PySem.W.mroIn K A.e_NoInverse (.type "object") = some true
  s_NoInverse_MendError : PySem.W.subIn K (.ref A.e_NoInverse) (.ref A.e_MendError) = some true
  h1_MendError : PySem.W.subIn K (.ref A.e_MendError) (.type "BaseException") = some true
  h2_MendError : PySem.W.hasDictIn K A.e_MendError = true
  h3_MendError : PySem.W.typeIn K (.ref A.e_MendError) = some (.type "type")
theorem Txt.ec_NoInverse {K : PySem.W.Frag} {mg : Str → Option Value} {A : Ad} (T : Txt K mg A) : ExcC K A.e_NoInverse := ⟨T.q1_NoInverse, T.q2_NoInverse, T.q3_NoInverse, T.q4_NoInverse, T.q5_NoInverse, T.q6_NoInverse, T.q7_NoInverse, T.q8_NoInverse⟩
theorem Txt.ex_NoInverse_MendError {K : PySem.W.Frag} {mg : Str → Option Value} {A : Ad} (T : Txt K mg A) : PySem.W.exmOne K (.ref A.e_NoInverse) (.ref A.e_MendError) = some true := PySem.W.exm_ref T.h1_MendError T.h2_MendError T.h3_MendError T.s_NoInverse_MendError
section
variable {P : Program} {w : World} {K : PySem.W.Frag} {mg : Str → Option Value} {base : Heap} {A : Ad}
/-! ### inverse: slots 0 number, 1 rest, 2 guess -/

theorem ok_inverse (T : Txt K mg A) : FnOk P w K mg base (L2.CX P w) 1 A.f_inverse A.d_inverse ["number"] (sp_inverse A.e_NoInverse) := by
  refine T.F_inverse.okX sc_inverse (fun vs H Q E h => by first | (obtain ⟨_, rfl, _⟩ := h; rfl) | (obtain ⟨_, _, rfl, _⟩ := h; rfl) | (obtain ⟨_, _, _, rfl, _⟩ := h; rfl) | (obtain ⟨_, _, _, _, rfl, _⟩ := h; rfl) | (obtain ⟨_, _, _, _, _, rfl, _⟩ := h; rfl) | (obtain ⟨_, _, _, _, _, _, rfl, _⟩ := h; rfl) | (obtain ⟨_, _, _, _, _, _, _, rfl, _⟩ := h; rfl)) (fun cdv AA outer s H vs Q E hr h => ?_)
  refine ⟨_, (pss_cons (ps_set (i := 1) sc_inverse.nd rfl (.inl rfl) (pe_op op_mod (pv 0) (pe_glob (v := .int 97) rfl T.c_WHEEL ⟨_, rfl⟩)))
      (pss_cons (ps_for (passes_of rfl) rfl (pi_range2 (by rfl) T.z_range (pa_cons pe_int (pa_cons (pe_glob (v := .int 97) rfl T.c_WHEEL ⟨_, rfl⟩) pa_nil))) (pg_name (i := 2) sc_inverse.nd rfl (.inl rfl))
        (pss_one (ps_if (pt_cmpR op_eq (pe_op op_mod (pe_op op_mul (pv 1) (pv 2)) (pe_glob (v := .int 97) rfl T.c_WHEEL ⟨_, rfl⟩)) pe_int (nomark _)) (pss_one (ps_ret (pv 2))) pss_nil)))
      (pss_one (ps_raise rfl (takes_of rfl rfl rfl rfl) (pmk_own PySem.F.excBase_ValueError T.x_NoInverse T.g_NoInverse T.k_NoInverse (raises_own T.bb_NoInverse T.tt_NoInverse) rfl))))), ?_⟩
  obtain ⟨n, rfl, hE, hQ⟩ := h
  refine ⟨_, rfl, _, _, rfl, rfl, by show (0:Int) < _; decide, ?_⟩
  refine ⟨1, 97, rfl, ⟨by decide, by decide, by decide, by decide⟩, for_range (lo := 1) (n := 96) (fun i σ H' => ∃ v, σ = [some (.int n), some (.int (n % 97)), v] ∧ H' = H ∧ ∀ g : Nat, g < i → n % 97 * (1 + (g : Int)) % 97 ≠ 1) ⟨none, rfl, rfl, fun g hg => absurd hg (Nat.not_lt_zero _)⟩ ?_ ?_⟩
  · rintro i σ H' hi ⟨v, rfl, rfl, hno⟩
    refine ⟨_, rfl, _, rfl, _, _, rfl, rfl, .inr ⟨by omega, by omega⟩, _, _, rfl, rfl, by show (0:Int) < _; decide, rfl, _, rfl, ite2 (fun c => ?_) (fun c => ?_)⟩
    · have e : n % 97 * (1 + (i : Int)) % 97 = 1 := V.int.inj (of_decide_eq_true c)
      refine ⟨_, rfl, ?_⟩
      have e2 : n * (1 + (i : Int)) % 97 = 1 := by
        have a1 := Int.mul_emod n (1 + (i : Int)) 97
        have a2 := Int.mul_emod (n % 97) (1 + (i : Int)) 97
        rw [Int.emod_emod] at a2
        rw [a1, ← a2]
        exact e
      refine hQ (fun z => ?_) _ (by omega) (by omega) e2
      rw [z, Int.zero_mul] at e
      cases e
    · refine ⟨_, rfl, rfl, fun g hg => ?_⟩
      rcases Nat.lt_succ_iff_lt_or_eq.mp hg with h | h
      · exact hno g h
      · rw [h]
        exact fun z => c (decide_eq_true (congrArg V.int z))
  · rintro σ H' ⟨v, rfl, rfl, hno⟩
    exact hE (no_inv hno)
/-! ### _law_start: slots 0 _law_script, 1 _law_mixed, 2 _law_cell -/

theorem ok__law_start (T : Txt K mg A) : FnOk P w K mg base CX0 1 A.f__law_start A.d__law_start ["_law_script"] (sp__law_start K) := by
  refine T.F__law_start.ok sc__law_start (fun vs H Q E h => by first | (obtain ⟨_, rfl, _⟩ := h; rfl) | (obtain ⟨_, _, rfl, _⟩ := h; rfl) | (obtain ⟨_, _, _, rfl, _⟩ := h; rfl) | (obtain ⟨_, _, _, _, rfl, _⟩ := h; rfl) | (obtain ⟨_, _, _, _, _, rfl, _⟩ := h; rfl) | (obtain ⟨_, _, _, _, _, _, rfl, _⟩ := h; rfl) | (obtain ⟨_, _, _, _, _, _, _, rfl, _⟩ := h; rfl)) (fun cdv AA outer s H vs Q E hr h => ?_)
  refine ⟨_, (pss_cons (ps_set (i := 1) sc__law_start.nd rfl (.inl rfl) pe_int)
      (pss_cons (ps_for PassesOwn.never rfl (pi_list (pv 0)) (pg_name (i := 2) sc__law_start.nd rfl (.inl rfl))
        (pss_one (ps_set (i := 1) sc__law_start.nd rfl (.inl rfl) (pe_op op_mod (pe_op op_add (pe_op op_add (pe_op op_mul (pv 1) pe_int) (pv 2)) pe_int) pe_int))))
      (pss_one (ps_ret (pe_lst (pa_cons (pv 0) (pa_cons pe_int (pa_cons (pv 1) (pa_cons pe_int pa_nil))))))))), ?_⟩
  obtain ⟨a, ns, rfl, hS, q⟩ := h
  refine ⟨_, rfl, a, rfl, ⟨_, hS⟩, for_list (K := K) (a := a) (xs := ns.map V.int) (fun i σ H' => ∃ (m : Int) (v : Option V), σ = [some (.ref a), some (.int m), v] ∧ H' = H) ⟨1, none, rfl, rfl⟩ (fun i σ H' _ ⟨_, _, _, e⟩ => e ▸ hS) ?_ ?_⟩
  · rintro i y σ H' hi ⟨m, v, rfl, rfl⟩
    obtain ⟨z, hz, rfl⟩ := int_at hi
    exact ⟨_, rfl, _, _, rfl, rfl, .inr ⟨by decide, by decide⟩, _, rfl, _, _, rfl, rfl, _, _, rfl, rfl, _, _, rfl, rfl, by show (0:Int) < _; decide, _, _, rfl, rfl⟩
  · rintro σ H' ⟨m, v, rfl, rfl⟩
    refine ⟨_, rfl, _, rfl, by show 4 ≤ sizeLine; decide, fun p hp => ?_⟩
    exact q p _ hp (same_upd hp) ⟨⟨0, m, 0, Int.le_refl 0, upd_same⟩, ns, (same_upd hp).seq hS⟩
/-! ### _law_drawn: slots 0 _law_state, 1 _law_many, 2 _law_found, 3 _law_cell -/

theorem ok__law_drawn (T : Txt K mg A) : FnOk P w K mg base CX0 1 A.f__law_drawn A.d__law_drawn ["_law_state", "_law_many"] (sp__law_drawn K) := by
  refine T.F__law_drawn.ok sc__law_drawn (fun vs H Q E h => by first | (obtain ⟨_, rfl, _⟩ := h; rfl) | (obtain ⟨_, _, rfl, _⟩ := h; rfl) | (obtain ⟨_, _, _, rfl, _⟩ := h; rfl) | (obtain ⟨_, _, _, _, rfl, _⟩ := h; rfl) | (obtain ⟨_, _, _, _, _, rfl, _⟩ := h; rfl) | (obtain ⟨_, _, _, _, _, _, rfl, _⟩ := h; rfl) | (obtain ⟨_, _, _, _, _, _, _, rfl, _⟩ := h; rfl)) (fun cdv AA outer s H vs Q E hr h => ?_)
  refine ⟨_, (pss_cons (ps_if (pt_cmpR op_gt (pe_ix ix_list (pv 0) pe_int (fun _ _ => rfl)) pe_int (nomark _)) (pss_cons (ps_set (i := 2) sc__law_drawn.nd rfl (.inl rfl) (pe_op op_mod (pe_ix ix_list (pv 0) pe_int (fun _ _ => rfl)) (pv 1)))
        (pss_cons (ps_asg (pe_op op_fdivW (pe_ix ix_list (pv 0) pe_int (fun _ _ => rfl)) (pv 1)) (pg_sub (pv 0) pe_int set_list))
        (pss_one (ps_ret (pv 2))))) pss_nil)
      (pss_cons (ps_asg (pe_op op_add (pe_ix ix_list (pv 0) pe_int (fun _ _ => rfl)) pe_int) (pg_sub (pv 0) pe_int set_list))
      (pss_cons (ps_if (pt_cmpR op_le (pe_ix ix_list (pv 0) pe_int (fun _ _ => rfl)) (pe_callB call_len_seq (by rfl) T.z_len PySem.boot_len (pa_cons (pe_ix ix_list (pv 0) pe_int (fun _ _ => rfl)) pa_nil)) (nomark _)) (pss_cons (ps_set (i := 3) sc__law_drawn.nd rfl (.inl rfl) (pe_ix ix_list (pe_ix ix_list (pv 0) pe_int (fun _ _ => rfl)) (pe_op op_sub (pe_ix ix_list (pv 0) pe_int (fun _ _ => rfl)) pe_int) (fun _ _ => rfl)))
        (pss_cons (ps_asg (pe_ifExp (pt_cmpR op_ge (pv 3) (pe_op op_pow pe_int pe_int) (nomark _)) (pe_op op_fdivW (pv 3) (pv 1)) pe_int) (pg_sub (pv 0) pe_int set_list))
        (pss_one (ps_ret (pe_op op_mod (pv 3) (pv 1)))))) pss_nil)
      (pss_cons (ps_asg (pe_op op_mod (pe_op op_add (pe_op op_mul (pe_ix ix_list (pv 0) pe_int (fun _ _ => rfl)) pe_int) pe_int) pe_int) (pg_sub (pv 0) pe_int set_list))
      (pss_one (ps_ret (pe_op op_mod (pe_op op_fdiv (pe_ix ix_list (pv 0) pe_int (fun _ _ => rfl)) pe_int) (pv 1)))))))), ?_⟩
  obtain ⟨a, st, n, rfl, hS, hn, hnb, q⟩ := h
  obtain ⟨⟨i, m, r, hi, hs⟩, ns, hns⟩ := id hS
  -- if state[3] > 0
  refine ⟨_, rfl, st, _, 3, _, rfl, rfl, SqL.of hs, atI_nat (j := 3) rfl, _, _, rfl, rfl, _, rfl, ite2 (fun c => ?_) (fun c => ?_)⟩
  · refine ⟨_, rfl, st, _, 3, _, rfl, rfl, SqL.of hs, atI_nat (j := 3) rfl, _, rfl, _, _, rfl, rfl, hn, ?_⟩
    refine ⟨_, rfl, st, _, 3, _, rfl, rfl, SqL.of hs, atI_nat (j := 3) rfl, _, rfl, _, _, rfl, rfl, wide_div hn hnb (by decide) (by decide), ?_⟩
    refine ⟨_, rfl, st, _, 3, 3, rfl, rfl, hs, rfl, ?_⟩
    exact ⟨_, rfl, q _ _ (Int.emod_nonneg _ (by omega)) (Int.emod_lt_of_pos _ hn) (Go.upd (r := r / n) (m := m) hS hi)⟩
  · -- state[1] = state[1] + 1
    refine ⟨_, rfl, st, _, 1, _, rfl, rfl, SqL.of hs, atI_nat (j := 1) rfl, _, _, rfl, rfl, ?_⟩
    refine ⟨_, rfl, st, _, 1, 1, rfl, rfl, hs, rfl, ?_⟩
    have g1 : Go K st H (upd H st (.lst [.ref a, .int (i + 1), .int m, .int r])) := Go.upd hS (by omega)
    have hS1 := g1.st _ hS
    have hs1 : (upd H st (.lst [.ref a, .int (i + 1), .int m, .int r])) st = some (.lst [.ref a, .int (i + 1), .int m, .int r]) := upd_same
    obtain ⟨_, ns1, hns1⟩ := id hS1
    -- if state[1] <= len(state[0])
    refine ⟨_, rfl, st, _, 1, _, rfl, rfl, SqL.of hs1, atI_nat (j := 1) rfl, _, rfl, st, _, 0, _, rfl, rfl, SqL.of hs1, atI_nat (j := 0) rfl, a, _, rfl, .inl hns1, _, _, rfl, rfl, _, rfl, ite2 (fun c => ?_) (fun c => ?_)⟩
    · have c2 : i + 1 ≤ (ns1.length : Int) := by
        have := of_decide_eq_true c
        rw [List.length_map] at this
        exact this
      have hlt : i.toNat < ns1.length := by omega
      have hat : atI (ns1.map V.int) (i + 1 - 1) = some (.int ns1[i.toNat]) := at_of (j := i.toNat) (by omega) (by rw [List.getElem?_map, List.getElem?_eq_getElem hlt]; rfl)
      -- cell = state[0][state[1] - 1]
      refine ⟨_, rfl, st, _, 0, _, rfl, rfl, SqL.of hs1, atI_nat (j := 0) rfl, _, rfl, st, _, 1, _, rfl, rfl, SqL.of hs1, atI_nat (j := 1) rfl, _, _, rfl, rfl, a, _, _, _, rfl, rfl, hns1, hat, ?_⟩
      -- state[3] = cell // many if cell >= 10 ** 18 else 0
      refine ⟨_, rfl, _, _, rfl, rfl, ⟨by decide, by decide, by decide⟩, _, _, rfl, rfl, _, rfl, ite2 (fun c3 => ?_) (fun c3 => ?_)⟩
      · refine ⟨_, rfl, _, rfl, _, _, rfl, rfl, wide_div hn hnb (by decide) (by decide), _, rfl, st, _, 3, 3, rfl, rfl, hs1, rfl, ?_⟩
        exact ⟨_, rfl, _, rfl, _, _, rfl, rfl, hn, q _ _ (Int.emod_nonneg _ (by omega)) (Int.emod_lt_of_pos _ hn) (g1.trans (Go.upd (m := m) hS1 (by omega)))⟩
      · refine ⟨_, rfl, st, _, 3, 3, rfl, rfl, hs1, rfl, ?_⟩
        exact ⟨_, rfl, _, rfl, _, _, rfl, rfl, hn, q _ _ (Int.emod_nonneg _ (by omega)) (Int.emod_lt_of_pos _ hn) (g1.trans (Go.upd (m := m) hS1 (by omega)))⟩
    · -- state[2] = (state[2] * 48271 + 11) % 2147483647
      refine ⟨_, rfl, st, _, 2, _, rfl, rfl, SqL.of hs1, atI_nat (j := 2) rfl, _, _, rfl, rfl, .inr ⟨by decide, by decide⟩, _, _, rfl, rfl, _, _, rfl, rfl, by show (0:Int) < _; decide, ?_⟩
      refine ⟨_, rfl, st, _, 2, 2, rfl, rfl, hs1, rfl, ?_⟩
      have g2 := g1.trans (Go.upd (m := (m * 48271 + 11) % 2147483647) (r := r) hS1 (by omega : 0 ≤ i + 1))
      refine ⟨_, rfl, st, _, 2, _, rfl, rfl, SqL.of upd_same, atI_nat (j := 2) rfl, _, _, rfl, rfl, ⟨by decide, by decide⟩, _, rfl, _, _, rfl, rfl, hn, ?_⟩
      exact q _ _ (Int.emod_nonneg _ (by omega)) (Int.emod_lt_of_pos _ hn) g2
/-! ### _law_number: slots 0 _law_state, 1 _law_far, 2 _law_number_here -/

theorem ok__law_number (T : Txt K mg A) : FnOk P w K mg base CX0 2 A.f__law_number A.d__law_number ["_law_state"] (sp__law_number K) := by
  refine T.F__law_number.ok sc__law_number (fun vs H Q E h => by first | (obtain ⟨_, rfl, _⟩ := h; rfl) | (obtain ⟨_, _, rfl, _⟩ := h; rfl) | (obtain ⟨_, _, _, rfl, _⟩ := h; rfl) | (obtain ⟨_, _, _, _, rfl, _⟩ := h; rfl) | (obtain ⟨_, _, _, _, _, rfl, _⟩ := h; rfl) | (obtain ⟨_, _, _, _, _, _, rfl, _⟩ := h; rfl) | (obtain ⟨_, _, _, _, _, _, _, rfl, _⟩ := h; rfl)) (fun cdv AA outer s H vs Q E hr h => ?_)
  refine ⟨_, (pss_cons (ps_set (i := 1) sc__law_number.nd rfl (.inl rfl) (pe_ix ix_list (pe_lst (pa_cons pe_int (pa_cons (pe_op op_pow pe_int pe_int) (pa_cons (pe_op op_pow pe_int pe_int) pa_nil)))) (pe_call (ok__law_drawn T) (hr.mono (by decide)) (by rfl) T.g__law_drawn T.k__law_drawn T.b__law_drawn .nil pass0 (pa_cons (pv 0) (pa_cons pe_int pa_nil))) (fun _ _ => rfl)))
      (pss_cons (ps_set (i := 2) sc__law_number.nd rfl (.inl rfl) (pe_op op_sub (pe_call (ok__law_drawn T) (hr.mono (by decide)) (by rfl) T.g__law_drawn T.k__law_drawn T.b__law_drawn .nil pass0 (pa_cons (pv 0) (pa_cons (pe_op op_add (pe_op op_mul pe_int (pv 1)) pe_int) pa_nil))) (pv 1)))
      (pss_one (ps_ret (pe_ix ix_list (pe_lst (pa_cons (pv 2) (pa_cons (pv 2) (pa_cons (pe_op op_mul pe_int (pv 2)) pa_nil)))) (pe_call (ok__law_drawn T) (hr.mono (by decide)) (by rfl) T.g__law_drawn T.k__law_drawn T.b__law_drawn .nil pass0 (pa_cons (pv 0) (pa_cons pe_int pa_nil))) (fun _ _ => rfl)))))), ?_⟩
  obtain ⟨a, st, rfl, hS, q⟩ := h
  refine ⟨_, _, rfl, rfl, ⟨by decide, by decide, by decide⟩, _, _, rfl, rfl, ⟨by decide, by decide, by decide⟩, by show 3 ≤ sizeLine; decide, fun l hl => ?_⟩
  refine ⟨_, rfl, a, st, 3, rfl, (Go.new hl).st _ hS, by decide, nat8000 (by decide) (by decide +kernel), fun v H1 h0 h1 g1 => ?_⟩
  obtain ⟨far, hat, hf1, hf2⟩ := pickI (ns := [100, 10 ^ Int.toNat 9, 10 ^ Int.toNat 58]) (lo := 1) (hi := 10 ^ 58) (by decide +kernel) h0 h1
  have g0 := (Go.new hl).trans g1
  refine ⟨l, _, _, _, rfl, rfl, SqL.of (g1.keep _ _ (hS.fresh hl) upd_same), hat, ?_⟩
  refine ⟨_, rfl, _, rfl, _, _, rfl, rfl, .inl ⟨by decide, by decide⟩, _, _, rfl, rfl, a, st, _, rfl, g0.st _ hS, by omega, nat8000 (by omega) (by omega), fun u H2 k0 k1 g2 => ?_⟩
  refine ⟨_, rfl, _, _, rfl, rfl, ?_⟩
  have S2 := (g0.trans g2).st _ hS
  refine ⟨_, rfl, _, rfl, _, rfl, _, _, rfl, rfl, .inl ⟨by decide, by decide⟩, by show 3 ≤ sizeLine; decide, fun l2 hl2 => ?_⟩
  refine ⟨_, rfl, a, st, 3, rfl, (Go.new hl2).st _ S2, by decide, nat8000 (by decide) (by decide +kernel), fun v2 H3 p0 p1 g3 => ?_⟩
  have hlt : v2.toNat < [u - far, u - far, 97 * (u - far)].length := by show v2.toNat < 3; omega
  refine ⟨l2, ([u - far, u - far, 97 * (u - far)] : List Int).map V.int, _, .int [u - far, u - far, 97 * (u - far)][v2.toNat], rfl, rfl, SqL.of (g3.keep _ _ (S2.fresh hl2) upd_same), at_of (j := v2.toNat) (by omega) (by rw [List.getElem?_map, List.getElem?_eq_getElem hlt]; rfl), ?_⟩
  exact q _ _ ((g0.trans g2).trans ((Go.new hl2).trans g3))
/-! ### _law_refused: slots 0 _law_number_here, 1 e, 2 _law_other -/

theorem ok__law_refused (T : Txt K mg A) : FnOk P w K mg base CX0 2 A.f__law_refused A.d__law_refused ["_law_number_here"] (sp__law_refused K) := by
  refine T.F__law_refused.ok sc__law_refused (fun vs H Q E h => by first | (obtain ⟨_, rfl, _⟩ := h; rfl) | (obtain ⟨_, _, rfl, _⟩ := h; rfl) | (obtain ⟨_, _, _, rfl, _⟩ := h; rfl) | (obtain ⟨_, _, _, _, rfl, _⟩ := h; rfl) | (obtain ⟨_, _, _, _, _, rfl, _⟩ := h; rfl) | (obtain ⟨_, _, _, _, _, _, rfl, _⟩ := h; rfl) | (obtain ⟨_, _, _, _, _, _, _, rfl, _⟩ := h; rfl)) (fun cdv AA outer s H vs Q E hr h => ?_)
  refine ⟨_, (pss_cons (ps_try_as (i := 1) rfl rfl sc__law_refused.nd rfl rfl ⟨rfl, by decide, .inl T.g_MendError⟩ takes0
        (fun W pn xe tk _ => (pss_one (ps_expr (pe_callS (ok_inverse T) (hr.mono (by decide)) (by rfl) T.g_inverse T.k_inverse T.b_inverse (fun σ => passAt tk σ) (by exact (pa_cons (pv 0) pa_nil))))))
        (fun a oe cls d pn hz hf => (pss_cons (ps_set (i := 2) sc__law_refused.nd rfl (.inl rfl) (pe_callB (call_isExT hz hf) (by rfl) T.z_isinstance (by decide +kernel) (pa_cons (pv 1) (pa_cons (pe_tup (pa_cons (pe_glob (v := .ref A.e_Held) rfl T.g_Held rfl) (pa_cons (pe_glob (v := .ref A.e_Late) rfl T.g_Late rfl) (pa_cons (pe_glob (v := .ref A.e_NoCount) rfl T.g_NoCount rfl) (pa_cons (pe_glob (v := .ref A.e_NoHand) rfl T.g_NoHand rfl) (pa_cons (pe_glob (v := .ref A.e_NoLetter) rfl T.g_NoLetter rfl) (pa_cons (pe_glob (v := .ref A.e_NoMark) rfl T.g_NoMark rfl) (pa_cons (pe_glob (v := .ref A.e_NoSet) rfl T.g_NoSet rfl) (pa_cons (pe_glob (v := .ref A.e_NoText) rfl T.g_NoText rfl) (pa_cons (pe_glob (v := .ref A.e_NotHeld) rfl T.g_NotHeld rfl) (pa_cons (pe_glob (v := .ref A.e_Unlike) rfl T.g_Unlike rfl) pa_nil))))))))))) pa_nil))))
        (pss_one (ps_ret (pe_and (pe_callB (call_isEx hz hf) (by rfl) T.z_isinstance (by decide +kernel) (pa_cons (pv 1) (pa_cons (pe_glob (v := .ref A.e_NoInverse) rfl T.g_NoInverse rfl) pa_nil))) (pe_and (pe_callB (call_isEx hz hf) (by rfl) T.z_isinstance (by decide +kernel) (pa_cons (pv 1) (pa_cons (pe_bltn (v := .ty "ValueError") (by rfl) T.z_ValueError (by decide +kernel) rfl) pa_nil))) (pe_one (pe_not (pv 2))))))))))
      (pss_one (ps_ret pe_bl))), ?_⟩
  obtain ⟨n, rfl, hn, q⟩ := h
  refine ⟨_, rfl, n, rfl, fun _ => ?_, fun z => absurd hn z⟩
  refine ⟨true, T.ex_NoInverse_MendError, fun _ x hx => ?_, fun z => Bool.noConfusion z⟩
  refine ⟨_, rfl, by show 10 ≤ sizeLine; decide, fun tp htp => ?_⟩
  refine ⟨_, tp, _, _, false, rfl, rfl, T.ec_NoInverse, rfl, upd_same, .cons (.own _) (.cons (.own _) (.cons (.own _) (.cons (.own _) (.cons (.own _) (.cons (.own _) (.cons (.own _) (.cons (.own _) (.cons (.own _) (.cons (.own _) .nil))))))))), T.kt, ?_⟩
  refine ⟨_, rfl, _, rfl, rfl, T.ec_NoInverse, _, _, true, rfl, fun _ r => r, T.ko, _, rfl, iteT ?_⟩
  refine ⟨_, rfl, _, rfl, rfl, T.ec_NoInverse, _, _, true, rfl, fun _ r => r, T.kv, _, rfl, iteT ?_⟩
  refine ⟨_, rfl, _, rfl, ?_⟩
  exact q _ (same_upd htp)
/-! ### law: slots 0 _law_script, 1 _law_state, 2 _law_number_here, 3 _law_found, 4 _law_k -/

theorem ok_law (T : Txt K mg A) : FnOk P w K mg base CX0 3 A.f_law A.d_law ["_law_script"] (sp_law K) := by
  refine T.F_law.ok sc_law (fun vs H Q E h => by first | (obtain ⟨_, rfl, _⟩ := h; rfl) | (obtain ⟨_, _, rfl, _⟩ := h; rfl) | (obtain ⟨_, _, _, rfl, _⟩ := h; rfl) | (obtain ⟨_, _, _, _, rfl, _⟩ := h; rfl) | (obtain ⟨_, _, _, _, _, rfl, _⟩ := h; rfl) | (obtain ⟨_, _, _, _, _, _, rfl, _⟩ := h; rfl) | (obtain ⟨_, _, _, _, _, _, _, rfl, _⟩ := h; rfl)) (fun cdv AA outer s H vs Q E hr h => ?_)
  refine ⟨_, (pss_cons (ps_set (i := 1) sc_law.nd rfl (.inr rfl) (pe_call (ok__law_start T) (hr.mono (by decide)) (by rfl) T.g__law_start T.k__law_start T.b__law_start .nil pass0 (pa_cons (pv 0) pa_nil)))
      (pss_cons (ps_for PassesOwn.never rfl (pi_list (pe_op op_cat (pe_lst (pa_cons pe_int (pa_cons (pe_op op_sub pe_int pe_int) (pa_cons pe_int (pa_cons pe_int pa_nil))))) (pe_lc (own := [("_law_k", 4)]) (g := gName 4)  rfl sc_law.nd (pi_range1 (by rfl) T.z_range (pa_cons pe_int pa_nil)) (blkOk_by (own := [("_law_k", 4)]) (N := ["_law_script", "_law_state", "_law_number_here", "_law_found", "_law_k"]) (sc := defScope s_law) (by decide +kernel)) (fun _ _ _ _ _ => pg_name (i := 4) sc_law.nd rfl (Or.inl rfl)) (fun _ _ _ _ _ => pts_nil) (fun _ _ _ _ _ => (pe_call (ok__law_number T) (hr.mono (by decide)) (by rfl) T.g__law_number T.k__law_number T.b__law_number .nil pass0 (pa_cons (pv 1) pa_nil)))))) (pg_name (i := 2) sc_law.nd rfl (.inl rfl))
        (pss_one (ps_if (pt_cmpR op_eq (pe_op op_mod (pv 2) pe_int) pe_int (nomark _)) (pss_one (ps_if (pt_not (pt_val (pe_call (ok__law_refused T) (hr.mono (by decide)) (by rfl) T.g__law_refused T.k__law_refused T.b__law_refused .nil pass0 (pa_cons (pv 2) pa_nil)))) (pss_one (ps_ret pe_bl)) pss_nil)) (pss_cons (ps_set (i := 3) sc_law.nd rfl (.inl rfl) (pe_call (ok_inverse T) (hr.mono (by decide)) (by rfl) T.g_inverse T.k_inverse T.b_inverse .nil passL (pa_cons (pv 2) pa_nil)))
          (pss_cons (ps_if (PW.pt (pw_or (pt_not (pt_val (pe_callB call_isi (by rfl) T.z_isinstance (by decide +kernel) (pa_cons (pv 3) (pa_cons (pe_bltn (v := .ty "int") (by rfl) T.z_int (by decide +kernel) rfl) pa_nil))))) (pw_or (pt_val (pe_callB call_isi (by rfl) T.z_isinstance (by decide +kernel) (pa_cons (pv 3) (pa_cons (pe_bltn (v := .ty "bool") (by rfl) T.z_bool (by decide +kernel) rfl) pa_nil)))) (pw_or1 (pt_not (pt_chain op_le op_le pe_int (pv 3) pe_int)))))) (pss_one (ps_ret pe_bl)) pss_nil)
          (pss_one (ps_if (pt_cmpR op_ne (pe_op op_mod (pe_op op_mul (pv 3) (pv 2)) pe_int) pe_int (nomark _)) (pss_one (ps_ret pe_bl)) pss_nil)))))))
      (pss_one (ps_ret (pe_call (ok__law_refused T) (hr.mono (by decide)) (by rfl) T.g__law_refused T.k__law_refused T.b__law_refused .nil pass0 (pa_cons pe_int pa_nil)))))), ?_⟩
  obtain ⟨a, ns, rfl, hS, hlen, q⟩ := h
  refine ⟨_, rfl, a, ns, rfl, hS, fun st H1 nst sm hSt => ?_⟩
  refine ⟨_, _, rfl, rfl, by show 4 ≤ sizeLine; decide, fun l hl => ?_⟩
  refine ⟨40, rfl, by decide, by decide, fun D hD => lc_ints (K := K) (st := st) (a := a) (fun _ => True) ((Go.new hl).st _ hSt) hD (by decide) (fun _ => rfl) (fun i H5 hi g5 Q' q' => ⟨_, rfl, a, st, rfl, g5.st _ ((Go.new hl).st _ hSt), fun v H6 g6 => q' v H6 trivial g6⟩) fun ms H5 hl5 _ g5 hd5 => ?_⟩
  refine ⟨l, D, ([1, 0 - 1, 96, 98] : List Int).map V.int, _, rfl, rfl, g5.keep _ _ (hSt.fresh hl) upd_same, hd5, ?_, fun p hp => ?_⟩
  · rw [List.length_map, List.length_map, hl5]
    show 4 + 40 ≤ sizeLine
    decide
  refine ⟨p, rfl, ⟨_, SqL.of upd_same⟩, for_list (K := K) (a := p) (xs := ([1, 0 - 1, 96, 98] ++ ms).map V.int) (fun i σ H' => ∃ v2 v3 v4, σ = [some (.ref a), some (.ref st), v2, v3, v4] ∧ H' p = some (.lst (([1, 0 - 1, 96, 98] ++ ms).map V.int))) ⟨none, none, none, rfl, by rw [upd_same, List.map_append]⟩ (fun i σ H' _ ⟨_, _, _, _, e⟩ => SqL.of e) ?_ ?_⟩
  · rintro i y σ H' hi ⟨v2, v3, v4, rfl, hp'⟩
    obtain ⟨z, hz, rfl⟩ := int_at hi
    refine ⟨_, rfl, _, _, rfl, rfl, by show (0:Int) < _; decide, rfl, _, rfl, ite2 (fun c => ?_) (fun c => ?_)⟩
    · have e : z % 97 = 0 := V.int.inj (of_decide_eq_true c)
      refine ⟨_, rfl, z, rfl, e, fun H2 s2 => ⟨true, rfl, ?_⟩⟩
      refine iteF ?_
      exact ⟨_, _, _, rfl, s2 _ _ hp'⟩
    · have e : z % 97 ≠ 0 := fun w => c (decide_eq_true (congrArg V.int w))
      refine ⟨_, rfl, z, rfl, fun w => absurd w e, fun _ g g1 g2 g3 => ?_⟩
      refine ⟨_, rfl, _, _, _, _, true, rfl, .ty "int", .base (.int _), kit_ty (by decide +kernel), _, rfl, ?_⟩
      refine iteF ?_
      refine ⟨_, rfl, _, _, _, _, false, rfl, .ty "bool", .base (.int _), kit_ty (by decide +kernel), _, rfl, ?_⟩
      refine iteF ?_
      refine ⟨_, rfl, _, _, rfl, rfl, true, congrArg V.bl (decide_eq_true g1), ?_⟩
      refine iteT ?_
      refine ⟨_, _, rfl, rfl, true, congrArg V.bl (decide_eq_true g2), ?_⟩
      refine iteF ?_
      refine ⟨_, rfl, _, rfl, _, _, rfl, rfl, .inl ⟨by omega, by omega⟩, _, _, rfl, rfl, by show (0:Int) < _; decide, rfl, _, rfl, ?_⟩
      refine iteNS (congrArg V.int (by rw [Int.mul_comm]; exact g3)) ?_
      exact ⟨_, _, _, rfl, hp'⟩
  · rintro σ H' ⟨v2, v3, v4, rfl, hp'⟩
    exact ⟨0, rfl, rfl, fun H2 _ => q H2⟩
end
theorem all_mk {l : PySem.W.OpenLaw} {w : World} {K : PySem.W.Frag} {h : Heap} {mg : Str → Option Value} {fa : Addr} (X : K.In h) (G : h.Ns mainGlobals mg) (hfa : mg "law" = some (.ref fa))
    {f0 : Addr} {od0 an0 : Option Addr} {sl0 : Array (Option Value)} {oc0 kV0 dc0 pm0 cd0 ct0 : Value} {f1 : Addr} {od1 an1 : Option Addr} {sl1 : Array (Option Value)} {oc1 kV1 dc1 pm1 cd1 ct1 : Value} {f2 : Addr} {od2 an2 : Option Addr} {sl2 : Array (Option Value)} {oc2 kV2 dc2 pm2 cd2 ct2 : Value} {f3 : Addr} {od3 an3 : Option Addr} {sl3 : Array (Option Value)} {oc3 kV3 dc3 pm3 cd3 ct3 : Value} {f4 : Addr} {od4 an4 : Option Addr} {sl4 : Array (Option Value)} {oc4 kV4 dc4 pm4 cd4 ct4 : Value} {f5 : Addr} {od5 an5 : Option Addr} {sl5 : Array (Option Value)} {oc5 kV5 dc5 pm5 cd5 ct5 : Value} {eMendError : Addr} {eNoSet : Addr} {eNoMark : Addr} {eNoInverse : Addr} {eNoCount : Addr} {eNoHand : Addr} {eNoLetter : Addr} {eNoText : Addr} {eHeld : Addr} {eNotHeld : Addr} {eUnlike : Addr} {eLate : Addr} {tWHEEL : Nat}
    (a0 : PySem.W.nsIn K mainGlobals "inverse" = some (some (.ref f0)))
    (l0 : K.lookup f0 = some ⟨oc0, od0, .func (PySem.W.fnOf "inverse" "inverse" (defArgs s_inverse) (defBody s_inverse) (defScope s_inverse) .none kV0 dc0 pm0 an0 cd0 ct0), sl0⟩)
    (c0 : PySem.W.codeIn K cd0 "inverse" = true)
    (k0 : PySem.W.keepIn K (.ref f0) = true)
    (a1 : PySem.W.nsIn K mainGlobals "_law_start" = some (some (.ref f1)))
    (l1 : K.lookup f1 = some ⟨oc1, od1, .func (PySem.W.fnOf "_law_start" "_law_start" (defArgs s__law_start) (defBody s__law_start) (defScope s__law_start) .none kV1 dc1 pm1 an1 cd1 ct1), sl1⟩)
    (c1 : PySem.W.codeIn K cd1 "_law_start" = true)
    (k1 : PySem.W.keepIn K (.ref f1) = true)
    (a2 : PySem.W.nsIn K mainGlobals "_law_drawn" = some (some (.ref f2)))
    (l2 : K.lookup f2 = some ⟨oc2, od2, .func (PySem.W.fnOf "_law_drawn" "_law_drawn" (defArgs s__law_drawn) (defBody s__law_drawn) (defScope s__law_drawn) .none kV2 dc2 pm2 an2 cd2 ct2), sl2⟩)
    (c2 : PySem.W.codeIn K cd2 "_law_drawn" = true)
    (k2 : PySem.W.keepIn K (.ref f2) = true)
    (a3 : PySem.W.nsIn K mainGlobals "_law_number" = some (some (.ref f3)))
    (l3 : K.lookup f3 = some ⟨oc3, od3, .func (PySem.W.fnOf "_law_number" "_law_number" (defArgs s__law_number) (defBody s__law_number) (defScope s__law_number) .none kV3 dc3 pm3 an3 cd3 ct3), sl3⟩)
    (c3 : PySem.W.codeIn K cd3 "_law_number" = true)
    (k3 : PySem.W.keepIn K (.ref f3) = true)
    (a4 : PySem.W.nsIn K mainGlobals "_law_refused" = some (some (.ref f4)))
    (l4 : K.lookup f4 = some ⟨oc4, od4, .func (PySem.W.fnOf "_law_refused" "_law_refused" (defArgs s__law_refused) (defBody s__law_refused) (defScope s__law_refused) .none kV4 dc4 pm4 an4 cd4 ct4), sl4⟩)
    (c4 : PySem.W.codeIn K cd4 "_law_refused" = true)
    (k4 : PySem.W.keepIn K (.ref f4) = true)
    (a5 : PySem.W.nsIn K mainGlobals "law" = some (some (.ref f5)))
    (l5 : K.lookup f5 = some ⟨oc5, od5, .func (PySem.W.fnOf "law" "law" (defArgs s_law) (defBody s_law) (defScope s_law) .none kV5 dc5 pm5 an5 cd5 ct5), sl5⟩)
    (c5 : PySem.W.codeIn K cd5 "law" = true)
    (k5 : PySem.W.keepIn K (.ref f5) = true)
    (gMendError : PySem.W.nsIn K mainGlobals "MendError" = some (some (.ref eMendError)))
    (gNoSet : PySem.W.nsIn K mainGlobals "NoSet" = some (some (.ref eNoSet)))
    (gNoMark : PySem.W.nsIn K mainGlobals "NoMark" = some (some (.ref eNoMark)))
    (gNoInverse : PySem.W.nsIn K mainGlobals "NoInverse" = some (some (.ref eNoInverse)))
    (gNoCount : PySem.W.nsIn K mainGlobals "NoCount" = some (some (.ref eNoCount)))
    (gNoHand : PySem.W.nsIn K mainGlobals "NoHand" = some (some (.ref eNoHand)))
    (gNoLetter : PySem.W.nsIn K mainGlobals "NoLetter" = some (some (.ref eNoLetter)))
    (gNoText : PySem.W.nsIn K mainGlobals "NoText" = some (some (.ref eNoText)))
    (gHeld : PySem.W.nsIn K mainGlobals "Held" = some (some (.ref eHeld)))
    (gNotHeld : PySem.W.nsIn K mainGlobals "NotHeld" = some (some (.ref eNotHeld)))
    (gUnlike : PySem.W.nsIn K mainGlobals "Unlike" = some (some (.ref eUnlike)))
    (gLate : PySem.W.nsIn K mainGlobals "Late" = some (some (.ref eLate)))
    (xNoInverse : PySem.W.excIn K eNoInverse [.type "ValueError", .type "Exception", .type "BaseException", .type "object"] "ValueError.__new__" = true)
    (kkNoInverse : PySem.W.keepIn K (.ref eNoInverse) = true)
    (bbNoInverse : PySem.W.subIn K (.ref eNoInverse) (.type "BaseException") = some true)
    (ttNoInverse : PySem.W.typeIn K (.ref eNoInverse) = some (.type "type"))
    (vWHEEL : PySem.W.nsIn K mainGlobals "WHEEL" = some (some (.int 97 tWHEEL)))
    (zValueError : PySem.W.nsIn K mainGlobals "ValueError" = some none)
    (zbool : PySem.W.nsIn K mainGlobals "bool" = some none)
    (zint : PySem.W.nsIn K mainGlobals "int" = some none)
    (zisinstance : PySem.W.nsIn K mainGlobals "isinstance" = some none)
    (zlen : PySem.W.nsIn K mainGlobals "len" = some none)
    (zrange : PySem.W.nsIn K mainGlobals "range" = some none)
    (ykv : PySem.W.kitOne K (.ref eNoInverse) (.type "ValueError") = some true)
    (yko : PySem.W.kitOne K (.ref eNoInverse) (.ref eNoInverse) = some true)
    (ykt : PySem.W.kitAny K (.ref eNoInverse) [.ref eHeld, .ref eLate, .ref eNoCount, .ref eNoHand, .ref eNoLetter, .ref eNoMark, .ref eNoSet, .ref eNoText, .ref eNotHeld, .ref eUnlike] = some false)
    (yq1_NoInverse : PySem.W.findIn K (.ref eNoInverse) "__getattribute__" = some (some (.builtin "BaseException.__getattribute__")))
    (yq2_NoInverse : PySem.W.findIn K (.ref eNoInverse) "__getattr__" = some none)
    (yq3_NoInverse : PySem.W.subIn K (.ref eNoInverse) (.type "BaseException") = some true)
    (yq4_NoInverse : PySem.W.hasDictIn K eNoInverse = true)
    (yq5_NoInverse : PySem.W.findIn K (.ref eNoInverse) "__class__" = some (some (.builtin "object.__class__")))
    (yq6_NoInverse : PySem.W.specialIn K (.builtin "object.__class__") "__get__" = some (some (.builtin "getset_descriptor.__get__")))
    (yq7_NoInverse : PySem.W.takesIn K (.builtin "object.__class__") = some true)
    (yq8_NoInverse : PySem.W.mroIn K eNoInverse (.type "object") = some true)
    (ys_NoInverse_MendError : PySem.W.subIn K (.ref eNoInverse) (.ref eMendError) = some true)
    (yh1_MendError : PySem.W.subIn K (.ref eMendError) (.type "BaseException") = some true)
    (yh2_MendError : PySem.W.hasDictIn K eMendError = true)
    (yh3_MendError : PySem.W.typeIn K (.ref eMendError) = some (.type "type")) :
    ∃ fd : FuncData, (∀ (s : Shared) (v : Value), BindsTo s fd ⟨[v], []⟩ [("_law_script", v)]) ∧ ∀ base : Heap, K.In base → base.Ns mainGlobals mg → FnOk l.prog w K mg base CX0 3 fa fd ["_law_script"] (sp_law K) := by
  have e := hfa.symm.trans (PySem.W.mg_of X G a5)
  cases e
  have F0 := fun_mk (st := s_inverse) l0 c0 k0
  have b0 := F0.binds (ps := ["number"]) fun _ _ _ _ _ _ us hl => match us, hl with | [_], _ => rfl
  have F1 := fun_mk (st := s__law_start) l1 c1 k1
  have b1 := F1.binds (ps := ["_law_script"]) fun _ _ _ _ _ _ us hl => match us, hl with | [_], _ => rfl
  have F2 := fun_mk (st := s__law_drawn) l2 c2 k2
  have b2 := F2.binds (ps := ["_law_state", "_law_many"]) fun _ _ _ _ _ _ us hl => match us, hl with | [_, _], _ => rfl
  have F3 := fun_mk (st := s__law_number) l3 c3 k3
  have b3 := F3.binds (ps := ["_law_state"]) fun _ _ _ _ _ _ us hl => match us, hl with | [_], _ => rfl
  have F4 := fun_mk (st := s__law_refused) l4 c4 k4
  have b4 := F4.binds (ps := ["_law_number_here"]) fun _ _ _ _ _ _ us hl => match us, hl with | [_], _ => rfl
  have F5 := fun_mk (st := s_law) l5 c5 k5
  have b5 := F5.binds (ps := ["_law_script"]) fun _ _ _ _ _ _ us hl => match us, hl with | [_], _ => rfl
  have T : Txt K mg (⟨f0, _, f1, _, f2, _, f3, _, f4, _, fa, _, eMendError, eNoSet, eNoMark, eNoInverse, eNoCount, eNoHand, eNoLetter, eNoText, eHeld, eNotHeld, eUnlike, eLate, tWHEEL⟩ : Ad) := ⟨F0, k0, PySem.W.mg_of X G a0, b0, F1, k1, PySem.W.mg_of X G a1, b1, F2, k2, PySem.W.mg_of X G a2, b2, F3, k3, PySem.W.mg_of X G a3, b3, F4, k4, PySem.W.mg_of X G a4, b4, F5, k5, PySem.W.mg_of X G a5, b5, PySem.W.mg_of X G vWHEEL, PySem.W.mg_none_of X G zValueError, PySem.W.mg_none_of X G zbool, PySem.W.mg_none_of X G zint, PySem.W.mg_none_of X G zisinstance, PySem.W.mg_none_of X G zlen, PySem.W.mg_none_of X G zrange, PySem.W.mg_of X G gMendError, PySem.W.mg_of X G gNoSet, PySem.W.mg_of X G gNoMark, PySem.W.mg_of X G gNoInverse, PySem.W.mg_of X G gNoCount, PySem.W.mg_of X G gNoHand, PySem.W.mg_of X G gNoLetter, PySem.W.mg_of X G gNoText, PySem.W.mg_of X G gHeld, PySem.W.mg_of X G gNotHeld, PySem.W.mg_of X G gUnlike, PySem.W.mg_of X G gLate, xNoInverse, kkNoInverse, bbNoInverse, ttNoInverse, ykv, yko, ykt, yq1_NoInverse, yq2_NoInverse, yq3_NoInverse, yq4_NoInverse, yq5_NoInverse, yq6_NoInverse, yq7_NoInverse, yq8_NoInverse, ys_NoInverse_MendError, yh1_MendError, yh2_MendError, yh3_MendError⟩
  exact ⟨PySem.W.fnOf "law" "law" (defArgs s_law) (defBody s_law) (defScope s_law) .none kV5 dc5 pm5 an5 cd5 ct5, fun s v => .of_eq rfl, fun base _ _ => ok_law T⟩
end My
open PySem PySem.W PyProof.Rows
set_option maxHeartbeats 0 in
theorem PySem.Challenge.cw_setmend_k01_inverses_holds : PySem.Challenge.rw_setmend_k01_inverses.Holds := by
  w_on; o_law; k_head; (case hw => w_witness2)
  k_fill
  refine L2.walk_ofB (l := PySem.Challenge.rw_setmend_k01_inverses) (n := 63) (k := 3) (x := "_law_script") (CX := fun _ => L2.CX0) (sp := fun w => My.sp_law _) rfl (by decide) rfl ⟨rfl, by decide, by decide⟩ (fun w h Y => PySem.W.kIn_of Y) ?F (fun _ H a ns hl hb hO hS => ⟨a, ns, rfl, hS, hl, fun _ => rfl⟩) (fun _ _ _ _ _ h => h)
  case F =>
    intro w mg fa h KX G hmg
    refine' My.all_mk KX G hmg ?a0 ?l0 ?c0 ?k0 ?a1 ?l1 ?c1 ?k1 ?a2 ?l2 ?c2 ?k2 ?a3 ?l3 ?c3 ?k3 ?a4 ?l4 ?c4 ?k4 ?a5 ?l5 ?c5 ?k5 ?gMendError ?gNoSet ?gNoMark ?gNoInverse ?gNoCount ?gNoHand ?gNoLetter ?gNoText ?gHeld ?gNotHeld ?gUnlike ?gLate ?xNoInverse ?kkNoInverse ?bbNoInverse ?ttNoInverse ?vWHEEL ?zValueError ?zbool ?zint ?zisinstance ?zlen ?zrange ?ykv ?yko ?ykt ?yq1_NoInverse ?yq2_NoInverse ?yq3_NoInverse ?yq4_NoInverse ?yq5_NoInverse ?yq6_NoInverse ?yq7_NoInverse ?yq8_NoInverse ?ys_NoInverse_MendError ?yh1_MendError ?yh2_MendError ?yh3_MendError
    (case a0 => first | k_is | (first | rfl | k_is)); (case l0 => first | k_is | (first | rfl | k_is)); (case c0 => first | k_is | (first | rfl | k_is)); (case k0 => first | k_is | (first | rfl | k_is)); (case a1 => first | k_is | (first | rfl | k_is)); (case l1 => first | k_is | (first | rfl | k_is)); (case c1 => first | k_is | (first | rfl | k_is)); (case k1 => first | k_is | (first | rfl | k_is)); (case a2 => first | k_is | (first | rfl | k_is)); (case l2 => first | k_is | (first | rfl | k_is)); (case c2 => first | k_is | (first | rfl | k_is)); (case k2 => first | k_is | (first | rfl | k_is)); (case a3 => first | k_is | (first | rfl | k_is)); (case l3 => first | k_is | (first | rfl | k_is)); (case c3 => first | k_is | (first | rfl | k_is)); (case k3 => first | k_is | (first | rfl | k_is)); (case a4 => first | k_is | (first | rfl | k_is)); (case l4 => first | k_is | (first | rfl | k_is)); (case c4 => first | k_is | (first | rfl | k_is)); (case k4 => first | k_is | (first | rfl | k_is)); (case a5 => first | k_is | (first | rfl | k_is)); (case l5 => first | k_is | (first | rfl | k_is)); (case c5 => first | k_is | (first | rfl | k_is)); (case k5 => first | k_is | (first | rfl | k_is)); (case gMendError => first | k_is | (first | rfl | k_is)); (case gNoSet => first | k_is | (first | rfl | k_is)); (case gNoMark => first | k_is | (first | rfl | k_is)); (case gNoInverse => first | k_is | (first | rfl | k_is)); (case gNoCount => first | k_is | (first | rfl | k_is)); (case gNoHand => first | k_is | (first | rfl | k_is)); (case gNoLetter => first | k_is | (first | rfl | k_is)); (case gNoText => first | k_is | (first | rfl | k_is)); (case gHeld => first | k_is | (first | rfl | k_is)); (case gNotHeld => first | k_is | (first | rfl | k_is)); (case gUnlike => first | k_is | (first | rfl | k_is)); (case gLate => first | k_is | (first | rfl | k_is)); (case xNoInverse => k_exc); (case kkNoInverse => first | k_is | (first | rfl | k_is)); (case bbNoInverse => first | k_is | (first | rfl | k_is)); (case ttNoInverse => first | k_is | (first | rfl | k_is)); (case vWHEEL => first | k_is | (first | rfl | k_is)); (case zValueError => first | k_is | (first | rfl | k_is)); (case zbool => first | k_is | (first | rfl | k_is)); (case zint => first | k_is | (first | rfl | k_is)); (case zisinstance => first | k_is | (first | rfl | k_is)); (case zlen => first | k_is | (first | rfl | k_is)); (case zrange => first | k_is | (first | rfl | k_is)); (case ykv => first | k_is | (first | rfl | k_is)); (case yko => first | k_is | (first | rfl | k_is)); (case ykt => first | k_is | (first | rfl | k_is)); (case yq1_NoInverse => first | k_is | (first | rfl | k_is)); (case yq2_NoInverse => first | k_is | (first | rfl | k_is)); (case yq3_NoInverse => first | k_is | (first | rfl | k_is)); (case yq4_NoInverse => first | k_is | (first | rfl | k_is)); (case yq5_NoInverse => first | k_is | (first | rfl | k_is)); (case yq6_NoInverse => first | k_is | (first | rfl | k_is)); (case yq7_NoInverse => first | k_is | (first | rfl | k_is)); (case yq8_NoInverse => first | k_is | (first | rfl | k_is)); (case ys_NoInverse_MendError => first | k_is | (first | rfl | k_is)); (case yh1_MendError => first | k_is | (first | rfl | k_is)); (case yh2_MendError => first | k_is | (first | rfl | k_is)); (case yh3_MendError => first | k_is | (first | rfl | k_is))
