import PyProof.Rows.All
import Wide.All
import OpenK.AllK
import Wide.FinOn
import PyProof.EqAt
import PyProof.EqKinds
import PyProof.TupleCall
import HandS.ForMost
import HandS.Wide
import HandS.EndBits
import HandS.IsInst
import HandS.TupAny
import HandS.TupMul
import HandS.Strs
import HandS.SetFor
import HandS.SortInts
import HandS.Rev
import HandS.Evl
import PySem.Challenge.RW_setmend_k04_noughts_of_any_row
set_option Elab.async false
set_option linter.all false
set_option maxRecDepth 100000
set_option maxHeartbeats 4000000
namespace MyS
open PySem PySem.Spec PyProof.Rows L2 Srt
section
variable {prog : Program} {w : World} {A : Around} {E : Value → Shared → Prop} {s : Shared}
/-- sorted(x) where collecting x hands out ints -/
theorem sorted_gen {a : Addr} {J : Shared → Prop} {C : List Value → Prop} {D : List Int → Prop} {Q : Value → Shared → Prop}
    (hcol : ∀ Q' : List Value → Shared → Prop, (∀ s1 vs, J s1 → C vs → Q' vs s1) → wpAny (model prog w) A.in1 (collect (.ref a)) Q' E s)
    (hC : ∀ vs, C vs → ∃ ns, IntsAre vs ns ∧ vs.length ≤ sizeLine ∧ D ns)
    (hQ : ∀ (s1 s' : Shared) (p : Addr) (out : List Value) (c : Nat) (ns ns' : List Int), J s1 → (∀ b o, s1.heap.get? b = some o → s'.heap.get? b = some o) → s'.gens = s1.gens → s'.os = s1.os → s1.heap.objs.size ≤ p → s'.heap.get? p = some (seqObj "list" out.toArray c) →
      IntsAre out ns' → ns'.Perm ns → ns'.Pairwise (· ≤ ·) → D ns → Q (.ref p) s') :
    wpAny (model prog w) A (call (.builtin "sorted") [.ref a]) Q E s := by
  refine Calls.call_function_entry kind_sorted plain_sorted entry_sorted (args_sorted1 _) ?_
  unfold Builtin.«sorted»
  refine wpAny_bind (m := checkCount "sorted" 1 1 _) (wpAny_pure (wpAny_bind (hcol _ fun s1 vs j1 hc => ?_)))
  obtain ⟨ns, hI, hlen, hD⟩ := hC vs hc
  refine wpAny_bind (wpAny_newList ?_ hlen)
  have h0 : (s1.heap.push (seqObj "list" vs.toArray 0)).get? s1.heap.objs.size = some (seqObj "list" vs.toArray 0) := Heap.get?_push_size _ rfl
  refine wpAny_bind (wpAny_holding (wpAny_call_entry slot_list_sort ⟨_, h0, rfl⟩ entry_list_sort (SrtO.list_sort_ord SrtO.swo_int h0 hlen (fun h2 => SrtO.ints_sortable hI h2) fun out hs hb => ⟨_, rfl, ?_⟩) (args_list_sort _)))
  obtain ⟨c, hcell⟩ := sortedHeap_at (vs := vs) (out := out.toArray) h0
  obtain ⟨i1, i2, i3⟩ := SrtO.ints_out hI hs hb
  refine wpAny_pure ⟨_, rfl, hQ s1 _ _ out c ns _ j1 (fun b u e => ?_) rfl rfl (Nat.le_refl _) hcell i1 i2 i3 hD⟩
  have lt1 := Heap.lt_size e
  show (sortedHeap (s1.heap.push (seqObj "list" vs.toArray 0)) s1.heap.objs.size vs out.toArray).get? b = some u
  rw [sortedHeap_old (Nat.ne_of_lt lt1) (by rw [size_push']; exact Nat.lt_succ_of_lt lt1)]
  exact Heap.get?_push_of_some _ e
end
theorem lt_nd : ∀ l : List Int, l.Pairwise (· ≤ ·) → l.Nodup → l.Pairwise (· < ·)
  | [], _, _ => .nil
  | x :: r, h, n => by
    have h' := List.pairwise_cons.mp h
    have n' := List.nodup_cons.mp n
    exact .cons (fun y hy => Int.lt_iff_le_and_ne.mpr ⟨h'.1 y hy, fun e => n'.1 (e ▸ hy)⟩) (lt_nd r h'.2 n'.2)
end MyS
namespace MyS
open PySem PySem.Spec PyProof.Rows L2
section
variable {P : Program} {w : World} {A : Around} {E : Value → Shared → Prop} {s : Shared}
/-- the set that set(..) begins with -/
def set0 (w : World) : Obj := { cls := .type "set", dict := none, data := .set #[] 0 (.fresh 0 0 (!w.params.followText "set-order")) }
set_option maxHeartbeats 3200000 in
theorem set_of_list {l : Addr} {items : Array Value} (ns : List Int) {Q : Value → Shared → Prop} (hh : A.handled = none) (hl : s.heap.IsList l items) (hit : IntsAre items.toList ns) (hb : ns.length + 1 < scanBound)
    (h : ∀ (h' : Heap) (tk c : Nat), SetR w h' s.heap.objs.size (fun j => decide (j ∈ ns)) c → c ≤ ns.length → (∀ b o, s.heap.get? b = some o → h'.get? b = some o) → Q (.ref s.heap.objs.size) { s with heap := h', toks := tk }) :
    wpAny (model P w) A (call (.type "set") [.ref l]) Q E s := by
  have hn : items.size = ns.length := by
    rw [← IntsAre.length hit, Array.length_toList]
  have hval : ∀ (i : Nat) (v : Value), items[i]? = some v → ∃ k t, ns[i]? = some k ∧ v = .int k t := fun i v hv => by
    have hi : i < ns.length := hn ▸ (Array.getElem?_eq_some_iff.mp hv).1
    obtain ⟨t, e⟩ := IntsAre.int_at hit i v (by rw [Array.getElem?_toList]; exact hv)
    have g : ns[i]? = some ns[i] := List.getElem?_eq_getElem hi
    exact ⟨ns[i], t, g, by rw [e, List.getD_eq_getElem?_getD, g]; rfl⟩
  have lt : l < s.heap.objs.size := by
    obtain ⟨o, ho, _⟩ := hl
    exact Heap.lt_size ho
  obtain ⟨c, tl, hmro⟩ := F.called_set.mro
  have f1 := F.called_set.made
  have f2 := F.called_set.sub
  have f3 := F.called_set.notType
  have f4 := F.called_set.canCreate
  have f5 := F.typeCall_set_1 (.ref l)
  refine wpAny_call (codeAny_of_tree ?_)
  show wpAny _ _ (callAny (.type "set") _) _ _ _
  refine wpAny_pure ⟨Code.quiet_builtin _ (by decide +kernel), codeAny_builtin F.entry_type_call ?_⟩
  rw [Around.under_plain (weight_type_call_type "set" [.ref l] []) rfl]
  repeat (any_goals (first | assumption | wp_step))
  refine codeAny_mono (code_set_led1 (.ref l) (E := E) (Q₁ := fun u s₁ => u = .ref s.heap.objs.size ∧ s₁ = { s with heap := s.heap.push (set0 w) }) ⟨rfl, rfl⟩) fun r s₁ hr => ?_
  match r, hr with
  | .error e, hr => exact hr
  | .ok (.ret u), hr =>
    obtain ⟨rfl, rfl⟩ := hr
    have hS : (s.heap.push (set0 w)).get? s.heap.objs.size = some (set0 w) := Heap.get?_push_size _ rfl
    have hT : Shared.TypeIs { s with heap := s.heap.push (set0 w) } (.ref s.heap.objs.size) "set" := ⟨_, hS, rfl⟩
    have i1 := F.called_set.init.lookup
    have i2 := F.called_set.init.bind (.ref s.heap.objs.size)
    repeat (any_goals (first | assumption | wp_step))
    refine codeAny_mono (codeAny_call_builtin (R := wants (fun r s₂ => r = .none ∧ ∃ h' tk c, s₂ = { s with heap := h', toks := tk } ∧ SetR w h' s.heap.objs.size (fun j => decide (j ∈ ns)) c ∧ c ≤ ns.length ∧ (∀ b o, s.heap.get? b = some o → h'.get? b = some o)) E)
      F.called_set.init.plain F.entry_set_init (check_set_init_1 hT ?_)) fun r₂ s₂ hr₂ => ?_
    · obtain ⟨ol, hol, hcl, nl, hdl⟩ := hl
      obtain ⟨ocls, odict, odata, oslots⟩ := ol
      dsimp only at hcl hdl
      subst hcl hdl
      have hol' : (s.heap.push (set0 w)).get? l = some { cls := .type "list", dict := odict, data := .seq items nl, slots := oslots } := Heap.get?_push_of_some _ hol
      have hl1 : (s.heap.push (set0 w)).IsList l items := ⟨_, hol', rfl, nl, rfl⟩
      have n1 := F.sub_list_set
      have n2 := F.sub_list_frozenset
      have n3 : (Value.type "list" == Value.type "dict") = false := by decide
      unfold Builtin.«set.__init__» noKeywords Builtin.Frozenset.updateFrom
      generalize hPI : pyIter = PI
      wp_walk
      subst hPI
      refine wpAny_pyIter_list hl1 (wpAny_bind (wpAny_runValue ?_))
      have sz : (s.heap.push (set0 w)).objs.size = s.heap.objs.size + 1 := Heap.size_push ..
      have a1 : l ≠ (s.heap.push (set0 w)).objs.size := by
        rw [sz]
        exact Nat.ne_of_lt (Nat.lt_succ_of_lt lt)
      have a2 : s.heap.objs.size ∉ [(s.heap.push (set0 w)).objs.size, l] := fun m => by
        rw [sz] at m
        rcases List.mem_cons.mp m with m | m
        · exact absurd m (Nat.ne_of_lt (Nat.lt_succ_self _))
        · exact absurd (List.mem_singleton.mp m) (Nat.ne_of_gt lt)
      have hh3 : A.in1.in1.in1.handled = none := by simp [hh]
      refine set_update_ints ((Walks.list hh3 _ l a1 items).toS) s.heap.objs.size a2 ns hn hb hval (items.size - 0) 0 _ (by omega) (Nat.zero_le _) ⟨⟨_, Heap.get?_push_size _ rfl, rfl, rfl⟩, hl1.push _⟩ ⟨0, Nat.le_refl 0, setR_new_at (Heap.get?_push_of_some _ hS)⟩ ?_
      intro s' c' hm hc' hS'
      obtain ⟨h', g2, d', tk', os'⟩ := s'
      obtain rfl : g2 = s.gens := hm.gens
      obtain rfl : d' = s.drawn := hm.drawn
      obtain rfl : os' = s.os := hm.os
      show wpAny _ _ _ _ _ _
      refine wpAny_pure ?_
      show wpAny _ _ (ret Value.none) _ _ _
      refine wpAny_pure ⟨rfl, h', tk', c', rfl, hS', hn ▸ hc', fun b o e => ?_⟩
      have b0 := Heap.lt_size e
      refine hm.heap b o (fun m => ?_) (Heap.get?_push_of_some _ (Heap.get?_push_of_some _ e))
      rw [sz] at m
      rcases List.mem_cons.mp m with m | m
      · exact absurd m (Nat.ne_of_lt b0)
      · exact absurd (List.mem_singleton.mp m) (Nat.ne_of_lt (Nat.lt_succ_of_lt b0))
    · match r₂, hr₂ with
      | .error e, hr₂ => exact hr₂
      | .ok (.ret r), hr₂ =>
        obtain ⟨rfl, h', tk, c', rfl, hS', hc', hk'⟩ := hr₂
        repeat (any_goals (first | assumption | wp_step))
        exact h _ _ _ hS' hc' hk'
end
end MyS
namespace L2
open PySem PySem.Spec PyProof.Rows
/-- sorted(t), t a list or tuple of ints -/
def rSortedQ (K : PySem.W.Frag) : List V → Hp → VK → Prop := fun vs H Q => ∃ (a : Addr) (ns : List Int), vs = [V.ref a] ∧ (SqL K H a (ns.map V.int) ∨ SqT K H a (ns.map V.int)) ∧
  ∀ (ms : List Int) (p : Addr), ms.Perm ns → ms.Pairwise (· ≤ ·) → H p = none → Q (.ref p) (upd H p (.lst (ms.map V.int)))
/-- sorted(found), any number below 4,000 -/
def rSortedU (w : World) : List V → Hp → VK → Prop := fun vs H Q => ∃ (a : Addr) (S : Int → Bool) (n : Nat), vs = [V.ref a] ∧ H a = some (SetO w a S n) ∧ n ≤ 4000 ∧
  ∀ (ms : List Int) (p : Addr), ms.Pairwise (· < ·) → (∀ k : Int, k ∈ ms ↔ S k = true) → ms.length = n → H p = none → Q (.ref p) (upd H p (.lst (ms.map V.int)))
section
variable {X : Cx}
theorem inv_laid {pins : List (Addr × Obj)} {σ : St} {H : Hp} {s s' : Shared} {p : Addr} {o : HO} (I : Inv X pins σ H s) (k : ∀ b u, s.heap.get? b = some u → s'.heap.get? b = some u) (hp : s.heap.objs.size ≤ p) (g : s'.gens = s.gens) (os : s'.os = s.os)
    (new : ObjOk X.prog X.w (upd H p o) s'.heap p o) : H p = none ∧ Inv X pins σ (upd H p o) s' := by
  have hn : H p = none := I.hok.fresh hp
  exact ⟨hn, I.call' (ch := []) os (Un.laid k hp hn) (I.hok.laid k hp new) (by rw [g]; exact I.bare) fun _ z => nomatch z⟩
theorem call_sortedQ (hc : X.calm = true) : CallR X (.builtin "sorted") (rSortedQ X.K) := by
  intro pins s σ H vs us Q I r h
  obtain ⟨a, ns, rfl, hs, q⟩ := h
  rw [Vals.ref1 r]
  have key : ∀ (T : String) (o : Obj) (its : List Value) (n : Nat), (T = "list" ∨ T = "tuple") → s.heap.get? a = some o → o.cls = .type T → o.data = .seq its.toArray n → IntsAre its ns → its.length ≤ sizeLine →
      wpAny (model X.prog X.w) X.A (call (.builtin "sorted") [.ref a]) (EP X pins σ Q) X.xe s := by
    intro T o its n hT ho hcl hd hi hz
    refine MyS.sorted_gen (J := fun s1 => Inv X pins σ H s1) (C := fun vs => vs = its) (D := fun ms => ms = ns) (fun Q' hq => ?_) (fun vs e => ⟨ns, by rw [e]; exact hi, by rw [e]; exact hz, rfl⟩) fun s1 s' p out c ns1 ms I1 k g os hp hcell i1 i2 i3 e => ?_
    · exact wpAny_collect_seq a hT ho hcl hd (fun h' hk => hq _ _ (I.kept (t' := s.toks) hk) (by simp)) (by rw [List.size_toArray]; exact hz)
    · subst e
      have hlen : (ms.map V.int).length ≤ sizeLine := by
        rw [List.length_map, i2.length_eq, ← IntsAre.length hi]
        exact hz
      obtain ⟨hn, J⟩ := inv_laid I1 k hp g os (o := .lst (ms.map V.int)) ⟨hlen, out, c, vals_of_ints i1, hcell⟩
      exact ⟨.ref p, _, J, rfl, q ms p i2 i3 hn⟩
  rcases hs with hs | hs
  · obtain ⟨its, rv, pl, hz⟩ := I.list hs
    obtain ⟨o, ho, hcl, n, hd⟩ := pl.isList
    exact key "list" o its n (.inl rfl) ho hcl hd rv.ints (by rw [← rv.length]; exact hz)
  · obtain ⟨its, rv, pl, hz⟩ := I.tuple hs
    obtain ⟨o, ho, hcl, n, hd⟩ := pl
    exact key "tuple" o its n (.inr rfl) ho hcl hd rv.ints (by rw [← rv.length]; exact hz)
theorem call_sortedU (hc : X.calm = true) : CallR X (.builtin "sorted") (rSortedU X.w) := by
  intro pins s σ H vs us Q I r h
  obtain ⟨a, S, n, rfl, ha, hsm, q⟩ := h
  obtain ⟨o, es, ep, t, ho, hex, hd, hg, hnd, hmem, hsz, hfit, hn, hris, hled⟩ := setO_get I ha
  rw [Vals.ref1 r]
  refine MyS.sorted_gen (J := fun s1 => Inv X pins σ H s1) (C := fun vs => vs.Perm (es.toList.map (·.2))) (D := fun ms => ms.Perm (es.toList.map keyOf)) (fun Q' hq => ?_) (fun vs e => ?_) fun s1 s' p out c ns1 ms I1 k g os hp hcell i1 i2 i3 e => ?_
  · exact collect_set (A := X.A.in1) (I.ok.hd hc) ⟨o, ho, hex.1, hd⟩ hfit hsz hris hled fun s1 out k _ g os pm => hq s1 out (I.call' (ch := []) os (Un.kept k) (I.hok.kept k) (by rw [g]; exact I.bare) fun _ z => nomatch z) pm
  · have hi : ∀ v ∈ vs, ∃ i t, v = Value.int i t := fun v hv => by
      obtain ⟨x, hx, ex⟩ := List.mem_map.mp (e.mem_iff.mp hv)
      obtain ⟨i, t, h1, _⟩ := hg x hx
      exact ⟨i, t, by rw [← ex]; exact h1⟩
    refine ⟨vs.map SrtO.iv, SrtO.ints_iv hi, ?_, ?_⟩
    · rw [e.length_eq, List.length_map, Array.length_toList, hn]
      exact Nat.le_trans hsm (by decide)
    · have pm := e.map SrtO.iv
      rw [List.map_map] at pm
      have ek : (es.toList.map fun x => SrtO.iv x.2) = es.toList.map keyOf := by
        refine List.map_congr_left fun x hx => ?_
        obtain ⟨i, t, h1, _⟩ := hg x hx
        unfold keyOf
        rw [h1]
        rfl
      rw [← ek]
      exact pm
  · have pm : ms.Perm (es.toList.map keyOf) := i2.trans e
    have hlen0 : ms.length = n := by rw [pm.length_eq, List.length_map, Array.length_toList]; exact hn
    have hlen : (ms.map V.int).length ≤ sizeLine := by
      rw [List.length_map, hlen0]
      exact Nat.le_trans hsm (by decide)
    obtain ⟨hfree, J⟩ := inv_laid I1 k hp g os (o := .lst (ms.map V.int)) ⟨hlen, out, c, vals_of_ints i1, hcell⟩
    exact ⟨.ref p, _, J, rfl, q ms p (MyS.lt_nd ms i3 (pm.nodup_iff.mpr hnd)) (fun z => by rw [pm.mem_iff, ← hmem z]) hlen0 hfree⟩
/-- set(t), t a list or tuple of ints -/
def rSetQ (K : PySem.W.Frag) (w : World) : List V → Hp → VK → Prop := fun vs H Q => ∃ (a : Addr) (ns : List Int), vs = [V.ref a] ∧ (SqL K H a (ns.map V.int) ∨ SqT K H a (ns.map V.int)) ∧ ns.length ≤ 4000 ∧
  ∀ (c : Nat) (p : Addr), c ≤ ns.length → H p = none → Q (.ref p) (upd H p (SetO w p (fun j => decide (j ∈ ns)) c))
theorem call_setQ (hc : X.calm = true) : CallR X (.type "set") (rSetQ X.K X.w) := by
  intro pins s σ H vs us Q I r h
  obtain ⟨a, ns, rfl, hs, hlen, q⟩ := h
  rw [Vals.ref1 r]
  have hb : ns.length + 1 < scanBound := Nat.lt_of_le_of_lt (Nat.succ_le_succ hlen) (by decide)
  have fin : ∀ (h' : Heap) (tk c : Nat), SetR X.w h' s.heap.objs.size (fun j => decide (j ∈ ns)) c → c ≤ ns.length → (∀ b o, s.heap.get? b = some o → h'.get? b = some o) → EP X pins σ Q (.ref s.heap.objs.size) { s with heap := h', toks := tk } := fun h' tk c R lc k => by
    obtain ⟨hn, J⟩ := inv_laid (s' := { s with heap := h', toks := tk }) I k (Nat.le_refl _) rfl rfl (o := SetO X.w s.heap.objs.size (fun j => decide (j ∈ ns)) c) (setO_new R)
    exact ⟨.ref _, _, J, rfl, q c _ lc hn⟩
  rcases hs with hs | hs
  · obtain ⟨its, rv, pl, hz⟩ := I.list hs
    exact MyS.set_of_list ns (I.ok.hd hc) pl.isList rv.ints hb fin
  · obtain ⟨its, rv, pl, hz⟩ := I.tuple hs
    exact call_set_tupI ns (I.ok.hd hc) pl rv.ints hb fin
end
end L2
namespace My
open PySem PySem.Spec PyProof.Rows L2
/-! ### heaps and the drawing state -/
theorem same_upd {H : Hp} {p : Addr} {o : HO} (h : H p = none) : Same H (upd H p o) := fun b x e => by
  rw [upd_ne (ne_of_none e h)]
  exact e
theorem rd_same {H H' : Hp} {a : Addr} {u : HO} (e : Same H H') (h : Rd H a u) : Rd H' a u := by
  rcases h with h | ⟨o, h⟩
  · exact .inl (e a _ h)
  · exact .inr ⟨o, e a _ h⟩
theorem seqT_same {K : PySem.W.Frag} {H H' : Hp} {a : Addr} {xs : List V} (e : Same H H') (h : SqT K H a xs) : SqT K H' a xs := by
  rcases h with h | h
  · exact .inl (rd_same e h)
  · exact .inr h
theorem int_at {ns : List Int} {i : Nat} {y : V} (h : (ns.map V.int)[i]? = some y) : ∃ z, ns[i]? = some z ∧ y = V.int z := by
  rw [List.getElem?_map] at h
  cases e : ns[i]? with
  | none =>
    rw [e] at h
    cases h
  | some z =>
    rw [e] at h
    exact ⟨z, rfl, (Option.some.inj h).symm⟩
/-! rules whose frame is a comprehension's -/
section
variable {X : Cx} {K : PySem.W.Frag}
theorem ix_tupK (h : X.K = K) : IxR X (rIxT K) := h ▸ ix_tup
theorem ix_listK (h : X.K = K) : IxR X (rIxL K) := h ▸ ix_list
theorem op_in_seqK (h : X.K = K) : OpR X (compareOp .In) (rIn K false) := h ▸ op_in_seq
theorem op_notIn_seqK (h : X.K = K) : OpR X (compareOp .NotIn) (rIn K true) := h ▸ op_notIn_seq
theorem call_isiK' (h : X.K = K) : CallR X (.builtin "isinstance") (rIsi K) := h ▸ call_isi
def rLenQ (K : PySem.W.Frag) : List V → Hp → VK → Prop := fun xs H Q => ∃ p ys, xs = [.ref p] ∧ (SqL K H p ys ∨ SqT K H p ys) ∧ Q (.int ys.length) H
theorem call_len_seqK (h : X.K = K) : CallR X (.builtin "len") (rLenQ K) := h ▸ call_len_seq
end
/-- the law's drawing state: a list of the script, how many were taken, a mixed number, a rest -/
structure StAt (K : PySem.W.Frag) (a st : Addr) (H : Hp) : Prop where
  ex : ∃ i m r : Int, 0 ≤ i ∧ H st = some (.lst [.ref a, .int i, .int m, .int r])
  sc : ∃ ns : List Int, SqL K H a (ns.map V.int)
/-- what drawing may do to the heap -/
structure Go (K : PySem.W.Frag) (st : Addr) (H H' : Hp) : Prop where
  keep : ∀ b o, b ≠ st → H b = some o → H' b = some o
  st : ∀ a, StAt K a st H → StAt K a st H'
section
variable {K : PySem.W.Frag} {st a : Addr} {H H1 H2 H' : Hp}
theorem Go.refl (H : Hp) : Go K st H H := ⟨fun _ _ _ e => e, fun _ h => h⟩
theorem Go.trans (x : Go K st H H1) (y : Go K st H1 H2) : Go K st H H2 := ⟨fun b o hb e => y.keep b o hb (x.keep b o hb e), fun a h => y.st a (x.st a h)⟩
theorem StAt.same (e : Same H H') (h : StAt K a st H) : StAt K a st H' := by
  obtain ⟨⟨i, m, r, hi, hs⟩, ns, hn⟩ := h
  exact ⟨⟨i, m, r, hi, e _ _ hs⟩, ns, e.seq hn⟩
theorem Go.of (e : Same H H') : Go K st H H' := ⟨fun b o _ h => e b o h, fun _ h => h.same e⟩
theorem Go.new {p : Addr} {o : HO} (h : H p = none) : Go K st H (upd H p o) := Go.of (same_upd h)
theorem StAt.ne {b : Addr} {o : HO} (h : StAt K a st H) (e : H b = some o) (hb : ∀ xs, o ≠ .lst xs) : b ≠ st := fun z => by
  obtain ⟨⟨i, m, r, _, hs⟩, _⟩ := h
  rw [z, hs] at e
  exact hb _ (Option.some.inj e).symm
/-- a stored state -/
theorem StAt.upd {i m r : Int} (h : StAt K a st H) (hi : 0 ≤ i) : StAt K a st (upd H st (.lst [.ref a, .int i, .int m, .int r])) := by
  obtain ⟨⟨i0, m0, r0, hi0, hs⟩, ns, hn⟩ := h
  refine ⟨⟨i, m, r, hi, upd_same⟩, ns, ?_⟩
  rcases hn with (hn | ⟨o, hn⟩) | hn
  · have hne : a ≠ st := fun z => by
      rw [z, hs] at hn
      have e := HO.lst.inj (Option.some.inj hn)
      cases ns with
      | nil => cases e
      | cons n r => cases e
    exact .inl (.inl (by rw [upd_ne hne]; exact hn))
  · have hne : a ≠ st := fun z => by
      rw [z, hs] at hn
      cases hn
    exact .inl (.inr ⟨o, by rw [upd_ne hne]; exact hn⟩)
  · exact .inr hn
theorem Go.upd {i m r : Int} (h : StAt K a st H) (hi : 0 ≤ i) : Go K st H (L2.upd H st (.lst [.ref a, .int i, .int m, .int r])) := by
  refine ⟨fun b o hb e => by rw [upd_ne hb]; exact e, fun a' h' => ?_⟩
  have e : a' = a := by
    obtain ⟨⟨i0, m0, r0, hi0, hs⟩, _⟩ := h
    obtain ⟨⟨i1, m1, r1, hi1, hs1⟩, _⟩ := h'
    rw [hs] at hs1
    injection hs1 with e1
    injection e1 with e2
    injection e2 with e3
    injection e3 with e4
    exact e4.symm
  subst e
  exact h'.upd hi
theorem Go.seqT {b : Addr} {xs : List V} (g : Go K st H H') (h : StAt K a st H) (hb : SqT K H b xs) : SqT K H' b xs := by
  rcases hb with (e | ⟨o, e⟩) | e
  · exact .inl (.inl (g.keep b _ (h.ne e (fun _ z => nomatch z)) e))
  · exact .inl (.inr ⟨o, g.keep b _ (h.ne e (fun _ z => nomatch z)) e⟩)
  · exact .inr e
theorem Go.free {p : Addr} (g : Go K st H H') (h : StAt K a st H) (hp : H' p = none) : H p = none := by
  cases e : H p with
  | none => rfl
  | some o =>
    by_cases hq : p = st
    · obtain ⟨⟨i, m, r, _, hs⟩, _⟩ := g.st a h
      rw [hq, hs] at hp
      cases hp
    · rw [g.keep p o hq e] at hp
      cases hp
end
theorem StAt.fresh {K : PySem.W.Frag} {a st p : Addr} {H : Hp} (h : StAt K a st H) (hp : H p = none) : p ≠ st := fun z => by
  obtain ⟨⟨i, m, r, _, hs⟩, _⟩ := h
  rw [z, hs] at hp
  cases hp
/-- a new object may change -/
theorem Go.mut {K : PySem.W.Frag} {st a p : Addr} {H H' : Hp} {o : HO} (g : Go K st H H') (h : StAt K a st H) (hp : H p = none) : Go K st H (L2.upd H' p o) := by
  have hne := h.fresh hp
  refine ⟨fun b u hb e => by rw [upd_ne (ne_of_none e hp)]; exact g.keep b u hb e, fun a' h' => ?_⟩
  obtain ⟨⟨i, m, r, hi, hs⟩, _⟩ := g.st a' h'
  obtain ⟨⟨i0, m0, r0, hi0, hs0⟩, ns, hn⟩ := h'
  refine ⟨⟨i, m, r, hi, by rw [upd_ne hne.symm]; exact hs⟩, ns, ?_⟩
  rcases hn with (hn | ⟨o', hn⟩) | hn
  · have hne' : a' ≠ st := fun z => by
      rw [z, hs0] at hn
      have e := HO.lst.inj (Option.some.inj hn)
      cases ns with
      | nil => cases e
      | cons n r => cases e
    exact .inl (.inl (by rw [upd_ne (ne_of_none hn hp)]; exact g.keep _ _ hne' hn))
  · have hne' : a' ≠ st := fun z => by
      rw [z, hs0] at hn
      cases hn
    exact .inl (.inr ⟨o', by rw [upd_ne (ne_of_none hn hp)]; exact g.keep _ _ hne' hn⟩)
  · exact .inr hn
/-- [f(..) for x in range(n)], each an int of which P holds, drawing meanwhile -/
theorem lc_ints {K : PySem.W.Frag} {st a D : Addr} {H : Hp} {te : TE} {σ : L2.St} {vs : List Nat} {j : Nat} {lo : Int} {n : Nat} {Qd : Hp → Prop} (P : Int → Prop) (hS : StAt K a st H) (hD : H D = none) (hn : n ≤ 10000)
    (hw : ∀ x, wipe ((wipe σ vs).set j (some x)) vs = wipe σ vs)
    (ht : ∀ (i : Nat) (H1 : Hp), i < n → Go K st H H1 → ∀ Q : VK, (∀ (v : Int) (H2 : Hp), P v → Go K st H1 H2 → Q (.int v) H2) → te ((wipe σ vs).set j (some (.int (lo + (i : Int))))) H1 Q)
    (q : ∀ (ns : List Int) (H' : Hp), ns.length = n → (∀ z ∈ ns, P z) → Go K st H H' → H' D = some (.lst (ns.map V.int)) → Qd H') :
    ∃ W : Nat → Nat → Hp → Prop, (∃ m, W 0 m (upd H D (.lst []))) ∧ ∀ i m H, W i m H →
      ((Itr lo n).stop i H ∧ Qd H) ∨ ((Itr lo n).go i H ∧ ∃ Nx : Hp → Prop, (∀ H', Nx H' → ∃ m', m' < m ∧ W (i + 1) m' H') ∧ ∀ x H', (Itr lo n).yld i H x H' → (gName j) x (wipe σ vs) H' fun σ2 H2 => wipe σ2 vs = wipe σ vs ∧ tYes σ2 H2 fun b H3 =>
        if b = true then te σ2 H3 fun y H4 => ∃ acc, H4 D = some (.lst acc) ∧ acc.length < sizeLine ∧ Nx (upd H4 D (.lst (acc ++ [y]))) else Nx H3) := by
  refine lc_range (fun i H' => ∃ ns : List Int, ns.length = i ∧ (∀ z ∈ ns, P z) ∧ Go K st H H' ∧ H' D = some (.lst (ns.map V.int))) ⟨[], rfl, (fun _ z => nomatch z), Go.new hD, upd_same⟩ ?_ ?_
  · rintro i H1 hi ⟨ns, hl, hP, g, hd⟩
    refine ⟨hw _, ?_⟩
    show te ((wipe σ vs).set j (some (.int (lo + (i : Int))))) H1 _
    refine ht i H1 hi g _ fun v H2 hv g2 => ?_
    have hd2 : H2 D = some (.lst (ns.map V.int)) := g2.keep _ _ (hS.fresh hD) hd
    refine ⟨_, hd2, ?_, ns ++ [v], ?_, ?_, (g.trans g2).mut hS hD, ?_⟩
    · rw [List.length_map]
      exact Nat.lt_of_lt_of_le (by omega : ns.length < 10000) (by decide)
    · rw [List.length_append, hl]
      rfl
    · intro z hz
      rcases List.mem_append.mp hz with h | h
      · exact hP z h
      · rw [List.mem_singleton.mp h]
        exact hv
    · rw [upd_same, List.map_append]
      rfl
  · rintro H' ⟨ns, hl, hP, g, hd⟩
    exact q ns H' hl hP g hd
theorem _root_.L2.Same.mut {H H' : Hp} {p : Addr} {o : HO} (e : Same H H') (h : H p = none) : Same H (upd H' p o) := fun b u q => by
  rw [upd_ne (ne_of_none q h)]
  exact e b u q
theorem filt_take {xs : List V} {f : V → Bool} {v : V → V} {i : Nat} {x : V} (h : xs[i]? = some x) : ((xs.take (i + 1)).filter f).map v = ((xs.take i).filter f).map v ++ (if f x = true then [v x] else []) := by
  rw [List.take_add_one, h, List.filter_append, List.map_append]
  congr 1
  show ([x].filter f).map v = _
  by_cases c : f x = true
  · rw [if_pos c, List.filter_cons, if_pos c]
    rfl
  · rw [if_neg c, List.filter_cons, if_neg c]
    rfl
/-- what a comprehension without drawing has made behind i turns -/
def Made (H1 : Hp) (D : Addr) (f : V → Bool) (v : V → V) (xs : List V) (i : Nat) (H' : Hp) : Prop := Same H1 H' ∧ H' D = some (.lst (((xs.take i).filter f).map v))
theorem made_turn {H1 H' : Hp} {D : Addr} {f : V → Bool} {v : V → V} {xs : List V} {i : Nat} {x : V} {tt : TT} {te : TE} {σ2 : L2.St} (hD : H1 D = none) (hz : xs.length ≤ 10000) (hx : xs[i]? = some x) (p : Made H1 D f v xs i H')
    (ht : ∀ H2, Same H1 H2 → ∀ Q : Bool → Hp → Prop, (∀ H3, Same H2 H3 → Q (f x) H3) → tt σ2 H2 Q) (he : f x = true → ∀ H2, Same H1 H2 → ∀ Q : VK, (∀ H3, Same H2 H3 → Q (v x) H3) → te σ2 H2 Q) :
    tt σ2 H' fun b H3 => if b = true then te σ2 H3 fun y H4 => ∃ acc, H4 D = some (.lst acc) ∧ acc.length < sizeLine ∧ Made H1 D f v xs (i + 1) (upd H4 D (.lst (acc ++ [y]))) else Made H1 D f v xs (i + 1) H3 := by
  obtain ⟨sm, hd⟩ := p
  refine ht H' sm _ fun H3 s3 => ?_
  have hd3 := s3 _ _ hd
  by_cases c : f x = true
  · rw [if_pos c]
    refine he c H3 (sm.trans s3) _ fun H4 s4 => ?_
    have hd4 := s4 _ _ hd3
    refine ⟨_, hd4, ?_, (sm.trans (s3.trans s4)).mut hD, ?_⟩
    · rw [List.length_map]
      refine Nat.lt_of_le_of_lt (Nat.le_trans (List.length_filter_le _ _) ?_) (show 10000 < sizeLine by decide)
      rw [List.length_take]
      omega
    · rw [upd_same, filt_take hx, if_pos c]
  · rw [if_neg c]
    refine ⟨sm.trans s3, ?_⟩
    rw [hd3, filt_take hx, if_neg c, List.append_nil]
theorem lc_pureT {K : PySem.W.Frag} {D a : Addr} {H1 : Hp} {σ : L2.St} {vs : List Nat} {j : Nat} {tt : TT} {te : TE} {xs : List V} {Qd : Hp → Prop} (f : V → Bool) (v : V → V) (hD : H1 D = none) (ha : SqT K H1 a xs) (hz : xs.length ≤ 10000)
    (hw : ∀ x, wipe ((wipe σ vs).set j (some x)) vs = wipe σ vs)
    (ht : ∀ x ∈ xs, ∀ H2, Same H1 H2 → ∀ Q : Bool → Hp → Prop, (∀ H3, Same H2 H3 → Q (f x) H3) → tt ((wipe σ vs).set j (some x)) H2 Q) (he : ∀ x ∈ xs, f x = true → ∀ H2, Same H1 H2 → ∀ Q : VK, (∀ H3, Same H2 H3 → Q (v x) H3) → te ((wipe σ vs).set j (some x)) H2 Q)
    (q : ∀ H', Same H1 H' → H' D = some (.lst ((xs.filter f).map v)) → Qd H') :
    ∃ W : Nat → Nat → Hp → Prop, (∃ m, W 0 m (upd H1 D (.lst []))) ∧ ∀ i m H, W i m H →
      ((Itt K a).stop i H ∧ Qd H) ∨ ((Itt K a).go i H ∧ ∃ Nx : Hp → Prop, (∀ H', Nx H' → ∃ m', m' < m ∧ W (i + 1) m' H') ∧ ∀ x H', (Itt K a).yld i H x H' → (gName j) x (wipe σ vs) H' fun σ2 H2 => wipe σ2 vs = wipe σ vs ∧ tt σ2 H2 fun b H3 =>
        if b = true then te σ2 H3 fun y H4 => ∃ acc, H4 D = some (.lst acc) ∧ acc.length < sizeLine ∧ Nx (upd H4 D (.lst (acc ++ [y]))) else Nx H3) :=
  lc_tup (xs := xs) (Made H1 D f v xs) ⟨same_upd hD, upd_same⟩ (fun _ _ _ p => seqT_same p.1 ha) (fun i x H' hx p => ⟨hw x, made_turn hD hz hx p (ht x (List.mem_of_getElem? hx)) (he x (List.mem_of_getElem? hx))⟩)
    fun H' p => q H' p.1 (by rw [p.2, List.take_length])
theorem lc_pureL {K : PySem.W.Frag} {D a : Addr} {H1 : Hp} {σ : L2.St} {vs : List Nat} {j : Nat} {tt : TT} {te : TE} {xs : List V} {Qd : Hp → Prop} (f : V → Bool) (v : V → V) (hD : H1 D = none) (ha : SqL K H1 a xs) (hz : xs.length ≤ 10000)
    (hw : ∀ x, wipe ((wipe σ vs).set j (some x)) vs = wipe σ vs)
    (ht : ∀ x ∈ xs, ∀ H2, Same H1 H2 → ∀ Q : Bool → Hp → Prop, (∀ H3, Same H2 H3 → Q (f x) H3) → tt ((wipe σ vs).set j (some x)) H2 Q) (he : ∀ x ∈ xs, f x = true → ∀ H2, Same H1 H2 → ∀ Q : VK, (∀ H3, Same H2 H3 → Q (v x) H3) → te ((wipe σ vs).set j (some x)) H2 Q)
    (q : ∀ H', Same H1 H' → H' D = some (.lst ((xs.filter f).map v)) → Qd H') :
    ∃ W : Nat → Nat → Hp → Prop, (∃ m, W 0 m (upd H1 D (.lst []))) ∧ ∀ i m H, W i m H →
      ((Itl K a).stop i H ∧ Qd H) ∨ ((Itl K a).go i H ∧ ∃ Nx : Hp → Prop, (∀ H', Nx H' → ∃ m', m' < m ∧ W (i + 1) m' H') ∧ ∀ x H', (Itl K a).yld i H x H' → (gName j) x (wipe σ vs) H' fun σ2 H2 => wipe σ2 vs = wipe σ vs ∧ tt σ2 H2 fun b H3 =>
        if b = true then te σ2 H3 fun y H4 => ∃ acc, H4 D = some (.lst acc) ∧ acc.length < sizeLine ∧ Nx (upd H4 D (.lst (acc ++ [y]))) else Nx H3) :=
  lc_list (xs := xs) (Made H1 D f v xs) ⟨same_upd hD, upd_same⟩ (fun _ _ _ p => p.1.seq ha) (fun i x H' hx p => ⟨hw x, made_turn hD hz hx p (ht x (List.mem_of_getElem? hx)) (he x (List.mem_of_getElem? hx))⟩)
    fun H' p => q H' p.1 (by rw [p.2, List.take_length])
def rgL (lo : Int) (n : Nat) : List V := (List.range n).map fun i : Nat => V.int (lo + (i : Int))
theorem rgL_get {lo : Int} {n i : Nat} (h : i < n) : (rgL lo n)[i]? = some (.int (lo + (i : Int))) := by
  unfold rgL
  rw [List.getElem?_map, List.getElem?_range h]
  rfl
theorem rgL_len (lo : Int) (n : Nat) : (rgL lo n).length = n := by
  unfold rgL
  rw [List.length_map, List.length_range]
theorem lc_pureR {D : Addr} {H1 : Hp} {σ : L2.St} {vs : List Nat} {j : Nat} {tt : TT} {te : TE} {lo : Int} {n : Nat} {Qd : Hp → Prop} (f : V → Bool) (v : V → V) (hD : H1 D = none) (hz : n ≤ 10000)
    (hw : ∀ x, wipe ((wipe σ vs).set j (some x)) vs = wipe σ vs)
    (ht : ∀ i : Nat, i < n → ∀ H2, Same H1 H2 → ∀ Q : Bool → Hp → Prop, (∀ H3, Same H2 H3 → Q (f (.int (lo + (i : Int)))) H3) → tt ((wipe σ vs).set j (some (.int (lo + (i : Int))))) H2 Q)
    (he : ∀ i : Nat, i < n → f (.int (lo + (i : Int))) = true → ∀ H2, Same H1 H2 → ∀ Q : VK, (∀ H3, Same H2 H3 → Q (v (.int (lo + (i : Int)))) H3) → te ((wipe σ vs).set j (some (.int (lo + (i : Int))))) H2 Q)
    (q : ∀ H', Same H1 H' → H' D = some (.lst (((rgL lo n).filter f).map v)) → Qd H') :
    ∃ W : Nat → Nat → Hp → Prop, (∃ m, W 0 m (upd H1 D (.lst []))) ∧ ∀ i m H, W i m H →
      ((Itr lo n).stop i H ∧ Qd H) ∨ ((Itr lo n).go i H ∧ ∃ Nx : Hp → Prop, (∀ H', Nx H' → ∃ m', m' < m ∧ W (i + 1) m' H') ∧ ∀ x H', (Itr lo n).yld i H x H' → (gName j) x (wipe σ vs) H' fun σ2 H2 => wipe σ2 vs = wipe σ vs ∧ tt σ2 H2 fun b H3 =>
        if b = true then te σ2 H3 fun y H4 => ∃ acc, H4 D = some (.lst acc) ∧ acc.length < sizeLine ∧ Nx (upd H4 D (.lst (acc ++ [y]))) else Nx H3) :=
  lc_range (Made H1 D f v (rgL lo n)) ⟨same_upd hD, upd_same⟩ (fun i H' hi p => ⟨hw _, made_turn hD (by rw [rgL_len]; exact hz) (rgL_get hi) p (ht i hi) (he i hi)⟩)
    fun H' p => q H' p.1 (by rw [p.2, List.take_of_length_le (by rw [rgL_len]; exact Nat.le_refl _)])
/-- a set of marks as a list -/
structure SetL (ms : List Int) : Prop where
  up : ms.Pairwise (· < ·)
  bd : ∀ z ∈ ms, 1 ≤ z ∧ z ≤ 96
theorem SetL.len {ms : List Int} (h : SetL ms) : ms.length ≤ 96 := by
  have key : ∀ (l : List Int) (lo : Int), l.Pairwise (· < ·) → (∀ z ∈ l, lo ≤ z ∧ z ≤ 96) → (l.length : Int) ≤ 96 - lo + 1 ∨ l = [] := by
    intro l
    induction l with
    | nil => intro _ _ _; exact .inr rfl
    | cons x r ih =>
      intro lo hp hb
      have hp' := List.pairwise_cons.mp hp
      have hx := hb x List.mem_cons_self
      left
      rcases ih (x + 1) hp'.2 (fun z hz => ⟨hp'.1 z hz, (hb z (List.mem_cons_of_mem _ hz)).2⟩) with h | h
      · rw [List.length_cons]
        omega
      · rw [h]
        show ((0 + 1 : Nat) : Int) ≤ _
        omega
  rcases key ms 1 h.up h.bd with h | h
  · omega
  · rw [h]
    exact Nat.zero_le _
theorem SetL.nil : SetL [] := ⟨.nil, fun _ z => nomatch z⟩
def sp__law_set (K : PySem.W.Frag) : Sp := fun vs H Q _ => ∃ (a st : Addr) (most : Int), vs = [.ref st, .int most] ∧ StAt K a st H ∧ 0 ≤ most ∧ most ≤ 96 ∧
  ∀ (t : Addr) (ms : List Int) H', SetL ms → (ms.length : Int) ≤ most → Go K st H H' → H t = none → H' t = some (.tup (ms.map V.int)) → Q (.ref t) H'
theorem pickI {ns : List Int} {v lo hi : Int} (h : ∀ z ∈ ns, lo ≤ z ∧ z ≤ hi) (h0 : 0 ≤ v) (h1 : v < (ns.length : Int)) : ∃ z, atI (ns.map V.int) v = some (.int z) ∧ lo ≤ z ∧ z ≤ hi := by
  have hlt : v.toNat < ns.length := by omega
  refine ⟨ns[v.toNat], at_of (j := v.toNat) (by omega) ?_, h _ (List.getElem_mem hlt)⟩
  rw [List.getElem?_map, List.getElem?_eq_getElem hlt]
  rfl
theorem nat8000 {n : Int} (h0 : 0 ≤ n) (h : n < 10 ^ 70) : n.natAbs < 2 ^ 8000 := Nat.lt_of_lt_of_le (by omega : n.natAbs < 10 ^ 70) (by decide +kernel)
/-! ### the promises of the drawing defs -/
def sp__law_start (K : PySem.W.Frag) : Sp := fun vs H Q _ => ∃ (a : Addr) (ns : List Int), vs = [.ref a] ∧ SqL K H a (ns.map V.int) ∧
  ∀ st H', H st = none → Same H H' → StAt K a st H' → Q (.ref st) H'
def sp__law_drawn (K : PySem.W.Frag) : Sp := fun vs H Q _ => ∃ (a st : Addr) (n : Int), vs = [.ref st, .int n] ∧ StAt K a st H ∧ 0 < n ∧ n.natAbs < 2 ^ 8000 ∧
  ∀ (v : Int) H', 0 ≤ v → v < n → Go K st H H' → Q (.int v) H'
end My
namespace My
open PySem PySem.Spec PyProof.Rows L2
/-- is it a set, from the mark before on -/
def isSetG : Int → List Int → Bool
  | _, [] => true
  | b, x :: r => if x ≤ b ∨ 96 < x then false else isSetG x r
def isSetB (ns : List Int) : Bool := isSetG 0 ns
theorem isSetG_iff : ∀ (ns : List Int) (b : Int), isSetG b ns = true ↔ ns.Pairwise (· < ·) ∧ (∀ z ∈ ns, b < z ∧ z ≤ 96)
  | [], b => ⟨fun _ => ⟨.nil, fun _ z => nomatch z⟩, fun _ => rfl⟩
  | x :: r, b => by
    unfold isSetG
    by_cases c : x ≤ b ∨ 96 < x
    · rw [if_pos c]
      refine ⟨(fun z => nomatch z), fun h => ?_⟩
      have := h.2 x List.mem_cons_self
      omega
    · rw [if_neg c, isSetG_iff r x]
      constructor
      · rintro ⟨h1, h2⟩
        refine ⟨.cons (fun y hy => (h2 y hy).1) h1, fun z hz => ?_⟩
        rcases List.mem_cons.mp hz with e | hz
        · omega
        · have := h2 z hz
          omega
      · rintro ⟨h1, h2⟩
        have h1' := List.pairwise_cons.mp h1
        exact ⟨h1'.2, fun z hz => ⟨h1'.1 z hz, (h2 z (List.mem_cons_of_mem _ hz)).2⟩⟩
theorem isSetB_iff {ns : List Int} : isSetB ns = true ↔ SetL ns := by
  unfold isSetB
  rw [isSetG_iff]
  exact ⟨fun h => ⟨h.1, fun z hz => by have := h.2 z hz; omega⟩, fun h => ⟨h.up, fun z hz => by have := h.bd z hz; omega⟩⟩
def sp_is_set (K : PySem.W.Frag) : Sp := fun vs H Q _ => ∃ (a : Addr) (ns : List Int), vs = [.ref a] ∧ SqT K H a (ns.map V.int) ∧ Q (.bl (isSetB ns)) H
def sp_refuse_unless_set (K : PySem.W.Frag) (C : Addr) : Sp := fun vs H Q E => ∃ (a : Addr) (ns : List Int), vs = [.ref a] ∧ SqT K H a (ns.map V.int) ∧ (isSetB ns = false → E (.ref C) none H) ∧ (isSetB ns = true → Q .non H)
end My
namespace My
open PySem PySem.Spec PyProof.Rows L2
def worthL (ns : List Int) (x : Int) : Int := ns.foldl (fun t n => (t * x + n) % 97) 0
def sp_worth (K : PySem.W.Frag) : Sp := fun vs H Q _ => ∃ (a : Addr) (ns : List Int) (x : Int), vs = [.ref a, .int x] ∧ SqT K H a (ns.map V.int) ∧ Q (.int (worthL ns x)) H
def stepW (x : Int) (s : Int × Int) (n : Int) : Int × Int := ((s.1 + n * s.2) % 97, s.2 * x % 97)
def valL (x : Int) : List Int → Int
  | [] => 0
  | n :: r => n + x * valL x r
theorem stepW_fold (x : Int) : ∀ (rs : List Int) (f p : Int), 0 ≤ f → f < 97 → (rs.foldl (stepW x) (f, p)).1 = (f + p * valL x rs) % 97
  | [], f, p, h0, h1 => by
    show f = (f + p * 0) % 97
    rw [Int.mul_zero, Int.add_zero, Int.emod_eq_of_lt h0 h1]
  | n :: r, f, p, h0, h1 => by
    rw [List.foldl_cons]
    show (r.foldl (stepW x) ((f + n * p) % 97, p * x % 97)).1 = _
    rw [stepW_fold x r _ _ (Int.emod_nonneg _ (by decide)) (Int.emod_lt_of_pos _ (by decide))]
    rw [Int.add_emod, Int.mul_emod, Int.emod_emod, Int.emod_emod, ← Int.mul_emod, ← Int.add_emod]
    congr 1
    show f + n * p + p * x * valL x r = f + p * (n + x * valL x r)
    grind
theorem worthL_val (x : Int) (ns : List Int) : worthL ns x = valL x ns.reverse % 97 := by
  have key : ∀ rs : List Int, worthL rs.reverse x = valL x rs % 97 := by
    intro rs
    induction rs with
    | nil => rfl
    | cons n r ih =>
      rw [List.reverse_cons]
      unfold worthL at ih ⊢
      rw [List.foldl_append, List.foldl_cons, List.foldl_nil, ih]
      show (valL x r % 97 * x + n) % 97 = (n + x * valL x r) % 97
      rw [Int.add_emod, Int.mul_emod, Int.emod_emod, ← Int.mul_emod, ← Int.add_emod]
      congr 1
      grind
  have := key ns.reverse
  rwa [List.reverse_reverse] at this
theorem worthL_step (x : Int) (ns : List Int) : (ns.reverse.foldl (stepW x) (0, 1)).1 = worthL ns x := by
  rw [stepW_fold x _ 0 1 (by decide) (by decide), worthL_val]
  congr 1
  omega
def sp__law_worth (K : PySem.W.Frag) : Sp := fun vs H Q _ => ∃ (a : Addr) (ns : List Int) (x : Int), vs = [.ref a, .int x] ∧ SqT K H a (ns.map V.int) ∧ Q (.int (worthL ns x)) H
theorem worthL_take {ns : List Int} {i : Nat} {z x : Int} (h : ns[i]? = some z) : worthL (ns.take (i + 1)) x = (worthL (ns.take i) x * x + z) % 97 := by
  unfold worthL
  rw [List.take_add_one, h, List.foldl_append]
  rfl
theorem worthL_bd (ns : List Int) (x : Int) : 0 ≤ worthL ns x ∧ worthL ns x < 97 := by
  unfold worthL
  rcases List.eq_nil_or_concat ns with rfl | ⟨l, b, rfl⟩
  · exact ⟨Int.le_refl 0, by show (0:Int) < 97; decide⟩
  · rw [List.concat_eq_append, List.foldl_append]
    exact ⟨Int.emod_nonneg _ (by decide), Int.emod_lt_of_pos _ (by decide)⟩
def withN (row : List Int) (m : Int) : List Int := ((row ++ [0]).zip (0 :: row)).map fun p : Int × Int => (p.1 - m * p.2) % 97
theorem withN_len (row : List Int) (m : Int) : (withN row m).length = row.length + 1 := by
  unfold withN
  rw [List.length_map, List.length_zip, List.length_append, List.length_cons]
  show min (row.length + 1) (row.length + 1) = _
  rw [Nat.min_self]
def rowL (ms : List Int) : List Int := ms.foldl withN [1]
theorem rowL_take {ms : List Int} {i : Nat} {z : Int} (h : ms[i]? = some z) : rowL (ms.take (i + 1)) = withN (rowL (ms.take i)) z := by
  unfold rowL
  rw [List.take_add_one, h, List.foldl_append]
  rfl
theorem rowL_len (ms : List Int) : (rowL ms).length = ms.length + 1 := by
  have key : ∀ (l row : List Int), (l.foldl withN row).length = row.length + l.length := by
    intro l
    induction l with
    | nil => intro row; rfl
    | cons m r ih =>
      intro row
      rw [List.foldl_cons, ih, withN_len, List.length_cons]
      omega
  unfold rowL
  rw [key]
  show 1 + _ = _
  omega
def noughtsL (ns : List Int) : List Int := ((List.range 96).map fun i : Nat => 1 + (i : Int)).filter fun x => decide (worthL ns x = 0)
def sp_with_nought (K : PySem.W.Frag) : Sp := fun vs H Q _ => ∃ (a : Addr) (row : List Int) (m : Int), vs = [.ref a, .int m] ∧ SqL K H a (row.map V.int) ∧ row.length ≤ 1000 ∧ 0 ≤ m ∧ m ≤ 100 ∧
  ∀ D H', Same H H' → H D = none → H' D = some (.lst ((withN row m).map V.int)) → Q (.ref D) H'
def sp_row_of (K : PySem.W.Frag) (C : Addr) : Sp := fun vs H Q E => ∃ (a : Addr) (ms : List Int), vs = [.ref a] ∧ SqT K H a (ms.map V.int) ∧ (isSetB ms = false → E (.ref C) none H) ∧
  (isSetB ms = true → ∀ t H', Same H H' → H t = none → H' t = some (.tup ((rowL ms).map V.int)) → Q (.ref t) H')
def sp_noughts (K : PySem.W.Frag) : Sp := fun vs H Q _ => ∃ (a : Addr) (ns : List Int), vs = [.ref a] ∧ SqT K H a (ns.map V.int) ∧ ∀ t H', Same H H' → H t = none → H' t = some (.tup ((noughtsL ns).map V.int)) → Q (.ref t) H'
theorem int_filter {ns : List Int} {f : V → Bool} {g : Int → Bool} (h : ∀ z ∈ ns, f (.int z) = g z) : ((ns.map V.int).filter f).map (fun x => x) = (ns.filter g).map V.int := by
  rw [List.map_id']
  induction ns with
  | nil => rfl
  | cons x r ih =>
    have ih' := ih fun z hz => h z (List.mem_cons_of_mem _ hz)
    rw [List.map_cons, List.filter_cons, List.filter_cons, h x List.mem_cons_self]
    by_cases c : g x = true
    · rw [if_pos c, if_pos c, List.map_cons, ih']
    · rw [if_neg c, if_neg c, ih']
theorem rgL_ints (lo : Int) (n : Nat) : rgL lo n = ((List.range n).map fun i : Nat => lo + (i : Int)).map V.int := by
  unfold rgL
  rw [List.map_map]
  rfl
/-- a comprehension over zip of two lists of one length, without drawing -/
theorem lc_zipL {K : PySem.W.Frag} {a b : Addr} {xs ys : List V} {g : TG} {tt : TT} {te : TE} {vs : List Nat} {σ : L2.St} {H1 : Hp} {D : Addr} {Qd : Hp → Prop} (hl : xs.length = ys.length) (Pv : Nat → Hp → Prop) (h0 : Pv 0 (upd H1 D (.lst []))) (hq : ∀ i H, Pv i H → SqL K H a xs ∧ SqL K H b ys)
    (hs : ∀ i x y T H, xs[i]? = some x → ys[i]? = some y → H T = none → Pv i H → g (.ref T) (wipe σ vs) (upd H T (.tup [x, y])) fun σ2 H2 => wipe σ2 vs = wipe σ vs ∧ tt σ2 H2 fun b H3 =>
      if b = true then te σ2 H3 fun y H4 => ∃ acc, H4 D = some (.lst acc) ∧ acc.length < sizeLine ∧ Pv (i + 1) (upd H4 D (.lst (acc ++ [y]))) else Pv (i + 1) H3) (hd : ∀ H, Pv xs.length H → Qd H) :
    ∃ W : Nat → Nat → Hp → Prop, (∃ m, W 0 m (upd H1 D (.lst []))) ∧ ∀ i m H, W i m H →
      ((Itz K a b).stop i H ∧ Qd H) ∨ ((Itz K a b).go i H ∧ ∃ Nx : Hp → Prop, (∀ H', Nx H' → ∃ m', m' < m ∧ W (i + 1) m' H') ∧ ∀ x H', (Itz K a b).yld i H x H' → g x (wipe σ vs) H' fun σ2 H2 => wipe σ2 vs = wipe σ vs ∧ tt σ2 H2 fun b H3 =>
        if b = true then te σ2 H3 fun y H4 => ∃ acc, H4 D = some (.lst acc) ∧ acc.length < sizeLine ∧ Nx (upd H4 D (.lst (acc ++ [y]))) else Nx H3) := by
  refine ⟨fun i m H => m + i = xs.length ∧ Pv i H, ⟨xs.length, rfl, h0⟩, ?_⟩
  rintro i m H ⟨hm, p⟩
  obtain ⟨hx, hy⟩ := hq i H p
  by_cases hi : i < xs.length
  · have gx : xs[i]? = some xs[i] := List.getElem?_eq_getElem hi
    have gy : ys[i]? = some ys[i] := List.getElem?_eq_getElem (hl ▸ hi)
    refine .inr ⟨⟨xs, ys, _, _, hx, hy, gx, gy⟩, Pv (i + 1), fun H' p' => ⟨m - 1, by omega, by omega, p'⟩, ?_⟩
    rintro v H' ⟨T, x, y, rfl, hT, rfl, f1, f2⟩
    exact hs i x y T H (f1 _ hx) (f2 _ hy) hT p
  · have e : i = xs.length := by omega
    subst e
    exact .inl ⟨⟨xs, ys, hx, hy, .inl (Nat.le_refl _)⟩, hd H p⟩
end My
namespace My
open PySem PySem.Spec PyProof.Rows L2
theorem filt_no {α : Type} (xs : List α) : (xs.filter fun _ => false) = [] := List.filter_eq_nil_iff.mpr fun _ _ h => nomatch h
/-! ### == of lists and tuples of ints -/
theorem dpInts {K : PySem.W.Frag} {H : Hp} : ∀ ns : List Int, DpAll K H (ns.map V.int) (ns.map PyData.int)
  | [] => .nil
  | _ :: r => .cons (.int _) (dpInts r)
theorem lay_ints : ∀ ns : List Int, PyData.canLayAll0 (ns.map PyData.int) = true
  | [] => by simp [PyData.canLayAll0]
  | n :: r => by simp [PyData.canLayAll0, PyData.canLay0, lay_ints r]
theorem depth_ints : ∀ ns : List Int, PyData.depthAll (ns.map PyData.int) ≤ 1
  | [] => by simp [PyData.depthAll]
  | n :: r => by
    have h := depth_ints r
    simp only [List.map_cons, PyData.depthAll, PyData.depth]
    omega
theorem shaped_tup (ns : List Int) : SeqAt.shaped (.tuple (ns.map PyData.int)) = true := by
  have h := depth_ints ns
  show (_ && decide (_ ≤ 64)) = true
  rw [Bool.and_eq_true]
  exact ⟨by simp only [PyData.canLay0]; exact lay_ints ns, decide_eq_true (by simp only [PyData.depth]; omega)⟩
theorem shaped_lst (ns : List Int) : SeqAt.shaped (.list (ns.map PyData.int)) = true := by
  have h := depth_ints ns
  show (_ && decide (_ ≤ 64)) = true
  rw [Bool.and_eq_true]
  exact ⟨by simp only [PyData.canLay0]; exact lay_ints ns, decide_eq_true (by simp only [PyData.depth]; omega)⟩
theorem eqv_ints : ∀ ns ms : List Int, PyData.eqvAll (ns.map PyData.int) (ms.map PyData.int) = decide (ns = ms)
  | [], [] => by simp [PyData.eqvAll]
  | [], m :: r => by simp [PyData.eqvAll]
  | n :: r, [] => by simp [PyData.eqvAll]
  | n :: r, m :: t => by
    simp only [List.map_cons, PyData.eqvAll, PyData.eqv, eqv_ints r t, List.cons.injEq, Bool.decide_and]
    rfl
theorem eqv_tup (ns ms : List Int) : PyData.eqv (.tuple (ns.map PyData.int)) (.tuple (ms.map PyData.int)) = decide (ns = ms) := by
  rw [PyData.eqv]
  exact eqv_ints ns ms
theorem eqv_lst (ns ms : List Int) : PyData.eqv (.list (ns.map PyData.int)) (.list (ms.map PyData.int)) = decide (ns = ms) := by
  rw [PyData.eqv]
  exact eqv_ints ns ms
/-- t != u, t == u: tuples, lists of ints -/
theorem neT {K : PySem.W.Frag} {H : Hp} {a b : Addr} {ns ms : List Int} {Q : VK} (ha : SqT K H a (ns.map V.int)) (hb : SqT K H b (ms.map V.int)) (q : Q (.bl (!decide (ns = ms))) H) : rNeD K (.ref a) (.ref b) H Q :=
  ⟨_, _, .tup ha (dpInts ns), .tup hb (dpInts ms), shaped_tup ns, shaped_tup ms, by rw [eqv_tup]; exact q⟩
theorem eqT {K : PySem.W.Frag} {H : Hp} {a b : Addr} {ns ms : List Int} {Q : VK} (ha : SqT K H a (ns.map V.int)) (hb : SqT K H b (ms.map V.int)) (q : Q (.bl (decide (ns = ms))) H) : rEqD K (.ref a) (.ref b) H Q :=
  ⟨_, _, .tup ha (dpInts ns), .tup hb (dpInts ms), shaped_tup ns, shaped_tup ms, by rw [eqv_tup]; exact q⟩
theorem neL {K : PySem.W.Frag} {H : Hp} {a b : Addr} {ns ms : List Int} {Q : VK} (ha : SqL K H a (ns.map V.int)) (hb : SqL K H b (ms.map V.int)) (q : Q (.bl (!decide (ns = ms))) H) : rNeD K (.ref a) (.ref b) H Q :=
  ⟨_, _, .lst ha (dpInts ns), .lst hb (dpInts ms), shaped_lst ns, shaped_lst ms, by rw [eqv_lst]; exact q⟩
theorem eqL {K : PySem.W.Frag} {H : Hp} {a b : Addr} {ns ms : List Int} {Q : VK} (ha : SqL K H a (ns.map V.int)) (hb : SqL K H b (ms.map V.int)) (q : Q (.bl (decide (ns = ms))) H) : rEqD K (.ref a) (.ref b) H Q :=
  ⟨_, _, .lst ha (dpInts ns), .lst hb (dpInts ms), shaped_lst ns, shaped_lst ms, by rw [eqv_lst]; exact q⟩
end My
namespace L2
open PySem PySem.Spec PyProof.Rows
/-! ### tuple * 0, tuple * 1 -/
theorem tmul_one (l : Addr) (items : Array Value) (n : Nat) (dd : Option Addr) (sl : Array (Option Value)) (u : Tok) :
    Meets (Builtin.«tuple.__mul__» ⟨[.ref l, .int 1 u], []⟩) (fun _ R s => s.heap.get? l = some { cls := .type "tuple", dict := dd, data := .seq items n, slots := sl } ∧ R (.ok (.ret (Value.ref l))) s) :=
  .of_wp fun prog w A R s h => by
    obtain ⟨hp, g, d, tk, os⟩ := s
    obtain ⟨hl, h⟩ := h
    have f1 := AutoSeq1.idx_int
    have c1 : (items.isEmpty || (1 : Int) == 1) = true := by simp
    wp_walk using wpAny_loadPart' hl
    repeat (first
      | (refine wpAny_ite_false (by decide) ?_; wp_walk using wpAny_loadPart' hl)
      | (refine wpAny_ite_true (by rw [c1]) ?_; wp_walk using wpAny_loadPart' hl))
    exact ⟨_, rfl, h⟩
theorem tmul_zero (l : Addr) (items : Array Value) (n : Nat) (dd : Option Addr) (sl : Array (Option Value)) (u : Tok) (hne : items.isEmpty = false) :
    Meets (Builtin.«tuple.__mul__» ⟨[.ref l, .int 0 u], []⟩) (fun _ R s => s.heap.get? l = some { cls := .type "tuple", dict := dd, data := .seq items n, slots := sl } ∧
      R (.ok (.ret (Value.ref s.heap.objs.size))) { s with heap := s.heap.push { cls := Value.type "tuple", data := Data.seq #[] }, toks := s.toks }) :=
  .of_wp fun prog w A R s h => by
    obtain ⟨hp, g, d, tk, os⟩ := s
    obtain ⟨hl, h⟩ := h
    have f1 := AutoSeq1.idx_int
    have c1 : ¬ ((items.isEmpty || (0 : Int) == 1) = true) := by rw [hne]; decide
    have c2 : (decide ((0 : Int) ≤ 0) || items.isEmpty) = true := rfl
    wp_walk using wpAny_loadPart' hl
    repeat (first
      | (refine wpAny_ite_false (by decide) ?_; wp_walk using wpAny_loadPart' hl)
      | (refine wpAny_ite_false (decide_eq_false c1) ?_; wp_walk using wpAny_loadPart' hl)
      | (refine wpAny_ite_true (decide_eq_true c2) ?_; wp_walk using wpAny_loadPart' hl))
    exact ⟨_, rfl, h⟩
/-- t * k, k from 0 to 1000, t not empty -/
def rTMul (K : PySem.W.Frag) : R2 := fun x y H Q => ∃ l k xs, x = .ref l ∧ y = .int k ∧ SqT K H l xs ∧ xs ≠ [] ∧ 0 ≤ k ∧ k ≤ 1000 ∧ xs.length ≤ 1000 ∧ (k = 1 → Q (.ref l) H) ∧ (k ≠ 1 → ∀ p, H p = none → Q (.ref p) (upd H p (.tup (List.replicate k.toNat xs).flatten)))
section
variable {X : Cx}
theorem op_tmul : OpR X (binaryOp .Mult) (rTMul X.K) := by
  intro pins s σ H x y v u Q I rx ry h
  obtain ⟨l, k, xs, rfl, rfl, hT, hne, h0, h1, hz, q1, q2⟩ := h
  by_cases c2 : 2 ≤ k
  · exact op_repT pins s σ H _ _ v u Q I rx ry ⟨l, k, xs, rfl, rfl, hT, hne, c2, h1, hz, q2 (by omega)⟩
  cases rx
  obtain ⟨t, rfl⟩ := ry
  obtain ⟨its, r, ⟨⟨cls, dd, data, sl⟩, ho, hc, n, hd⟩, hs⟩ := I.tuple hT
  dsimp only at hc hd
  subst hc hd
  have hi : its.toArray.isEmpty = false := by
    cases its with
    | nil =>
      cases r
      exact absurd rfl hne
    | cons a b => rfl
  refine wpAny_binaryOp_repeat_ref (T := "tuple") (U := "int") (by decide) ⟨_, ho, rfl⟩ (fun s' => typeIs_int s' k t) noFill_tuple_mul F.fills_int_mul F.slot_int_rmul repeat_tuple F.slot_int_index.lookup
    (call_meets F.slot_int_rmul (typeIs_int s k t) F.entry_int_rmul (F.args_int_rmul_2 _ _) (int_rmul_tuple k t l its.toArray n dd sl) ⟨ho, rfl, ⟨_, ho, rfl⟩, ?_⟩)
  rcases (by omega : k = 0 ∨ k = 1) with rfl | rfl
  · refine call_meets F.slot_tuple_mul ⟨_, ho, rfl⟩ F.entry_tuple_mul (F.args_tuple_mul_2 _ _) (tmul_zero l its.toArray n dd sl t hi) ⟨ho, ?_⟩
    refine ⟨.ref s.heap.objs.size, _, I.laid (t' := s.toks) (o := .tup []) (fun b ob q => Heap.get?_push_of_some _ q) (Nat.le_refl _) ?_, rfl, q2 (by decide) _ (I.hok.fresh (Nat.le_refl _))⟩
    exact ⟨Nat.zero_le _, [], .nil, IsTup.new _ _⟩
  · refine call_meets F.slot_tuple_mul ⟨_, ho, rfl⟩ F.entry_tuple_mul (F.args_tuple_mul_2 _ _) (tmul_one l its.toArray n dd sl t) ⟨ho, ?_⟩
    exact ⟨.ref l, H, I.tok _, rfl, q1 rfl⟩
end
end L2
namespace My
open PySem PySem.Spec PyProof.Rows L2
/-- a law's number: not beyond 10 ^ 60 -/
def sp__law_number (K : PySem.W.Frag) : Sp := fun vs H Q _ => ∃ (a st : Addr), vs = [.ref st] ∧ StAt K a st H ∧ ∀ (v : Int) H', Go K st H H' → Q (.int v) H'
def sp__law_times (K : PySem.W.Frag) : Sp := fun vs H Q _ => ∃ (a b : Addr) (xs ys : List Int), vs = [.ref a, .ref b] ∧ SqT K H a (xs.map V.int) ∧ SqT K H b (ys.map V.int) ∧ xs ≠ [] ∧ ys ≠ [] ∧ xs.length ≤ 300 ∧ ys.length ≤ 300 ∧ (∀ y ∈ ys, -1000 ≤ y ∧ y ≤ 1000) ∧
  ∀ (t : Addr) (zs : List Int) H', Same H H' → H t = none → H' t = some (.tup (zs.map V.int)) → zs.length + 1 = xs.length + ys.length → Q (.ref t) H'
def sp__law_row (K : PySem.W.Frag) : Sp := fun vs H Q _ => ∃ (a st : Addr), vs = [.ref st] ∧ StAt K a st H ∧ ∀ (t : Addr) (ns : List Int) H', Go K st H H' → SqT K H' t (ns.map V.int) → ns.length ≤ 300 → Q (.ref t) H'
def sp_law (K : PySem.W.Frag) : Sp := fun vs H Q _ => ∃ (a : Addr) (ns : List Int), vs = [.ref a] ∧ SqL K H a (ns.map V.int) ∧ ns.length ≤ 63 ∧ ∀ H', Q (.bl true) H'
theorem ixN_of {n j : Nat} {z : Int} (e : z = (j : Int)) (h : j < n) : ixN n z = some j := by
  subst e
  unfold ixN
  rw [if_pos (by omega), if_pos (by omega)]
  simp
theorem tup_upd {K : PySem.W.Frag} {H : Hp} {D b : Addr} {acc acc' xs : List V} (hD : H D = some (.lst acc)) (h : SqT K H b xs) : SqT K (upd H D (.lst acc')) b xs := by
  rcases h with (h | ⟨o, h⟩) | h
  · have hne : b ≠ D := fun z => by
      rw [z, hD] at h
      cases h
    exact .inl (.inl (by rw [upd_ne hne]; exact h))
  · have hne : b ≠ D := fun z => by
      rw [z, hD] at h
      cases h
    exact .inl (.inr ⟨o, by rw [upd_ne hne]; exact h⟩)
  · exact .inr h
theorem ne_len {α : Type} {l : List α} {n : Nat} (h : l.length = n + 1) : l ≠ [] := fun e => by
  rw [e] at h
  cases h
/-- t + u, tuples of ints -/
theorem catA_ints {K : PySem.W.Frag} {H : Hp} {z t : Addr} {zs ns : List Int} {Q : VK} (hz : SqT K H z (zs.map V.int)) (ht : SqT K H t (ns.map V.int)) (hl : zs.length + ns.length ≤ 1000)
    (k : ∀ (w : Addr) (H' : Hp), Same H H' → SqT K H' w ((zs ++ ns).map V.int) → Q (.ref w) H') : rCatA K (.ref z) (.ref t) H Q := by
  refine ⟨z, t, zs.map V.int, ns.map V.int, rfl, rfl, hz, ht, ?_, fun e => ?_, fun _ e => ?_, fun _ _ p hp => k p _ (same_upd hp) (SqT.of ?_)⟩
  · rw [List.length_map, List.length_map]
    exact Nat.le_trans hl (by decide)
  · rw [List.map_eq_nil_iff] at e
    refine k t H (Same.refl H) ?_
    rw [e]
    exact ht
  · rw [List.map_eq_nil_iff] at e
    refine k z H (Same.refl H) ?_
    rw [e, List.append_nil]
    exact hz
  · rw [upd_same, List.map_append]
/-- a value that is a tuple of ints -/
def IsTupI (K : PySem.W.Frag) (H : Hp) (v : V) : Prop := ∃ (t : Addr) (ns : List Int), v = .ref t ∧ SqT K H t (ns.map V.int) ∧ ns.length ≤ 300
/-- [f(..) for x in range(n)], each a tuple of ints, drawing meanwhile -/
theorem lc_tups {K : PySem.W.Frag} {st a D : Addr} {H : Hp} {te : TE} {σ : L2.St} {vs : List Nat} {j : Nat} {lo : Int} {n : Nat} {Qd : Hp → Prop} (hS : StAt K a st H) (hD : H D = none) (hn : n ≤ 10000)
    (hw : ∀ x, wipe ((wipe σ vs).set j (some x)) vs = wipe σ vs)
    (ht : ∀ (i : Nat) (H1 : Hp), i < n → Go K st H H1 → ∀ Q : VK, (∀ (v : V) (H2 : Hp), IsTupI K H2 v → Go K st H1 H2 → Q v H2) → te ((wipe σ vs).set j (some (.int (lo + (i : Int))))) H1 Q)
    (q : ∀ (ws : List V) (H' : Hp), ws.length = n → (∀ v ∈ ws, IsTupI K H' v) → Go K st H H' → H' D = some (.lst ws) → Qd H') :
    ∃ W : Nat → Nat → Hp → Prop, (∃ m, W 0 m (upd H D (.lst []))) ∧ ∀ i m H, W i m H →
      ((Itr lo n).stop i H ∧ Qd H) ∨ ((Itr lo n).go i H ∧ ∃ Nx : Hp → Prop, (∀ H', Nx H' → ∃ m', m' < m ∧ W (i + 1) m' H') ∧ ∀ x H', (Itr lo n).yld i H x H' → (gName j) x (wipe σ vs) H' fun σ2 H2 => wipe σ2 vs = wipe σ vs ∧ tYes σ2 H2 fun b H3 =>
        if b = true then te σ2 H3 fun y H4 => ∃ acc, H4 D = some (.lst acc) ∧ acc.length < sizeLine ∧ Nx (upd H4 D (.lst (acc ++ [y]))) else Nx H3) := by
  refine lc_range (fun i H' => ∃ ws : List V, ws.length = i ∧ (∀ v ∈ ws, IsTupI K H' v) ∧ Go K st H H' ∧ H' D = some (.lst ws)) ⟨[], rfl, (fun _ z => nomatch z), Go.new hD, upd_same⟩ ?_ ?_
  · rintro i H1 hi ⟨ws, hl, hP, g, hd⟩
    refine ⟨hw _, ?_⟩
    show te ((wipe σ vs).set j (some (.int (lo + (i : Int))))) H1 _
    refine ht i H1 hi g _ fun v H2 hv g2 => ?_
    have hd2 : H2 D = some (.lst ws) := g2.keep _ _ (hS.fresh hD) hd
    have up : ∀ u, IsTupI K H2 u → IsTupI K (upd H2 D (.lst (ws ++ [v]))) u := fun u ⟨t, ns, e, h, hl⟩ => ⟨t, ns, e, tup_upd hd2 h, hl⟩
    refine ⟨_, hd2, ?_, ws ++ [v], ?_, ?_, (g.trans g2).mut hS hD, upd_same⟩
    · exact Nat.lt_of_lt_of_le (by omega : ws.length < 10000) (by decide)
    · rw [List.length_append, hl]
      rfl
    · intro z hz
      rcases List.mem_append.mp hz with h | h
      · obtain ⟨t, ns, e, h', hl'⟩ := hP z h
        exact up z ⟨t, ns, e, g2.seqT (g.st _ hS) h', hl'⟩
      · rw [List.mem_singleton.mp h]
        exact up v hv
  · rintro H' ⟨ws, hl, hP, g, hd⟩
    exact q ws H' hl hP g hd
end My
namespace My
open PySem PySem.Spec PyProof.Rows L2
/-! ### the text -/
def topS (i : Nat) : Stmt := PySem.Challenge.pw_setmend_k04_noughts_of_any_row.main.body.getD i (.Pass ⟨0, 0, 0, 0⟩)
abbrev s_worth : Stmt := topS 3
theorem sc_worth : FnScope ["row", "x", "total", "number"] ["row", "x"] (defScope s_worth) := ⟨rfl, rfl, rfl, by decide +kernel, rfl, by decide +kernel, by decide +kernel⟩
abbrev s_noughts : Stmt := topS 4
theorem sc_noughts : FnScope ["row", "mark"] ["row"] (defScope s_noughts) := ⟨rfl, rfl, rfl, by decide +kernel, rfl, by decide +kernel, by decide +kernel⟩
abbrev s__law_start : Stmt := topS 6
theorem sc__law_start : FnScope ["_law_script", "_law_mixed", "_law_cell"] ["_law_script"] (defScope s__law_start) := ⟨rfl, rfl, rfl, by decide +kernel, rfl, by decide +kernel, by decide +kernel⟩
abbrev s__law_drawn : Stmt := topS 7
theorem sc__law_drawn : FnScope ["_law_state", "_law_many", "_law_found", "_law_cell"] ["_law_state", "_law_many"] (defScope s__law_drawn) := ⟨rfl, rfl, rfl, by decide +kernel, rfl, by decide +kernel, by decide +kernel⟩
abbrev s__law_set : Stmt := topS 8
theorem sc__law_set : FnScope ["_law_state", "_law_most", "_law_many", "_law_first", "_law_step", "_law_k"] ["_law_state", "_law_most"] (defScope s__law_set) := ⟨rfl, rfl, rfl, by decide +kernel, rfl, by decide +kernel, by decide +kernel⟩
abbrev s__law_number : Stmt := topS 9
theorem sc__law_number : FnScope ["_law_state", "_law_far"] ["_law_state"] (defScope s__law_number) := ⟨rfl, rfl, rfl, by decide +kernel, rfl, by decide +kernel, by decide +kernel⟩
abbrev s__law_worth : Stmt := topS 10
theorem sc__law_worth : FnScope ["_law_row_here", "_law_x", "_law_found", "_law_power", "_law_number_here"] ["_law_row_here", "_law_x"] (defScope s__law_worth) := ⟨rfl, rfl, rfl, by decide +kernel, rfl, by decide +kernel, by decide +kernel⟩
abbrev s__law_times : Stmt := topS 11
theorem sc__law_times : FnScope ["_law_one", "_law_other", "_law_k", "_law_found", "_law_j"] ["_law_one", "_law_other"] (defScope s__law_times) := ⟨rfl, rfl, rfl, by decide +kernel, rfl, by decide +kernel, by decide +kernel⟩
abbrev s__law_row : Stmt := topS 12
theorem sc__law_row : FnScope ["_law_state", "_law_row_here", "_law_mark", "_law_times_here", "_law_k"] ["_law_state"] (defScope s__law_row) := ⟨rfl, rfl, rfl, by decide +kernel, rfl, by decide +kernel, by decide +kernel⟩
abbrev s_law : Stmt := topS 13
theorem sc_law : FnScope ["_law_script", "_law_state", "_law_row_here", "_law_found", "_law_turn", "_law_mark", "_law_x"] ["_law_script"] (defScope s_law) := ⟨rfl, rfl, rfl, by decide +kernel, rfl, by decide +kernel, by decide +kernel⟩
structure Ad where
  f_worth : Addr
  d_worth : FuncData
  f_noughts : Addr
  d_noughts : FuncData
  f__law_start : Addr
  d__law_start : FuncData
  f__law_drawn : Addr
  d__law_drawn : FuncData
  f__law_set : Addr
  d__law_set : FuncData
  f__law_number : Addr
  d__law_number : FuncData
  f__law_worth : Addr
  d__law_worth : FuncData
  f__law_times : Addr
  d__law_times : FuncData
  f__law_row : Addr
  d__law_row : FuncData
  f_law : Addr
  d_law : FuncData
  t_LAST_MARK : Nat
  t_WHEEL : Nat
structure Txt (K : PySem.W.Frag) (mg : Str → Option Value) (A : Ad) : Prop where
  F_worth : Fun K "worth" "worth" s_worth A.f_worth A.d_worth
  k_worth : PySem.W.keepIn K (.ref A.f_worth) = true
  g_worth : mg "worth" = some (.ref A.f_worth)
  b_worth : Binds K A.d_worth ["row", "x"] []
  F_noughts : Fun K "noughts" "noughts" s_noughts A.f_noughts A.d_noughts
  k_noughts : PySem.W.keepIn K (.ref A.f_noughts) = true
  g_noughts : mg "noughts" = some (.ref A.f_noughts)
  b_noughts : Binds K A.d_noughts ["row"] []
  F__law_start : Fun K "_law_start" "_law_start" s__law_start A.f__law_start A.d__law_start
  k__law_start : PySem.W.keepIn K (.ref A.f__law_start) = true
  g__law_start : mg "_law_start" = some (.ref A.f__law_start)
  b__law_start : Binds K A.d__law_start ["_law_script"] []
  F__law_drawn : Fun K "_law_drawn" "_law_drawn" s__law_drawn A.f__law_drawn A.d__law_drawn
  k__law_drawn : PySem.W.keepIn K (.ref A.f__law_drawn) = true
  g__law_drawn : mg "_law_drawn" = some (.ref A.f__law_drawn)
  b__law_drawn : Binds K A.d__law_drawn ["_law_state", "_law_many"] []
  F__law_set : Fun K "_law_set" "_law_set" s__law_set A.f__law_set A.d__law_set
  k__law_set : PySem.W.keepIn K (.ref A.f__law_set) = true
  g__law_set : mg "_law_set" = some (.ref A.f__law_set)
  b__law_set : Binds K A.d__law_set ["_law_state", "_law_most"] []
  F__law_number : Fun K "_law_number" "_law_number" s__law_number A.f__law_number A.d__law_number
  k__law_number : PySem.W.keepIn K (.ref A.f__law_number) = true
  g__law_number : mg "_law_number" = some (.ref A.f__law_number)
  b__law_number : Binds K A.d__law_number ["_law_state"] []
  F__law_worth : Fun K "_law_worth" "_law_worth" s__law_worth A.f__law_worth A.d__law_worth
  k__law_worth : PySem.W.keepIn K (.ref A.f__law_worth) = true
  g__law_worth : mg "_law_worth" = some (.ref A.f__law_worth)
  b__law_worth : Binds K A.d__law_worth ["_law_row_here", "_law_x"] []
  F__law_times : Fun K "_law_times" "_law_times" s__law_times A.f__law_times A.d__law_times
  k__law_times : PySem.W.keepIn K (.ref A.f__law_times) = true
  g__law_times : mg "_law_times" = some (.ref A.f__law_times)
  b__law_times : Binds K A.d__law_times ["_law_one", "_law_other"] []
  F__law_row : Fun K "_law_row" "_law_row" s__law_row A.f__law_row A.d__law_row
  k__law_row : PySem.W.keepIn K (.ref A.f__law_row) = true
  g__law_row : mg "_law_row" = some (.ref A.f__law_row)
  b__law_row : Binds K A.d__law_row ["_law_state"] []
  F_law : Fun K "law" "law" s_law A.f_law A.d_law
  k_law : PySem.W.keepIn K (.ref A.f_law) = true
  g_law : mg "law" = some (.ref A.f_law)
  b_law : Binds K A.d_law ["_law_script"] []
  c_LAST_MARK : mg "LAST_MARK" = some (.int 96 A.t_LAST_MARK)
  c_WHEEL : mg "WHEEL" = some (.int 97 A.t_WHEEL)
  z_bool : mg "bool" = none
  z_isinstance : mg "isinstance" = none
  z_len : mg "len" = none
  z_range : mg "range" = none
  z_reversed : mg "reversed" = none
  z_set : mg "set" = none
  z_sorted : mg "sorted" = none
  z_tuple : mg "tuple" = none
section
variable {P : Program} {w : World} {K : PySem.W.Frag} {mg : Str → Option Value} {base : Heap} {A : Ad}
/-! ### worth: slots 0 row, 1 x, 2 total, 3 number -/

theorem ok_worth (T : Txt K mg A) : FnOk P w K mg base CX0 1 A.f_worth A.d_worth ["row", "x"] (sp_worth K) := by
  refine T.F_worth.ok sc_worth (fun vs H Q E h => by first | (obtain ⟨_, rfl, _⟩ := h; rfl) | (obtain ⟨_, _, rfl, _⟩ := h; rfl) | (obtain ⟨_, _, _, rfl, _⟩ := h; rfl) | (obtain ⟨_, _, _, _, rfl, _⟩ := h; rfl) | (obtain ⟨_, _, _, _, _, rfl, _⟩ := h; rfl) | (obtain ⟨_, _, _, _, _, _, rfl, _⟩ := h; rfl) | (obtain ⟨_, _, _, _, _, _, _, rfl, _⟩ := h; rfl)) (fun cdv AA outer s H vs Q E hr h => ?_)
  refine ⟨_, (pss_cons (ps_set (i := 2) sc_worth.nd rfl (.inl rfl) pe_int)
      (pss_cons (ps_for PassesOwn.never rfl (pi_tup (pv 0)) (pg_name (i := 3) sc_worth.nd rfl (.inl rfl))
        (pss_one (ps_set (i := 2) sc_worth.nd rfl (.inl rfl) (pe_op op_mod (pe_op op_add (pe_op op_mul (pv 2) (pv 1)) (pv 3)) (pe_glob (v := .int 97) rfl T.c_WHEEL ⟨_, rfl⟩)))))
      (pss_one (ps_ret (pv 2))))), ?_⟩
  obtain ⟨a, ns, x, rfl, hS, q⟩ := h
  refine ⟨_, rfl, a, rfl, ⟨_, hS⟩, for_tup (K := K) (a := a) (xs := ns.map V.int) (fun i σ H' => ∃ v, σ = [some (.ref a), some (.int x), some (.int (worthL (ns.take i) x)), v] ∧ H' = H) ⟨none, rfl, rfl⟩ (fun i σ H' _ ⟨_, _, e⟩ => e ▸ hS) ?_ ?_⟩
  · rintro i y σ H' hi ⟨v, rfl, rfl⟩
    obtain ⟨z, hz, rfl⟩ := int_at hi
    have hb := worthL_bd (ns.take i) x
    refine ⟨_, rfl, _, rfl, _, _, rfl, rfl, .inl ⟨by omega, by omega⟩, _, rfl, _, _, rfl, rfl, _, _, rfl, rfl, by show (0:Int) < _; decide, ?_⟩
    refine ⟨some (.int z), ?_, rfl⟩
    rw [worthL_take hz]
    rfl
  · rintro σ H' ⟨v, rfl, rfl⟩
    refine ⟨_, rfl, ?_⟩
    rw [List.length_map, List.take_length]
    exact q
/-! ### noughts: slots 0 row, 1 mark -/

theorem ok_noughts (T : Txt K mg A) : FnOk P w K mg base CX0 2 A.f_noughts A.d_noughts ["row"] (sp_noughts K) := by
  refine T.F_noughts.ok sc_noughts (fun vs H Q E h => by first | (obtain ⟨_, rfl, _⟩ := h; rfl) | (obtain ⟨_, _, rfl, _⟩ := h; rfl) | (obtain ⟨_, _, _, rfl, _⟩ := h; rfl) | (obtain ⟨_, _, _, _, rfl, _⟩ := h; rfl) | (obtain ⟨_, _, _, _, _, rfl, _⟩ := h; rfl) | (obtain ⟨_, _, _, _, _, _, rfl, _⟩ := h; rfl) | (obtain ⟨_, _, _, _, _, _, _, rfl, _⟩ := h; rfl)) (fun cdv AA outer s H vs Q E hr h => ?_)
  refine ⟨_, (pss_one (ps_ret (pe_callTy call_tuple_of (by rfl) T.z_tuple (by decide +kernel) (pa_cons (pe_lc (own := [("mark", 1)]) (g := gName 1)  rfl sc_noughts.nd (pi_range2 (by rfl) T.z_range (pa_cons pe_int (pa_cons (pe_op op_add (pe_glob (v := .int 96) rfl T.c_LAST_MARK ⟨_, rfl⟩) pe_int) pa_nil))) (blkOk_by (own := [("mark", 1)]) (N := ["row", "mark"]) (sc := defScope s_noughts) (by decide +kernel)) (fun _ _ _ _ _ => pg_name (i := 1) sc_noughts.nd rfl (Or.inl rfl)) (fun _ _ _ _ _ => (pts_one (pt_cmpR op_eq (pe_call (ok_worth T) (hr.mono (by decide)) (by rfl) T.g_worth T.k_worth T.b_worth .nil pass0 (pa_cons (pv 0) (pa_cons (pv 1) pa_nil))) pe_int (nomark _)))) (fun _ _ _ _ _ => (pv 1))) pa_nil)))), ?_⟩
  obtain ⟨a, ns, rfl, hS, q⟩ := h
  refine ⟨_, _, rfl, rfl, 1, 97, rfl, ⟨by decide, by decide, by decide, by decide⟩, fun D hD => lc_pureR (lo := 1) (n := 96) (fun v => match v with | .int x => decide (worthL ns x = 0) | _ => false) (fun v => v) hD (by decide) (fun _ => rfl) ?_ ?_ ?_⟩
  · intro i hi H2 s2 Q' q'
    refine ⟨_, rfl, _, rfl, a, ns, _, rfl, seqT_same s2 hS, rfl, _, rfl, ?_⟩
    have e : decide (V.int (worthL ns (1 + (i : Int))) = V.int 0) = decide (worthL ns (1 + (i : Int)) = 0) := decide_eq_decide.mpr ⟨fun h => V.int.inj h, fun h => congrArg V.int h⟩
    rw [e]
    exact q' H2 (Same.refl _)
  · intro i hi hc H2 s2 Q' q'
    exact ⟨_, rfl, q' H2 (Same.refl _)⟩
  · intro H' sm hd
    rw [rgL_ints, int_filter (g := fun x => decide (worthL ns x = 0)) (fun _ _ => rfl)] at hd
    exact ⟨D, _, rfl, .inl ⟨SqL.of hd, fun t ht => q t _ (sm.trans (same_upd ht)) (sm.free ht) upd_same⟩⟩
/-! ### _law_start: slots 0 _law_script, 1 _law_mixed, 2 _law_cell -/

theorem ok__law_start (T : Txt K mg A) : FnOk P w K mg base CX0 1 A.f__law_start A.d__law_start ["_law_script"] (sp__law_start K) := by
  refine T.F__law_start.ok sc__law_start (fun vs H Q E h => by first | (obtain ⟨_, rfl, _⟩ := h; rfl) | (obtain ⟨_, _, rfl, _⟩ := h; rfl) | (obtain ⟨_, _, _, rfl, _⟩ := h; rfl) | (obtain ⟨_, _, _, _, rfl, _⟩ := h; rfl) | (obtain ⟨_, _, _, _, _, rfl, _⟩ := h; rfl) | (obtain ⟨_, _, _, _, _, _, rfl, _⟩ := h; rfl) | (obtain ⟨_, _, _, _, _, _, _, rfl, _⟩ := h; rfl)) (fun cdv AA outer s H vs Q E hr h => ?_)
  refine ⟨_, (pss_cons (ps_set (i := 1) sc__law_start.nd rfl (.inl rfl) pe_int)
      (pss_cons (ps_for PassesOwn.never rfl (pi_list (pv 0)) (pg_name (i := 2) sc__law_start.nd rfl (.inl rfl))
        (pss_one (ps_set (i := 1) sc__law_start.nd rfl (.inl rfl) (pe_op op_mod (pe_op op_add (pe_op op_add (pe_op op_mul (pv 1) pe_int) (pv 2)) pe_int) pe_int))))
      (pss_one (ps_ret (pe_lst (pa_cons (pv 0) (pa_cons pe_int (pa_cons (pv 1) (pa_cons pe_int pa_nil))))))))), ?_⟩
  obtain ⟨a, ns, rfl, hS, q⟩ := h
  refine ⟨_, rfl, a, rfl, ⟨_, hS⟩, for_list (K := K) (a := a) (xs := ns.map V.int) (fun i σ H' => ∃ (m : Int) (v : Option V), σ = [some (.ref a), some (.int m), v] ∧ H' = H) ⟨1, none, rfl, rfl⟩ (fun i σ H' _ ⟨_, _, _, e⟩ => e ▸ hS) ?_ ?_⟩
  · rintro i y σ H' hi ⟨m, v, rfl, rfl⟩
    obtain ⟨z, hz, rfl⟩ := int_at hi
    exact ⟨_, rfl, _, _, rfl, rfl, .inr ⟨by decide, by decide⟩, _, rfl, _, _, rfl, rfl, _, _, rfl, rfl, _, _, rfl, rfl, by show (0:Int) < _; decide, _, _, rfl, rfl⟩
  · rintro σ H' ⟨m, v, rfl, rfl⟩
    refine ⟨_, rfl, _, rfl, by show 4 ≤ sizeLine; decide, fun p hp => ?_⟩
    exact q p _ hp (same_upd hp) ⟨⟨0, m, 0, Int.le_refl 0, upd_same⟩, ns, (same_upd hp).seq hS⟩
/-! ### _law_drawn: slots 0 _law_state, 1 _law_many, 2 _law_found, 3 _law_cell -/

theorem ok__law_drawn (T : Txt K mg A) : FnOk P w K mg base CX0 1 A.f__law_drawn A.d__law_drawn ["_law_state", "_law_many"] (sp__law_drawn K) := by
  refine T.F__law_drawn.ok sc__law_drawn (fun vs H Q E h => by first | (obtain ⟨_, rfl, _⟩ := h; rfl) | (obtain ⟨_, _, rfl, _⟩ := h; rfl) | (obtain ⟨_, _, _, rfl, _⟩ := h; rfl) | (obtain ⟨_, _, _, _, rfl, _⟩ := h; rfl) | (obtain ⟨_, _, _, _, _, rfl, _⟩ := h; rfl) | (obtain ⟨_, _, _, _, _, _, rfl, _⟩ := h; rfl) | (obtain ⟨_, _, _, _, _, _, _, rfl, _⟩ := h; rfl)) (fun cdv AA outer s H vs Q E hr h => ?_)
  refine ⟨_, (pss_cons (ps_if (pt_cmpR op_gt (pe_ix ix_list (pv 0) pe_int (fun _ _ => rfl)) pe_int (nomark _)) (pss_cons (ps_set (i := 2) sc__law_drawn.nd rfl (.inl rfl) (pe_op op_mod (pe_ix ix_list (pv 0) pe_int (fun _ _ => rfl)) (pv 1)))
        (pss_cons (ps_asg (pe_op op_fdivW (pe_ix ix_list (pv 0) pe_int (fun _ _ => rfl)) (pv 1)) (pg_sub (pv 0) pe_int set_list))
        (pss_one (ps_ret (pv 2))))) pss_nil)
      (pss_cons (ps_asg (pe_op op_add (pe_ix ix_list (pv 0) pe_int (fun _ _ => rfl)) pe_int) (pg_sub (pv 0) pe_int set_list))
      (pss_cons (ps_if (pt_cmpR op_le (pe_ix ix_list (pv 0) pe_int (fun _ _ => rfl)) (pe_callB call_len_seq (by rfl) T.z_len PySem.boot_len (pa_cons (pe_ix ix_list (pv 0) pe_int (fun _ _ => rfl)) pa_nil)) (nomark _)) (pss_cons (ps_set (i := 3) sc__law_drawn.nd rfl (.inl rfl) (pe_ix ix_list (pe_ix ix_list (pv 0) pe_int (fun _ _ => rfl)) (pe_op op_sub (pe_ix ix_list (pv 0) pe_int (fun _ _ => rfl)) pe_int) (fun _ _ => rfl)))
        (pss_cons (ps_asg (pe_ifExp (pt_cmpR op_ge (pv 3) (pe_op op_pow pe_int pe_int) (nomark _)) (pe_op op_fdivW (pv 3) (pv 1)) pe_int) (pg_sub (pv 0) pe_int set_list))
        (pss_one (ps_ret (pe_op op_mod (pv 3) (pv 1)))))) pss_nil)
      (pss_cons (ps_asg (pe_op op_mod (pe_op op_add (pe_op op_mul (pe_ix ix_list (pv 0) pe_int (fun _ _ => rfl)) pe_int) pe_int) pe_int) (pg_sub (pv 0) pe_int set_list))
      (pss_one (ps_ret (pe_op op_mod (pe_op op_fdiv (pe_ix ix_list (pv 0) pe_int (fun _ _ => rfl)) pe_int) (pv 1)))))))), ?_⟩
  obtain ⟨a, st, n, rfl, hS, hn, hnb, q⟩ := h
  obtain ⟨⟨i, m, r, hi, hs⟩, ns, hns⟩ := id hS
  -- if state[3] > 0
  refine ⟨_, rfl, st, _, 3, _, rfl, rfl, SqL.of hs, atI_nat (j := 3) rfl, _, _, rfl, rfl, _, rfl, ite2 (fun c => ?_) (fun c => ?_)⟩
  · refine ⟨_, rfl, st, _, 3, _, rfl, rfl, SqL.of hs, atI_nat (j := 3) rfl, _, rfl, _, _, rfl, rfl, hn, ?_⟩
    refine ⟨_, rfl, st, _, 3, _, rfl, rfl, SqL.of hs, atI_nat (j := 3) rfl, _, rfl, _, _, rfl, rfl, wide_div hn hnb (by decide) (by decide), ?_⟩
    refine ⟨_, rfl, st, _, 3, 3, rfl, rfl, hs, rfl, ?_⟩
    exact ⟨_, rfl, q _ _ (Int.emod_nonneg _ (by omega)) (Int.emod_lt_of_pos _ hn) (Go.upd (r := r / n) (m := m) hS hi)⟩
  · -- state[1] = state[1] + 1
    refine ⟨_, rfl, st, _, 1, _, rfl, rfl, SqL.of hs, atI_nat (j := 1) rfl, _, _, rfl, rfl, ?_⟩
    refine ⟨_, rfl, st, _, 1, 1, rfl, rfl, hs, rfl, ?_⟩
    have g1 : Go K st H (upd H st (.lst [.ref a, .int (i + 1), .int m, .int r])) := Go.upd hS (by omega)
    have hS1 := g1.st _ hS
    have hs1 : (upd H st (.lst [.ref a, .int (i + 1), .int m, .int r])) st = some (.lst [.ref a, .int (i + 1), .int m, .int r]) := upd_same
    obtain ⟨_, ns1, hns1⟩ := id hS1
    -- if state[1] <= len(state[0])
    refine ⟨_, rfl, st, _, 1, _, rfl, rfl, SqL.of hs1, atI_nat (j := 1) rfl, _, rfl, st, _, 0, _, rfl, rfl, SqL.of hs1, atI_nat (j := 0) rfl, a, _, rfl, .inl hns1, _, _, rfl, rfl, _, rfl, ite2 (fun c => ?_) (fun c => ?_)⟩
    · have c2 : i + 1 ≤ (ns1.length : Int) := by
        have := of_decide_eq_true c
        rw [List.length_map] at this
        exact this
      have hlt : i.toNat < ns1.length := by omega
      have hat : atI (ns1.map V.int) (i + 1 - 1) = some (.int ns1[i.toNat]) := at_of (j := i.toNat) (by omega) (by rw [List.getElem?_map, List.getElem?_eq_getElem hlt]; rfl)
      -- cell = state[0][state[1] - 1]
      refine ⟨_, rfl, st, _, 0, _, rfl, rfl, SqL.of hs1, atI_nat (j := 0) rfl, _, rfl, st, _, 1, _, rfl, rfl, SqL.of hs1, atI_nat (j := 1) rfl, _, _, rfl, rfl, a, _, _, _, rfl, rfl, hns1, hat, ?_⟩
      -- state[3] = cell // many if cell >= 10 ** 18 else 0
      refine ⟨_, rfl, _, _, rfl, rfl, ⟨by decide, by decide, by decide⟩, _, _, rfl, rfl, _, rfl, ite2 (fun c3 => ?_) (fun c3 => ?_)⟩
      · refine ⟨_, rfl, _, rfl, _, _, rfl, rfl, wide_div hn hnb (by decide) (by decide), _, rfl, st, _, 3, 3, rfl, rfl, hs1, rfl, ?_⟩
        exact ⟨_, rfl, _, rfl, _, _, rfl, rfl, hn, q _ _ (Int.emod_nonneg _ (by omega)) (Int.emod_lt_of_pos _ hn) (g1.trans (Go.upd (m := m) hS1 (by omega)))⟩
      · refine ⟨_, rfl, st, _, 3, 3, rfl, rfl, hs1, rfl, ?_⟩
        exact ⟨_, rfl, _, rfl, _, _, rfl, rfl, hn, q _ _ (Int.emod_nonneg _ (by omega)) (Int.emod_lt_of_pos _ hn) (g1.trans (Go.upd (m := m) hS1 (by omega)))⟩
    · -- state[2] = (state[2] * 48271 + 11) % 2147483647
      refine ⟨_, rfl, st, _, 2, _, rfl, rfl, SqL.of hs1, atI_nat (j := 2) rfl, _, _, rfl, rfl, .inr ⟨by decide, by decide⟩, _, _, rfl, rfl, _, _, rfl, rfl, by show (0:Int) < _; decide, ?_⟩
      refine ⟨_, rfl, st, _, 2, 2, rfl, rfl, hs1, rfl, ?_⟩
      have g2 := g1.trans (Go.upd (m := (m * 48271 + 11) % 2147483647) (r := r) hS1 (by omega : 0 ≤ i + 1))
      refine ⟨_, rfl, st, _, 2, _, rfl, rfl, SqL.of upd_same, atI_nat (j := 2) rfl, _, _, rfl, rfl, ⟨by decide, by decide⟩, _, rfl, _, _, rfl, rfl, hn, ?_⟩
      exact q _ _ (Int.emod_nonneg _ (by omega)) (Int.emod_lt_of_pos _ hn) g2
/-! ### _law_set: slots 0 _law_state, 1 _law_most, 2 _law_many, 3 _law_first, 4 _law_step, 5 _law_k -/

theorem ok__law_set (T : Txt K mg A) : FnOk P w K mg base CX0 2 A.f__law_set A.d__law_set ["_law_state", "_law_most"] (sp__law_set K) := by
  refine T.F__law_set.ok sc__law_set (fun vs H Q E h => by first | (obtain ⟨_, rfl, _⟩ := h; rfl) | (obtain ⟨_, _, rfl, _⟩ := h; rfl) | (obtain ⟨_, _, _, rfl, _⟩ := h; rfl) | (obtain ⟨_, _, _, _, rfl, _⟩ := h; rfl) | (obtain ⟨_, _, _, _, _, rfl, _⟩ := h; rfl) | (obtain ⟨_, _, _, _, _, _, rfl, _⟩ := h; rfl) | (obtain ⟨_, _, _, _, _, _, _, rfl, _⟩ := h; rfl)) (fun cdv AA outer s H vs Q E hr h => ?_)
  refine ⟨_, (pss_cons (ps_set (i := 2) sc__law_set.nd rfl (.inl rfl) (pe_call (ok__law_drawn T) (hr.mono (by decide)) (by rfl) T.g__law_drawn T.k__law_drawn T.b__law_drawn .nil pass0 (pa_cons (pv 0) (pa_cons (pe_op op_add (pv 1) pe_int) pa_nil))))
      (pss_cons (ps_set (i := 3) sc__law_set.nd rfl (.inr rfl) (pe_call (ok__law_drawn T) (hr.mono (by decide)) (by rfl) T.g__law_drawn T.k__law_drawn T.b__law_drawn .nil pass0 (pa_cons (pv 0) (pa_cons pe_int pa_nil))))
      (pss_cons (ps_set (i := 4) sc__law_set.nd rfl (.inr rfl) (pe_ix ix_list (pe_lst (pa_cons pe_int (pa_cons pe_int (pa_cons (pe_op op_add pe_int (pe_call (ok__law_drawn T) (hr.mono (by decide)) (by rfl) T.g__law_drawn T.k__law_drawn T.b__law_drawn .nil pass0 (pa_cons (pv 0) (pa_cons pe_int pa_nil)))) pa_nil)))) (pe_call (ok__law_drawn T) (hr.mono (by decide)) (by rfl) T.g__law_drawn T.k__law_drawn T.b__law_drawn .nil pass0 (pa_cons (pv 0) (pa_cons pe_int pa_nil))) (fun _ _ => rfl)))
      (pss_cons (ps_if (pt_cmpR op_eq (pv 4) pe_int (nomark _)) (pss_one (ps_ret (pe_callTy call_tuple_of (by rfl) T.z_tuple (by decide +kernel) (pa_cons (pe_callB (call_sortedU rfl) (by rfl) T.z_sorted (by decide +kernel) (pa_cons (pe_callTy (call_setQ rfl) (by rfl) T.z_set (by decide +kernel) (pa_cons (pe_lc (own := [("_law_k", 5)]) (g := gName 5)  rfl sc__law_set.nd (pi_range1 (by rfl) T.z_range (pa_cons (pv 2) pa_nil)) (blkOk_by (own := [("_law_k", 5)]) (N := ["_law_state", "_law_most", "_law_many", "_law_first", "_law_step", "_law_k"]) (sc := defScope s__law_set) (by decide +kernel)) (fun _ _ _ _ _ => pg_name (i := 5) sc__law_set.nd rfl (Or.inl rfl)) (fun _ _ _ _ _ => pts_nil) (fun _ _ _ _ _ => (pe_op op_add pe_int (pe_call (ok__law_drawn T) (hr.mono (by decide)) (by rfl) T.g__law_drawn T.k__law_drawn T.b__law_drawn .nil pass0 (pa_cons (pv 0) (pa_cons pe_int pa_nil)))))) pa_nil)) pa_nil)) pa_nil)))) pss_nil)
      (pss_one (ps_ret (pe_callTy call_tuple_of (by rfl) T.z_tuple (by decide +kernel) (pa_cons (pe_callB (call_sortedU rfl) (by rfl) T.z_sorted (by decide +kernel) (pa_cons (pe_callTy (call_setQ rfl) (by rfl) T.z_set (by decide +kernel) (pa_cons (pe_lc (own := [("_law_k", 5)]) (g := gName 5)  rfl sc__law_set.nd (pi_range1 (by rfl) T.z_range (pa_cons (pv 2) pa_nil)) (blkOk_by (own := [("_law_k", 5)]) (N := ["_law_state", "_law_most", "_law_many", "_law_first", "_law_step", "_law_k"]) (sc := defScope s__law_set) (by decide +kernel)) (fun _ _ _ _ _ => pg_name (i := 5) sc__law_set.nd rfl (Or.inl rfl)) (fun _ _ _ _ _ => pts_nil) (fun _ _ _ _ _ => (pe_op op_add pe_int (pe_op op_mod (pe_op op_add (pv 3) (pe_op op_mul (pv 4) (pv 5))) pe_int)))) pa_nil)) pa_nil)) pa_nil)))))))), ?_⟩
  obtain ⟨a, st, most, rfl, hS, m0, m1, q⟩ := h
  refine ⟨_, rfl, _, rfl, _, _, rfl, rfl, a, st, most + 1, rfl, hS, by omega, nat8000 (by omega) (by omega), fun many H1 n0 n1 g1 => ?_⟩
  have S1 := g1.st _ hS
  refine ⟨_, rfl, a, st, 96, rfl, S1, by decide, nat8000 (by decide) (by decide +kernel), fun first H2 _ _ g2 => ?_⟩
  have g2' := g1.trans g2
  have S2 := g2'.st _ hS
  refine ⟨_, rfl, a, st, 95, rfl, S2, by decide, nat8000 (by decide) (by decide +kernel), fun u H3 u0 u1 g3 => ?_⟩
  have g3' := g2'.trans g3
  have S3 := g3'.st _ hS
  refine ⟨_, _, rfl, rfl, by show 3 ≤ sizeLine; decide, fun l hl => ?_⟩
  refine ⟨_, rfl, a, st, 3, rfl, (Go.new hl).st _ S3, by decide, nat8000 (by decide) (by decide +kernel), fun v H4 v0 v1 g4 => ?_⟩
  obtain ⟨step, hat, s0, s1⟩ := pickI (ns := [0, 1, 1 + u]) (lo := 0) (hi := 95) (by simp only [List.mem_cons, List.not_mem_nil, or_false]; rintro z (rfl | rfl | rfl) <;> omega) v0 v1
  have g4' := g3'.trans ((Go.new hl).trans g4)
  have S4 := g4'.st _ hS
  refine ⟨l, _, _, _, rfl, rfl, SqL.of (g4.keep _ _ (S3.fresh hl) upd_same), hat, ?_⟩
  refine ⟨_, rfl, rfl, _, rfl, ite2 (fun c => ?_) (fun c => ?_)⟩
  · refine ⟨_, rfl, many, rfl, by omega, by omega, fun D hD => lc_ints (K := K) (st := st) (a := a) (fun z => 1 ≤ z ∧ z ≤ 96) S4 hD (by omega) (fun _ => rfl) (fun i H5 hi g5 Q' q' => ?_) fun ns H5 hl5 hP g5 hd5 => ?_⟩
    · refine ⟨_, rfl, a, st, 96, rfl, g5.st _ S4, by decide, nat8000 (by decide) (by decide +kernel), fun z H6 z0 z1 g6 => ?_⟩
      exact ⟨_, _, rfl, rfl, q' _ H6 ⟨by omega, by omega⟩ g6⟩
    · refine ⟨D, ns, rfl, .inl (SqL.of hd5), by omega, fun c p hc hp => ?_⟩
      refine ⟨p, _, c, rfl, upd_same, by omega, fun ms p2 hpw hmem hlen hp2 => ?_⟩
      refine ⟨p2, _, rfl, .inl ⟨SqL.of upd_same, fun t ht => ?_⟩⟩
      have g6 := (((g4'.trans g5).trans (Go.new hp)).trans (Go.new hp2)).trans (Go.new (o := .tup (ms.map V.int)) ht)
      exact q t ms _ ⟨hpw, fun z hz => hP z (of_decide_eq_true ((hmem z).mp hz))⟩ (by omega) g6 ((((g4'.trans g5).trans (Go.new hp)).trans (Go.new hp2)).free hS ht) upd_same
  · refine ⟨_, rfl, many, rfl, by omega, by omega, fun D hD => lc_ints (K := K) (st := st) (a := a) (fun z => 1 ≤ z ∧ z ≤ 96) S4 hD (by omega) (fun _ => rfl) (fun i H5 hi g5 Q' q' => ?_) fun ns H5 hl5 hP g5 hd5 => ?_⟩
    · refine ⟨_, rfl, _, rfl, _, rfl, _, _, rfl, rfl, .inl ⟨by omega, by omega⟩, _, _, rfl, rfl, _, _, rfl, rfl, by show (0:Int) < _; decide, _, _, rfl, rfl, ?_⟩
      exact q' _ H5 ⟨by show 1 ≤ 1 + _ % 96; omega, by show 1 + _ % 96 ≤ 96; omega⟩ (Go.refl _)
    · refine ⟨D, ns, rfl, .inl (SqL.of hd5), by omega, fun c p hc hp => ?_⟩
      refine ⟨p, _, c, rfl, upd_same, by omega, fun ms p2 hpw hmem hlen hp2 => ?_⟩
      refine ⟨p2, _, rfl, .inl ⟨SqL.of upd_same, fun t ht => ?_⟩⟩
      have g6 := (((g4'.trans g5).trans (Go.new hp)).trans (Go.new hp2)).trans (Go.new (o := .tup (ms.map V.int)) ht)
      exact q t ms _ ⟨hpw, fun z hz => hP z (of_decide_eq_true ((hmem z).mp hz))⟩ (by omega) g6 ((((g4'.trans g5).trans (Go.new hp)).trans (Go.new hp2)).free hS ht) upd_same
/-! ### _law_number: slots 0 _law_state, 1 _law_far -/

theorem ok__law_number (T : Txt K mg A) : FnOk P w K mg base CX0 2 A.f__law_number A.d__law_number ["_law_state"] (sp__law_number K) := by
  refine T.F__law_number.ok sc__law_number (fun vs H Q E h => by first | (obtain ⟨_, rfl, _⟩ := h; rfl) | (obtain ⟨_, _, rfl, _⟩ := h; rfl) | (obtain ⟨_, _, _, rfl, _⟩ := h; rfl) | (obtain ⟨_, _, _, _, rfl, _⟩ := h; rfl) | (obtain ⟨_, _, _, _, _, rfl, _⟩ := h; rfl) | (obtain ⟨_, _, _, _, _, _, rfl, _⟩ := h; rfl) | (obtain ⟨_, _, _, _, _, _, _, rfl, _⟩ := h; rfl)) (fun cdv AA outer s H vs Q E hr h => ?_)
  refine ⟨_, (pss_cons (ps_set (i := 1) sc__law_number.nd rfl (.inl rfl) (pe_ix ix_list (pe_lst (pa_cons pe_int (pa_cons pe_int (pa_cons (pe_op op_pow pe_int pe_int) (pa_cons (pe_op op_pow pe_int pe_int) pa_nil))))) (pe_call (ok__law_drawn T) (hr.mono (by decide)) (by rfl) T.g__law_drawn T.k__law_drawn T.b__law_drawn .nil pass0 (pa_cons (pv 0) (pa_cons pe_int pa_nil))) (fun _ _ => rfl)))
      (pss_one (ps_ret (pe_op op_sub (pe_call (ok__law_drawn T) (hr.mono (by decide)) (by rfl) T.g__law_drawn T.k__law_drawn T.b__law_drawn .nil pass0 (pa_cons (pv 0) (pa_cons (pe_op op_add (pe_op op_mul pe_int (pv 1)) pe_int) pa_nil))) (pv 1))))), ?_⟩
  obtain ⟨a, st, rfl, hS, q⟩ := h
  refine ⟨_, _, rfl, rfl, ⟨by decide, by decide, by decide⟩, _, _, rfl, rfl, ⟨by decide, by decide, by decide⟩, by show 4 ≤ sizeLine; decide, fun l hl => ?_⟩
  refine ⟨_, rfl, a, st, 4, rfl, (Go.new hl).st _ hS, by decide, nat8000 (by decide) (by decide +kernel), fun v H1 h0 h1 g1 => ?_⟩
  obtain ⟨far, hat, hf1, hf2⟩ := pickI (ns := [3, 100, 10 ^ Int.toNat 9, 10 ^ Int.toNat 57]) (lo := 1) (hi := 10 ^ 59) (by decide +kernel) h0 h1
  have g0 := (Go.new hl).trans g1
  refine ⟨l, _, _, _, rfl, rfl, SqL.of (g1.keep _ _ (hS.fresh hl) upd_same), hat, ?_⟩
  refine ⟨_, rfl, _, rfl, _, _, rfl, rfl, .inl ⟨by decide, by decide⟩, _, _, rfl, rfl, a, st, _, rfl, g0.st _ hS, by omega, nat8000 (by omega) (by omega), fun u H2 k0 k1 g2 => ?_⟩
  exact ⟨_, rfl, _, _, rfl, rfl, q _ _ (g0.trans g2)⟩
/-! ### _law_worth: slots 0 _law_row_here, 1 _law_x, 2 _law_found, 3 _law_power, 4 _law_number_here -/

theorem ok__law_worth (T : Txt K mg A) : FnOk P w K mg base CX0 1 A.f__law_worth A.d__law_worth ["_law_row_here", "_law_x"] (sp__law_worth K) := by
  refine T.F__law_worth.ok sc__law_worth (fun vs H Q E h => by first | (obtain ⟨_, rfl, _⟩ := h; rfl) | (obtain ⟨_, _, rfl, _⟩ := h; rfl) | (obtain ⟨_, _, _, rfl, _⟩ := h; rfl) | (obtain ⟨_, _, _, _, rfl, _⟩ := h; rfl) | (obtain ⟨_, _, _, _, _, rfl, _⟩ := h; rfl) | (obtain ⟨_, _, _, _, _, _, rfl, _⟩ := h; rfl) | (obtain ⟨_, _, _, _, _, _, _, rfl, _⟩ := h; rfl)) (fun cdv AA outer s H vs Q E hr h => ?_)
  refine ⟨_, (pss_cons (ps_set (i := 2) sc__law_worth.nd rfl (.inl rfl) pe_int)
      (pss_cons (ps_set (i := 3) sc__law_worth.nd rfl (.inl rfl) pe_int)
      (pss_cons (ps_for PassesOwn.never rfl (RT.pi_revA (by rfl) T.z_reversed (pv 0)) (pg_name (i := 4) sc__law_worth.nd rfl (.inl rfl))
        (pss_cons (ps_set (i := 2) sc__law_worth.nd rfl (.inl rfl) (pe_op op_mod (pe_op op_add (pv 2) (pe_op op_mul (pv 4) (pv 3))) pe_int))
        (pss_one (ps_set (i := 3) sc__law_worth.nd rfl (.inl rfl) (pe_op op_mod (pe_op op_mul (pv 3) (pv 1)) pe_int)))))
      (pss_one (ps_ret (pv 2)))))), ?_⟩
  obtain ⟨a, ns, x, rfl, hS, q⟩ := h
  refine ⟨_, rfl, a, _, rfl, .inr ⟨hS, RT.for_ItvT (K := K) (a := a) (xs := ns.map V.int) (fun i σ H' => ∃ v, σ = [some (.ref a), some (.int x), some (.int ((ns.reverse.take i).foldl (stepW x) (0, 1)).1), some (.int ((ns.reverse.take i).foldl (stepW x) (0, 1)).2), v] ∧ 0 ≤ ((ns.reverse.take i).foldl (stepW x) (0, 1)).2 ∧ ((ns.reverse.take i).foldl (stepW x) (0, 1)).2 < 97 ∧ H' = H) ⟨none, rfl, by show (0:Int) ≤ 1; decide, by show (1:Int) < 97; decide, rfl⟩ (fun i σ H' ⟨_, _, _, _, e⟩ => e ▸ hS) ?_ ?_⟩⟩
  · rintro i y σ H' hi hy ⟨v, rfl, p0, p1, rfl⟩
    obtain ⟨z, hz, rfl⟩ := int_at hy
    rw [List.length_map] at hi hz
    have hz2 : ns.reverse[i]? = some z := by rw [List.getElem?_reverse hi]; exact hz
    have hf : (ns.reverse.take (i + 1)).foldl (stepW x) (0, 1) = stepW x ((ns.reverse.take i).foldl (stepW x) (0, 1)) z := by
      rw [List.take_add_one, hz2, List.foldl_append]
      rfl
    refine ⟨_, rfl, _, rfl, _, rfl, _, _, rfl, rfl, .inr ⟨by omega, by omega⟩, _, _, rfl, rfl, _, _, rfl, rfl, by show (0:Int) < _; decide, ?_⟩
    refine ⟨_, rfl, _, rfl, _, _, rfl, rfl, .inl ⟨by omega, by omega⟩, _, _, rfl, rfl, by show (0:Int) < _; decide, ?_⟩
    refine ⟨some (.int z), ?_, ?_, ?_, rfl⟩
    · rw [hf]
      rfl
    · rw [hf]
      exact Int.emod_nonneg _ (by decide)
    · rw [hf]
      exact Int.emod_lt_of_pos _ (by decide)
  · rintro σ H' ⟨v, rfl, p0, p1, rfl⟩
    refine ⟨_, rfl, ?_⟩
    rw [List.length_map, ← List.length_reverse, List.take_length, worthL_step]
    exact q
/-! ### _law_times: slots 0 _law_one, 1 _law_other, 2 _law_k, 3 _law_found, 4 _law_j -/

theorem ok__law_times (T : Txt K mg A) : FnOk P w K mg base CX0 1 A.f__law_times A.d__law_times ["_law_one", "_law_other"] (sp__law_times K) := by
  refine T.F__law_times.ok sc__law_times (fun vs H Q E h => by first | (obtain ⟨_, rfl, _⟩ := h; rfl) | (obtain ⟨_, _, rfl, _⟩ := h; rfl) | (obtain ⟨_, _, _, rfl, _⟩ := h; rfl) | (obtain ⟨_, _, _, _, rfl, _⟩ := h; rfl) | (obtain ⟨_, _, _, _, _, rfl, _⟩ := h; rfl) | (obtain ⟨_, _, _, _, _, _, rfl, _⟩ := h; rfl) | (obtain ⟨_, _, _, _, _, _, _, rfl, _⟩ := h; rfl)) (fun cdv AA outer s H vs Q E hr h => ?_)
  refine ⟨_, (pss_cons (ps_setLc (i := 3) (own := [("_law_k", 2)]) (g := gName 2)  rfl sc__law_times.nd rfl rfl (sw_true rfl rfl rfl (by decide +kernel)) (pi_range1 (by rfl) T.z_range (pa_cons (pe_op op_sub (pe_op op_add (pe_callB call_len_seq (by rfl) T.z_len PySem.boot_len (pa_cons (pv 0) pa_nil)) (pe_callB call_len_seq (by rfl) T.z_len PySem.boot_len (pa_cons (pv 1) pa_nil))) pe_int) pa_nil)) (blkOk_by (own := [("_law_k", 2)]) (N := ["_law_one", "_law_other", "_law_k", "_law_found", "_law_j"]) (sc := defScope s__law_times) (by decide +kernel)) (fun _ _ _ _ _ => pg_name (i := 2) sc__law_times.nd rfl (Or.inl rfl)) (fun _ _ _ _ _ => pts_nil) (fun _ _ _ _ _ => pe_int))
      (pss_cons (ps_for PassesOwn.never rfl (pi_range1 (by rfl) T.z_range (pa_cons (pe_callB call_len_seq (by rfl) T.z_len PySem.boot_len (pa_cons (pv 0) pa_nil)) pa_nil)) (pg_name (i := 4) sc__law_times.nd rfl (.inl rfl))
        (pss_one (ps_for PassesOwn.never rfl (pi_range1 (by rfl) T.z_range (pa_cons (pe_callB call_len_seq (by rfl) T.z_len PySem.boot_len (pa_cons (pv 1) pa_nil)) pa_nil)) (pg_name (i := 2) sc__law_times.nd rfl (.inl rfl))
          (pss_one (ps_asg (pe_op op_mod (pe_op op_add (pe_ix ix_list (pv 3) (pe_op op_add (pv 4) (pv 2)) (fun _ _ => rfl)) (pe_op op_mul (pe_ix ix_tup (pv 0) (pv 4) (fun _ _ => rfl)) (pe_ix ix_tup (pv 1) (pv 2) (fun _ _ => rfl)))) pe_int) (pg_sub (pv 3) (pe_op op_add (pv 4) (pv 2)) set_list))))))
      (pss_one (ps_ret (pe_callTy call_tuple_of (by rfl) T.z_tuple (by decide +kernel) (pa_cons (pv 3) pa_nil)))))), ?_⟩
  obtain ⟨a, b, xs, ys, rfl, ha, hb, hx0, hy0, hxl, hyl, hyb, q⟩ := h
  have lx : 0 < xs.length := List.length_pos_iff.mpr hx0
  have ly : 0 < ys.length := List.length_pos_iff.mpr hy0
  refine ⟨_, rfl, a, _, rfl, .inr ha, _, rfl, b, _, rfl, .inr hb, _, _, rfl, rfl, _, _, rfl, rfl, _, rfl, by rw [List.length_map, List.length_map]; omega, by rw [List.length_map, List.length_map]; omega, fun D hD => ?_⟩
  refine lc_pureR (lo := 0) (n := (((xs.map V.int).length : Int) + ((ys.map V.int).length : Int) - 1).toNat) (fun _ => true) (fun _ => .int 0) hD (by rw [List.length_map, List.length_map]; omega) (fun _ => rfl) (fun i hi H2 s2 Q' q' => q' H2 (Same.refl _)) (fun i hi _ H2 s2 Q' q' => q' H2 (Same.refl _)) fun H1 s1 hd1 => ?_
  have hz : ((rgL 0 (((xs.map V.int).length : Int) + ((ys.map V.int).length : Int) - 1).toNat).filter fun _ => true).map (fun _ => V.int 0) = (List.replicate (xs.length + ys.length - 1) (0 : Int)).map V.int := by
    have ef : ∀ l : List V, (l.filter fun _ => true) = l := fun l => List.filter_eq_self.mpr fun _ _ => rfl
    rw [ef, List.map_replicate]
    have el := rgL_len 0 (((xs.map V.int).length : Int) + ((ys.map V.int).length : Int) - 1).toNat
    refine List.eq_replicate_iff.mpr ⟨?_, fun v hv => ?_⟩
    · rw [List.length_map, el, List.length_map, List.length_map]
      omega
    · obtain ⟨_, _, rfl⟩ := List.mem_map.mp hv
      rfl
  rw [hz] at hd1
  -- for j
  refine ⟨_, rfl, a, _, rfl, .inr (seqT_same s1 ha), _, rfl, by rw [List.length_map]; omega, by rw [List.length_map]; omega, for_range (n := ((xs.map V.int).length : Int).toNat) (fun i σ H' => ∃ (zs : List Int) (v2 v4 : Option V), σ = [some (.ref a), some (.ref b), v2, some (.ref D), v4] ∧ zs.length + 1 = xs.length + ys.length ∧ Same H H' ∧ H' D = some (.lst (zs.map V.int)))
    ⟨_, none, none, rfl, by rw [List.length_replicate]; omega, s1, hd1⟩ ?_ ?_⟩
  · rintro i σ H2 hi ⟨zs, v2, v4, rfl, hzl, s2, hd2⟩
    rw [List.length_map] at hi
    have hi' : i < xs.length := by omega
    refine ⟨_, rfl, b, _, rfl, .inr (seqT_same s2 hb), _, rfl, by rw [List.length_map]; omega, by rw [List.length_map]; omega, for_range (n := ((ys.map V.int).length : Int).toNat) (fun k σ H' => ∃ (zs : List Int) (v2 : Option V), σ = [some (.ref a), some (.ref b), v2, some (.ref D), some (.int (0 + (i : Int)))] ∧ zs.length + 1 = xs.length + ys.length ∧ Same H H' ∧ H' D = some (.lst (zs.map V.int)))
      ⟨zs, v2, rfl, hzl, s2, hd2⟩ ?_ ?_⟩
    · rintro k σ H3 hk ⟨zs, v2, rfl, hzl, s3, hd3⟩
      rw [List.length_map] at hk
      have hk' : k < ys.length := by omega
      have hik : i + k < zs.length := by omega
      have gz : (zs.map V.int)[i + k]? = some (.int zs[i + k]) := by rw [List.getElem?_map, List.getElem?_eq_getElem hik]; rfl
      have gx : (xs.map V.int)[i]? = some (.int xs[i]) := by rw [List.getElem?_map, List.getElem?_eq_getElem hi']; rfl
      have gy : (ys.map V.int)[k]? = some (.int ys[k]) := by rw [List.getElem?_map, List.getElem?_eq_getElem hk']; rfl
      have by' := hyb _ (List.getElem_mem hk')
      refine ⟨_, rfl, _, rfl, _, rfl, _, _, rfl, rfl, D, _, _, _, rfl, rfl, SqL.of hd3, at_of (j := i + k) (by omega) gz, ?_⟩
      refine ⟨_, rfl, _, rfl, a, _, _, _, rfl, rfl, seqT_same s3 ha, at_of (j := i) (by omega) gx, ?_⟩
      refine ⟨_, rfl, _, rfl, b, _, _, _, rfl, rfl, seqT_same s3 hb, at_of (j := k) (by omega) gy, _, _, rfl, rfl, .inr ⟨by omega, by omega⟩, _, _, rfl, rfl, _, _, rfl, rfl, by show (0:Int) < _; decide, ?_⟩
      refine ⟨_, rfl, _, rfl, _, rfl, _, _, rfl, rfl, D, _, _, i + k, rfl, rfl, hd3, ixN_of (by omega) (by rw [List.length_map]; exact hik), ?_⟩
      refine ⟨zs.set (i + k) ((zs[i + k] + xs[i] * ys[k]) % 97), _, rfl, by rw [List.length_set]; exact hzl, s3.mut hD, ?_⟩
      rw [upd_same, List.map_set]
    · rintro σ H3 ⟨zs, v2, rfl, hzl, s3, hd3⟩
      exact ⟨zs, _, _, rfl, hzl, s3, hd3⟩
  · rintro σ H2 ⟨zs, v2, v4, rfl, hzl, s2, hd2⟩
    exact ⟨_, rfl, D, _, rfl, .inl ⟨SqL.of hd2, fun t ht => q t zs _ (s2.trans (same_upd ht)) (s2.free ht) upd_same hzl⟩⟩
/-! ### _law_row: slots 0 _law_state, 1 _law_row_here, 2 _law_mark, 3 _law_times_here, 4 _law_k -/

theorem ok__law_row (T : Txt K mg A) : FnOk P w K mg base CX0 3 A.f__law_row A.d__law_row ["_law_state"] (sp__law_row K) := by
  refine T.F__law_row.ok sc__law_row (fun vs H Q E h => by first | (obtain ⟨_, rfl, _⟩ := h; rfl) | (obtain ⟨_, _, rfl, _⟩ := h; rfl) | (obtain ⟨_, _, _, rfl, _⟩ := h; rfl) | (obtain ⟨_, _, _, _, rfl, _⟩ := h; rfl) | (obtain ⟨_, _, _, _, _, rfl, _⟩ := h; rfl) | (obtain ⟨_, _, _, _, _, _, rfl, _⟩ := h; rfl) | (obtain ⟨_, _, _, _, _, _, _, rfl, _⟩ := h; rfl)) (fun cdv AA outer s H vs Q E hr h => ?_)
  refine ⟨_, (pss_cons (ps_set (i := 1) sc__law_row.nd rfl (.inl rfl) (pe_callTy call_tuple_of (by rfl) T.z_tuple (by decide +kernel) (pa_cons (pe_lc (own := [("_law_k", 4)]) (g := gName 4)  rfl sc__law_row.nd (pi_range1 (by rfl) T.z_range (pa_cons (pe_call (ok__law_drawn T) (hr.mono (by decide)) (by rfl) T.g__law_drawn T.k__law_drawn T.b__law_drawn .nil pass0 (pa_cons (pv 0) (pa_cons pe_int pa_nil))) pa_nil)) (blkOk_by (own := [("_law_k", 4)]) (N := ["_law_state", "_law_row_here", "_law_mark", "_law_times_here", "_law_k"]) (sc := defScope s__law_row) (by decide +kernel)) (fun _ _ _ _ _ => pg_name (i := 4) sc__law_row.nd rfl (Or.inl rfl)) (fun _ _ _ _ _ => pts_nil) (fun _ _ _ _ _ => (pe_call (ok__law_number T) (hr.mono (by decide)) (by rfl) T.g__law_number T.k__law_number T.b__law_number .nil pass0 (pa_cons (pv 0) pa_nil)))) pa_nil)))
      (Evl.pss_cut (ps_if (pt_cmpR op_eq (pe_call (ok__law_drawn T) (hr.mono (by decide)) (by rfl) T.g__law_drawn T.k__law_drawn T.b__law_drawn .nil pass0 (pa_cons (pv 0) (pa_cons pe_int pa_nil))) pe_int (nomark _)) (pss_cons (ps_set (i := 1) sc__law_row.nd rfl (.inl rfl) (pe_tup (pa_cons pe_int pa_nil)))
        (pss_cons (ps_for PassesOwn.never rfl (pi_tup (pe_call (ok__law_set T) (hr.mono (by decide)) (by rfl) T.g__law_set T.k__law_set T.b__law_set .nil pass0 (pa_cons (pv 0) (pa_cons pe_int pa_nil)))) (pg_name (i := 2) sc__law_row.nd rfl (.inl rfl))
          (pss_one (ps_set (i := 1) sc__law_row.nd rfl (.inl rfl) (pe_call (ok__law_times T) (hr.mono (by decide)) (by rfl) T.g__law_times T.k__law_times T.b__law_times .nil pass0 (pa_cons (pv 1) (pa_cons (pe_tup (pa_cons pe_int (pa_cons (pe_op op_sub pe_int (pv 2)) pa_nil))) pa_nil))))))
        (pss_cons (ps_set (i := 3) sc__law_row.nd rfl (.inl rfl) (pe_ix ix_list (pe_lst (pa_cons (pe_tup (pa_cons (pe_op op_add pe_int (pe_call (ok__law_drawn T) (hr.mono (by decide)) (by rfl) T.g__law_drawn T.k__law_drawn T.b__law_drawn .nil pass0 (pa_cons (pv 0) (pa_cons pe_int pa_nil)))) pa_nil)) (pa_cons (pe_tup (pa_cons pe_int (pa_cons (pe_call (ok__law_drawn T) (hr.mono (by decide)) (by rfl) T.g__law_drawn T.k__law_drawn T.b__law_drawn .nil pass0 (pa_cons (pv 0) (pa_cons pe_int pa_nil))) (pa_cons (pe_call (ok__law_drawn T) (hr.mono (by decide)) (by rfl) T.g__law_drawn T.k__law_drawn T.b__law_drawn .nil pass0 (pa_cons (pv 0) (pa_cons pe_int pa_nil))) pa_nil)))) pa_nil))) (pe_call (ok__law_drawn T) (hr.mono (by decide)) (by rfl) T.g__law_drawn T.k__law_drawn T.b__law_drawn .nil pass0 (pa_cons (pv 0) (pa_cons pe_int pa_nil))) (fun _ _ => rfl)))
        (pss_one (ps_set (i := 1) sc__law_row.nd rfl (.inl rfl) (pe_call (ok__law_times T) (hr.mono (by decide)) (by rfl) T.g__law_times T.k__law_times T.b__law_times .nil pass0 (pa_cons (pv 1) (pa_cons (pv 3) pa_nil)))))))) pss_nil)
      (Evl.pss_cut (ps_if (pt_cmpR op_eq (pe_call (ok__law_drawn T) (hr.mono (by decide)) (by rfl) T.g__law_drawn T.k__law_drawn T.b__law_drawn .nil pass0 (pa_cons (pv 0) (pa_cons pe_int pa_nil))) pe_int (nomark _)) (pss_one (ps_set (i := 1) sc__law_row.nd rfl (.inl rfl) (pe_op op_catA (pe_op op_tmul (pe_tup (pa_cons pe_int pa_nil)) (pe_call (ok__law_drawn T) (hr.mono (by decide)) (by rfl) T.g__law_drawn T.k__law_drawn T.b__law_drawn .nil pass0 (pa_cons (pv 0) (pa_cons pe_int pa_nil)))) (pv 1)))) pss_nil)
      (pss_one (ps_ret (pv 1)))))), ?_⟩
  obtain ⟨a, st, rfl, hS, q⟩ := h
  refine ⟨_, rfl, a, st, 7, rfl, hS, by decide, nat8000 (by decide) (by decide +kernel), fun m H1 m0 m1 g1 => ?_⟩
  have S1 := g1.st _ hS
  refine ⟨m, rfl, by omega, by omega, fun D hD => lc_ints (K := K) (st := st) (a := a) (fun _ => True) S1 hD (by omega) (fun _ => rfl) (fun i H5 hi g5 Q' q' => ⟨_, rfl, a, st, rfl, g5.st _ S1, fun v H6 g6 => q' v H6 trivial g6⟩) fun ms H2 hl2 _ g2 hd2 => ?_⟩
  refine ⟨D, _, rfl, .inl ⟨SqL.of hd2, fun t ht => ?_⟩⟩
  have g2' := g1.trans g2
  refine ⟨fun σ H' => ∃ (t : Addr) (ns : List Int) (v2 v3 : Option V), σ = [some (.ref st), some (.ref t), v2, v3, none] ∧ Go K st H H' ∧ SqT K H' t (ns.map V.int) ∧ ns.length ≤ 100, ?_, ?_⟩
  · -- if draw(2) == 1
    have g3 := g2'.trans (Go.new (o := .tup (ms.map V.int)) ht)
    have S3 := g3.st _ hS
    refine ⟨_, rfl, a, st, 2, rfl, S3, by decide, nat8000 (by decide) (by decide +kernel), fun c H3 _ _ g4 => ?_⟩
    have g4' := g3.trans g4
    have S4 := g4'.st _ hS
    refine ⟨rfl, _, rfl, ite2 (fun _ => ?_) (fun _ => ?_)⟩
    · refine ⟨by show 1 ≤ sizeLine; decide, fun u hu => ?_⟩
      have g5 := g4'.trans (Go.new (o := .tup [.int 1]) hu)
      refine ⟨_, rfl, a, st, 6, rfl, g5.st _ hS, by decide, by decide, fun w ws H6 hws hwl g6 _ hw => ?_⟩
      have g6' := g5.trans g6
      have S6 := g6'.st _ hS
      refine ⟨w, rfl, ⟨_, SqT.of hw⟩, for_tup (K := K) (a := w) (xs := ws.map V.int) (fun i σ H' => ∃ (t : Addr) (ns : List Int) (v2 : Option V), σ = [some (.ref st), some (.ref t), v2, none, none] ∧ Same H6 H' ∧ SqT K H' t (ns.map V.int) ∧ ns.length = i + 1) ⟨u, [1], none, rfl, Same.refl _, SqT.of (g6.keep _ _ ((g4'.st _ hS).fresh hu) upd_same), rfl⟩ (fun i σ H' _ ⟨_, _, _, _, sm, _⟩ => SqT.of (sm _ _ hw)) ?_ ?_⟩
      · rintro i y σ H7 hi ⟨t, ns, v2, rfl, s7, ht7, hl7⟩
        obtain ⟨z, hz, rfl⟩ := int_at hi
        have hzb := hws.bd z (List.mem_of_getElem? hz)
        have hil : i < ws.length := (List.getElem?_eq_some_iff.mp hz).1
        refine ⟨_, rfl, _, rfl, _, _, rfl, rfl, by show 2 ≤ sizeLine; decide, fun p hp => ?_⟩
        refine ⟨t, p, ns, [1, 0 - z], rfl, seqT_same (same_upd hp) ht7, SqT.of upd_same, ne_len hl7, (fun e => nomatch e), by omega, by show 2 ≤ 300; decide, ?_, fun t2 zs H8 s8 _ ht8 hl8 => ?_⟩
        · intro y hy
          rcases List.mem_cons.mp hy with rfl | hy
          · omega
          · rw [List.mem_singleton.mp hy]
            omega
        · refine ⟨t2, zs, _, rfl, s7.trans ((same_upd hp).trans s8), SqT.of ht8, ?_⟩
          have : ([1, 0 - z] : List Int).length = 2 := rfl
          omega
      · rintro σ H7 ⟨t, ns, v2, rfl, s7, ht7, hl7⟩
        rw [List.length_map] at hl7
        have g7 := g6'.trans (Go.of s7)
        have S7 := g7.st _ hS
        -- times
        refine ⟨_, rfl, a, st, 96, rfl, S7, by decide, nat8000 (by decide) (by decide +kernel), fun d1 H8 d10 d11 g8 => ?_⟩
        have g8' := g7.trans g8
        refine ⟨_, _, rfl, rfl, by show 1 ≤ sizeLine; decide, fun p1 hp1 => ?_⟩
        have g9 := g8'.trans (Go.new (o := .tup [.int (1 + d1)]) hp1)
        refine ⟨_, rfl, a, st, 97, rfl, g9.st _ hS, by decide, nat8000 (by decide) (by decide +kernel), fun d2 H10 d20 d21 g10 => ?_⟩
        have g10' := g9.trans g10
        refine ⟨_, rfl, a, st, 97, rfl, g10'.st _ hS, by decide, nat8000 (by decide) (by decide +kernel), fun d3 H11 d30 d31 g11 => ?_⟩
        have g11' := g10'.trans g11
        refine ⟨by show 3 ≤ sizeLine; decide, fun p2 hp2 => ?_⟩
        refine ⟨by show 2 ≤ sizeLine; decide, fun l hl => ?_⟩
        have g12 := g11'.trans ((Go.new (o := .tup [.int 1, .int d2, .int d3]) hp2).trans (Go.new (o := .lst [.ref p1, .ref p2]) hl))
        have S12 := g12.st _ hS
        refine ⟨_, rfl, a, st, 2, rfl, S12, by decide, nat8000 (by decide) (by decide +kernel), fun i H13 i0 i1 g13 => ?_⟩
        have S8 := g8'.st _ hS
        have S11 := g11'.st _ hS
        have hp1' : ∀ {H'}, Go K st (upd H8 p1 (.tup [.int (1 + d1)])) H' → H' p1 = some (.tup [.int (1 + d1)]) := fun g => g.keep _ _ (S8.fresh hp1) upd_same
        have gA := (g10.trans g11).trans (((Go.new (o := .tup [.int 1, .int d2, .int d3]) hp2).trans (Go.new (o := .lst [.ref p1, .ref p2]) hl)).trans g13)
        have hA : H13 p1 = some (.tup [.int (1 + d1)]) := hp1' gA
        have hB : H13 p2 = some (.tup [.int 1, .int d2, .int d3]) := ((Go.new (o := .lst [.ref p1, .ref p2]) hl).trans g13).keep _ _ (S11.fresh hp2) upd_same
        have fin : ∃ (x : Addr) (ys : List Int), atI [V.ref p1, V.ref p2] i = some (.ref x) ∧ SqT K H13 x (ys.map V.int) ∧ ys ≠ [] ∧ ys.length ≤ 3 ∧ ∀ y ∈ ys, -1000 ≤ y ∧ y ≤ 1000 := by
          rcases (by omega : i = 0 ∨ i = 1) with rfl | rfl
          · refine ⟨p1, [1 + d1], rfl, SqT.of hA, (fun e => nomatch e), by show 1 ≤ 3; decide, fun y hy => ?_⟩
            rw [List.mem_singleton.mp hy]
            omega
          · refine ⟨p2, [1, d2, d3], rfl, SqT.of hB, (fun e => nomatch e), by show 3 ≤ 3; decide, ?_⟩
            simp only [List.mem_cons, List.not_mem_nil, or_false]
            rintro y (rfl | rfl | rfl) <;> omega
        obtain ⟨x, ys, hat, hxs, hy0, hyl, hyb⟩ := fin
        have hm := ((Go.new (o := .tup [.int 1, .int d2, .int d3]) hp2).trans (Go.new (o := .lst [.ref p1, .ref p2]) hl)).st a S11
        refine ⟨l, _, _, _, rfl, rfl, SqL.of (g13.keep _ _ (((Go.new (o := .tup [.int 1, .int d2, .int d3]) hp2).st a S11).fresh hl) upd_same), hat, ?_⟩
        have g13' := g12.trans g13
        refine ⟨_, rfl, _, rfl, t, x, ns, ys, rfl, ?_, hxs, ne_len hl7, hy0, by omega, by omega, hyb, fun t2 zs H14 s14 _ ht14 hl14 => ?_⟩
        · have gB := g8.trans ((Go.new (o := .tup [.int (1 + d1)]) hp1).trans gA)
          exact gB.seqT S7 ht7
        · exact ⟨t2, zs, _, _, rfl, g13'.trans (Go.of s14), SqT.of ht14, by omega⟩
    · exact ⟨t, ms, _, _, rfl, g4', g4.seqT S3 (SqT.of upd_same), by omega⟩
  · rintro σ H3 ⟨t, ns, v2, v3, rfl, g3, ht3, hl3⟩
    have S3 := g3.st _ hS
    refine ⟨fun σ H' => ∃ (t : Addr) (ns : List Int) (v2 v3 : Option V), σ = [some (.ref st), some (.ref t), v2, v3, none] ∧ Go K st H H' ∧ SqT K H' t (ns.map V.int) ∧ ns.length ≤ 300, ?_, ?_⟩
    · refine ⟨_, rfl, a, st, 8, rfl, S3, by decide, nat8000 (by decide) (by decide +kernel), fun c H4 _ _ g4 => ?_⟩
      have g4' := g3.trans g4
      have ht4 := g4.seqT S3 ht3
      refine ⟨rfl, _, rfl, ite2 (fun _ => ?_) (fun _ => ?_)⟩
      · refine ⟨by show 1 ≤ sizeLine; decide, fun u hu => ?_⟩
        have S4 := g4'.st _ hS
        have gu := Go.new (K := K) (st := st) (o := .tup [.int 0]) hu
        refine ⟨_, rfl, a, st, 180, rfl, gu.st _ S4, by decide, nat8000 (by decide) (by decide +kernel), fun k H5 k0 k1 g5 => ?_⟩
        have S5 := g5.st _ (gu.st _ S4)
        have hu5 : H5 u = some (.tup [.int 0]) := g5.keep _ _ (S4.fresh hu) upd_same
        have ht5 := g5.seqT (gu.st _ S4) (gu.seqT S4 ht4)
        have g5' := g4'.trans (gu.trans g5)
        have hrep : (List.replicate k.toNat [V.int 0]).flatten = (List.replicate k.toNat (0 : Int)).map V.int := by
          rw [List.map_replicate]
          generalize k.toNat = n
          induction n with
          | zero => rfl
          | succ n ih => rw [List.replicate_succ, List.flatten_cons, ih]; rfl
        refine ⟨u, k, [.int 0], rfl, rfl, SqT.of hu5, (fun e => nomatch e), k0, by omega, by show 1 ≤ 1000; decide, fun _ => ?_, fun _ p hp => ?_⟩
        · refine ⟨_, rfl, catA_ints (zs := [0]) (ns := ns) (SqT.of hu5) ht5 (by show 1 + _ ≤ 1000; omega) fun w H6 s6 hw => ?_⟩
          exact ⟨w, [0] ++ ns, _, _, rfl, g5'.trans (Go.of s6), hw, by rw [List.length_append]; show 1 + _ ≤ 300; omega⟩
        · rw [hrep]
          refine ⟨_, rfl, catA_ints (zs := List.replicate k.toNat 0) (ns := ns) (SqT.of upd_same) (seqT_same (same_upd hp) ht5) (by rw [List.length_replicate]; omega) fun w H6 s6 hw => ?_⟩
          exact ⟨w, _, _, _, rfl, g5'.trans (Go.of ((same_upd hp).trans s6)), hw, by rw [List.length_append, List.length_replicate]; omega⟩
      · exact ⟨t, ns, _, _, rfl, g4', ht4, by omega⟩
    · rintro σ H4 ⟨t, ns, v2, v3, rfl, g4, ht4, hl4⟩
      exact ⟨_, rfl, q t ns _ g4 ht4 hl4⟩
/-! ### law: slots 0 _law_script, 1 _law_state, 2 _law_row_here, 3 _law_found, 4 _law_turn, 5 _law_mark, 6 _law_x -/

theorem ok_law (T : Txt K mg A) : FnOk P w K mg base CX0 4 A.f_law A.d_law ["_law_script"] (sp_law K) := by
  refine T.F_law.ok sc_law (fun vs H Q E h => by first | (obtain ⟨_, rfl, _⟩ := h; rfl) | (obtain ⟨_, _, rfl, _⟩ := h; rfl) | (obtain ⟨_, _, _, rfl, _⟩ := h; rfl) | (obtain ⟨_, _, _, _, rfl, _⟩ := h; rfl) | (obtain ⟨_, _, _, _, _, rfl, _⟩ := h; rfl) | (obtain ⟨_, _, _, _, _, _, rfl, _⟩ := h; rfl) | (obtain ⟨_, _, _, _, _, _, _, rfl, _⟩ := h; rfl)) (fun cdv AA outer s H vs Q E hr h => ?_)
  refine ⟨_, (pss_cons (ps_set (i := 1) sc_law.nd rfl (.inr rfl) (pe_call (ok__law_start T) (hr.mono (by decide)) (by rfl) T.g__law_start T.k__law_start T.b__law_start .nil pass0 (pa_cons (pv 0) pa_nil)))
      (pss_cons (ps_for PassesOwn.never rfl (pi_list (pe_op op_cat (pe_lc (own := [("_law_turn", 4)]) (g := gName 4)  rfl sc_law.nd (pi_range1 (by rfl) T.z_range (pa_cons pe_int pa_nil)) (blkOk_by (own := [("_law_turn", 4)]) (N := ["_law_script", "_law_state", "_law_row_here", "_law_found", "_law_turn", "_law_mark", "_law_x"]) (sc := defScope s_law) (by decide +kernel)) (fun _ _ _ _ _ => pg_name (i := 4) sc_law.nd rfl (Or.inl rfl)) (fun _ _ _ _ _ => pts_nil) (fun _ _ _ _ _ => (pe_call (ok__law_row T) (hr.mono (by decide)) (by rfl) T.g__law_row T.k__law_row T.b__law_row .nil pass0 (pa_cons (pv 1) pa_nil)))) (pe_lst (pa_cons (pe_tup pa_nil) (pa_cons (pe_tup (pa_cons pe_int (pa_cons pe_int (pa_cons (pe_op op_sub pe_int pe_int) pa_nil)))) pa_nil))))) (pg_name (i := 2) sc_law.nd rfl (.inr rfl))
        (pss_cons (ps_set (i := 3) sc_law.nd rfl (.inl rfl) (pe_call (ok_noughts T) (hr.mono (by decide)) (by rfl) T.g_noughts T.k_noughts T.b_noughts .nil pass0 (pa_cons (pv 2) pa_nil)))
        (pss_cons (ps_if (PW.pt (pw_or (pt_not (pt_val (pe_callB call_isi (by rfl) T.z_isinstance (show bootBuiltins "isinstance" = some (.builtin "isinstance") by decide +kernel) (pa_cons (pv 3) (pa_cons (pe_bltn (v := .ty "tuple") (by rfl) T.z_tuple (by decide +kernel) rfl) pa_nil))))) (pw_or1 (pt_cmpR (op_neD hr.units) (pv 3) (pe_callTy call_tuple_of (by rfl) T.z_tuple (by decide +kernel) (pa_cons (pe_lc (own := [("_law_x", 6)]) (g := gName 6)  rfl sc_law.nd (pi_range2 (by rfl) T.z_range (pa_cons pe_int (pa_cons pe_int pa_nil))) (blkOk_by (own := [("_law_x", 6)]) (N := ["_law_script", "_law_state", "_law_row_here", "_law_found", "_law_turn", "_law_mark", "_law_x"]) (sc := defScope s_law) (by decide +kernel)) (fun _ _ _ _ _ => pg_name (i := 6) sc_law.nd rfl (Or.inl rfl)) (fun _ _ _ _ _ => (pts_one (pt_cmpR op_eq (pe_call (ok__law_worth T) (hr.mono (by decide)) (by rfl) T.g__law_worth T.k__law_worth T.b__law_worth .nil pass0 (pa_cons (pv 2) (pa_cons (pv 6) pa_nil))) pe_int (nomark _)))) (fun _ _ _ _ _ => (pv 6))) pa_nil)) (nomark _))))) (pss_one (ps_ret pe_bl)) pss_nil)
        (pss_one (ps_if (pt_cmpR (op_neD hr.units) (pe_lc (own := [("_law_mark", 5)]) (g := gName 5)  rfl sc_law.nd (pi_tup (pv 3)) (blkOk_by (own := [("_law_mark", 5)]) (N := ["_law_script", "_law_state", "_law_row_here", "_law_found", "_law_turn", "_law_mark", "_law_x"]) (sc := defScope s_law) (by decide +kernel)) (fun _ _ _ _ _ => pg_name (i := 5) sc_law.nd rfl (Or.inl rfl)) (fun _ _ _ _ _ => (pts_one (pt_val (pe_callB (call_isiK' (K := K) rfl) (by rfl) T.z_isinstance (show bootBuiltins "isinstance" = some (.builtin "isinstance") by decide +kernel) (pa_cons (pv 5) (pa_cons (pe_bltn (v := .ty "bool") (by rfl) T.z_bool (by decide +kernel) rfl) pa_nil)))))) (fun _ _ _ _ _ => (pv 5))) (pe_lst pa_nil) (nomark _)) (pss_one (ps_ret pe_bl)) pss_nil)))))
      (pss_one (ps_ret pe_bl)))), ?_⟩
  obtain ⟨a, ns, rfl, hS, hlen, q⟩ := h
  refine ⟨_, rfl, a, ns, rfl, hS, fun st H1 nst sm hSt => ?_⟩
  refine ⟨6, rfl, by decide, by decide, fun D hD => lc_tups (K := K) (st := st) (a := a) hSt hD (by decide) (fun _ => rfl) (fun i H5 hi g5 Q' q' => ⟨_, rfl, a, st, rfl, g5.st _ hSt, fun t ms H6 g6 ht hl => q' _ H6 ⟨t, ms, rfl, ht, hl⟩ g6⟩) fun ws H2 hl2 hP g2 hd2 => ?_⟩
  refine ⟨by show 0 ≤ sizeLine; decide, fun t0 ht0 => ?_⟩
  refine ⟨_, _, rfl, rfl, by show 3 ≤ sizeLine; decide, fun t1 ht1 => ?_⟩
  refine ⟨by show 2 ≤ sizeLine; decide, fun l hl => ?_⟩
  have s0 := same_upd (o := .tup []) ht0
  have s1 := same_upd (o := .tup [.int 0, .int 97, .int (0 - 194)]) ht1
  have s2 := same_upd (o := .lst [.ref t0, .ref t1]) hl
  have s3 := (s0.trans s1).trans s2
  refine ⟨D, l, ws, [.ref t0, .ref t1], rfl, rfl, s3 _ _ hd2, upd_same, by rw [hl2]; show 8 ≤ sizeLine; decide, fun p hp => ?_⟩
  have s4 := same_upd (o := .lst (ws ++ [.ref t0, .ref t1])) hp
  have hall : ∀ v ∈ ws ++ [V.ref t0, V.ref t1], IsTupI K (upd (upd (upd (upd H2 t0 (.tup [])) t1 (.tup [.int 0, .int 97, .int (0 - 194)])) l (.lst [.ref t0, .ref t1])) p (.lst (ws ++ [.ref t0, .ref t1]))) v := by
    intro v hv
    rcases List.mem_append.mp hv with h | h
    · obtain ⟨t, ms, e, h', hl'⟩ := hP v h
      exact ⟨t, ms, e, seqT_same (s3.trans s4) h', hl'⟩
    · rcases List.mem_cons.mp h with rfl | h
      · exact ⟨t0, [], rfl, SqT.of (s4 _ _ (s2 _ _ (s1 _ _ upd_same))), Nat.zero_le _⟩
      · rw [List.mem_singleton.mp h]
        exact ⟨t1, [0, 97, 0 - 194], rfl, SqT.of (s4 _ _ (s2 _ _ upd_same)), by show 3 ≤ 300; decide⟩
  generalize hG : upd (upd (upd (upd H2 t0 (.tup [])) t1 (.tup [.int 0, .int 97, .int (0 - 194)])) l (.lst [.ref t0, .ref t1])) p (.lst (ws ++ [.ref t0, .ref t1])) = HL at hall ⊢
  have hpl : HL p = some (.lst (ws ++ [.ref t0, .ref t1])) := by rw [← hG]; exact upd_same
  refine ⟨p, rfl, ⟨_, SqL.of hpl⟩, for_list (K := K) (a := p) (xs := ws ++ [.ref t0, .ref t1]) (fun i σ H' => ∃ v2 v3, σ = [some (.ref a), some (.ref st), v2, v3, none, none, none] ∧ Same HL H') ⟨none, none, rfl, Same.refl _⟩ (fun i σ H' _ ⟨_, _, _, e⟩ => SqL.of (e _ _ hpl)) ?_ ?_⟩
  · rintro i y σ H3 hi ⟨v2, v3, rfl, s5⟩
    obtain ⟨t, ms, rfl, hT0, hl0⟩ := hall y (List.mem_of_getElem? hi)
    have hT := seqT_same s5 hT0
    refine ⟨_, rfl, t, ms, rfl, hT, fun f H4 s6 _ hf => ?_⟩
    have hT4 := seqT_same s6 hT
    refine ⟨_, rfl, _, _, _, _, true, rfl, .ty "tuple", .base (.tup hf), kit_ty (by decide +kernel), _, rfl, iteF ?_⟩
    refine ⟨_, rfl, 1, 97, rfl, ⟨by decide, by decide, by decide, by decide⟩, fun D3 hD3 => lc_pureR (lo := 1) (n := 96) (fun v => match v with | .int x => decide (worthL ms x = 0) | _ => false) (fun v => v) hD3 (by decide) (fun _ => rfl) ?_ (fun i hi _ H2 s2 Q' q' => ⟨_, rfl, q' H2 (Same.refl _)⟩) fun H6 s7 hd6 => ?_⟩
    · intro i hi H2 s2 Q' q'
      refine ⟨_, rfl, _, rfl, t, ms, _, rfl, seqT_same s2 hT4, rfl, _, rfl, ?_⟩
      have e : decide (V.int (worthL ms (1 + (i : Int))) = V.int 0) = decide (worthL ms (1 + (i : Int)) = 0) := decide_eq_decide.mpr ⟨fun h => V.int.inj h, fun h => congrArg V.int h⟩
      rw [e]
      exact q' H2 (Same.refl _)
    rw [rgL_ints, int_filter (g := fun x => decide (worthL ms x = 0)) (fun _ _ => rfl)] at hd6
    have en : (((List.range 96).map fun i : Nat => 1 + (i : Int)).filter fun x => decide (worthL ms x = 0)) = noughtsL ms := rfl
    rw [en] at hd6
    refine ⟨D3, _, rfl, .inl ⟨SqL.of hd6, fun t2 ht2 => ?_⟩⟩
    have s8 := s7.trans (same_upd (o := HO.tup ((noughtsL ms).map V.int)) ht2)
    refine neT (ns := noughtsL ms) (ms := noughtsL ms) (SqT.of (s8 _ _ hf)) (SqT.of upd_same) ⟨_, rfl, iteNS rfl ?_⟩
    -- no truth among them
    have hf8 := s8 _ _ hf
    refine ⟨_, rfl, f, rfl, ⟨_, SqT.of hf8⟩, fun D4 hD4 => lc_pureT (K := K) (a := f) (xs := (noughtsL ms).map V.int) (fun _ => false) (fun v => v) hD4 (SqT.of hf8) ?_ (fun _ => rfl) ?_ (fun _ _ z => nomatch z) fun H9 s9 hd9 => ?_⟩
    · rw [List.length_map]
      unfold noughtsL
      exact Nat.le_trans (List.length_filter_le _ _) (by rw [List.length_map, List.length_range]; decide)
    · intro x hx H2 s2 Q' q'
      obtain ⟨z, hz, rfl⟩ := List.mem_map.mp hx
      exact ⟨_, rfl, _, _, _, _, false, rfl, .ty "bool", .base (.int _), kit_ty (by decide +kernel), _, rfl, q' H2 (Same.refl _)⟩
    refine ⟨by show 0 ≤ sizeLine; decide, fun l2 hl2 => neL (ns := []) (ms := []) (SqL.of (by rw [upd_ne (ne_of_none hd9 hl2), hd9, filt_no]; rfl)) (SqL.of upd_same) ⟨_, rfl, iteNS rfl ?_⟩⟩
    exact ⟨_, _, rfl, s5.trans (s6.trans (s8.trans (s9.trans (same_upd hl2))))⟩
  · rintro σ H3 ⟨v2, v3, rfl, s5⟩
    exact q H3
end
theorem all_mk {l : PySem.W.OpenLaw} {w : World} {K : PySem.W.Frag} {h : Heap} {mg : Str → Option Value} {fa : Addr} (X : K.In h) (G : h.Ns mainGlobals mg) (hfa : mg "law" = some (.ref fa))
    {f0 : Addr} {od0 an0 : Option Addr} {sl0 : Array (Option Value)} {oc0 kV0 dc0 pm0 cd0 ct0 : Value} {f1 : Addr} {od1 an1 : Option Addr} {sl1 : Array (Option Value)} {oc1 kV1 dc1 pm1 cd1 ct1 : Value} {f2 : Addr} {od2 an2 : Option Addr} {sl2 : Array (Option Value)} {oc2 kV2 dc2 pm2 cd2 ct2 : Value} {f3 : Addr} {od3 an3 : Option Addr} {sl3 : Array (Option Value)} {oc3 kV3 dc3 pm3 cd3 ct3 : Value} {f4 : Addr} {od4 an4 : Option Addr} {sl4 : Array (Option Value)} {oc4 kV4 dc4 pm4 cd4 ct4 : Value} {f5 : Addr} {od5 an5 : Option Addr} {sl5 : Array (Option Value)} {oc5 kV5 dc5 pm5 cd5 ct5 : Value} {f6 : Addr} {od6 an6 : Option Addr} {sl6 : Array (Option Value)} {oc6 kV6 dc6 pm6 cd6 ct6 : Value} {f7 : Addr} {od7 an7 : Option Addr} {sl7 : Array (Option Value)} {oc7 kV7 dc7 pm7 cd7 ct7 : Value} {f8 : Addr} {od8 an8 : Option Addr} {sl8 : Array (Option Value)} {oc8 kV8 dc8 pm8 cd8 ct8 : Value} {f9 : Addr} {od9 an9 : Option Addr} {sl9 : Array (Option Value)} {oc9 kV9 dc9 pm9 cd9 ct9 : Value} {tLAST_MARK : Nat} {tWHEEL : Nat}
    (a0 : PySem.W.nsIn K mainGlobals "worth" = some (some (.ref f0)))
    (l0 : K.lookup f0 = some ⟨oc0, od0, .func (PySem.W.fnOf "worth" "worth" (defArgs s_worth) (defBody s_worth) (defScope s_worth) .none kV0 dc0 pm0 an0 cd0 ct0), sl0⟩)
    (c0 : PySem.W.codeIn K cd0 "worth" = true)
    (k0 : PySem.W.keepIn K (.ref f0) = true)
    (a1 : PySem.W.nsIn K mainGlobals "noughts" = some (some (.ref f1)))
    (l1 : K.lookup f1 = some ⟨oc1, od1, .func (PySem.W.fnOf "noughts" "noughts" (defArgs s_noughts) (defBody s_noughts) (defScope s_noughts) .none kV1 dc1 pm1 an1 cd1 ct1), sl1⟩)
    (c1 : PySem.W.codeIn K cd1 "noughts" = true)
    (k1 : PySem.W.keepIn K (.ref f1) = true)
    (a2 : PySem.W.nsIn K mainGlobals "_law_start" = some (some (.ref f2)))
    (l2 : K.lookup f2 = some ⟨oc2, od2, .func (PySem.W.fnOf "_law_start" "_law_start" (defArgs s__law_start) (defBody s__law_start) (defScope s__law_start) .none kV2 dc2 pm2 an2 cd2 ct2), sl2⟩)
    (c2 : PySem.W.codeIn K cd2 "_law_start" = true)
    (k2 : PySem.W.keepIn K (.ref f2) = true)
    (a3 : PySem.W.nsIn K mainGlobals "_law_drawn" = some (some (.ref f3)))
    (l3 : K.lookup f3 = some ⟨oc3, od3, .func (PySem.W.fnOf "_law_drawn" "_law_drawn" (defArgs s__law_drawn) (defBody s__law_drawn) (defScope s__law_drawn) .none kV3 dc3 pm3 an3 cd3 ct3), sl3⟩)
    (c3 : PySem.W.codeIn K cd3 "_law_drawn" = true)
    (k3 : PySem.W.keepIn K (.ref f3) = true)
    (a4 : PySem.W.nsIn K mainGlobals "_law_set" = some (some (.ref f4)))
    (l4 : K.lookup f4 = some ⟨oc4, od4, .func (PySem.W.fnOf "_law_set" "_law_set" (defArgs s__law_set) (defBody s__law_set) (defScope s__law_set) .none kV4 dc4 pm4 an4 cd4 ct4), sl4⟩)
    (c4 : PySem.W.codeIn K cd4 "_law_set" = true)
    (k4 : PySem.W.keepIn K (.ref f4) = true)
    (a5 : PySem.W.nsIn K mainGlobals "_law_number" = some (some (.ref f5)))
    (l5 : K.lookup f5 = some ⟨oc5, od5, .func (PySem.W.fnOf "_law_number" "_law_number" (defArgs s__law_number) (defBody s__law_number) (defScope s__law_number) .none kV5 dc5 pm5 an5 cd5 ct5), sl5⟩)
    (c5 : PySem.W.codeIn K cd5 "_law_number" = true)
    (k5 : PySem.W.keepIn K (.ref f5) = true)
    (a6 : PySem.W.nsIn K mainGlobals "_law_worth" = some (some (.ref f6)))
    (l6 : K.lookup f6 = some ⟨oc6, od6, .func (PySem.W.fnOf "_law_worth" "_law_worth" (defArgs s__law_worth) (defBody s__law_worth) (defScope s__law_worth) .none kV6 dc6 pm6 an6 cd6 ct6), sl6⟩)
    (c6 : PySem.W.codeIn K cd6 "_law_worth" = true)
    (k6 : PySem.W.keepIn K (.ref f6) = true)
    (a7 : PySem.W.nsIn K mainGlobals "_law_times" = some (some (.ref f7)))
    (l7 : K.lookup f7 = some ⟨oc7, od7, .func (PySem.W.fnOf "_law_times" "_law_times" (defArgs s__law_times) (defBody s__law_times) (defScope s__law_times) .none kV7 dc7 pm7 an7 cd7 ct7), sl7⟩)
    (c7 : PySem.W.codeIn K cd7 "_law_times" = true)
    (k7 : PySem.W.keepIn K (.ref f7) = true)
    (a8 : PySem.W.nsIn K mainGlobals "_law_row" = some (some (.ref f8)))
    (l8 : K.lookup f8 = some ⟨oc8, od8, .func (PySem.W.fnOf "_law_row" "_law_row" (defArgs s__law_row) (defBody s__law_row) (defScope s__law_row) .none kV8 dc8 pm8 an8 cd8 ct8), sl8⟩)
    (c8 : PySem.W.codeIn K cd8 "_law_row" = true)
    (k8 : PySem.W.keepIn K (.ref f8) = true)
    (a9 : PySem.W.nsIn K mainGlobals "law" = some (some (.ref f9)))
    (l9 : K.lookup f9 = some ⟨oc9, od9, .func (PySem.W.fnOf "law" "law" (defArgs s_law) (defBody s_law) (defScope s_law) .none kV9 dc9 pm9 an9 cd9 ct9), sl9⟩)
    (c9 : PySem.W.codeIn K cd9 "law" = true)
    (k9 : PySem.W.keepIn K (.ref f9) = true)
    (vLAST_MARK : PySem.W.nsIn K mainGlobals "LAST_MARK" = some (some (.int 96 tLAST_MARK)))
    (vWHEEL : PySem.W.nsIn K mainGlobals "WHEEL" = some (some (.int 97 tWHEEL)))
    (zbool : PySem.W.nsIn K mainGlobals "bool" = some none)
    (zisinstance : PySem.W.nsIn K mainGlobals "isinstance" = some none)
    (zlen : PySem.W.nsIn K mainGlobals "len" = some none)
    (zrange : PySem.W.nsIn K mainGlobals "range" = some none)
    (zreversed : PySem.W.nsIn K mainGlobals "reversed" = some none)
    (zset : PySem.W.nsIn K mainGlobals "set" = some none)
    (zsorted : PySem.W.nsIn K mainGlobals "sorted" = some none)
    (ztuple : PySem.W.nsIn K mainGlobals "tuple" = some none) :
    ∃ fd : FuncData, (∀ (s : Shared) (v : Value), BindsTo s fd ⟨[v], []⟩ [("_law_script", v)]) ∧ ∀ base : Heap, K.In base → base.Ns mainGlobals mg → FnOk l.prog w K mg base CX0 4 fa fd ["_law_script"] (sp_law K) := by
  have e := hfa.symm.trans (PySem.W.mg_of X G a9)
  cases e
  have F0 := fun_mk (st := s_worth) l0 c0 k0
  have b0 := F0.binds (ps := ["row", "x"]) fun _ _ _ _ _ _ us hl => match us, hl with | [_, _], _ => rfl
  have F1 := fun_mk (st := s_noughts) l1 c1 k1
  have b1 := F1.binds (ps := ["row"]) fun _ _ _ _ _ _ us hl => match us, hl with | [_], _ => rfl
  have F2 := fun_mk (st := s__law_start) l2 c2 k2
  have b2 := F2.binds (ps := ["_law_script"]) fun _ _ _ _ _ _ us hl => match us, hl with | [_], _ => rfl
  have F3 := fun_mk (st := s__law_drawn) l3 c3 k3
  have b3 := F3.binds (ps := ["_law_state", "_law_many"]) fun _ _ _ _ _ _ us hl => match us, hl with | [_, _], _ => rfl
  have F4 := fun_mk (st := s__law_set) l4 c4 k4
  have b4 := F4.binds (ps := ["_law_state", "_law_most"]) fun _ _ _ _ _ _ us hl => match us, hl with | [_, _], _ => rfl
  have F5 := fun_mk (st := s__law_number) l5 c5 k5
  have b5 := F5.binds (ps := ["_law_state"]) fun _ _ _ _ _ _ us hl => match us, hl with | [_], _ => rfl
  have F6 := fun_mk (st := s__law_worth) l6 c6 k6
  have b6 := F6.binds (ps := ["_law_row_here", "_law_x"]) fun _ _ _ _ _ _ us hl => match us, hl with | [_, _], _ => rfl
  have F7 := fun_mk (st := s__law_times) l7 c7 k7
  have b7 := F7.binds (ps := ["_law_one", "_law_other"]) fun _ _ _ _ _ _ us hl => match us, hl with | [_, _], _ => rfl
  have F8 := fun_mk (st := s__law_row) l8 c8 k8
  have b8 := F8.binds (ps := ["_law_state"]) fun _ _ _ _ _ _ us hl => match us, hl with | [_], _ => rfl
  have F9 := fun_mk (st := s_law) l9 c9 k9
  have b9 := F9.binds (ps := ["_law_script"]) fun _ _ _ _ _ _ us hl => match us, hl with | [_], _ => rfl
  have T : Txt K mg (⟨f0, _, f1, _, f2, _, f3, _, f4, _, f5, _, f6, _, f7, _, f8, _, fa, _, tLAST_MARK, tWHEEL⟩ : Ad) := ⟨F0, k0, PySem.W.mg_of X G a0, b0, F1, k1, PySem.W.mg_of X G a1, b1, F2, k2, PySem.W.mg_of X G a2, b2, F3, k3, PySem.W.mg_of X G a3, b3, F4, k4, PySem.W.mg_of X G a4, b4, F5, k5, PySem.W.mg_of X G a5, b5, F6, k6, PySem.W.mg_of X G a6, b6, F7, k7, PySem.W.mg_of X G a7, b7, F8, k8, PySem.W.mg_of X G a8, b8, F9, k9, PySem.W.mg_of X G a9, b9, PySem.W.mg_of X G vLAST_MARK, PySem.W.mg_of X G vWHEEL, PySem.W.mg_none_of X G zbool, PySem.W.mg_none_of X G zisinstance, PySem.W.mg_none_of X G zlen, PySem.W.mg_none_of X G zrange, PySem.W.mg_none_of X G zreversed, PySem.W.mg_none_of X G zset, PySem.W.mg_none_of X G zsorted, PySem.W.mg_none_of X G ztuple⟩
  exact ⟨PySem.W.fnOf "law" "law" (defArgs s_law) (defBody s_law) (defScope s_law) .none kV9 dc9 pm9 an9 cd9 ct9, fun s v => .of_eq rfl, fun base _ _ => ok_law T⟩
end My
open PySem PySem.W PyProof.Rows
set_option maxHeartbeats 0 in
theorem PySem.Challenge.cw_setmend_k04_noughts_of_any_row_holds : PySem.Challenge.rw_setmend_k04_noughts_of_any_row.Holds := by
  w_on; o_law; k_head; (case hw => w_witness2)
  k_fill
  refine L2.walk_ofB (l := PySem.Challenge.rw_setmend_k04_noughts_of_any_row) (n := 63) (k := 4) (x := "_law_script") (CX := fun _ => L2.CX0) (sp := fun w => My.sp_law _) rfl (by decide) rfl ⟨rfl, by decide, by decide⟩ (fun w h Y => PySem.W.kIn_of Y) ?F (fun _ H a ns hl hb hO hS => ⟨a, ns, rfl, hS, hl, fun _ => rfl⟩) (fun _ _ _ _ _ h => h)
  case F =>
    intro w mg fa h KX G hmg
    refine' My.all_mk KX G hmg ?a0 ?l0 ?c0 ?k0 ?a1 ?l1 ?c1 ?k1 ?a2 ?l2 ?c2 ?k2 ?a3 ?l3 ?c3 ?k3 ?a4 ?l4 ?c4 ?k4 ?a5 ?l5 ?c5 ?k5 ?a6 ?l6 ?c6 ?k6 ?a7 ?l7 ?c7 ?k7 ?a8 ?l8 ?c8 ?k8 ?a9 ?l9 ?c9 ?k9 ?vLAST_MARK ?vWHEEL ?zbool ?zisinstance ?zlen ?zrange ?zreversed ?zset ?zsorted ?ztuple
    (case a0 => first | k_is | (first | rfl | k_is)); (case l0 => first | k_is | (first | rfl | k_is)); (case c0 => first | k_is | (first | rfl | k_is)); (case k0 => first | k_is | (first | rfl | k_is)); (case a1 => first | k_is | (first | rfl | k_is)); (case l1 => first | k_is | (first | rfl | k_is)); (case c1 => first | k_is | (first | rfl | k_is)); (case k1 => first | k_is | (first | rfl | k_is)); (case a2 => first | k_is | (first | rfl | k_is)); (case l2 => first | k_is | (first | rfl | k_is)); (case c2 => first | k_is | (first | rfl | k_is)); (case k2 => first | k_is | (first | rfl | k_is)); (case a3 => first | k_is | (first | rfl | k_is)); (case l3 => first | k_is | (first | rfl | k_is)); (case c3 => first | k_is | (first | rfl | k_is)); (case k3 => first | k_is | (first | rfl | k_is)); (case a4 => first | k_is | (first | rfl | k_is)); (case l4 => first | k_is | (first | rfl | k_is)); (case c4 => first | k_is | (first | rfl | k_is)); (case k4 => first | k_is | (first | rfl | k_is)); (case a5 => first | k_is | (first | rfl | k_is)); (case l5 => first | k_is | (first | rfl | k_is)); (case c5 => first | k_is | (first | rfl | k_is)); (case k5 => first | k_is | (first | rfl | k_is)); (case a6 => first | k_is | (first | rfl | k_is)); (case l6 => first | k_is | (first | rfl | k_is)); (case c6 => first | k_is | (first | rfl | k_is)); (case k6 => first | k_is | (first | rfl | k_is)); (case a7 => first | k_is | (first | rfl | k_is)); (case l7 => first | k_is | (first | rfl | k_is)); (case c7 => first | k_is | (first | rfl | k_is)); (case k7 => first | k_is | (first | rfl | k_is)); (case a8 => first | k_is | (first | rfl | k_is)); (case l8 => first | k_is | (first | rfl | k_is)); (case c8 => first | k_is | (first | rfl | k_is)); (case k8 => first | k_is | (first | rfl | k_is)); (case a9 => first | k_is | (first | rfl | k_is)); (case l9 => first | k_is | (first | rfl | k_is)); (case c9 => first | k_is | (first | rfl | k_is)); (case k9 => first | k_is | (first | rfl | k_is)); (case vLAST_MARK => first | k_is | (first | rfl | k_is)); (case vWHEEL => first | k_is | (first | rfl | k_is)); (case zbool => first | k_is | (first | rfl | k_is)); (case zisinstance => first | k_is | (first | rfl | k_is)); (case zlen => first | k_is | (first | rfl | k_is)); (case zrange => first | k_is | (first | rfl | k_is)); (case zreversed => first | k_is | (first | rfl | k_is)); (case zset => first | k_is | (first | rfl | k_is)); (case zsorted => first | k_is | (first | rfl | k_is)); (case ztuple => first | k_is | (first | rfl | k_is))
