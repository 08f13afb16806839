import PyProof.Rows.All
import Wide.All
import OpenK.AllK
import Wide.FinOn
import PyProof.EqAt
import PyProof.EqKinds
import PyProof.TupleCall
import HandS.ForMost
import HandS.Wide
import HandS.EndBits
import HandS.IsInst
import HandS.TupAny
import HandS.Exc
import HandS.TryOnly
import HandS.ExcOwn
import HandS.WordsExc
import HandS.Strs
import HandS.SetFor
import HandS.SortInts
import HandS.Star
import HandS.Rev
import HandS.Zip
import PySem.Challenge.RW_setmend_k03_rows_of_sets
set_option Elab.async false
set_option linter.all false
set_option maxRecDepth 100000
set_option maxHeartbeats 4000000
namespace MyS
open PySem PySem.Spec PyProof.Rows L2 Srt
section
variable {prog : Program} {w : World} {A : Around} {E : Value → Shared → Prop} {s : Shared}
/-- sorted(x) where collecting x hands out ints -/
theorem sorted_gen {a : Addr} {J : Shared → Prop} {C : List Value → Prop} {D : List Int → Prop} {Q : Value → Shared → Prop}
    (hcol : ∀ Q' : List Value → Shared → Prop, (∀ s1 vs, J s1 → C vs → Q' vs s1) → wpAny (model prog w) A.in1 (collect (.ref a)) Q' E s)
    (hC : ∀ vs, C vs → ∃ ns, IntsAre vs ns ∧ vs.length ≤ sizeLine ∧ D ns)
    (hQ : ∀ (s1 s' : Shared) (p : Addr) (out : List Value) (c : Nat) (ns ns' : List Int), J s1 → (∀ b o, s1.heap.get? b = some o → s'.heap.get? b = some o) → s'.gens = s1.gens → s'.os = s1.os → s1.heap.objs.size ≤ p → s'.heap.get? p = some (seqObj "list" out.toArray c) →
      IntsAre out ns' → ns'.Perm ns → ns'.Pairwise (· ≤ ·) → D ns → Q (.ref p) s') :
    wpAny (model prog w) A (call (.builtin "sorted") [.ref a]) Q E s := by
  refine Calls.call_function_entry kind_sorted plain_sorted entry_sorted (args_sorted1 _) ?_
  unfold Builtin.«sorted»
  refine wpAny_bind (m := checkCount "sorted" 1 1 _) (wpAny_pure (wpAny_bind (hcol _ fun s1 vs j1 hc => ?_)))
  obtain ⟨ns, hI, hlen, hD⟩ := hC vs hc
  refine wpAny_bind (wpAny_newList ?_ hlen)
  have h0 : (s1.heap.push (seqObj "list" vs.toArray 0)).get? s1.heap.objs.size = some (seqObj "list" vs.toArray 0) := Heap.get?_push_size _ rfl
  refine wpAny_bind (wpAny_holding (wpAny_call_entry slot_list_sort ⟨_, h0, rfl⟩ entry_list_sort (SrtO.list_sort_ord SrtO.swo_int h0 hlen (fun h2 => SrtO.ints_sortable hI h2) fun out hs hb => ⟨_, rfl, ?_⟩) (args_list_sort _)))
  obtain ⟨c, hcell⟩ := sortedHeap_at (vs := vs) (out := out.toArray) h0
  obtain ⟨i1, i2, i3⟩ := SrtO.ints_out hI hs hb
  refine wpAny_pure ⟨_, rfl, hQ s1 _ _ out c ns _ j1 (fun b u e => ?_) rfl rfl (Nat.le_refl _) hcell i1 i2 i3 hD⟩
  have lt1 := Heap.lt_size e
  show (sortedHeap (s1.heap.push (seqObj "list" vs.toArray 0)) s1.heap.objs.size vs out.toArray).get? b = some u
  rw [sortedHeap_old (Nat.ne_of_lt lt1) (by rw [size_push']; exact Nat.lt_succ_of_lt lt1)]
  exact Heap.get?_push_of_some _ e
end
theorem lt_nd : ∀ l : List Int, l.Pairwise (· ≤ ·) → l.Nodup → l.Pairwise (· < ·)
  | [], _, _ => .nil
  | x :: r, h, n => by
    have h' := List.pairwise_cons.mp h
    have n' := List.nodup_cons.mp n
    exact .cons (fun y hy => Int.lt_iff_le_and_ne.mpr ⟨h'.1 y hy, fun e => n'.1 (e ▸ hy)⟩) (lt_nd r h'.2 n'.2)
end MyS
namespace MyS
open PySem PySem.Spec PyProof.Rows L2
section
variable {P : Program} {w : World} {A : Around} {E : Value → Shared → Prop} {s : Shared}
/-- the set that set(..) begins with -/
def set0 (w : World) : Obj := { cls := .type "set", dict := none, data := .set #[] 0 (.fresh 0 0 (!w.params.followText "set-order")) }
set_option maxHeartbeats 3200000 in
theorem set_of_list {l : Addr} {items : Array Value} (ns : List Int) {Q : Value → Shared → Prop} (hh : A.handled = none) (hl : s.heap.IsList l items) (hit : IntsAre items.toList ns) (hb : ns.length + 1 < scanBound)
    (h : ∀ (h' : Heap) (tk c : Nat), SetR w h' s.heap.objs.size (fun j => decide (j ∈ ns)) c → c ≤ ns.length → (∀ b o, s.heap.get? b = some o → h'.get? b = some o) → Q (.ref s.heap.objs.size) { s with heap := h', toks := tk }) :
    wpAny (model P w) A (call (.type "set") [.ref l]) Q E s := by
  have hn : items.size = ns.length := by
    rw [← IntsAre.length hit, Array.length_toList]
  have hval : ∀ (i : Nat) (v : Value), items[i]? = some v → ∃ k t, ns[i]? = some k ∧ v = .int k t := fun i v hv => by
    have hi : i < ns.length := hn ▸ (Array.getElem?_eq_some_iff.mp hv).1
    obtain ⟨t, e⟩ := IntsAre.int_at hit i v (by rw [Array.getElem?_toList]; exact hv)
    have g : ns[i]? = some ns[i] := List.getElem?_eq_getElem hi
    exact ⟨ns[i], t, g, by rw [e, List.getD_eq_getElem?_getD, g]; rfl⟩
  have lt : l < s.heap.objs.size := by
    obtain ⟨o, ho, _⟩ := hl
    exact Heap.lt_size ho
  obtain ⟨c, tl, hmro⟩ := F.called_set.mro
  have f1 := F.called_set.made
  have f2 := F.called_set.sub
  have f3 := F.called_set.notType
  have f4 := F.called_set.canCreate
  have f5 := F.typeCall_set_1 (.ref l)
  refine wpAny_call (codeAny_of_tree ?_)
  show wpAny _ _ (callAny (.type "set") _) _ _ _
  refine wpAny_pure ⟨Code.quiet_builtin _ (by decide +kernel), codeAny_builtin F.entry_type_call ?_⟩
  rw [Around.under_plain (weight_type_call_type "set" [.ref l] []) rfl]
  repeat (any_goals (first | assumption | wp_step))
  refine codeAny_mono (code_set_led1 (.ref l) (E := E) (Q₁ := fun u s₁ => u = .ref s.heap.objs.size ∧ s₁ = { s with heap := s.heap.push (set0 w) }) ⟨rfl, rfl⟩) fun r s₁ hr => ?_
  match r, hr with
  | .error e, hr => exact hr
  | .ok (.ret u), hr =>
    obtain ⟨rfl, rfl⟩ := hr
    have hS : (s.heap.push (set0 w)).get? s.heap.objs.size = some (set0 w) := Heap.get?_push_size _ rfl
    have hT : Shared.TypeIs { s with heap := s.heap.push (set0 w) } (.ref s.heap.objs.size) "set" := ⟨_, hS, rfl⟩
    have i1 := F.called_set.init.lookup
    have i2 := F.called_set.init.bind (.ref s.heap.objs.size)
    repeat (any_goals (first | assumption | wp_step))
    refine codeAny_mono (codeAny_call_builtin (R := wants (fun r s₂ => r = .none ∧ ∃ h' tk c, s₂ = { s with heap := h', toks := tk } ∧ SetR w h' s.heap.objs.size (fun j => decide (j ∈ ns)) c ∧ c ≤ ns.length ∧ (∀ b o, s.heap.get? b = some o → h'.get? b = some o)) E)
      F.called_set.init.plain F.entry_set_init (check_set_init_1 hT ?_)) fun r₂ s₂ hr₂ => ?_
    · obtain ⟨ol, hol, hcl, nl, hdl⟩ := hl
      obtain ⟨ocls, odict, odata, oslots⟩ := ol
      dsimp only at hcl hdl
      subst hcl hdl
      have hol' : (s.heap.push (set0 w)).get? l = some { cls := .type "list", dict := odict, data := .seq items nl, slots := oslots } := Heap.get?_push_of_some _ hol
      have hl1 : (s.heap.push (set0 w)).IsList l items := ⟨_, hol', rfl, nl, rfl⟩
      have n1 := F.sub_list_set
      have n2 := F.sub_list_frozenset
      have n3 : (Value.type "list" == Value.type "dict") = false := by decide
      unfold Builtin.«set.__init__» noKeywords Builtin.Frozenset.updateFrom
      generalize hPI : pyIter = PI
      wp_walk
      subst hPI
      refine wpAny_pyIter_list hl1 (wpAny_bind (wpAny_runValue ?_))
      have sz : (s.heap.push (set0 w)).objs.size = s.heap.objs.size + 1 := Heap.size_push ..
      have a1 : l ≠ (s.heap.push (set0 w)).objs.size := by
        rw [sz]
        exact Nat.ne_of_lt (Nat.lt_succ_of_lt lt)
      have a2 : s.heap.objs.size ∉ [(s.heap.push (set0 w)).objs.size, l] := fun m => by
        rw [sz] at m
        rcases List.mem_cons.mp m with m | m
        · exact absurd m (Nat.ne_of_lt (Nat.lt_succ_self _))
        · exact absurd (List.mem_singleton.mp m) (Nat.ne_of_gt lt)
      have hh3 : A.in1.in1.in1.handled = none := by simp [hh]
      refine set_update_ints ((Walks.list hh3 _ l a1 items).toS) s.heap.objs.size a2 ns hn hb hval (items.size - 0) 0 _ (by omega) (Nat.zero_le _) ⟨⟨_, Heap.get?_push_size _ rfl, rfl, rfl⟩, hl1.push _⟩ ⟨0, Nat.le_refl 0, setR_new_at (Heap.get?_push_of_some _ hS)⟩ ?_
      intro s' c' hm hc' hS'
      obtain ⟨h', g2, d', tk', os'⟩ := s'
      obtain rfl : g2 = s.gens := hm.gens
      obtain rfl : d' = s.drawn := hm.drawn
      obtain rfl : os' = s.os := hm.os
      show wpAny _ _ _ _ _ _
      refine wpAny_pure ?_
      show wpAny _ _ (ret Value.none) _ _ _
      refine wpAny_pure ⟨rfl, h', tk', c', rfl, hS', hn ▸ hc', fun b o e => ?_⟩
      have b0 := Heap.lt_size e
      refine hm.heap b o (fun m => ?_) (Heap.get?_push_of_some _ (Heap.get?_push_of_some _ e))
      rw [sz] at m
      rcases List.mem_cons.mp m with m | m
      · exact absurd m (Nat.ne_of_lt b0)
      · exact absurd (List.mem_singleton.mp m) (Nat.ne_of_lt (Nat.lt_succ_of_lt b0))
    · match r₂, hr₂ with
      | .error e, hr₂ => exact hr₂
      | .ok (.ret r), hr₂ =>
        obtain ⟨rfl, h', tk, c', rfl, hS', hc', hk'⟩ := hr₂
        repeat (any_goals (first | assumption | wp_step))
        exact h _ _ _ hS' hc' hk'
end
end MyS
namespace L2
open PySem PySem.Spec PyProof.Rows
/-- sorted(t), t a list or tuple of ints -/
def rSortedQ (K : PySem.W.Frag) : List V → Hp → VK → Prop := fun vs H Q => ∃ (a : Addr) (ns : List Int), vs = [V.ref a] ∧ (SqL K H a (ns.map V.int) ∨ SqT K H a (ns.map V.int)) ∧
  ∀ (ms : List Int) (p : Addr), ms.Perm ns → ms.Pairwise (· ≤ ·) → H p = none → Q (.ref p) (upd H p (.lst (ms.map V.int)))
/-- sorted(found), any number below 4,000 -/
def rSortedU (w : World) : List V → Hp → VK → Prop := fun vs H Q => ∃ (a : Addr) (S : Int → Bool) (n : Nat), vs = [V.ref a] ∧ H a = some (SetO w a S n) ∧ n ≤ 4000 ∧
  ∀ (ms : List Int) (p : Addr), ms.Pairwise (· < ·) → (∀ k : Int, k ∈ ms ↔ S k = true) → ms.length = n → H p = none → Q (.ref p) (upd H p (.lst (ms.map V.int)))
section
variable {X : Cx}
theorem inv_laid {pins : List (Addr × Obj)} {σ : St} {H : Hp} {s s' : Shared} {p : Addr} {o : HO} (I : Inv X pins σ H s) (k : ∀ b u, s.heap.get? b = some u → s'.heap.get? b = some u) (hp : s.heap.objs.size ≤ p) (g : s'.gens = s.gens) (os : s'.os = s.os)
    (new : ObjOk X.prog X.w (upd H p o) s'.heap p o) : H p = none ∧ Inv X pins σ (upd H p o) s' := by
  have hn : H p = none := I.hok.fresh hp
  exact ⟨hn, I.call' (ch := []) os (Un.laid k hp hn) (I.hok.laid k hp new) (by rw [g]; exact I.bare) fun _ z => nomatch z⟩
theorem call_sortedQ (hc : X.calm = true) : CallR X (.builtin "sorted") (rSortedQ X.K) := by
  intro pins s σ H vs us Q I r h
  obtain ⟨a, ns, rfl, hs, q⟩ := h
  rw [Vals.ref1 r]
  have key : ∀ (T : String) (o : Obj) (its : List Value) (n : Nat), (T = "list" ∨ T = "tuple") → s.heap.get? a = some o → o.cls = .type T → o.data = .seq its.toArray n → IntsAre its ns → its.length ≤ sizeLine →
      wpAny (model X.prog X.w) X.A (call (.builtin "sorted") [.ref a]) (EP X pins σ Q) X.xe s := by
    intro T o its n hT ho hcl hd hi hz
    refine MyS.sorted_gen (J := fun s1 => Inv X pins σ H s1) (C := fun vs => vs = its) (D := fun ms => ms = ns) (fun Q' hq => ?_) (fun vs e => ⟨ns, by rw [e]; exact hi, by rw [e]; exact hz, rfl⟩) fun s1 s' p out c ns1 ms I1 k g os hp hcell i1 i2 i3 e => ?_
    · exact wpAny_collect_seq a hT ho hcl hd (fun h' hk => hq _ _ (I.kept (t' := s.toks) hk) (by simp)) (by rw [List.size_toArray]; exact hz)
    · subst e
      have hlen : (ms.map V.int).length ≤ sizeLine := by
        rw [List.length_map, i2.length_eq, ← IntsAre.length hi]
        exact hz
      obtain ⟨hn, J⟩ := inv_laid I1 k hp g os (o := .lst (ms.map V.int)) ⟨hlen, out, c, vals_of_ints i1, hcell⟩
      exact ⟨.ref p, _, J, rfl, q ms p i2 i3 hn⟩
  rcases hs with hs | hs
  · obtain ⟨its, rv, pl, hz⟩ := I.list hs
    obtain ⟨o, ho, hcl, n, hd⟩ := pl.isList
    exact key "list" o its n (.inl rfl) ho hcl hd rv.ints (by rw [← rv.length]; exact hz)
  · obtain ⟨its, rv, pl, hz⟩ := I.tuple hs
    obtain ⟨o, ho, hcl, n, hd⟩ := pl
    exact key "tuple" o its n (.inr rfl) ho hcl hd rv.ints (by rw [← rv.length]; exact hz)
theorem call_sortedU (hc : X.calm = true) : CallR X (.builtin "sorted") (rSortedU X.w) := by
  intro pins s σ H vs us Q I r h
  obtain ⟨a, S, n, rfl, ha, hsm, q⟩ := h
  obtain ⟨o, es, ep, t, ho, hex, hd, hg, hnd, hmem, hsz, hfit, hn, hris, hled⟩ := setO_get I ha
  rw [Vals.ref1 r]
  refine MyS.sorted_gen (J := fun s1 => Inv X pins σ H s1) (C := fun vs => vs.Perm (es.toList.map (·.2))) (D := fun ms => ms.Perm (es.toList.map keyOf)) (fun Q' hq => ?_) (fun vs e => ?_) fun s1 s' p out c ns1 ms I1 k g os hp hcell i1 i2 i3 e => ?_
  · exact collect_set (A := X.A.in1) (I.ok.hd hc) ⟨o, ho, hex.1, hd⟩ hfit hsz hris hled fun s1 out k _ g os pm => hq s1 out (I.call' (ch := []) os (Un.kept k) (I.hok.kept k) (by rw [g]; exact I.bare) fun _ z => nomatch z) pm
  · have hi : ∀ v ∈ vs, ∃ i t, v = Value.int i t := fun v hv => by
      obtain ⟨x, hx, ex⟩ := List.mem_map.mp (e.mem_iff.mp hv)
      obtain ⟨i, t, h1, _⟩ := hg x hx
      exact ⟨i, t, by rw [← ex]; exact h1⟩
    refine ⟨vs.map SrtO.iv, SrtO.ints_iv hi, ?_, ?_⟩
    · rw [e.length_eq, List.length_map, Array.length_toList, hn]
      exact Nat.le_trans hsm (by decide)
    · have pm := e.map SrtO.iv
      rw [List.map_map] at pm
      have ek : (es.toList.map fun x => SrtO.iv x.2) = es.toList.map keyOf := by
        refine List.map_congr_left fun x hx => ?_
        obtain ⟨i, t, h1, _⟩ := hg x hx
        unfold keyOf
        rw [h1]
        rfl
      rw [← ek]
      exact pm
  · have pm : ms.Perm (es.toList.map keyOf) := i2.trans e
    have hlen0 : ms.length = n := by rw [pm.length_eq, List.length_map, Array.length_toList]; exact hn
    have hlen : (ms.map V.int).length ≤ sizeLine := by
      rw [List.length_map, hlen0]
      exact Nat.le_trans hsm (by decide)
    obtain ⟨hfree, J⟩ := inv_laid I1 k hp g os (o := .lst (ms.map V.int)) ⟨hlen, out, c, vals_of_ints i1, hcell⟩
    exact ⟨.ref p, _, J, rfl, q ms p (MyS.lt_nd ms i3 (pm.nodup_iff.mpr hnd)) (fun z => by rw [pm.mem_iff, ← hmem z]) hlen0 hfree⟩
/-- set(t), t a list or tuple of ints -/
def rSetQ (K : PySem.W.Frag) (w : World) : List V → Hp → VK → Prop := fun vs H Q => ∃ (a : Addr) (ns : List Int), vs = [V.ref a] ∧ (SqL K H a (ns.map V.int) ∨ SqT K H a (ns.map V.int)) ∧ ns.length ≤ 4000 ∧
  ∀ (c : Nat) (p : Addr), c ≤ ns.length → H p = none → Q (.ref p) (upd H p (SetO w p (fun j => decide (j ∈ ns)) c))
theorem call_setQ (hc : X.calm = true) : CallR X (.type "set") (rSetQ X.K X.w) := by
  intro pins s σ H vs us Q I r h
  obtain ⟨a, ns, rfl, hs, hlen, q⟩ := h
  rw [Vals.ref1 r]
  have hb : ns.length + 1 < scanBound := Nat.lt_of_le_of_lt (Nat.succ_le_succ hlen) (by decide)
  have fin : ∀ (h' : Heap) (tk c : Nat), SetR X.w h' s.heap.objs.size (fun j => decide (j ∈ ns)) c → c ≤ ns.length → (∀ b o, s.heap.get? b = some o → h'.get? b = some o) → EP X pins σ Q (.ref s.heap.objs.size) { s with heap := h', toks := tk } := fun h' tk c R lc k => by
    obtain ⟨hn, J⟩ := inv_laid (s' := { s with heap := h', toks := tk }) I k (Nat.le_refl _) rfl rfl (o := SetO X.w s.heap.objs.size (fun j => decide (j ∈ ns)) c) (setO_new R)
    exact ⟨.ref _, _, J, rfl, q c _ lc hn⟩
  rcases hs with hs | hs
  · obtain ⟨its, rv, pl, hz⟩ := I.list hs
    exact MyS.set_of_list ns (I.ok.hd hc) pl.isList rv.ints hb fin
  · obtain ⟨its, rv, pl, hz⟩ := I.tuple hs
    exact call_set_tupI ns (I.ok.hd hc) pl rv.ints hb fin
end
end L2
namespace My
open PySem PySem.Spec PyProof.Rows L2
/-! ### heaps and the drawing state -/
theorem same_upd {H : Hp} {p : Addr} {o : HO} (h : H p = none) : Same H (upd H p o) := fun b x e => by
  rw [upd_ne (ne_of_none e h)]
  exact e
theorem rd_same {H H' : Hp} {a : Addr} {u : HO} (e : Same H H') (h : Rd H a u) : Rd H' a u := by
  rcases h with h | ⟨o, h⟩
  · exact .inl (e a _ h)
  · exact .inr ⟨o, e a _ h⟩
theorem seqT_same {K : PySem.W.Frag} {H H' : Hp} {a : Addr} {xs : List V} (e : Same H H') (h : SqT K H a xs) : SqT K H' a xs := by
  rcases h with h | h
  · exact .inl (rd_same e h)
  · exact .inr h
theorem int_at {ns : List Int} {i : Nat} {y : V} (h : (ns.map V.int)[i]? = some y) : ∃ z, ns[i]? = some z ∧ y = V.int z := by
  rw [List.getElem?_map] at h
  cases e : ns[i]? with
  | none =>
    rw [e] at h
    cases h
  | some z =>
    rw [e] at h
    exact ⟨z, rfl, (Option.some.inj h).symm⟩
/-! rules whose frame is a comprehension's -/
section
variable {X : Cx} {K : PySem.W.Frag}
theorem ix_tupK (h : X.K = K) : IxR X (rIxT K) := h ▸ ix_tup
theorem ix_listK (h : X.K = K) : IxR X (rIxL K) := h ▸ ix_list
theorem op_in_seqK (h : X.K = K) : OpR X (compareOp .In) (rIn K false) := h ▸ op_in_seq
theorem op_notIn_seqK (h : X.K = K) : OpR X (compareOp .NotIn) (rIn K true) := h ▸ op_notIn_seq
theorem call_isiK' (h : X.K = K) : CallR X (.builtin "isinstance") (rIsi K) := h ▸ call_isi
def rLenQ (K : PySem.W.Frag) : List V → Hp → VK → Prop := fun xs H Q => ∃ p ys, xs = [.ref p] ∧ (SqL K H p ys ∨ SqT K H p ys) ∧ Q (.int ys.length) H
theorem call_len_seqK (h : X.K = K) : CallR X (.builtin "len") (rLenQ K) := h ▸ call_len_seq
end
/-- the law's drawing state: a list of the script, how many were taken, a mixed number, a rest -/
structure StAt (K : PySem.W.Frag) (a st : Addr) (H : Hp) : Prop where
  ex : ∃ i m r : Int, 0 ≤ i ∧ H st = some (.lst [.ref a, .int i, .int m, .int r])
  sc : ∃ ns : List Int, SqL K H a (ns.map V.int)
/-- what drawing may do to the heap -/
structure Go (K : PySem.W.Frag) (st : Addr) (H H' : Hp) : Prop where
  keep : ∀ b o, b ≠ st → H b = some o → H' b = some o
  st : ∀ a, StAt K a st H → StAt K a st H'
section
variable {K : PySem.W.Frag} {st a : Addr} {H H1 H2 H' : Hp}
theorem Go.refl (H : Hp) : Go K st H H := ⟨fun _ _ _ e => e, fun _ h => h⟩
theorem Go.trans (x : Go K st H H1) (y : Go K st H1 H2) : Go K st H H2 := ⟨fun b o hb e => y.keep b o hb (x.keep b o hb e), fun a h => y.st a (x.st a h)⟩
theorem StAt.same (e : Same H H') (h : StAt K a st H) : StAt K a st H' := by
  obtain ⟨⟨i, m, r, hi, hs⟩, ns, hn⟩ := h
  exact ⟨⟨i, m, r, hi, e _ _ hs⟩, ns, e.seq hn⟩
theorem Go.of (e : Same H H') : Go K st H H' := ⟨fun b o _ h => e b o h, fun _ h => h.same e⟩
theorem Go.new {p : Addr} {o : HO} (h : H p = none) : Go K st H (upd H p o) := Go.of (same_upd h)
theorem StAt.ne {b : Addr} {o : HO} (h : StAt K a st H) (e : H b = some o) (hb : ∀ xs, o ≠ .lst xs) : b ≠ st := fun z => by
  obtain ⟨⟨i, m, r, _, hs⟩, _⟩ := h
  rw [z, hs] at e
  exact hb _ (Option.some.inj e).symm
/-- a stored state -/
theorem StAt.upd {i m r : Int} (h : StAt K a st H) (hi : 0 ≤ i) : StAt K a st (upd H st (.lst [.ref a, .int i, .int m, .int r])) := by
  obtain ⟨⟨i0, m0, r0, hi0, hs⟩, ns, hn⟩ := h
  refine ⟨⟨i, m, r, hi, upd_same⟩, ns, ?_⟩
  rcases hn with (hn | ⟨o, hn⟩) | hn
  · have hne : a ≠ st := fun z => by
      rw [z, hs] at hn
      have e := HO.lst.inj (Option.some.inj hn)
      cases ns with
      | nil => cases e
      | cons n r => cases e
    exact .inl (.inl (by rw [upd_ne hne]; exact hn))
  · have hne : a ≠ st := fun z => by
      rw [z, hs] at hn
      cases hn
    exact .inl (.inr ⟨o, by rw [upd_ne hne]; exact hn⟩)
  · exact .inr hn
theorem Go.upd {i m r : Int} (h : StAt K a st H) (hi : 0 ≤ i) : Go K st H (L2.upd H st (.lst [.ref a, .int i, .int m, .int r])) := by
  refine ⟨fun b o hb e => by rw [upd_ne hb]; exact e, fun a' h' => ?_⟩
  have e : a' = a := by
    obtain ⟨⟨i0, m0, r0, hi0, hs⟩, _⟩ := h
    obtain ⟨⟨i1, m1, r1, hi1, hs1⟩, _⟩ := h'
    rw [hs] at hs1
    injection hs1 with e1
    injection e1 with e2
    injection e2 with e3
    injection e3 with e4
    exact e4.symm
  subst e
  exact h'.upd hi
theorem Go.seqT {b : Addr} {xs : List V} (g : Go K st H H') (h : StAt K a st H) (hb : SqT K H b xs) : SqT K H' b xs := by
  rcases hb with (e | ⟨o, e⟩) | e
  · exact .inl (.inl (g.keep b _ (h.ne e (fun _ z => nomatch z)) e))
  · exact .inl (.inr ⟨o, g.keep b _ (h.ne e (fun _ z => nomatch z)) e⟩)
  · exact .inr e
theorem Go.free {p : Addr} (g : Go K st H H') (h : StAt K a st H) (hp : H' p = none) : H p = none := by
  cases e : H p with
  | none => rfl
  | some o =>
    by_cases hq : p = st
    · obtain ⟨⟨i, m, r, _, hs⟩, _⟩ := g.st a h
      rw [hq, hs] at hp
      cases hp
    · rw [g.keep p o hq e] at hp
      cases hp
end
theorem StAt.fresh {K : PySem.W.Frag} {a st p : Addr} {H : Hp} (h : StAt K a st H) (hp : H p = none) : p ≠ st := fun z => by
  obtain ⟨⟨i, m, r, _, hs⟩, _⟩ := h
  rw [z, hs] at hp
  cases hp
/-- a new object may change -/
theorem Go.mut {K : PySem.W.Frag} {st a p : Addr} {H H' : Hp} {o : HO} (g : Go K st H H') (h : StAt K a st H) (hp : H p = none) : Go K st H (L2.upd H' p o) := by
  have hne := h.fresh hp
  refine ⟨fun b u hb e => by rw [upd_ne (ne_of_none e hp)]; exact g.keep b u hb e, fun a' h' => ?_⟩
  obtain ⟨⟨i, m, r, hi, hs⟩, _⟩ := g.st a' h'
  obtain ⟨⟨i0, m0, r0, hi0, hs0⟩, ns, hn⟩ := h'
  refine ⟨⟨i, m, r, hi, by rw [upd_ne hne.symm]; exact hs⟩, ns, ?_⟩
  rcases hn with (hn | ⟨o', hn⟩) | hn
  · have hne' : a' ≠ st := fun z => by
      rw [z, hs0] at hn
      have e := HO.lst.inj (Option.some.inj hn)
      cases ns with
      | nil => cases e
      | cons n r => cases e
    exact .inl (.inl (by rw [upd_ne (ne_of_none hn hp)]; exact g.keep _ _ hne' hn))
  · have hne' : a' ≠ st := fun z => by
      rw [z, hs0] at hn
      cases hn
    exact .inl (.inr ⟨o', by rw [upd_ne (ne_of_none hn hp)]; exact g.keep _ _ hne' hn⟩)
  · exact .inr hn
/-- [f(..) for x in range(n)], each an int of which P holds, drawing meanwhile -/
theorem lc_ints {K : PySem.W.Frag} {st a D : Addr} {H : Hp} {te : TE} {σ : L2.St} {vs : List Nat} {j : Nat} {lo : Int} {n : Nat} {Qd : Hp → Prop} (P : Int → Prop) (hS : StAt K a st H) (hD : H D = none) (hn : n ≤ 10000)
    (hw : ∀ x, wipe ((wipe σ vs).set j (some x)) vs = wipe σ vs)
    (ht : ∀ (i : Nat) (H1 : Hp), i < n → Go K st H H1 → ∀ Q : VK, (∀ (v : Int) (H2 : Hp), P v → Go K st H1 H2 → Q (.int v) H2) → te ((wipe σ vs).set j (some (.int (lo + (i : Int))))) H1 Q)
    (q : ∀ (ns : List Int) (H' : Hp), ns.length = n → (∀ z ∈ ns, P z) → Go K st H H' → H' D = some (.lst (ns.map V.int)) → Qd H') :
    ∃ W : Nat → Nat → Hp → Prop, (∃ m, W 0 m (upd H D (.lst []))) ∧ ∀ i m H, W i m H →
      ((Itr lo n).stop i H ∧ Qd H) ∨ ((Itr lo n).go i H ∧ ∃ Nx : Hp → Prop, (∀ H', Nx H' → ∃ m', m' < m ∧ W (i + 1) m' H') ∧ ∀ x H', (Itr lo n).yld i H x H' → (gName j) x (wipe σ vs) H' fun σ2 H2 => wipe σ2 vs = wipe σ vs ∧ tYes σ2 H2 fun b H3 =>
        if b = true then te σ2 H3 fun y H4 => ∃ acc, H4 D = some (.lst acc) ∧ acc.length < sizeLine ∧ Nx (upd H4 D (.lst (acc ++ [y]))) else Nx H3) := by
  refine lc_range (fun i H' => ∃ ns : List Int, ns.length = i ∧ (∀ z ∈ ns, P z) ∧ Go K st H H' ∧ H' D = some (.lst (ns.map V.int))) ⟨[], rfl, (fun _ z => nomatch z), Go.new hD, upd_same⟩ ?_ ?_
  · rintro i H1 hi ⟨ns, hl, hP, g, hd⟩
    refine ⟨hw _, ?_⟩
    show te ((wipe σ vs).set j (some (.int (lo + (i : Int))))) H1 _
    refine ht i H1 hi g _ fun v H2 hv g2 => ?_
    have hd2 : H2 D = some (.lst (ns.map V.int)) := g2.keep _ _ (hS.fresh hD) hd
    refine ⟨_, hd2, ?_, ns ++ [v], ?_, ?_, (g.trans g2).mut hS hD, ?_⟩
    · rw [List.length_map]
      exact Nat.lt_of_lt_of_le (by omega : ns.length < 10000) (by decide)
    · rw [List.length_append, hl]
      rfl
    · intro z hz
      rcases List.mem_append.mp hz with h | h
      · exact hP z h
      · rw [List.mem_singleton.mp h]
        exact hv
    · rw [upd_same, List.map_append]
      rfl
  · rintro H' ⟨ns, hl, hP, g, hd⟩
    exact q ns H' hl hP g hd
theorem _root_.L2.Same.mut {H H' : Hp} {p : Addr} {o : HO} (e : Same H H') (h : H p = none) : Same H (upd H' p o) := fun b u q => by
  rw [upd_ne (ne_of_none q h)]
  exact e b u q
theorem filt_take {xs : List V} {f : V → Bool} {v : V → V} {i : Nat} {x : V} (h : xs[i]? = some x) : ((xs.take (i + 1)).filter f).map v = ((xs.take i).filter f).map v ++ (if f x = true then [v x] else []) := by
  rw [List.take_add_one, h, List.filter_append, List.map_append]
  congr 1
  show ([x].filter f).map v = _
  by_cases c : f x = true
  · rw [if_pos c, List.filter_cons, if_pos c]
    rfl
  · rw [if_neg c, List.filter_cons, if_neg c]
    rfl
/-- what a comprehension without drawing has made behind i turns -/
def Made (H1 : Hp) (D : Addr) (f : V → Bool) (v : V → V) (xs : List V) (i : Nat) (H' : Hp) : Prop := Same H1 H' ∧ H' D = some (.lst (((xs.take i).filter f).map v))
theorem made_turn {H1 H' : Hp} {D : Addr} {f : V → Bool} {v : V → V} {xs : List V} {i : Nat} {x : V} {tt : TT} {te : TE} {σ2 : L2.St} (hD : H1 D = none) (hz : xs.length ≤ 10000) (hx : xs[i]? = some x) (p : Made H1 D f v xs i H')
    (ht : ∀ H2, Same H1 H2 → ∀ Q : Bool → Hp → Prop, (∀ H3, Same H2 H3 → Q (f x) H3) → tt σ2 H2 Q) (he : f x = true → ∀ H2, Same H1 H2 → ∀ Q : VK, (∀ H3, Same H2 H3 → Q (v x) H3) → te σ2 H2 Q) :
    tt σ2 H' fun b H3 => if b = true then te σ2 H3 fun y H4 => ∃ acc, H4 D = some (.lst acc) ∧ acc.length < sizeLine ∧ Made H1 D f v xs (i + 1) (upd H4 D (.lst (acc ++ [y]))) else Made H1 D f v xs (i + 1) H3 := by
  obtain ⟨sm, hd⟩ := p
  refine ht H' sm _ fun H3 s3 => ?_
  have hd3 := s3 _ _ hd
  by_cases c : f x = true
  · rw [if_pos c]
    refine he c H3 (sm.trans s3) _ fun H4 s4 => ?_
    have hd4 := s4 _ _ hd3
    refine ⟨_, hd4, ?_, (sm.trans (s3.trans s4)).mut hD, ?_⟩
    · rw [List.length_map]
      refine Nat.lt_of_le_of_lt (Nat.le_trans (List.length_filter_le _ _) ?_) (show 10000 < sizeLine by decide)
      rw [List.length_take]
      omega
    · rw [upd_same, filt_take hx, if_pos c]
  · rw [if_neg c]
    refine ⟨sm.trans s3, ?_⟩
    rw [hd3, filt_take hx, if_neg c, List.append_nil]
theorem lc_pureT {K : PySem.W.Frag} {D a : Addr} {H1 : Hp} {σ : L2.St} {vs : List Nat} {j : Nat} {tt : TT} {te : TE} {xs : List V} {Qd : Hp → Prop} (f : V → Bool) (v : V → V) (hD : H1 D = none) (ha : SqT K H1 a xs) (hz : xs.length ≤ 10000)
    (hw : ∀ x, wipe ((wipe σ vs).set j (some x)) vs = wipe σ vs)
    (ht : ∀ x ∈ xs, ∀ H2, Same H1 H2 → ∀ Q : Bool → Hp → Prop, (∀ H3, Same H2 H3 → Q (f x) H3) → tt ((wipe σ vs).set j (some x)) H2 Q) (he : ∀ x ∈ xs, f x = true → ∀ H2, Same H1 H2 → ∀ Q : VK, (∀ H3, Same H2 H3 → Q (v x) H3) → te ((wipe σ vs).set j (some x)) H2 Q)
    (q : ∀ H', Same H1 H' → H' D = some (.lst ((xs.filter f).map v)) → Qd H') :
    ∃ W : Nat → Nat → Hp → Prop, (∃ m, W 0 m (upd H1 D (.lst []))) ∧ ∀ i m H, W i m H →
      ((Itt K a).stop i H ∧ Qd H) ∨ ((Itt K a).go i H ∧ ∃ Nx : Hp → Prop, (∀ H', Nx H' → ∃ m', m' < m ∧ W (i + 1) m' H') ∧ ∀ x H', (Itt K a).yld i H x H' → (gName j) x (wipe σ vs) H' fun σ2 H2 => wipe σ2 vs = wipe σ vs ∧ tt σ2 H2 fun b H3 =>
        if b = true then te σ2 H3 fun y H4 => ∃ acc, H4 D = some (.lst acc) ∧ acc.length < sizeLine ∧ Nx (upd H4 D (.lst (acc ++ [y]))) else Nx H3) :=
  lc_tup (xs := xs) (Made H1 D f v xs) ⟨same_upd hD, upd_same⟩ (fun _ _ _ p => seqT_same p.1 ha) (fun i x H' hx p => ⟨hw x, made_turn hD hz hx p (ht x (List.mem_of_getElem? hx)) (he x (List.mem_of_getElem? hx))⟩)
    fun H' p => q H' p.1 (by rw [p.2, List.take_length])
theorem lc_pureL {K : PySem.W.Frag} {D a : Addr} {H1 : Hp} {σ : L2.St} {vs : List Nat} {j : Nat} {tt : TT} {te : TE} {xs : List V} {Qd : Hp → Prop} (f : V → Bool) (v : V → V) (hD : H1 D = none) (ha : SqL K H1 a xs) (hz : xs.length ≤ 10000)
    (hw : ∀ x, wipe ((wipe σ vs).set j (some x)) vs = wipe σ vs)
    (ht : ∀ x ∈ xs, ∀ H2, Same H1 H2 → ∀ Q : Bool → Hp → Prop, (∀ H3, Same H2 H3 → Q (f x) H3) → tt ((wipe σ vs).set j (some x)) H2 Q) (he : ∀ x ∈ xs, f x = true → ∀ H2, Same H1 H2 → ∀ Q : VK, (∀ H3, Same H2 H3 → Q (v x) H3) → te ((wipe σ vs).set j (some x)) H2 Q)
    (q : ∀ H', Same H1 H' → H' D = some (.lst ((xs.filter f).map v)) → Qd H') :
    ∃ W : Nat → Nat → Hp → Prop, (∃ m, W 0 m (upd H1 D (.lst []))) ∧ ∀ i m H, W i m H →
      ((Itl K a).stop i H ∧ Qd H) ∨ ((Itl K a).go i H ∧ ∃ Nx : Hp → Prop, (∀ H', Nx H' → ∃ m', m' < m ∧ W (i + 1) m' H') ∧ ∀ x H', (Itl K a).yld i H x H' → (gName j) x (wipe σ vs) H' fun σ2 H2 => wipe σ2 vs = wipe σ vs ∧ tt σ2 H2 fun b H3 =>
        if b = true then te σ2 H3 fun y H4 => ∃ acc, H4 D = some (.lst acc) ∧ acc.length < sizeLine ∧ Nx (upd H4 D (.lst (acc ++ [y]))) else Nx H3) :=
  lc_list (xs := xs) (Made H1 D f v xs) ⟨same_upd hD, upd_same⟩ (fun _ _ _ p => p.1.seq ha) (fun i x H' hx p => ⟨hw x, made_turn hD hz hx p (ht x (List.mem_of_getElem? hx)) (he x (List.mem_of_getElem? hx))⟩)
    fun H' p => q H' p.1 (by rw [p.2, List.take_length])
def rgL (lo : Int) (n : Nat) : List V := (List.range n).map fun i : Nat => V.int (lo + (i : Int))
theorem rgL_get {lo : Int} {n i : Nat} (h : i < n) : (rgL lo n)[i]? = some (.int (lo + (i : Int))) := by
  unfold rgL
  rw [List.getElem?_map, List.getElem?_range h]
  rfl
theorem rgL_len (lo : Int) (n : Nat) : (rgL lo n).length = n := by
  unfold rgL
  rw [List.length_map, List.length_range]
theorem lc_pureR {D : Addr} {H1 : Hp} {σ : L2.St} {vs : List Nat} {j : Nat} {tt : TT} {te : TE} {lo : Int} {n : Nat} {Qd : Hp → Prop} (f : V → Bool) (v : V → V) (hD : H1 D = none) (hz : n ≤ 10000)
    (hw : ∀ x, wipe ((wipe σ vs).set j (some x)) vs = wipe σ vs)
    (ht : ∀ i : Nat, i < n → ∀ H2, Same H1 H2 → ∀ Q : Bool → Hp → Prop, (∀ H3, Same H2 H3 → Q (f (.int (lo + (i : Int)))) H3) → tt ((wipe σ vs).set j (some (.int (lo + (i : Int))))) H2 Q)
    (he : ∀ i : Nat, i < n → f (.int (lo + (i : Int))) = true → ∀ H2, Same H1 H2 → ∀ Q : VK, (∀ H3, Same H2 H3 → Q (v (.int (lo + (i : Int)))) H3) → te ((wipe σ vs).set j (some (.int (lo + (i : Int))))) H2 Q)
    (q : ∀ H', Same H1 H' → H' D = some (.lst (((rgL lo n).filter f).map v)) → Qd H') :
    ∃ W : Nat → Nat → Hp → Prop, (∃ m, W 0 m (upd H1 D (.lst []))) ∧ ∀ i m H, W i m H →
      ((Itr lo n).stop i H ∧ Qd H) ∨ ((Itr lo n).go i H ∧ ∃ Nx : Hp → Prop, (∀ H', Nx H' → ∃ m', m' < m ∧ W (i + 1) m' H') ∧ ∀ x H', (Itr lo n).yld i H x H' → (gName j) x (wipe σ vs) H' fun σ2 H2 => wipe σ2 vs = wipe σ vs ∧ tt σ2 H2 fun b H3 =>
        if b = true then te σ2 H3 fun y H4 => ∃ acc, H4 D = some (.lst acc) ∧ acc.length < sizeLine ∧ Nx (upd H4 D (.lst (acc ++ [y]))) else Nx H3) :=
  lc_range (Made H1 D f v (rgL lo n)) ⟨same_upd hD, upd_same⟩ (fun i H' hi p => ⟨hw _, made_turn hD (by rw [rgL_len]; exact hz) (rgL_get hi) p (ht i hi) (he i hi)⟩)
    fun H' p => q H' p.1 (by rw [p.2, List.take_of_length_le (by rw [rgL_len]; exact Nat.le_refl _)])
/-- a set of marks as a list -/
structure SetL (ms : List Int) : Prop where
  up : ms.Pairwise (· < ·)
  bd : ∀ z ∈ ms, 1 ≤ z ∧ z ≤ 96
theorem SetL.len {ms : List Int} (h : SetL ms) : ms.length ≤ 96 := by
  have key : ∀ (l : List Int) (lo : Int), l.Pairwise (· < ·) → (∀ z ∈ l, lo ≤ z ∧ z ≤ 96) → (l.length : Int) ≤ 96 - lo + 1 ∨ l = [] := by
    intro l
    induction l with
    | nil => intro _ _ _; exact .inr rfl
    | cons x r ih =>
      intro lo hp hb
      have hp' := List.pairwise_cons.mp hp
      have hx := hb x List.mem_cons_self
      left
      rcases ih (x + 1) hp'.2 (fun z hz => ⟨hp'.1 z hz, (hb z (List.mem_cons_of_mem _ hz)).2⟩) with h | h
      · rw [List.length_cons]
        omega
      · rw [h]
        show ((0 + 1 : Nat) : Int) ≤ _
        omega
  rcases key ms 1 h.up h.bd with h | h
  · omega
  · rw [h]
    exact Nat.zero_le _
theorem SetL.nil : SetL [] := ⟨.nil, fun _ z => nomatch z⟩
def sp__law_set (K : PySem.W.Frag) : Sp := fun vs H Q _ => ∃ (a st : Addr) (most : Int), vs = [.ref st, .int most] ∧ StAt K a st H ∧ 0 ≤ most ∧ most ≤ 96 ∧
  ∀ (t : Addr) (ms : List Int) H', SetL ms → (ms.length : Int) ≤ most → Go K st H H' → H t = none → H' t = some (.tup (ms.map V.int)) → Q (.ref t) H'
theorem pickI {ns : List Int} {v lo hi : Int} (h : ∀ z ∈ ns, lo ≤ z ∧ z ≤ hi) (h0 : 0 ≤ v) (h1 : v < (ns.length : Int)) : ∃ z, atI (ns.map V.int) v = some (.int z) ∧ lo ≤ z ∧ z ≤ hi := by
  have hlt : v.toNat < ns.length := by omega
  refine ⟨ns[v.toNat], at_of (j := v.toNat) (by omega) ?_, h _ (List.getElem_mem hlt)⟩
  rw [List.getElem?_map, List.getElem?_eq_getElem hlt]
  rfl
theorem nat8000 {n : Int} (h0 : 0 ≤ n) (h : n < 10 ^ 70) : n.natAbs < 2 ^ 8000 := Nat.lt_of_lt_of_le (by omega : n.natAbs < 10 ^ 70) (by decide +kernel)
/-! ### the promises of the drawing defs -/
def sp__law_start (K : PySem.W.Frag) : Sp := fun vs H Q _ => ∃ (a : Addr) (ns : List Int), vs = [.ref a] ∧ SqL K H a (ns.map V.int) ∧
  ∀ st H', H st = none → Same H H' → StAt K a st H' → Q (.ref st) H'
def sp__law_drawn (K : PySem.W.Frag) : Sp := fun vs H Q _ => ∃ (a st : Addr) (n : Int), vs = [.ref st, .int n] ∧ StAt K a st H ∧ 0 < n ∧ n.natAbs < 2 ^ 8000 ∧
  ∀ (v : Int) H', 0 ≤ v → v < n → Go K st H H' → Q (.int v) H'
end My
namespace My
open PySem PySem.Spec PyProof.Rows L2
/-- is it a set, from the mark before on -/
def isSetG : Int → List Int → Bool
  | _, [] => true
  | b, x :: r => if x ≤ b ∨ 96 < x then false else isSetG x r
def isSetB (ns : List Int) : Bool := isSetG 0 ns
theorem isSetG_iff : ∀ (ns : List Int) (b : Int), isSetG b ns = true ↔ ns.Pairwise (· < ·) ∧ (∀ z ∈ ns, b < z ∧ z ≤ 96)
  | [], b => ⟨fun _ => ⟨.nil, fun _ z => nomatch z⟩, fun _ => rfl⟩
  | x :: r, b => by
    unfold isSetG
    by_cases c : x ≤ b ∨ 96 < x
    · rw [if_pos c]
      refine ⟨(fun z => nomatch z), fun h => ?_⟩
      have := h.2 x List.mem_cons_self
      omega
    · rw [if_neg c, isSetG_iff r x]
      constructor
      · rintro ⟨h1, h2⟩
        refine ⟨.cons (fun y hy => (h2 y hy).1) h1, fun z hz => ?_⟩
        rcases List.mem_cons.mp hz with e | hz
        · omega
        · have := h2 z hz
          omega
      · rintro ⟨h1, h2⟩
        have h1' := List.pairwise_cons.mp h1
        exact ⟨h1'.2, fun z hz => ⟨h1'.1 z hz, (h2 z (List.mem_cons_of_mem _ hz)).2⟩⟩
theorem isSetB_iff {ns : List Int} : isSetB ns = true ↔ SetL ns := by
  unfold isSetB
  rw [isSetG_iff]
  exact ⟨fun h => ⟨h.1, fun z hz => by have := h.2 z hz; omega⟩, fun h => ⟨h.up, fun z hz => by have := h.bd z hz; omega⟩⟩
def sp_is_set (K : PySem.W.Frag) : Sp := fun vs H Q _ => ∃ (a : Addr) (ns : List Int), vs = [.ref a] ∧ SqT K H a (ns.map V.int) ∧ Q (.bl (isSetB ns)) H
def sp_refuse_unless_set (K : PySem.W.Frag) (C : Addr) : Sp := fun vs H Q E => ∃ (a : Addr) (ns : List Int), vs = [.ref a] ∧ SqT K H a (ns.map V.int) ∧ (isSetB ns = false → E (.ref C) none H) ∧ (isSetB ns = true → Q .non H)
end My
namespace My
open PySem PySem.Spec PyProof.Rows L2
def worthL (ns : List Int) (x : Int) : Int := ns.foldl (fun t n => (t * x + n) % 97) 0
def sp_worth (K : PySem.W.Frag) : Sp := fun vs H Q _ => ∃ (a : Addr) (ns : List Int) (x : Int), vs = [.ref a, .int x] ∧ SqT K H a (ns.map V.int) ∧ Q (.int (worthL ns x)) H
def stepW (x : Int) (s : Int × Int) (n : Int) : Int × Int := ((s.1 + n * s.2) % 97, s.2 * x % 97)
def valL (x : Int) : List Int → Int
  | [] => 0
  | n :: r => n + x * valL x r
theorem stepW_fold (x : Int) : ∀ (rs : List Int) (f p : Int), 0 ≤ f → f < 97 → (rs.foldl (stepW x) (f, p)).1 = (f + p * valL x rs) % 97
  | [], f, p, h0, h1 => by
    show f = (f + p * 0) % 97
    rw [Int.mul_zero, Int.add_zero, Int.emod_eq_of_lt h0 h1]
  | n :: r, f, p, h0, h1 => by
    rw [List.foldl_cons]
    show (r.foldl (stepW x) ((f + n * p) % 97, p * x % 97)).1 = _
    rw [stepW_fold x r _ _ (Int.emod_nonneg _ (by decide)) (Int.emod_lt_of_pos _ (by decide))]
    rw [Int.add_emod, Int.mul_emod, Int.emod_emod, Int.emod_emod, ← Int.mul_emod, ← Int.add_emod]
    congr 1
    show f + n * p + p * x * valL x r = f + p * (n + x * valL x r)
    grind
theorem worthL_val (x : Int) (ns : List Int) : worthL ns x = valL x ns.reverse % 97 := by
  have key : ∀ rs : List Int, worthL rs.reverse x = valL x rs % 97 := by
    intro rs
    induction rs with
    | nil => rfl
    | cons n r ih =>
      rw [List.reverse_cons]
      unfold worthL at ih ⊢
      rw [List.foldl_append, List.foldl_cons, List.foldl_nil, ih]
      show (valL x r % 97 * x + n) % 97 = (n + x * valL x r) % 97
      rw [Int.add_emod, Int.mul_emod, Int.emod_emod, ← Int.mul_emod, ← Int.add_emod]
      congr 1
      grind
  have := key ns.reverse
  rwa [List.reverse_reverse] at this
theorem worthL_step (x : Int) (ns : List Int) : (ns.reverse.foldl (stepW x) (0, 1)).1 = worthL ns x := by
  rw [stepW_fold x _ 0 1 (by decide) (by decide), worthL_val]
  congr 1
  omega
def sp__law_worth (K : PySem.W.Frag) : Sp := fun vs H Q _ => ∃ (a : Addr) (ns : List Int) (x : Int), vs = [.ref a, .int x] ∧ SqT K H a (ns.map V.int) ∧ Q (.int (worthL ns x)) H
theorem worthL_take {ns : List Int} {i : Nat} {z x : Int} (h : ns[i]? = some z) : worthL (ns.take (i + 1)) x = (worthL (ns.take i) x * x + z) % 97 := by
  unfold worthL
  rw [List.take_add_one, h, List.foldl_append]
  rfl
theorem worthL_bd (ns : List Int) (x : Int) : 0 ≤ worthL ns x ∧ worthL ns x < 97 := by
  unfold worthL
  rcases List.eq_nil_or_concat ns with rfl | ⟨l, b, rfl⟩
  · exact ⟨Int.le_refl 0, by show (0:Int) < 97; decide⟩
  · rw [List.concat_eq_append, List.foldl_append]
    exact ⟨Int.emod_nonneg _ (by decide), Int.emod_lt_of_pos _ (by decide)⟩
def withN (row : List Int) (m : Int) : List Int := ((row ++ [0]).zip (0 :: row)).map fun p : Int × Int => (p.1 - m * p.2) % 97
theorem withN_len (row : List Int) (m : Int) : (withN row m).length = row.length + 1 := by
  unfold withN
  rw [List.length_map, List.length_zip, List.length_append, List.length_cons]
  show min (row.length + 1) (row.length + 1) = _
  rw [Nat.min_self]
def rowL (ms : List Int) : List Int := ms.foldl withN [1]
theorem rowL_take {ms : List Int} {i : Nat} {z : Int} (h : ms[i]? = some z) : rowL (ms.take (i + 1)) = withN (rowL (ms.take i)) z := by
  unfold rowL
  rw [List.take_add_one, h, List.foldl_append]
  rfl
theorem rowL_len (ms : List Int) : (rowL ms).length = ms.length + 1 := by
  have key : ∀ (l row : List Int), (l.foldl withN row).length = row.length + l.length := by
    intro l
    induction l with
    | nil => intro row; rfl
    | cons m r ih =>
      intro row
      rw [List.foldl_cons, ih, withN_len, List.length_cons]
      omega
  unfold rowL
  rw [key]
  show 1 + _ = _
  omega
def noughtsL (ns : List Int) : List Int := ((List.range 96).map fun i : Nat => 1 + (i : Int)).filter fun x => decide (worthL ns x = 0)
def sp_with_nought (K : PySem.W.Frag) : Sp := fun vs H Q _ => ∃ (a : Addr) (row : List Int) (m : Int), vs = [.ref a, .int m] ∧ SqL K H a (row.map V.int) ∧ row.length ≤ 1000 ∧ 0 ≤ m ∧ m ≤ 100 ∧
  ∀ D H', Same H H' → H D = none → H' D = some (.lst ((withN row m).map V.int)) → Q (.ref D) H'
def sp_row_of (K : PySem.W.Frag) (C : Addr) : Sp := fun vs H Q E => ∃ (a : Addr) (ms : List Int), vs = [.ref a] ∧ SqT K H a (ms.map V.int) ∧ (isSetB ms = false → E (.ref C) none H) ∧
  (isSetB ms = true → ∀ t H', Same H H' → H t = none → H' t = some (.tup ((rowL ms).map V.int)) → Q (.ref t) H')
def sp_noughts (K : PySem.W.Frag) : Sp := fun vs H Q _ => ∃ (a : Addr) (ns : List Int), vs = [.ref a] ∧ SqT K H a (ns.map V.int) ∧ ∀ t H', Same H H' → H t = none → H' t = some (.tup ((noughtsL ns).map V.int)) → Q (.ref t) H'
theorem int_filter {ns : List Int} {f : V → Bool} {g : Int → Bool} (h : ∀ z ∈ ns, f (.int z) = g z) : ((ns.map V.int).filter f).map (fun x => x) = (ns.filter g).map V.int := by
  rw [List.map_id']
  induction ns with
  | nil => rfl
  | cons x r ih =>
    have ih' := ih fun z hz => h z (List.mem_cons_of_mem _ hz)
    rw [List.map_cons, List.filter_cons, List.filter_cons, h x List.mem_cons_self]
    by_cases c : g x = true
    · rw [if_pos c, if_pos c, List.map_cons, ih']
    · rw [if_neg c, if_neg c, ih']
theorem rgL_ints (lo : Int) (n : Nat) : rgL lo n = ((List.range n).map fun i : Nat => lo + (i : Int)).map V.int := by
  unfold rgL
  rw [List.map_map]
  rfl
/-- a comprehension over zip of two lists of one length, without drawing -/
theorem lc_zipL {K : PySem.W.Frag} {a b : Addr} {xs ys : List V} {g : TG} {tt : TT} {te : TE} {vs : List Nat} {σ : L2.St} {H1 : Hp} {D : Addr} {Qd : Hp → Prop} (hl : xs.length = ys.length) (Pv : Nat → Hp → Prop) (h0 : Pv 0 (upd H1 D (.lst []))) (hq : ∀ i H, Pv i H → SqL K H a xs ∧ SqL K H b ys)
    (hs : ∀ i x y T H, xs[i]? = some x → ys[i]? = some y → H T = none → Pv i H → g (.ref T) (wipe σ vs) (upd H T (.tup [x, y])) fun σ2 H2 => wipe σ2 vs = wipe σ vs ∧ tt σ2 H2 fun b H3 =>
      if b = true then te σ2 H3 fun y H4 => ∃ acc, H4 D = some (.lst acc) ∧ acc.length < sizeLine ∧ Pv (i + 1) (upd H4 D (.lst (acc ++ [y]))) else Pv (i + 1) H3) (hd : ∀ H, Pv xs.length H → Qd H) :
    ∃ W : Nat → Nat → Hp → Prop, (∃ m, W 0 m (upd H1 D (.lst []))) ∧ ∀ i m H, W i m H →
      ((Itz K a b).stop i H ∧ Qd H) ∨ ((Itz K a b).go i H ∧ ∃ Nx : Hp → Prop, (∀ H', Nx H' → ∃ m', m' < m ∧ W (i + 1) m' H') ∧ ∀ x H', (Itz K a b).yld i H x H' → g x (wipe σ vs) H' fun σ2 H2 => wipe σ2 vs = wipe σ vs ∧ tt σ2 H2 fun b H3 =>
        if b = true then te σ2 H3 fun y H4 => ∃ acc, H4 D = some (.lst acc) ∧ acc.length < sizeLine ∧ Nx (upd H4 D (.lst (acc ++ [y]))) else Nx H3) := by
  refine ⟨fun i m H => m + i = xs.length ∧ Pv i H, ⟨xs.length, rfl, h0⟩, ?_⟩
  rintro i m H ⟨hm, p⟩
  obtain ⟨hx, hy⟩ := hq i H p
  by_cases hi : i < xs.length
  · have gx : xs[i]? = some xs[i] := List.getElem?_eq_getElem hi
    have gy : ys[i]? = some ys[i] := List.getElem?_eq_getElem (hl ▸ hi)
    refine .inr ⟨⟨xs, ys, _, _, hx, hy, gx, gy⟩, Pv (i + 1), fun H' p' => ⟨m - 1, by omega, by omega, p'⟩, ?_⟩
    rintro v H' ⟨T, x, y, rfl, hT, rfl, f1, f2⟩
    exact hs i x y T H (f1 _ hx) (f2 _ hy) hT p
  · have e : i = xs.length := by omega
    subst e
    exact .inl ⟨⟨xs, ys, hx, hy, .inl (Nat.le_refl _)⟩, hd H p⟩
end My
namespace My
open PySem PySem.Spec PyProof.Rows L2
theorem filt_no {α : Type} (xs : List α) : (xs.filter fun _ => false) = [] := List.filter_eq_nil_iff.mpr fun _ _ h => nomatch h
/-! ### == of lists and tuples of ints -/
theorem dpInts {K : PySem.W.Frag} {H : Hp} : ∀ ns : List Int, DpAll K H (ns.map V.int) (ns.map PyData.int)
  | [] => .nil
  | _ :: r => .cons (.int _) (dpInts r)
theorem lay_ints : ∀ ns : List Int, PyData.canLayAll0 (ns.map PyData.int) = true
  | [] => by simp [PyData.canLayAll0]
  | n :: r => by simp [PyData.canLayAll0, PyData.canLay0, lay_ints r]
theorem depth_ints : ∀ ns : List Int, PyData.depthAll (ns.map PyData.int) ≤ 1
  | [] => by simp [PyData.depthAll]
  | n :: r => by
    have h := depth_ints r
    simp only [List.map_cons, PyData.depthAll, PyData.depth]
    omega
theorem shaped_tup (ns : List Int) : SeqAt.shaped (.tuple (ns.map PyData.int)) = true := by
  have h := depth_ints ns
  show (_ && decide (_ ≤ 64)) = true
  rw [Bool.and_eq_true]
  exact ⟨by simp only [PyData.canLay0]; exact lay_ints ns, decide_eq_true (by simp only [PyData.depth]; omega)⟩
theorem shaped_lst (ns : List Int) : SeqAt.shaped (.list (ns.map PyData.int)) = true := by
  have h := depth_ints ns
  show (_ && decide (_ ≤ 64)) = true
  rw [Bool.and_eq_true]
  exact ⟨by simp only [PyData.canLay0]; exact lay_ints ns, decide_eq_true (by simp only [PyData.depth]; omega)⟩
theorem eqv_ints : ∀ ns ms : List Int, PyData.eqvAll (ns.map PyData.int) (ms.map PyData.int) = decide (ns = ms)
  | [], [] => by simp [PyData.eqvAll]
  | [], m :: r => by simp [PyData.eqvAll]
  | n :: r, [] => by simp [PyData.eqvAll]
  | n :: r, m :: t => by
    simp only [List.map_cons, PyData.eqvAll, PyData.eqv, eqv_ints r t, List.cons.injEq, Bool.decide_and]
    rfl
theorem eqv_tup (ns ms : List Int) : PyData.eqv (.tuple (ns.map PyData.int)) (.tuple (ms.map PyData.int)) = decide (ns = ms) := by
  rw [PyData.eqv]
  exact eqv_ints ns ms
theorem eqv_lst (ns ms : List Int) : PyData.eqv (.list (ns.map PyData.int)) (.list (ms.map PyData.int)) = decide (ns = ms) := by
  rw [PyData.eqv]
  exact eqv_ints ns ms
/-- t != u, t == u: tuples, lists of ints -/
theorem neT {K : PySem.W.Frag} {H : Hp} {a b : Addr} {ns ms : List Int} {Q : VK} (ha : SqT K H a (ns.map V.int)) (hb : SqT K H b (ms.map V.int)) (q : Q (.bl (!decide (ns = ms))) H) : rNeD K (.ref a) (.ref b) H Q :=
  ⟨_, _, .tup ha (dpInts ns), .tup hb (dpInts ms), shaped_tup ns, shaped_tup ms, by rw [eqv_tup]; exact q⟩
theorem eqT {K : PySem.W.Frag} {H : Hp} {a b : Addr} {ns ms : List Int} {Q : VK} (ha : SqT K H a (ns.map V.int)) (hb : SqT K H b (ms.map V.int)) (q : Q (.bl (decide (ns = ms))) H) : rEqD K (.ref a) (.ref b) H Q :=
  ⟨_, _, .tup ha (dpInts ns), .tup hb (dpInts ms), shaped_tup ns, shaped_tup ms, by rw [eqv_tup]; exact q⟩
theorem neL {K : PySem.W.Frag} {H : Hp} {a b : Addr} {ns ms : List Int} {Q : VK} (ha : SqL K H a (ns.map V.int)) (hb : SqL K H b (ms.map V.int)) (q : Q (.bl (!decide (ns = ms))) H) : rNeD K (.ref a) (.ref b) H Q :=
  ⟨_, _, .lst ha (dpInts ns), .lst hb (dpInts ms), shaped_lst ns, shaped_lst ms, by rw [eqv_lst]; exact q⟩
theorem eqL {K : PySem.W.Frag} {H : Hp} {a b : Addr} {ns ms : List Int} {Q : VK} (ha : SqL K H a (ns.map V.int)) (hb : SqL K H b (ms.map V.int)) (q : Q (.bl (decide (ns = ms))) H) : rEqD K (.ref a) (.ref b) H Q :=
  ⟨_, _, .lst ha (dpInts ns), .lst hb (dpInts ms), shaped_lst ns, shaped_lst ms, by rw [eqv_lst]; exact q⟩
end My
namespace My
open PySem PySem.Spec PyProof.Rows L2
/-! ### rows on the wheel -/
theorem cong_iff {a b : Int} : a % 97 = b % 97 ↔ ∃ k, a = b + 97 * k := by
  constructor
  · intro h
    exact ⟨a / 97 - b / 97, by omega⟩
  · rintro ⟨k, rfl⟩
    omega
theorem prime97 {a b : Int} (h : a * b % 97 = 0) : a % 97 = 0 ∨ b % 97 = 0 := by
  have key : ∀ x y : Fin 97, x.val * y.val % 97 = 0 → x.val = 0 ∨ y.val = 0 := by decide +kernel
  have a0 := Int.emod_nonneg a (show (97 : Int) ≠ 0 by decide)
  have a1 := Int.emod_lt_of_pos a (show (0 : Int) < 97 by decide)
  have b0 := Int.emod_nonneg b (show (97 : Int) ≠ 0 by decide)
  have b1 := Int.emod_lt_of_pos b (show (0 : Int) < 97 by decide)
  rw [Int.mul_emod] at h
  have e : (a % 97) * (b % 97) = (((a % 97).toNat * (b % 97).toNat : Nat) : Int) := by
    rw [Int.natCast_mul, Int.toNat_of_nonneg a0, Int.toNat_of_nonneg b0]
  rw [e] at h
  have := key ⟨(a % 97).toNat, by omega⟩ ⟨(b % 97).toNat, by omega⟩ (by show (a % 97).toNat * (b % 97).toNat % 97 = 0; omega)
  rcases this with h | h
  · have h' : (a % 97).toNat = 0 := h
    omega
  · have h' : (b % 97).toNat = 0 := h
    omega
/-- Horner, off the wheel -/
def hv (x t : Int) (ns : List Int) : Int := ns.foldl (fun t n => t * x + n) t
theorem worth_hv (x : Int) : ∀ (ns : List Int) (t u : Int), t = u % 97 → ns.foldl (fun t n => (t * x + n) % 97) t = hv x u ns % 97
  | [], t, u, h => h
  | n :: r, t, u, h => by
    show r.foldl _ ((t * x + n) % 97) = hv x (u * x + n) r % 97
    refine worth_hv x r _ _ ?_
    rw [h]
    refine cong_iff.mpr ⟨-(u / 97) * x, ?_⟩
    have e : u % 97 = u - 97 * (u / 97) := by omega
    rw [e]
    grind
theorem worthL_hv (x : Int) (ns : List Int) : worthL ns x = hv x 0 ns % 97 := worth_hv x ns 0 0 rfl
theorem hv_zip (x m : Int) : ∀ (A B : List Int) (t ta tb : Int), A.length = B.length → t % 97 = (ta - m * tb) % 97 → hv x t ((A.zip B).map fun p : Int × Int => (p.1 - m * p.2) % 97) % 97 = (hv x ta A - m * hv x tb B) % 97
  | [], [], t, ta, tb, _, h => h
  | [], _ :: _, _, _, _, hl, _ => nomatch hl
  | _ :: _, [], _, _, _, hl, _ => nomatch hl
  | a :: A, b :: B, t, ta, tb, hl, h => by
    show hv x (t * x + (a - m * b) % 97) ((A.zip B).map fun p : Int × Int => (p.1 - m * p.2) % 97) % 97 = (hv x (ta * x + a) A - m * hv x (tb * x + b) B) % 97
    refine hv_zip x m A B _ _ _ (Nat.succ.inj hl) ?_
    obtain ⟨k, hk⟩ := cong_iff.mp h
    refine cong_iff.mpr ⟨k * x - (a - m * b) / 97, ?_⟩
    have e : (a - m * b) % 97 = (a - m * b) - 97 * ((a - m * b) / 97) := by omega
    rw [e, hk]
    grind
theorem hv_append (x t : Int) (A B : List Int) : hv x t (A ++ B) = hv x (hv x t A) B := List.foldl_append
theorem worthL_withN (row : List Int) (m x : Int) : worthL (withN row m) x = worthL row x * (x - m) % 97 := by
  rw [worthL_hv, worthL_hv]
  unfold withN
  rw [hv_zip x m (row ++ [0]) (0 :: row) 0 0 0 (by rw [List.length_append]; rfl) (by rw [Int.mul_zero]; rfl)]
  rw [hv_append]
  show (hv x 0 row * x + 0 - m * hv x (0 * x + 0) row) % 97 = _
  rw [Int.zero_mul, Int.add_zero, Int.add_zero]
  refine cong_iff.mpr ⟨(hv x 0 row / 97) * (x - m), ?_⟩
  have e : hv x 0 row % 97 = hv x 0 row - 97 * (hv x 0 row / 97) := by omega
  rw [e]
  grind
theorem worthL_rowG (x : Int) : ∀ (ms row : List Int), worthL (ms.foldl withN row) x = 0 ↔ worthL row x = 0 ∨ ∃ m ∈ ms, (x - m) % 97 = 0
  | [], row => ⟨.inl, fun h => h.elim id fun ⟨_, h, _⟩ => nomatch h⟩
  | m :: r, row => by
    rw [List.foldl_cons, worthL_rowG x r, worthL_withN]
    have hb := worthL_bd row x
    constructor
    · rintro (h | ⟨k, hk, e⟩)
      · rcases prime97 h with h | h
        · exact .inl (by omega)
        · exact .inr ⟨m, List.mem_cons_self, h⟩
      · exact .inr ⟨k, List.mem_cons_of_mem _ hk, e⟩
    · rintro (h | ⟨k, hk, e⟩)
      · refine .inl ?_
        rw [h, Int.zero_mul]
        rfl
      · rcases List.mem_cons.mp hk with rfl | hk
        · refine .inl ?_
          rw [Int.mul_emod, e, Int.mul_zero]
          rfl
        · exact .inr ⟨k, hk, e⟩
theorem worthL_rowL (ms : List Int) (x : Int) : worthL (rowL ms) x = 0 ↔ ∃ m ∈ ms, (x - m) % 97 = 0 := by
  unfold rowL
  rw [worthL_rowG]
  refine ⟨fun h => h.elim (fun h => ?_) id, .inr⟩
  exfalso
  have e : worthL [1] x = (0 * x + 1) % 97 := rfl
  rw [e, Int.zero_mul] at h
  cases h
theorem eq_of_up : ∀ l1 l2 : List Int, l1.Pairwise (· < ·) → l2.Pairwise (· < ·) → (∀ z, z ∈ l1 ↔ z ∈ l2) → l1 = l2
  | [], [], _, _, _ => rfl
  | [], y :: _, _, _, h => nomatch (h y).mpr List.mem_cons_self
  | x :: _, [], _, _, h => nomatch (h x).mp List.mem_cons_self
  | x :: r, y :: s, h1, h2, h => by
    have p1 := List.pairwise_cons.mp h1
    have p2 := List.pairwise_cons.mp h2
    have e : x = y := by
      rcases List.mem_cons.mp ((h x).mp List.mem_cons_self) with e | e
      · exact e
      · rcases List.mem_cons.mp ((h y).mpr List.mem_cons_self) with f | f
        · exact f.symm
        · have := p2.1 x e
          have := p1.1 y f
          omega
    subst e
    congr 1
    refine eq_of_up r s p1.2 p2.2 fun z => ⟨fun hz => ?_, fun hz => ?_⟩
    · rcases List.mem_cons.mp ((h z).mp (List.mem_cons_of_mem _ hz)) with f | f
      · have := p1.1 z hz
        omega
      · exact f
    · rcases List.mem_cons.mp ((h z).mpr (List.mem_cons_of_mem _ hz)) with f | f
      · have := p2.1 z hz
        omega
      · exact f
theorem marks_up : ((List.range 96).map fun i : Nat => 1 + (i : Int)).Pairwise (· < ·) :=
  List.pairwise_map.mpr (List.pairwise_lt_range.imp fun h => by omega)
theorem mem_marks {z : Int} : z ∈ ((List.range 96).map fun i : Nat => 1 + (i : Int)) ↔ 1 ≤ z ∧ z ≤ 96 := by
  rw [List.mem_map]
  constructor
  · rintro ⟨i, hi, rfl⟩
    have := List.mem_range.mp hi
    omega
  · rintro ⟨h0, h1⟩
    exact ⟨(z - 1).toNat, List.mem_range.mpr (by omega), by omega⟩
theorem noughtsL_rowL {ms : List Int} (h : SetL ms) : noughtsL (rowL ms) = ms := by
  refine eq_of_up _ _ (marks_up.filter _) h.up fun z => ?_
  unfold noughtsL
  rw [List.mem_filter, mem_marks, decide_eq_true_eq, worthL_rowL]
  constructor
  · rintro ⟨⟨z0, z1⟩, m, hm, e⟩
    have := h.bd m hm
    have e2 : z = m := by omega
    rw [e2]
    exact hm
  · intro hz
    exact ⟨h.bd z hz, z, hz, by rw [Int.sub_self]; rfl⟩
theorem withN_bd (row : List Int) (m : Int) : ∀ z ∈ withN row m, 0 ≤ z ∧ z ≤ 96 := by
  intro z hz
  unfold withN at hz
  obtain ⟨p, _, rfl⟩ := List.mem_map.mp hz
  have := Int.emod_nonneg (p.1 - m * p.2) (show (97 : Int) ≠ 0 by decide)
  have := Int.emod_lt_of_pos (p.1 - m * p.2) (show (0 : Int) < 97 by decide)
  omega
theorem rowL_bd (ms : List Int) : ∀ z ∈ rowL ms, 0 ≤ z ∧ z ≤ 96 := by
  have key : ∀ (l row : List Int), (∀ z ∈ row, 0 ≤ z ∧ z ≤ 96) → ∀ z ∈ l.foldl withN row, 0 ≤ z ∧ z ≤ 96 := by
    intro l
    induction l with
    | nil => intro row h; exact h
    | cons m r ih => intro row _; exact ih _ (withN_bd row m)
  exact key ms [1] (fun z hz => by rw [List.mem_singleton.mp hz]; decide)
theorem rowL_head (ms : List Int) : ∃ r, rowL ms = 1 :: r := by
  have key : ∀ (l row : List Int), (∃ r, row = 1 :: r) → ∃ r, l.foldl withN row = 1 :: r := by
    intro l
    induction l with
    | nil => intro row h; exact h
    | cons m r ih =>
      rintro row ⟨s, rfl⟩
      refine ih _ ⟨((s ++ [0]).zip (1 :: s)).map fun p : Int × Int => (p.1 - m * p.2) % 97, ?_⟩
      show (1 - m * 0) % 97 :: _ = _
      rw [Int.mul_zero]
      rfl
  exact key ms [1] ⟨[], rfl⟩
end My
namespace My
open PySem PySem.Spec PyProof.Rows L2
def sp__law_good (K : PySem.W.Frag) : Sp := fun vs H Q _ => ∃ (a : Addr) (ms : List Int), vs = [.ref a] ∧ H a = some (.tup (ms.map V.int)) ∧ SetL ms ∧ ∀ H', Same H H' → Q (.bl true) H'
def sp_law (K : PySem.W.Frag) : Sp := fun vs H Q _ => ∃ (a : Addr) (ns : List Int), vs = [.ref a] ∧ SqL K H a (ns.map V.int) ∧ ns.length ≤ 63 ∧ ∀ H', Q (.bl true) H'
end My
namespace My
open PySem PySem.Spec PyProof.Rows L2
/-! ### the text -/
def topS (i : Nat) : Stmt := PySem.Challenge.pw_setmend_k03_rows_of_sets.main.body.getD i (.Pass ⟨0, 0, 0, 0⟩)
abbrev s_is_set : Stmt := topS 5
theorem sc_is_set : FnScope ["marks", "before", "mark"] ["marks"] (defScope s_is_set) := ⟨rfl, rfl, rfl, by decide +kernel, rfl, by decide +kernel, by decide +kernel⟩
abbrev s_refuse_unless_set : Stmt := topS 6
theorem sc_refuse_unless_set : FnScope ["marks"] ["marks"] (defScope s_refuse_unless_set) := ⟨rfl, rfl, rfl, by decide +kernel, rfl, by decide +kernel, by decide +kernel⟩
abbrev s_worth : Stmt := topS 9
theorem sc_worth : FnScope ["row", "x", "total", "number"] ["row", "x"] (defScope s_worth) := ⟨rfl, rfl, rfl, by decide +kernel, rfl, by decide +kernel, by decide +kernel⟩
abbrev s_with_nought : Stmt := topS 10
theorem sc_with_nought : FnScope ["row", "mark", "higher", "lower"] ["row", "mark"] (defScope s_with_nought) := ⟨rfl, rfl, rfl, by decide +kernel, rfl, by decide +kernel, by decide +kernel⟩
abbrev s_row_of : Stmt := topS 11
theorem sc_row_of : FnScope ["marks", "row", "mark"] ["marks"] (defScope s_row_of) := ⟨rfl, rfl, rfl, by decide +kernel, rfl, by decide +kernel, by decide +kernel⟩
abbrev s_noughts : Stmt := topS 12
theorem sc_noughts : FnScope ["row", "mark"] ["row"] (defScope s_noughts) := ⟨rfl, rfl, rfl, by decide +kernel, rfl, by decide +kernel, by decide +kernel⟩
abbrev s__law_start : Stmt := topS 14
theorem sc__law_start : FnScope ["_law_script", "_law_mixed", "_law_cell"] ["_law_script"] (defScope s__law_start) := ⟨rfl, rfl, rfl, by decide +kernel, rfl, by decide +kernel, by decide +kernel⟩
abbrev s__law_drawn : Stmt := topS 15
theorem sc__law_drawn : FnScope ["_law_state", "_law_many", "_law_found", "_law_cell"] ["_law_state", "_law_many"] (defScope s__law_drawn) := ⟨rfl, rfl, rfl, by decide +kernel, rfl, by decide +kernel, by decide +kernel⟩
abbrev s__law_set : Stmt := topS 16
theorem sc__law_set : FnScope ["_law_state", "_law_most", "_law_many", "_law_first", "_law_step", "_law_k"] ["_law_state", "_law_most"] (defScope s__law_set) := ⟨rfl, rfl, rfl, by decide +kernel, rfl, by decide +kernel, by decide +kernel⟩
abbrev s__law_worth : Stmt := topS 17
theorem sc__law_worth : FnScope ["_law_row", "_law_x", "_law_found", "_law_power", "_law_number"] ["_law_row", "_law_x"] (defScope s__law_worth) := ⟨rfl, rfl, rfl, by decide +kernel, rfl, by decide +kernel, by decide +kernel⟩
abbrev s__law_good : Stmt := topS 18
theorem sc__law_good : FnScope ["_law_marks", "_law_row", "_law_found", "_law_number", "_law_mark"] ["_law_marks"] (defScope s__law_good) := ⟨rfl, rfl, rfl, by decide +kernel, rfl, by decide +kernel, by decide +kernel⟩
abbrev s_law : Stmt := topS 19
theorem sc_law : FnScope ["_law_script", "_law_state", "_law_turn"] ["_law_script"] (defScope s_law) := ⟨rfl, rfl, rfl, by decide +kernel, rfl, by decide +kernel, by decide +kernel⟩
structure Ad where
  f_is_set : Addr
  d_is_set : FuncData
  f_refuse_unless_set : Addr
  d_refuse_unless_set : FuncData
  f_worth : Addr
  d_worth : FuncData
  f_with_nought : Addr
  d_with_nought : FuncData
  f_row_of : Addr
  d_row_of : FuncData
  f_noughts : Addr
  d_noughts : FuncData
  f__law_start : Addr
  d__law_start : FuncData
  f__law_drawn : Addr
  d__law_drawn : FuncData
  f__law_set : Addr
  d__law_set : FuncData
  f__law_worth : Addr
  d__law_worth : FuncData
  f__law_good : Addr
  d__law_good : FuncData
  f_law : Addr
  d_law : FuncData
  e_NoSet : Addr
  t_LAST_MARK : Nat
  t_WHEEL : Nat
structure Txt (K : PySem.W.Frag) (mg : Str → Option Value) (A : Ad) : Prop where
  F_is_set : Fun K "is_set" "is_set" s_is_set A.f_is_set A.d_is_set
  k_is_set : PySem.W.keepIn K (.ref A.f_is_set) = true
  g_is_set : mg "is_set" = some (.ref A.f_is_set)
  b_is_set : Binds K A.d_is_set ["marks"] []
  F_refuse_unless_set : Fun K "refuse_unless_set" "refuse_unless_set" s_refuse_unless_set A.f_refuse_unless_set A.d_refuse_unless_set
  k_refuse_unless_set : PySem.W.keepIn K (.ref A.f_refuse_unless_set) = true
  g_refuse_unless_set : mg "refuse_unless_set" = some (.ref A.f_refuse_unless_set)
  b_refuse_unless_set : Binds K A.d_refuse_unless_set ["marks"] []
  F_worth : Fun K "worth" "worth" s_worth A.f_worth A.d_worth
  k_worth : PySem.W.keepIn K (.ref A.f_worth) = true
  g_worth : mg "worth" = some (.ref A.f_worth)
  b_worth : Binds K A.d_worth ["row", "x"] []
  F_with_nought : Fun K "with_nought" "with_nought" s_with_nought A.f_with_nought A.d_with_nought
  k_with_nought : PySem.W.keepIn K (.ref A.f_with_nought) = true
  g_with_nought : mg "with_nought" = some (.ref A.f_with_nought)
  b_with_nought : Binds K A.d_with_nought ["row", "mark"] []
  F_row_of : Fun K "row_of" "row_of" s_row_of A.f_row_of A.d_row_of
  k_row_of : PySem.W.keepIn K (.ref A.f_row_of) = true
  g_row_of : mg "row_of" = some (.ref A.f_row_of)
  b_row_of : Binds K A.d_row_of ["marks"] []
  F_noughts : Fun K "noughts" "noughts" s_noughts A.f_noughts A.d_noughts
  k_noughts : PySem.W.keepIn K (.ref A.f_noughts) = true
  g_noughts : mg "noughts" = some (.ref A.f_noughts)
  b_noughts : Binds K A.d_noughts ["row"] []
  F__law_start : Fun K "_law_start" "_law_start" s__law_start A.f__law_start A.d__law_start
  k__law_start : PySem.W.keepIn K (.ref A.f__law_start) = true
  g__law_start : mg "_law_start" = some (.ref A.f__law_start)
  b__law_start : Binds K A.d__law_start ["_law_script"] []
  F__law_drawn : Fun K "_law_drawn" "_law_drawn" s__law_drawn A.f__law_drawn A.d__law_drawn
  k__law_drawn : PySem.W.keepIn K (.ref A.f__law_drawn) = true
  g__law_drawn : mg "_law_drawn" = some (.ref A.f__law_drawn)
  b__law_drawn : Binds K A.d__law_drawn ["_law_state", "_law_many"] []
  F__law_set : Fun K "_law_set" "_law_set" s__law_set A.f__law_set A.d__law_set
  k__law_set : PySem.W.keepIn K (.ref A.f__law_set) = true
  g__law_set : mg "_law_set" = some (.ref A.f__law_set)
  b__law_set : Binds K A.d__law_set ["_law_state", "_law_most"] []
  F__law_worth : Fun K "_law_worth" "_law_worth" s__law_worth A.f__law_worth A.d__law_worth
  k__law_worth : PySem.W.keepIn K (.ref A.f__law_worth) = true
  g__law_worth : mg "_law_worth" = some (.ref A.f__law_worth)
  b__law_worth : Binds K A.d__law_worth ["_law_row", "_law_x"] []
  F__law_good : Fun K "_law_good" "_law_good" s__law_good A.f__law_good A.d__law_good
  k__law_good : PySem.W.keepIn K (.ref A.f__law_good) = true
  g__law_good : mg "_law_good" = some (.ref A.f__law_good)
  b__law_good : Binds K A.d__law_good ["_law_marks"] []
  F_law : Fun K "law" "law" s_law A.f_law A.d_law
  k_law : PySem.W.keepIn K (.ref A.f_law) = true
  g_law : mg "law" = some (.ref A.f_law)
  b_law : Binds K A.d_law ["_law_script"] []
  c_LAST_MARK : mg "LAST_MARK" = some (.int 96 A.t_LAST_MARK)
  c_WHEEL : mg "WHEEL" = some (.int 97 A.t_WHEEL)
  z_bool : mg "bool" = none
  z_int : mg "int" = none
  z_isinstance : mg "isinstance" = none
  z_len : mg "len" = none
  z_range : mg "range" = none
  z_reversed : mg "reversed" = none
  z_set : mg "set" = none
  z_sorted : mg "sorted" = none
  z_tuple : mg "tuple" = none
  z_zip : mg "zip" = none
  g_NoSet : mg "NoSet" = some (.ref A.e_NoSet)
  x_NoSet : PySem.W.excIn K A.e_NoSet [.type "ValueError", .type "Exception", .type "BaseException", .type "object"] "ValueError.__new__" = true
  k_NoSet : PySem.W.keepIn K (.ref A.e_NoSet) = true
  bb_NoSet : PySem.W.subIn K (.ref A.e_NoSet) (.type "BaseException") = some true
  tt_NoSet : PySem.W.typeIn K (.ref A.e_NoSet) = some (.type "type")
section
variable {P : Program} {w : World} {K : PySem.W.Frag} {mg : Str → Option Value} {base : Heap} {A : Ad}
/-! ### is_set: slots 0 marks, 1 before, 2 mark -/

theorem ok_is_set (T : Txt K mg A) : FnOk P w K mg base CX0 1 A.f_is_set A.d_is_set ["marks"] (sp_is_set K) := by
  refine T.F_is_set.ok sc_is_set (fun vs H Q E h => by first | (obtain ⟨_, rfl, _⟩ := h; rfl) | (obtain ⟨_, _, rfl, _⟩ := h; rfl) | (obtain ⟨_, _, _, rfl, _⟩ := h; rfl) | (obtain ⟨_, _, _, _, rfl, _⟩ := h; rfl) | (obtain ⟨_, _, _, _, _, rfl, _⟩ := h; rfl) | (obtain ⟨_, _, _, _, _, _, rfl, _⟩ := h; rfl) | (obtain ⟨_, _, _, _, _, _, _, rfl, _⟩ := h; rfl)) (fun cdv AA outer s H vs Q E hr h => ?_)
  refine ⟨_, (pss_cons (ps_set (i := 1) sc_is_set.nd rfl (.inl rfl) pe_int)
      (pss_cons (ps_for PassesOwn.never rfl (pi_tup (pv 0)) (pg_name (i := 2) sc_is_set.nd rfl (.inl rfl))
        (pss_cons (ps_if (PW.pt (pw_or (pt_cmpR op_le (pv 2) (pv 1) (nomark _)) (pw_or1 (pt_cmpR op_gt (pv 2) (pe_glob (v := .int 96) rfl T.c_LAST_MARK ⟨_, rfl⟩) (nomark _))))) (pss_one (ps_ret pe_bl)) pss_nil)
        (pss_one (ps_set (i := 1) sc_is_set.nd rfl (.inl rfl) (pv 2)))))
      (pss_one (ps_ret pe_bl)))), ?_⟩
  obtain ⟨a, ns, rfl, hS, q⟩ := h
  refine ⟨_, rfl, a, rfl, ⟨_, hS⟩, for_tup (K := K) (a := a) (xs := ns.map V.int) (fun i σ H' => ∃ (b : Int) (v : Option V), σ = [some (.ref a), some (.int b), v] ∧ H' = H ∧ isSetG b (ns.drop i) = isSetB ns) ⟨0, none, rfl, rfl, rfl⟩ (fun i σ H' _ ⟨_, _, _, e, _⟩ => e ▸ hS) ?_ ?_⟩
  · rintro i y σ H' hi ⟨b, v, rfl, rfl, hb⟩
    obtain ⟨z, hz, rfl⟩ := int_at hi
    have hd : ns.drop i = z :: ns.drop (i + 1) := by
      have hlt : i < ns.length := (List.getElem?_eq_some_iff.mp hz).1
      rw [List.drop_eq_getElem_cons hlt, (List.getElem?_eq_some_iff.mp hz).2]
    rw [hd] at hb
    unfold isSetG at hb
    refine ⟨_, rfl, _, rfl, _, _, rfl, rfl, _, rfl, ite2 (fun c => ?_) (fun c => ?_)⟩
    · refine iteT ?_
      rw [if_pos (.inl (of_decide_eq_true c))] at hb
      rw [← hb] at q
      exact q
    · refine ⟨_, rfl, _, _, rfl, rfl, _, rfl, ite2 (fun c2 => ?_) (fun c2 => ?_)⟩
      · rw [if_pos (.inr (of_decide_eq_true c2))] at hb
        rw [← hb] at q
        exact q
      · refine ⟨_, rfl, _, _, rfl, rfl, ?_⟩
        rw [if_neg (fun w => w.elim (fun w => c (decide_eq_true w)) fun w => c2 (decide_eq_true w))] at hb
        exact hb
  · rintro σ H' ⟨b, v, rfl, rfl, hb⟩
    rw [List.drop_of_length_le (by rw [List.length_map]; exact Nat.le_refl _)] at hb
    rw [← hb] at q
    exact q
/-! ### refuse_unless_set: slots 0 marks -/

theorem ok_refuse_unless_set (T : Txt K mg A) : FnOk P w K mg base (L2.CX P w) 2 A.f_refuse_unless_set A.d_refuse_unless_set ["marks"] (sp_refuse_unless_set K A.e_NoSet) := by
  refine T.F_refuse_unless_set.okX sc_refuse_unless_set (fun vs H Q E h => by first | (obtain ⟨_, rfl, _⟩ := h; rfl) | (obtain ⟨_, _, rfl, _⟩ := h; rfl) | (obtain ⟨_, _, _, rfl, _⟩ := h; rfl) | (obtain ⟨_, _, _, _, rfl, _⟩ := h; rfl) | (obtain ⟨_, _, _, _, _, rfl, _⟩ := h; rfl) | (obtain ⟨_, _, _, _, _, _, rfl, _⟩ := h; rfl) | (obtain ⟨_, _, _, _, _, _, _, rfl, _⟩ := h; rfl)) (fun cdv AA outer s H vs Q E hr h => ?_)
  refine ⟨_, (pss_one (ps_if (pt_not (pt_val (pe_call (ok_is_set T) (hr.mono (by decide)) (by rfl) T.g_is_set T.k_is_set T.b_is_set .nil pass0 (pa_cons (pv 0) pa_nil)))) (pss_one (ps_raise rfl (takes_of rfl rfl rfl rfl) (pmk_own PySem.F.excBase_ValueError T.x_NoSet T.g_NoSet T.k_NoSet (raises_own T.bb_NoSet T.tt_NoSet) rfl))) pss_nil)), ?_⟩
  obtain ⟨a, ns, rfl, hS, hE, hQ⟩ := h
  refine ⟨_, rfl, a, ns, rfl, hS, _, rfl, ?_⟩
  cases c : isSetB ns with
  | true => exact iteF (hQ c)
  | false => exact iteT (hE c)
/-! ### worth: slots 0 row, 1 x, 2 total, 3 number -/

theorem ok_worth (T : Txt K mg A) : FnOk P w K mg base CX0 1 A.f_worth A.d_worth ["row", "x"] (sp_worth K) := by
  refine T.F_worth.ok sc_worth (fun vs H Q E h => by first | (obtain ⟨_, rfl, _⟩ := h; rfl) | (obtain ⟨_, _, rfl, _⟩ := h; rfl) | (obtain ⟨_, _, _, rfl, _⟩ := h; rfl) | (obtain ⟨_, _, _, _, rfl, _⟩ := h; rfl) | (obtain ⟨_, _, _, _, _, rfl, _⟩ := h; rfl) | (obtain ⟨_, _, _, _, _, _, rfl, _⟩ := h; rfl) | (obtain ⟨_, _, _, _, _, _, _, rfl, _⟩ := h; rfl)) (fun cdv AA outer s H vs Q E hr h => ?_)
  refine ⟨_, (pss_cons (ps_set (i := 2) sc_worth.nd rfl (.inl rfl) pe_int)
      (pss_cons (ps_for PassesOwn.never rfl (pi_tup (pv 0)) (pg_name (i := 3) sc_worth.nd rfl (.inl rfl))
        (pss_one (ps_set (i := 2) sc_worth.nd rfl (.inl rfl) (pe_op op_mod (pe_op op_add (pe_op op_mul (pv 2) (pv 1)) (pv 3)) (pe_glob (v := .int 97) rfl T.c_WHEEL ⟨_, rfl⟩)))))
      (pss_one (ps_ret (pv 2))))), ?_⟩
  obtain ⟨a, ns, x, rfl, hS, q⟩ := h
  refine ⟨_, rfl, a, rfl, ⟨_, hS⟩, for_tup (K := K) (a := a) (xs := ns.map V.int) (fun i σ H' => ∃ v, σ = [some (.ref a), some (.int x), some (.int (worthL (ns.take i) x)), v] ∧ H' = H) ⟨none, rfl, rfl⟩ (fun i σ H' _ ⟨_, _, e⟩ => e ▸ hS) ?_ ?_⟩
  · rintro i y σ H' hi ⟨v, rfl, rfl⟩
    obtain ⟨z, hz, rfl⟩ := int_at hi
    have hb := worthL_bd (ns.take i) x
    refine ⟨_, rfl, _, rfl, _, _, rfl, rfl, .inl ⟨by omega, by omega⟩, _, rfl, _, _, rfl, rfl, _, _, rfl, rfl, by show (0:Int) < _; decide, ?_⟩
    refine ⟨some (.int z), ?_, rfl⟩
    rw [worthL_take hz]
    rfl
  · rintro σ H' ⟨v, rfl, rfl⟩
    refine ⟨_, rfl, ?_⟩
    rw [List.length_map, List.take_length]
    exact q
/-! ### with_nought: slots 0 row, 1 mark, 2 higher, 3 lower -/

theorem ok_with_nought (T : Txt K mg A) : FnOk P w K mg base CX0 1 A.f_with_nought A.d_with_nought ["row", "mark"] (sp_with_nought K) := by
  refine T.F_with_nought.ok sc_with_nought (fun vs H Q E h => by first | (obtain ⟨_, rfl, _⟩ := h; rfl) | (obtain ⟨_, _, rfl, _⟩ := h; rfl) | (obtain ⟨_, _, _, rfl, _⟩ := h; rfl) | (obtain ⟨_, _, _, _, rfl, _⟩ := h; rfl) | (obtain ⟨_, _, _, _, _, rfl, _⟩ := h; rfl) | (obtain ⟨_, _, _, _, _, _, rfl, _⟩ := h; rfl) | (obtain ⟨_, _, _, _, _, _, _, rfl, _⟩ := h; rfl)) (fun cdv AA outer s H vs Q E hr h => ?_)
  refine ⟨_, (pss_one (ps_ret (pe_lc (own := [("higher", 2), ("lower", 3)]) (g := gTup K 2 (gCons (gName 2) (gCons (gName 3) gNil)))  rfl sc_with_nought.nd (pi_zip (by rfl) T.z_zip (pa_cons (pe_lst (StX.pa_star (pv 0) (pa_cons pe_int pa_nil))) (pa_cons (pe_lst (pa_cons pe_int (StX.pa_star (pv 0) pa_nil))) pa_nil))) (blkOk_by (own := [("higher", 2), ("lower", 3)]) (N := ["row", "mark", "higher", "lower"]) (sc := defScope s_with_nought) (by decide +kernel)) (fun _ _ _ _ _ => pg_tup rfl (pgs_cons (pg_name (i := 2) sc_with_nought.nd rfl (.inl rfl)) (pgs_cons (pg_name (i := 3) sc_with_nought.nd rfl (.inl rfl)) pgs_nil))) (fun _ _ _ _ _ => pts_nil) (fun _ _ _ _ _ => (pe_op op_mod (pe_op op_sub (pv 2) (pe_op op_mul (pv 1) (pv 3))) (pe_glob (v := .int 97) rfl T.c_WHEEL ⟨_, rfl⟩)))))), ?_⟩
  obtain ⟨a, row, m, rfl, hS, hlen, m0, m1, q⟩ := h
  have h1000 : row.length + 1 ≤ sizeLine := Nat.le_trans (Nat.succ_le_succ hlen) (by decide)
  refine ⟨_, rfl, a, _, rfl, .inr hS, by rw [List.length_append, List.length_map]; exact h1000, fun l1 hl1 => ?_⟩
  have s1 := same_upd (o := .lst (row.map V.int ++ [.int 0])) hl1
  refine ⟨_, rfl, a, _, rfl, .inr (s1.seq hS), by rw [List.append_nil, List.length_cons, List.length_map]; exact h1000, fun l2 hl2 => ?_⟩
  have e1 : row.map V.int ++ [V.int 0] = (row ++ [0]).map V.int := by rw [List.map_append]; rfl
  have e2 : V.int 0 :: (row.map V.int ++ []) = (0 :: row).map V.int := by rw [List.append_nil]; rfl
  have hll : l1 ≠ l2 := ne_of_none upd_same hl2
  refine ⟨l1, l2, (row ++ [0]).map V.int, (0 :: row).map V.int, rfl, SqL.of (by rw [upd_ne hll, ← e1]; exact upd_same), SqL.of (by rw [← e2]; exact upd_same), fun D hD => lc_zipL (K := K) (a := l1) (b := l2) (xs := (row ++ [0]).map V.int) (ys := (0 :: row).map V.int) (by rw [List.length_map, List.length_map, List.length_append]; rfl)
    (fun i H' => Same (upd (upd H l1 (.lst (row.map V.int ++ [.int 0]))) l2 (.lst (V.int 0 :: (row.map V.int ++ [])))) H' ∧ H' D = some (.lst (((withN row m).take i).map V.int))) ⟨same_upd hD, upd_same⟩ (fun i H' p => ⟨SqL.of (p.1 _ _ (by rw [upd_ne hll, ← e1]; exact upd_same)), SqL.of (p.1 _ _ (by rw [← e2]; exact upd_same))⟩) ?_ ?_⟩
  · rintro i x y T H' hx hy hT ⟨sm, hd⟩
    obtain ⟨hi, hix, rfl⟩ := int_at hx
    obtain ⟨lo, hlo, rfl⟩ := int_at hy
    have gi : (withN row m)[i]? = some ((hi - m * lo) % 97) := by
      unfold withN
      rw [List.getElem?_map, List.getElem?_zip_eq_some.mpr (show (row ++ [0])[i]? = some (hi, lo).1 ∧ (0 :: row)[i]? = some (hi, lo).2 from ⟨hix, hlo⟩)]
      rfl
    have smT := same_upd (o := .tup [.int hi, .int lo]) hT
    refine ⟨T, [.int hi, .int lo], rfl, SqT.of upd_same, rfl, .int hi, [.int lo], rfl, .int lo, [], rfl, rfl, rfl, ?_⟩
    refine ⟨_, rfl, _, rfl, _, rfl, _, _, rfl, rfl, .inl ⟨by omega, by omega⟩, _, _, rfl, rfl, _, _, rfl, rfl, by show (0:Int) < _; decide, _, smT _ _ hd, ?_, (sm.trans smT).mut hD, ?_⟩
    · rw [List.length_map, List.length_take]
      have := withN_len row m
      exact Nat.lt_of_le_of_lt (by omega : _ ≤ 1001) (by decide)
    · rw [upd_same, List.take_add_one, gi, List.map_append]
      rfl
  · rintro H' ⟨sm, hd⟩
    have hD0 : H D = none := (s1.trans (same_upd hl2)).free hD
    refine q D H' ((s1.trans (same_upd hl2)).trans sm) hD0 ?_
    rw [hd, List.take_of_length_le]
    rw [withN_len, List.length_map, List.length_append]
    exact Nat.le_refl _
/-! ### row_of: slots 0 marks, 1 row, 2 mark -/

theorem ok_row_of (T : Txt K mg A) : FnOk P w K mg base (L2.CX P w) 3 A.f_row_of A.d_row_of ["marks"] (sp_row_of K A.e_NoSet) := by
  refine T.F_row_of.okX sc_row_of (fun vs H Q E h => by first | (obtain ⟨_, rfl, _⟩ := h; rfl) | (obtain ⟨_, _, rfl, _⟩ := h; rfl) | (obtain ⟨_, _, _, rfl, _⟩ := h; rfl) | (obtain ⟨_, _, _, _, rfl, _⟩ := h; rfl) | (obtain ⟨_, _, _, _, _, rfl, _⟩ := h; rfl) | (obtain ⟨_, _, _, _, _, _, rfl, _⟩ := h; rfl) | (obtain ⟨_, _, _, _, _, _, _, rfl, _⟩ := h; rfl)) (fun cdv AA outer s H vs Q E hr h => ?_)
  refine ⟨_, (pss_cons (ps_expr (pe_call (ok_refuse_unless_set T) (hr.mono (by decide)) (by rfl) T.g_refuse_unless_set T.k_refuse_unless_set T.b_refuse_unless_set .nil (passes_call (takes_of rfl rfl rfl rfl) (fun _ _ _ _ z => z)) (pa_cons (pv 0) pa_nil)))
      (pss_cons (ps_set (i := 1) sc_row_of.nd rfl (.inl rfl) (pe_lst (pa_cons pe_int pa_nil)))
      (pss_cons (ps_for (passes_of rfl) rfl (pi_tup (pv 0)) (pg_name (i := 2) sc_row_of.nd rfl (.inl rfl))
        (pss_one (ps_set (i := 1) sc_row_of.nd rfl (.inl rfl) (pe_call (ok_with_nought T) (hr.mono (by decide)) (by rfl) T.g_with_nought T.k_with_nought T.b_with_nought .nil pass0 (pa_cons (pv 1) (pa_cons (pv 2) pa_nil))))))
      (pss_one (ps_ret (pe_callTy call_tuple_of (by rfl) T.z_tuple (by decide +kernel) (pa_cons (pv 1) pa_nil))))))), ?_⟩
  obtain ⟨a, ms, rfl, hS, hE, hQ⟩ := h
  refine ⟨_, rfl, a, ms, rfl, hS, hE, fun c => ?_⟩
  have hset := isSetB_iff.mp c
  have hlen := hset.len
  refine ⟨by show 1 ≤ sizeLine; decide, fun l hl => ?_⟩
  refine ⟨_, rfl, a, rfl, ⟨_, seqT_same (same_upd hl) hS⟩, for_tup (K := K) (a := a) (xs := ms.map V.int) (fun i σ H' => ∃ (p : Addr) (v : Option V), σ = [some (.ref a), some (.ref p), v] ∧ Same H H' ∧ H' p = some (.lst ((rowL (ms.take i)).map V.int))) ⟨l, none, rfl, same_upd hl, upd_same⟩ (fun i σ H' _ ⟨_, _, _, sm, _⟩ => seqT_same sm hS) ?_ ?_⟩
  · rintro i y σ H' hi ⟨p, v, rfl, sm, hp⟩
    obtain ⟨z, hz, rfl⟩ := int_at hi
    have hb := hset.bd z (List.mem_of_getElem? hz)
    refine ⟨_, rfl, _, rfl, p, _, z, rfl, SqL.of hp, by rw [rowL_len, List.length_take]; omega, by omega, by omega, fun D H2 s2 _ hD2 => ?_⟩
    exact ⟨D, _, rfl, sm.trans s2, by rw [hD2, rowL_take hz]⟩
  · rintro σ H' ⟨p, v, rfl, sm, hp⟩
    rw [List.length_map, List.take_length] at hp
    exact ⟨_, rfl, p, _, rfl, .inl ⟨SqL.of hp, fun t ht => hQ c t _ (sm.trans (same_upd ht)) (sm.free ht) upd_same⟩⟩
/-! ### noughts: slots 0 row, 1 mark -/

theorem ok_noughts (T : Txt K mg A) : FnOk P w K mg base CX0 2 A.f_noughts A.d_noughts ["row"] (sp_noughts K) := by
  refine T.F_noughts.ok sc_noughts (fun vs H Q E h => by first | (obtain ⟨_, rfl, _⟩ := h; rfl) | (obtain ⟨_, _, rfl, _⟩ := h; rfl) | (obtain ⟨_, _, _, rfl, _⟩ := h; rfl) | (obtain ⟨_, _, _, _, rfl, _⟩ := h; rfl) | (obtain ⟨_, _, _, _, _, rfl, _⟩ := h; rfl) | (obtain ⟨_, _, _, _, _, _, rfl, _⟩ := h; rfl) | (obtain ⟨_, _, _, _, _, _, _, rfl, _⟩ := h; rfl)) (fun cdv AA outer s H vs Q E hr h => ?_)
  refine ⟨_, (pss_one (ps_ret (pe_callTy call_tuple_of (by rfl) T.z_tuple (by decide +kernel) (pa_cons (pe_lc (own := [("mark", 1)]) (g := gName 1)  rfl sc_noughts.nd (pi_range2 (by rfl) T.z_range (pa_cons pe_int (pa_cons (pe_op op_add (pe_glob (v := .int 96) rfl T.c_LAST_MARK ⟨_, rfl⟩) pe_int) pa_nil))) (blkOk_by (own := [("mark", 1)]) (N := ["row", "mark"]) (sc := defScope s_noughts) (by decide +kernel)) (fun _ _ _ _ _ => pg_name (i := 1) sc_noughts.nd rfl (Or.inl rfl)) (fun _ _ _ _ _ => (pts_one (pt_cmpR op_eq (pe_call (ok_worth T) (hr.mono (by decide)) (by rfl) T.g_worth T.k_worth T.b_worth .nil pass0 (pa_cons (pv 0) (pa_cons (pv 1) pa_nil))) pe_int (nomark _)))) (fun _ _ _ _ _ => (pv 1))) pa_nil)))), ?_⟩
  obtain ⟨a, ns, rfl, hS, q⟩ := h
  refine ⟨_, _, rfl, rfl, 1, 97, rfl, ⟨by decide, by decide, by decide, by decide⟩, fun D hD => lc_pureR (lo := 1) (n := 96) (fun v => match v with | .int x => decide (worthL ns x = 0) | _ => false) (fun v => v) hD (by decide) (fun _ => rfl) ?_ ?_ ?_⟩
  · intro i hi H2 s2 Q' q'
    refine ⟨_, rfl, _, rfl, a, ns, _, rfl, seqT_same s2 hS, rfl, _, rfl, ?_⟩
    have e : decide (V.int (worthL ns (1 + (i : Int))) = V.int 0) = decide (worthL ns (1 + (i : Int)) = 0) := decide_eq_decide.mpr ⟨fun h => V.int.inj h, fun h => congrArg V.int h⟩
    rw [e]
    exact q' H2 (Same.refl _)
  · intro i hi hc H2 s2 Q' q'
    exact ⟨_, rfl, q' H2 (Same.refl _)⟩
  · intro H' sm hd
    rw [rgL_ints, int_filter (g := fun x => decide (worthL ns x = 0)) (fun _ _ => rfl)] at hd
    exact ⟨D, _, rfl, .inl ⟨SqL.of hd, fun t ht => q t _ (sm.trans (same_upd ht)) (sm.free ht) upd_same⟩⟩
/-! ### _law_start: slots 0 _law_script, 1 _law_mixed, 2 _law_cell -/

theorem ok__law_start (T : Txt K mg A) : FnOk P w K mg base CX0 1 A.f__law_start A.d__law_start ["_law_script"] (sp__law_start K) := by
  refine T.F__law_start.ok sc__law_start (fun vs H Q E h => by first | (obtain ⟨_, rfl, _⟩ := h; rfl) | (obtain ⟨_, _, rfl, _⟩ := h; rfl) | (obtain ⟨_, _, _, rfl, _⟩ := h; rfl) | (obtain ⟨_, _, _, _, rfl, _⟩ := h; rfl) | (obtain ⟨_, _, _, _, _, rfl, _⟩ := h; rfl) | (obtain ⟨_, _, _, _, _, _, rfl, _⟩ := h; rfl) | (obtain ⟨_, _, _, _, _, _, _, rfl, _⟩ := h; rfl)) (fun cdv AA outer s H vs Q E hr h => ?_)
  refine ⟨_, (pss_cons (ps_set (i := 1) sc__law_start.nd rfl (.inl rfl) pe_int)
      (pss_cons (ps_for PassesOwn.never rfl (pi_list (pv 0)) (pg_name (i := 2) sc__law_start.nd rfl (.inl rfl))
        (pss_one (ps_set (i := 1) sc__law_start.nd rfl (.inl rfl) (pe_op op_mod (pe_op op_add (pe_op op_add (pe_op op_mul (pv 1) pe_int) (pv 2)) pe_int) pe_int))))
      (pss_one (ps_ret (pe_lst (pa_cons (pv 0) (pa_cons pe_int (pa_cons (pv 1) (pa_cons pe_int pa_nil))))))))), ?_⟩
  obtain ⟨a, ns, rfl, hS, q⟩ := h
  refine ⟨_, rfl, a, rfl, ⟨_, hS⟩, for_list (K := K) (a := a) (xs := ns.map V.int) (fun i σ H' => ∃ (m : Int) (v : Option V), σ = [some (.ref a), some (.int m), v] ∧ H' = H) ⟨1, none, rfl, rfl⟩ (fun i σ H' _ ⟨_, _, _, e⟩ => e ▸ hS) ?_ ?_⟩
  · rintro i y σ H' hi ⟨m, v, rfl, rfl⟩
    obtain ⟨z, hz, rfl⟩ := int_at hi
    exact ⟨_, rfl, _, _, rfl, rfl, .inr ⟨by decide, by decide⟩, _, rfl, _, _, rfl, rfl, _, _, rfl, rfl, _, _, rfl, rfl, by show (0:Int) < _; decide, _, _, rfl, rfl⟩
  · rintro σ H' ⟨m, v, rfl, rfl⟩
    refine ⟨_, rfl, _, rfl, by show 4 ≤ sizeLine; decide, fun p hp => ?_⟩
    exact q p _ hp (same_upd hp) ⟨⟨0, m, 0, Int.le_refl 0, upd_same⟩, ns, (same_upd hp).seq hS⟩
/-! ### _law_drawn: slots 0 _law_state, 1 _law_many, 2 _law_found, 3 _law_cell -/

theorem ok__law_drawn (T : Txt K mg A) : FnOk P w K mg base CX0 1 A.f__law_drawn A.d__law_drawn ["_law_state", "_law_many"] (sp__law_drawn K) := by
  refine T.F__law_drawn.ok sc__law_drawn (fun vs H Q E h => by first | (obtain ⟨_, rfl, _⟩ := h; rfl) | (obtain ⟨_, _, rfl, _⟩ := h; rfl) | (obtain ⟨_, _, _, rfl, _⟩ := h; rfl) | (obtain ⟨_, _, _, _, rfl, _⟩ := h; rfl) | (obtain ⟨_, _, _, _, _, rfl, _⟩ := h; rfl) | (obtain ⟨_, _, _, _, _, _, rfl, _⟩ := h; rfl) | (obtain ⟨_, _, _, _, _, _, _, rfl, _⟩ := h; rfl)) (fun cdv AA outer s H vs Q E hr h => ?_)
  refine ⟨_, (pss_cons (ps_if (pt_cmpR op_gt (pe_ix ix_list (pv 0) pe_int (fun _ _ => rfl)) pe_int (nomark _)) (pss_cons (ps_set (i := 2) sc__law_drawn.nd rfl (.inl rfl) (pe_op op_mod (pe_ix ix_list (pv 0) pe_int (fun _ _ => rfl)) (pv 1)))
        (pss_cons (ps_asg (pe_op op_fdivW (pe_ix ix_list (pv 0) pe_int (fun _ _ => rfl)) (pv 1)) (pg_sub (pv 0) pe_int set_list))
        (pss_one (ps_ret (pv 2))))) pss_nil)
      (pss_cons (ps_asg (pe_op op_add (pe_ix ix_list (pv 0) pe_int (fun _ _ => rfl)) pe_int) (pg_sub (pv 0) pe_int set_list))
      (pss_cons (ps_if (pt_cmpR op_le (pe_ix ix_list (pv 0) pe_int (fun _ _ => rfl)) (pe_callB call_len_seq (by rfl) T.z_len PySem.boot_len (pa_cons (pe_ix ix_list (pv 0) pe_int (fun _ _ => rfl)) pa_nil)) (nomark _)) (pss_cons (ps_set (i := 3) sc__law_drawn.nd rfl (.inl rfl) (pe_ix ix_list (pe_ix ix_list (pv 0) pe_int (fun _ _ => rfl)) (pe_op op_sub (pe_ix ix_list (pv 0) pe_int (fun _ _ => rfl)) pe_int) (fun _ _ => rfl)))
        (pss_cons (ps_asg (pe_ifExp (pt_cmpR op_ge (pv 3) (pe_op op_pow pe_int pe_int) (nomark _)) (pe_op op_fdivW (pv 3) (pv 1)) pe_int) (pg_sub (pv 0) pe_int set_list))
        (pss_one (ps_ret (pe_op op_mod (pv 3) (pv 1)))))) pss_nil)
      (pss_cons (ps_asg (pe_op op_mod (pe_op op_add (pe_op op_mul (pe_ix ix_list (pv 0) pe_int (fun _ _ => rfl)) pe_int) pe_int) pe_int) (pg_sub (pv 0) pe_int set_list))
      (pss_one (ps_ret (pe_op op_mod (pe_op op_fdiv (pe_ix ix_list (pv 0) pe_int (fun _ _ => rfl)) pe_int) (pv 1)))))))), ?_⟩
  obtain ⟨a, st, n, rfl, hS, hn, hnb, q⟩ := h
  obtain ⟨⟨i, m, r, hi, hs⟩, ns, hns⟩ := id hS
  -- if state[3] > 0
  refine ⟨_, rfl, st, _, 3, _, rfl, rfl, SqL.of hs, atI_nat (j := 3) rfl, _, _, rfl, rfl, _, rfl, ite2 (fun c => ?_) (fun c => ?_)⟩
  · refine ⟨_, rfl, st, _, 3, _, rfl, rfl, SqL.of hs, atI_nat (j := 3) rfl, _, rfl, _, _, rfl, rfl, hn, ?_⟩
    refine ⟨_, rfl, st, _, 3, _, rfl, rfl, SqL.of hs, atI_nat (j := 3) rfl, _, rfl, _, _, rfl, rfl, wide_div hn hnb (by decide) (by decide), ?_⟩
    refine ⟨_, rfl, st, _, 3, 3, rfl, rfl, hs, rfl, ?_⟩
    exact ⟨_, rfl, q _ _ (Int.emod_nonneg _ (by omega)) (Int.emod_lt_of_pos _ hn) (Go.upd (r := r / n) (m := m) hS hi)⟩
  · -- state[1] = state[1] + 1
    refine ⟨_, rfl, st, _, 1, _, rfl, rfl, SqL.of hs, atI_nat (j := 1) rfl, _, _, rfl, rfl, ?_⟩
    refine ⟨_, rfl, st, _, 1, 1, rfl, rfl, hs, rfl, ?_⟩
    have g1 : Go K st H (upd H st (.lst [.ref a, .int (i + 1), .int m, .int r])) := Go.upd hS (by omega)
    have hS1 := g1.st _ hS
    have hs1 : (upd H st (.lst [.ref a, .int (i + 1), .int m, .int r])) st = some (.lst [.ref a, .int (i + 1), .int m, .int r]) := upd_same
    obtain ⟨_, ns1, hns1⟩ := id hS1
    -- if state[1] <= len(state[0])
    refine ⟨_, rfl, st, _, 1, _, rfl, rfl, SqL.of hs1, atI_nat (j := 1) rfl, _, rfl, st, _, 0, _, rfl, rfl, SqL.of hs1, atI_nat (j := 0) rfl, a, _, rfl, .inl hns1, _, _, rfl, rfl, _, rfl, ite2 (fun c => ?_) (fun c => ?_)⟩
    · have c2 : i + 1 ≤ (ns1.length : Int) := by
        have := of_decide_eq_true c
        rw [List.length_map] at this
        exact this
      have hlt : i.toNat < ns1.length := by omega
      have hat : atI (ns1.map V.int) (i + 1 - 1) = some (.int ns1[i.toNat]) := at_of (j := i.toNat) (by omega) (by rw [List.getElem?_map, List.getElem?_eq_getElem hlt]; rfl)
      -- cell = state[0][state[1] - 1]
      refine ⟨_, rfl, st, _, 0, _, rfl, rfl, SqL.of hs1, atI_nat (j := 0) rfl, _, rfl, st, _, 1, _, rfl, rfl, SqL.of hs1, atI_nat (j := 1) rfl, _, _, rfl, rfl, a, _, _, _, rfl, rfl, hns1, hat, ?_⟩
      -- state[3] = cell // many if cell >= 10 ** 18 else 0
      refine ⟨_, rfl, _, _, rfl, rfl, ⟨by decide, by decide, by decide⟩, _, _, rfl, rfl, _, rfl, ite2 (fun c3 => ?_) (fun c3 => ?_)⟩
      · refine ⟨_, rfl, _, rfl, _, _, rfl, rfl, wide_div hn hnb (by decide) (by decide), _, rfl, st, _, 3, 3, rfl, rfl, hs1, rfl, ?_⟩
        exact ⟨_, rfl, _, rfl, _, _, rfl, rfl, hn, q _ _ (Int.emod_nonneg _ (by omega)) (Int.emod_lt_of_pos _ hn) (g1.trans (Go.upd (m := m) hS1 (by omega)))⟩
      · refine ⟨_, rfl, st, _, 3, 3, rfl, rfl, hs1, rfl, ?_⟩
        exact ⟨_, rfl, _, rfl, _, _, rfl, rfl, hn, q _ _ (Int.emod_nonneg _ (by omega)) (Int.emod_lt_of_pos _ hn) (g1.trans (Go.upd (m := m) hS1 (by omega)))⟩
    · -- state[2] = (state[2] * 48271 + 11) % 2147483647
      refine ⟨_, rfl, st, _, 2, _, rfl, rfl, SqL.of hs1, atI_nat (j := 2) rfl, _, _, rfl, rfl, .inr ⟨by decide, by decide⟩, _, _, rfl, rfl, _, _, rfl, rfl, by show (0:Int) < _; decide, ?_⟩
      refine ⟨_, rfl, st, _, 2, 2, rfl, rfl, hs1, rfl, ?_⟩
      have g2 := g1.trans (Go.upd (m := (m * 48271 + 11) % 2147483647) (r := r) hS1 (by omega : 0 ≤ i + 1))
      refine ⟨_, rfl, st, _, 2, _, rfl, rfl, SqL.of upd_same, atI_nat (j := 2) rfl, _, _, rfl, rfl, ⟨by decide, by decide⟩, _, rfl, _, _, rfl, rfl, hn, ?_⟩
      exact q _ _ (Int.emod_nonneg _ (by omega)) (Int.emod_lt_of_pos _ hn) g2
/-! ### _law_set: slots 0 _law_state, 1 _law_most, 2 _law_many, 3 _law_first, 4 _law_step, 5 _law_k -/

theorem ok__law_set (T : Txt K mg A) : FnOk P w K mg base CX0 2 A.f__law_set A.d__law_set ["_law_state", "_law_most"] (sp__law_set K) := by
  refine T.F__law_set.ok sc__law_set (fun vs H Q E h => by first | (obtain ⟨_, rfl, _⟩ := h; rfl) | (obtain ⟨_, _, rfl, _⟩ := h; rfl) | (obtain ⟨_, _, _, rfl, _⟩ := h; rfl) | (obtain ⟨_, _, _, _, rfl, _⟩ := h; rfl) | (obtain ⟨_, _, _, _, _, rfl, _⟩ := h; rfl) | (obtain ⟨_, _, _, _, _, _, rfl, _⟩ := h; rfl) | (obtain ⟨_, _, _, _, _, _, _, rfl, _⟩ := h; rfl)) (fun cdv AA outer s H vs Q E hr h => ?_)
  refine ⟨_, (pss_cons (ps_set (i := 2) sc__law_set.nd rfl (.inl rfl) (pe_call (ok__law_drawn T) (hr.mono (by decide)) (by rfl) T.g__law_drawn T.k__law_drawn T.b__law_drawn .nil pass0 (pa_cons (pv 0) (pa_cons (pe_op op_add (pv 1) pe_int) pa_nil))))
      (pss_cons (ps_set (i := 3) sc__law_set.nd rfl (.inr rfl) (pe_call (ok__law_drawn T) (hr.mono (by decide)) (by rfl) T.g__law_drawn T.k__law_drawn T.b__law_drawn .nil pass0 (pa_cons (pv 0) (pa_cons pe_int pa_nil))))
      (pss_cons (ps_set (i := 4) sc__law_set.nd rfl (.inr rfl) (pe_ix ix_list (pe_lst (pa_cons pe_int (pa_cons pe_int (pa_cons (pe_op op_add pe_int (pe_call (ok__law_drawn T) (hr.mono (by decide)) (by rfl) T.g__law_drawn T.k__law_drawn T.b__law_drawn .nil pass0 (pa_cons (pv 0) (pa_cons pe_int pa_nil)))) pa_nil)))) (pe_call (ok__law_drawn T) (hr.mono (by decide)) (by rfl) T.g__law_drawn T.k__law_drawn T.b__law_drawn .nil pass0 (pa_cons (pv 0) (pa_cons pe_int pa_nil))) (fun _ _ => rfl)))
      (pss_cons (ps_if (pt_cmpR op_eq (pv 4) pe_int (nomark _)) (pss_one (ps_ret (pe_callTy call_tuple_of (by rfl) T.z_tuple (by decide +kernel) (pa_cons (pe_callB (call_sortedU rfl) (by rfl) T.z_sorted (by decide +kernel) (pa_cons (pe_callTy (call_setQ rfl) (by rfl) T.z_set (by decide +kernel) (pa_cons (pe_lc (own := [("_law_k", 5)]) (g := gName 5)  rfl sc__law_set.nd (pi_range1 (by rfl) T.z_range (pa_cons (pv 2) pa_nil)) (blkOk_by (own := [("_law_k", 5)]) (N := ["_law_state", "_law_most", "_law_many", "_law_first", "_law_step", "_law_k"]) (sc := defScope s__law_set) (by decide +kernel)) (fun _ _ _ _ _ => pg_name (i := 5) sc__law_set.nd rfl (Or.inl rfl)) (fun _ _ _ _ _ => pts_nil) (fun _ _ _ _ _ => (pe_op op_add pe_int (pe_call (ok__law_drawn T) (hr.mono (by decide)) (by rfl) T.g__law_drawn T.k__law_drawn T.b__law_drawn .nil pass0 (pa_cons (pv 0) (pa_cons pe_int pa_nil)))))) pa_nil)) pa_nil)) pa_nil)))) pss_nil)
      (pss_one (ps_ret (pe_callTy call_tuple_of (by rfl) T.z_tuple (by decide +kernel) (pa_cons (pe_callB (call_sortedU rfl) (by rfl) T.z_sorted (by decide +kernel) (pa_cons (pe_callTy (call_setQ rfl) (by rfl) T.z_set (by decide +kernel) (pa_cons (pe_lc (own := [("_law_k", 5)]) (g := gName 5)  rfl sc__law_set.nd (pi_range1 (by rfl) T.z_range (pa_cons (pv 2) pa_nil)) (blkOk_by (own := [("_law_k", 5)]) (N := ["_law_state", "_law_most", "_law_many", "_law_first", "_law_step", "_law_k"]) (sc := defScope s__law_set) (by decide +kernel)) (fun _ _ _ _ _ => pg_name (i := 5) sc__law_set.nd rfl (Or.inl rfl)) (fun _ _ _ _ _ => pts_nil) (fun _ _ _ _ _ => (pe_op op_add pe_int (pe_op op_mod (pe_op op_add (pv 3) (pe_op op_mul (pv 4) (pv 5))) pe_int)))) pa_nil)) pa_nil)) pa_nil)))))))), ?_⟩
  obtain ⟨a, st, most, rfl, hS, m0, m1, q⟩ := h
  refine ⟨_, rfl, _, rfl, _, _, rfl, rfl, a, st, most + 1, rfl, hS, by omega, nat8000 (by omega) (by omega), fun many H1 n0 n1 g1 => ?_⟩
  have S1 := g1.st _ hS
  refine ⟨_, rfl, a, st, 96, rfl, S1, by decide, nat8000 (by decide) (by decide +kernel), fun first H2 _ _ g2 => ?_⟩
  have g2' := g1.trans g2
  have S2 := g2'.st _ hS
  refine ⟨_, rfl, a, st, 95, rfl, S2, by decide, nat8000 (by decide) (by decide +kernel), fun u H3 u0 u1 g3 => ?_⟩
  have g3' := g2'.trans g3
  have S3 := g3'.st _ hS
  refine ⟨_, _, rfl, rfl, by show 3 ≤ sizeLine; decide, fun l hl => ?_⟩
  refine ⟨_, rfl, a, st, 3, rfl, (Go.new hl).st _ S3, by decide, nat8000 (by decide) (by decide +kernel), fun v H4 v0 v1 g4 => ?_⟩
  obtain ⟨step, hat, s0, s1⟩ := pickI (ns := [0, 1, 1 + u]) (lo := 0) (hi := 95) (by simp only [List.mem_cons, List.not_mem_nil, or_false]; rintro z (rfl | rfl | rfl) <;> omega) v0 v1
  have g4' := g3'.trans ((Go.new hl).trans g4)
  have S4 := g4'.st _ hS
  refine ⟨l, _, _, _, rfl, rfl, SqL.of (g4.keep _ _ (S3.fresh hl) upd_same), hat, ?_⟩
  refine ⟨_, rfl, rfl, _, rfl, ite2 (fun c => ?_) (fun c => ?_)⟩
  · refine ⟨_, rfl, many, rfl, by omega, by omega, fun D hD => lc_ints (K := K) (st := st) (a := a) (fun z => 1 ≤ z ∧ z ≤ 96) S4 hD (by omega) (fun _ => rfl) (fun i H5 hi g5 Q' q' => ?_) fun ns H5 hl5 hP g5 hd5 => ?_⟩
    · refine ⟨_, rfl, a, st, 96, rfl, g5.st _ S4, by decide, nat8000 (by decide) (by decide +kernel), fun z H6 z0 z1 g6 => ?_⟩
      exact ⟨_, _, rfl, rfl, q' _ H6 ⟨by omega, by omega⟩ g6⟩
    · refine ⟨D, ns, rfl, .inl (SqL.of hd5), by omega, fun c p hc hp => ?_⟩
      refine ⟨p, _, c, rfl, upd_same, by omega, fun ms p2 hpw hmem hlen hp2 => ?_⟩
      refine ⟨p2, _, rfl, .inl ⟨SqL.of upd_same, fun t ht => ?_⟩⟩
      have g6 := (((g4'.trans g5).trans (Go.new hp)).trans (Go.new hp2)).trans (Go.new (o := .tup (ms.map V.int)) ht)
      exact q t ms _ ⟨hpw, fun z hz => hP z (of_decide_eq_true ((hmem z).mp hz))⟩ (by omega) g6 ((((g4'.trans g5).trans (Go.new hp)).trans (Go.new hp2)).free hS ht) upd_same
  · refine ⟨_, rfl, many, rfl, by omega, by omega, fun D hD => lc_ints (K := K) (st := st) (a := a) (fun z => 1 ≤ z ∧ z ≤ 96) S4 hD (by omega) (fun _ => rfl) (fun i H5 hi g5 Q' q' => ?_) fun ns H5 hl5 hP g5 hd5 => ?_⟩
    · refine ⟨_, rfl, _, rfl, _, rfl, _, _, rfl, rfl, .inl ⟨by omega, by omega⟩, _, _, rfl, rfl, _, _, rfl, rfl, by show (0:Int) < _; decide, _, _, rfl, rfl, ?_⟩
      exact q' _ H5 ⟨by show 1 ≤ 1 + _ % 96; omega, by show 1 + _ % 96 ≤ 96; omega⟩ (Go.refl _)
    · refine ⟨D, ns, rfl, .inl (SqL.of hd5), by omega, fun c p hc hp => ?_⟩
      refine ⟨p, _, c, rfl, upd_same, by omega, fun ms p2 hpw hmem hlen hp2 => ?_⟩
      refine ⟨p2, _, rfl, .inl ⟨SqL.of upd_same, fun t ht => ?_⟩⟩
      have g6 := (((g4'.trans g5).trans (Go.new hp)).trans (Go.new hp2)).trans (Go.new (o := .tup (ms.map V.int)) ht)
      exact q t ms _ ⟨hpw, fun z hz => hP z (of_decide_eq_true ((hmem z).mp hz))⟩ (by omega) g6 ((((g4'.trans g5).trans (Go.new hp)).trans (Go.new hp2)).free hS ht) upd_same
/-! ### _law_worth: slots 0 _law_row, 1 _law_x, 2 _law_found, 3 _law_power, 4 _law_number -/

theorem ok__law_worth (T : Txt K mg A) : FnOk P w K mg base CX0 1 A.f__law_worth A.d__law_worth ["_law_row", "_law_x"] (sp__law_worth K) := by
  refine T.F__law_worth.ok sc__law_worth (fun vs H Q E h => by first | (obtain ⟨_, rfl, _⟩ := h; rfl) | (obtain ⟨_, _, rfl, _⟩ := h; rfl) | (obtain ⟨_, _, _, rfl, _⟩ := h; rfl) | (obtain ⟨_, _, _, _, rfl, _⟩ := h; rfl) | (obtain ⟨_, _, _, _, _, rfl, _⟩ := h; rfl) | (obtain ⟨_, _, _, _, _, _, rfl, _⟩ := h; rfl) | (obtain ⟨_, _, _, _, _, _, _, rfl, _⟩ := h; rfl)) (fun cdv AA outer s H vs Q E hr h => ?_)
  refine ⟨_, (pss_cons (ps_set (i := 2) sc__law_worth.nd rfl (.inl rfl) pe_int)
      (pss_cons (ps_set (i := 3) sc__law_worth.nd rfl (.inl rfl) pe_int)
      (pss_cons (ps_for PassesOwn.never rfl (RT.pi_revA (by rfl) T.z_reversed (pv 0)) (pg_name (i := 4) sc__law_worth.nd rfl (.inl rfl))
        (pss_cons (ps_set (i := 2) sc__law_worth.nd rfl (.inl rfl) (pe_op op_mod (pe_op op_add (pv 2) (pe_op op_mul (pv 4) (pv 3))) pe_int))
        (pss_one (ps_set (i := 3) sc__law_worth.nd rfl (.inl rfl) (pe_op op_mod (pe_op op_mul (pv 3) (pv 1)) pe_int)))))
      (pss_one (ps_ret (pv 2)))))), ?_⟩
  obtain ⟨a, ns, x, rfl, hS, q⟩ := h
  refine ⟨_, rfl, a, _, rfl, .inr ⟨hS, RT.for_ItvT (K := K) (a := a) (xs := ns.map V.int) (fun i σ H' => ∃ v, σ = [some (.ref a), some (.int x), some (.int ((ns.reverse.take i).foldl (stepW x) (0, 1)).1), some (.int ((ns.reverse.take i).foldl (stepW x) (0, 1)).2), v] ∧ 0 ≤ ((ns.reverse.take i).foldl (stepW x) (0, 1)).2 ∧ ((ns.reverse.take i).foldl (stepW x) (0, 1)).2 < 97 ∧ H' = H) ⟨none, rfl, by show (0:Int) ≤ 1; decide, by show (1:Int) < 97; decide, rfl⟩ (fun i σ H' ⟨_, _, _, _, e⟩ => e ▸ hS) ?_ ?_⟩⟩
  · rintro i y σ H' hi hy ⟨v, rfl, p0, p1, rfl⟩
    obtain ⟨z, hz, rfl⟩ := int_at hy
    rw [List.length_map] at hi hz
    have hz2 : ns.reverse[i]? = some z := by rw [List.getElem?_reverse hi]; exact hz
    have hf : (ns.reverse.take (i + 1)).foldl (stepW x) (0, 1) = stepW x ((ns.reverse.take i).foldl (stepW x) (0, 1)) z := by
      rw [List.take_add_one, hz2, List.foldl_append]
      rfl
    refine ⟨_, rfl, _, rfl, _, rfl, _, _, rfl, rfl, .inr ⟨by omega, by omega⟩, _, _, rfl, rfl, _, _, rfl, rfl, by show (0:Int) < _; decide, ?_⟩
    refine ⟨_, rfl, _, rfl, _, _, rfl, rfl, .inl ⟨by omega, by omega⟩, _, _, rfl, rfl, by show (0:Int) < _; decide, ?_⟩
    refine ⟨some (.int z), ?_, ?_, ?_, rfl⟩
    · rw [hf]
      rfl
    · rw [hf]
      exact Int.emod_nonneg _ (by decide)
    · rw [hf]
      exact Int.emod_lt_of_pos _ (by decide)
  · rintro σ H' ⟨v, rfl, p0, p1, rfl⟩
    refine ⟨_, rfl, ?_⟩
    rw [List.length_map, ← List.length_reverse, List.take_length, worthL_step]
    exact q
/-! ### _law_good: slots 0 _law_marks, 1 _law_row, 2 _law_found, 3 _law_number, 4 _law_mark -/

theorem ok__law_good (T : Txt K mg A) : FnOk P w K mg base CX0 4 A.f__law_good A.d__law_good ["_law_marks"] (sp__law_good K) := by
  refine T.F__law_good.ok sc__law_good (fun vs H Q E h => by first | (obtain ⟨_, rfl, _⟩ := h; rfl) | (obtain ⟨_, _, rfl, _⟩ := h; rfl) | (obtain ⟨_, _, _, rfl, _⟩ := h; rfl) | (obtain ⟨_, _, _, _, rfl, _⟩ := h; rfl) | (obtain ⟨_, _, _, _, _, rfl, _⟩ := h; rfl) | (obtain ⟨_, _, _, _, _, _, rfl, _⟩ := h; rfl) | (obtain ⟨_, _, _, _, _, _, _, rfl, _⟩ := h; rfl)) (fun cdv AA outer s H vs Q E hr h => ?_)
  refine ⟨_, (pss_cons (ps_set (i := 1) sc__law_good.nd rfl (.inr rfl) (pe_call (ok_row_of T) (hr.mono (by decide)) (by rfl) T.g_row_of T.k_row_of T.b_row_of .nil passL (pa_cons (pv 0) pa_nil)))
      (pss_cons (ps_if (PW.pt (pw_or (pt_not (pt_val (pe_callB call_isi (by rfl) T.z_isinstance (show bootBuiltins "isinstance" = some (.builtin "isinstance") by decide +kernel) (pa_cons (pv 1) (pa_cons (pe_bltn (v := .ty "tuple") (by rfl) T.z_tuple (by decide +kernel) rfl) pa_nil))))) (pw_or (pt_cmpR op_ne (pe_callB call_len_seq (by rfl) T.z_len PySem.boot_len (pa_cons (pv 1) pa_nil)) (pe_op op_add (pe_callB call_len_seq (by rfl) T.z_len PySem.boot_len (pa_cons (pv 0) pa_nil)) pe_int) (nomark _)) (pw_or1 (pt_cmpR op_ne (pe_ix ix_tup (pv 1) pe_int (fun _ _ => rfl)) pe_int (nomark _)))))) (pss_one (ps_ret pe_bl)) pss_nil)
      (pss_cons (ps_if (pt_cmpR (op_neD hr.units) (pe_lc (own := [("_law_number", 3)]) (g := gName 3)  rfl sc__law_good.nd (pi_tup (pv 1)) (blkOk_by (own := [("_law_number", 3)]) (N := ["_law_marks", "_law_row", "_law_found", "_law_number", "_law_mark"]) (sc := defScope s__law_good) (by decide +kernel)) (fun _ _ _ _ _ => pg_name (i := 3) sc__law_good.nd rfl (Or.inl rfl)) (fun _ _ _ _ _ => (pts_one (PW.pt (pw_or (pt_not (pt_val (pe_callB (call_isiK' (K := K) rfl) (by rfl) T.z_isinstance (show bootBuiltins "isinstance" = some (.builtin "isinstance") by decide +kernel) (pa_cons (pv 3) (pa_cons (pe_bltn (v := .ty "int") (by rfl) T.z_int (by decide +kernel) rfl) pa_nil))))) (pw_or1 (pt_val (pe_callB (call_isiK' (K := K) rfl) (by rfl) T.z_isinstance (show bootBuiltins "isinstance" = some (.builtin "isinstance") by decide +kernel) (pa_cons (pv 3) (pa_cons (pe_bltn (v := .ty "bool") (by rfl) T.z_bool (by decide +kernel) rfl) pa_nil))))))))) (fun _ _ _ _ _ => (pv 3))) (pe_lst pa_nil) (nomark _)) (pss_one (ps_ret pe_bl)) pss_nil)
      (pss_cons (ps_if (pt_cmpR (op_neD hr.units) (pe_lc (own := [("_law_number", 3)]) (g := gName 3)  rfl sc__law_good.nd (pi_tup (pv 1)) (blkOk_by (own := [("_law_number", 3)]) (N := ["_law_marks", "_law_row", "_law_found", "_law_number", "_law_mark"]) (sc := defScope s__law_good) (by decide +kernel)) (fun _ _ _ _ _ => pg_name (i := 3) sc__law_good.nd rfl (Or.inl rfl)) (fun _ _ _ _ _ => (pts_one (pt_not (pt_chain op_le op_le pe_int (pv 3) pe_int)))) (fun _ _ _ _ _ => (pv 3))) (pe_lst pa_nil) (nomark _)) (pss_one (ps_ret pe_bl)) pss_nil)
      (pss_cons (ps_if (pt_cmpR (op_neD hr.units) (pe_callTy call_tuple_of (by rfl) T.z_tuple (by decide +kernel) (pa_cons (pe_lc (own := [("_law_mark", 4)]) (g := gName 4)  rfl sc__law_good.nd (pi_range2 (by rfl) T.z_range (pa_cons pe_int (pa_cons pe_int pa_nil))) (blkOk_by (own := [("_law_mark", 4)]) (N := ["_law_marks", "_law_row", "_law_found", "_law_number", "_law_mark"]) (sc := defScope s__law_good) (by decide +kernel)) (fun _ _ _ _ _ => pg_name (i := 4) sc__law_good.nd rfl (Or.inl rfl)) (fun _ _ _ _ _ => (pts_one (pt_cmpR op_eq (pe_call (ok__law_worth T) (hr.mono (by decide)) (by rfl) T.g__law_worth T.k__law_worth T.b__law_worth .nil pass0 (pa_cons (pv 1) (pa_cons (pv 4) pa_nil))) pe_int (nomark _)))) (fun _ _ _ _ _ => (pv 4))) pa_nil)) (pv 0) (nomark _)) (pss_one (ps_ret pe_bl)) pss_nil)
      (pss_cons (ps_set (i := 2) sc__law_good.nd rfl (.inl rfl) (pe_call (ok_noughts T) (hr.mono (by decide)) (by rfl) T.g_noughts T.k_noughts T.b_noughts .nil pass0 (pa_cons (pv 1) pa_nil)))
      (pss_one (ps_ret (pe_and (pe_callB call_isi (by rfl) T.z_isinstance (show bootBuiltins "isinstance" = some (.builtin "isinstance") by decide +kernel) (pa_cons (pv 2) (pa_cons (pe_bltn (v := .ty "tuple") (by rfl) T.z_tuple (by decide +kernel) rfl) pa_nil))) (pe_one (pe_cmpR (op_eqD hr.units) (pv 2) (pv 0) (nomark _)))))))))))), ?_⟩
  obtain ⟨a, ms, rfl, ha, hset, q⟩ := h
  refine ⟨_, rfl, a, ms, rfl, SqT.of ha, fun z => ?_, fun _ t H1 s1 _ ht => ?_⟩
  · rw [isSetB_iff.mpr hset] at z
    cases z
  have hT := SqT.of (K := K) ht
  obtain ⟨r0, hr0⟩ := rowL_head ms
  have hlen := hset.len
  have hrl := rowL_len ms
  refine ⟨_, rfl, _, _, _, _, true, rfl, .ty "tuple", .base (.tup ht), kit_ty (by decide +kernel), _, rfl, iteF ?_⟩
  refine ⟨_, rfl, t, _, rfl, .inr hT, _, rfl, a, _, rfl, .inr (SqT.of (s1 _ _ ha)), _, _, rfl, rfl, rfl, _, rfl, ?_⟩
  have e1 : (((rowL ms).map V.int).length : Int) = ((ms.map V.int).length : Int) + 1 := by rw [List.length_map, List.length_map, hrl]; omega
  rw [decide_eq_true (congrArg V.int e1)]
  refine iteF ?_
  refine ⟨_, rfl, t, _, 0, .int 1, rfl, rfl, hT, atI_nat (j := 0) (by rw [hr0]; rfl), rfl, _, rfl, iteNS rfl ?_⟩
  -- the numbers are ints
  refine ⟨_, rfl, t, rfl, ⟨_, hT⟩, fun D hD => lc_pureT (K := K) (a := t) (xs := (rowL ms).map V.int) (fun _ => false) (fun v => v) hD hT (by rw [List.length_map]; omega) (fun _ => rfl) ?_ (fun _ _ z => nomatch z) fun H2 s2 hd => ?_⟩
  · intro x hx H2 s2 Q' q'
    obtain ⟨z, hz, rfl⟩ := List.mem_map.mp hx
    refine ⟨_, rfl, _, _, _, _, true, rfl, .ty "int", .base (.int _), kit_ty (by decide +kernel), _, rfl, iteF ?_⟩
    exact ⟨_, rfl, _, _, _, _, false, rfl, .ty "bool", .base (.int _), kit_ty (by decide +kernel), _, rfl, q' H2 (Same.refl _)⟩
  refine ⟨by show 0 ≤ sizeLine; decide, fun l hl => neL (ns := []) (ms := []) (SqL.of (by rw [upd_ne (ne_of_none hd hl), hd, filt_no]; rfl)) (SqL.of upd_same) ⟨_, rfl, iteNS rfl ?_⟩⟩
  have s3 := s2.trans (same_upd (o := HO.lst []) hl)
  have ht3 := s3 _ _ ht
  -- the numbers are on the wheel
  refine ⟨_, rfl, t, rfl, ⟨_, SqT.of ht3⟩, fun D2 hD2 => lc_pureT (K := K) (a := t) (xs := (rowL ms).map V.int) (fun _ => false) (fun v => v) hD2 (SqT.of ht3) (by rw [List.length_map]; omega) (fun _ => rfl) ?_ (fun _ _ z => nomatch z) fun H4 s4 hd4 => ?_⟩
  · intro x hx H2 s2 Q' q'
    obtain ⟨z, hz, rfl⟩ := List.mem_map.mp hx
    have hb := rowL_bd ms z hz
    refine ⟨_, rfl, _, _, rfl, rfl, true, congrArg V.bl (decide_eq_true hb.1), iteT ?_⟩
    exact ⟨_, _, rfl, rfl, true, congrArg V.bl (decide_eq_true hb.2), q' H2 (Same.refl _)⟩
  refine ⟨by show 0 ≤ sizeLine; decide, fun l2 hl2 => neL (ns := []) (ms := []) (SqL.of (by rw [upd_ne (ne_of_none hd4 hl2), hd4, filt_no]; rfl)) (SqL.of upd_same) ⟨_, rfl, iteNS rfl ?_⟩⟩
  have s5 := (s3.trans s4).trans (same_upd (o := HO.lst []) hl2)
  have ht5 := s5 _ _ ht
  -- its noughts, power by power
  refine ⟨1, 97, rfl, ⟨by decide, by decide, by decide, by decide⟩, fun D3 hD3 => lc_pureR (lo := 1) (n := 96) (fun v => match v with | .int x => decide (worthL (rowL ms) x = 0) | _ => false) (fun v => v) hD3 (by decide) (fun _ => rfl) ?_ (fun i hi _ H2 s2 Q' q' => ⟨_, rfl, q' H2 (Same.refl _)⟩) fun H6 s6 hd6 => ?_⟩
  · intro i hi H2 s2 Q' q'
    refine ⟨_, rfl, _, rfl, t, rowL ms, _, rfl, SqT.of (s2 _ _ ht5), rfl, _, rfl, ?_⟩
    have e : decide (V.int (worthL (rowL ms) (1 + (i : Int))) = V.int 0) = decide (worthL (rowL ms) (1 + (i : Int)) = 0) := decide_eq_decide.mpr ⟨fun h => V.int.inj h, fun h => congrArg V.int h⟩
    rw [e]
    exact q' H2 (Same.refl _)
  rw [rgL_ints, int_filter (g := fun x => decide (worthL (rowL ms) x = 0)) (fun _ _ => rfl)] at hd6
  have en : (((List.range 96).map fun i : Nat => 1 + (i : Int)).filter fun x => decide (worthL (rowL ms) x = 0)) = ms := noughtsL_rowL hset
  rw [en] at hd6
  refine ⟨D3, _, rfl, .inl ⟨SqL.of hd6, fun t2 ht2 => ?_⟩⟩
  have s7 := (s5.trans s6).trans (same_upd (o := HO.tup (ms.map V.int)) ht2)
  refine ⟨_, rfl, neT (ns := ms) (ms := ms) (SqT.of upd_same) (SqT.of (s7 _ _ (s1 _ _ ha))) ⟨_, rfl, iteNS rfl ?_⟩⟩
  -- noughts tells the set again
  refine ⟨_, rfl, t, rowL ms, rfl, SqT.of (s7 _ _ ht), fun t3 H8 s8 _ ht8 => ?_⟩
  rw [noughtsL_rowL hset] at ht8
  refine ⟨_, rfl, _, _, _, _, true, rfl, .ty "tuple", .base (.tup ht8), kit_ty (by decide +kernel), _, rfl, iteT ?_⟩
  have s9 := s1.trans (s7.trans s8)
  refine ⟨_, rfl, _, rfl, eqT (ns := ms) (ms := ms) (SqT.of ht8) (SqT.of (s9 _ _ ha)) ?_⟩
  rw [decide_eq_true rfl]
  exact q _ s9
/-! ### law: slots 0 _law_script, 1 _law_state, 2 _law_turn -/

theorem ok_law (T : Txt K mg A) : FnOk P w K mg base CX0 5 A.f_law A.d_law ["_law_script"] (sp_law K) := by
  refine T.F_law.ok sc_law (fun vs H Q E h => by first | (obtain ⟨_, rfl, _⟩ := h; rfl) | (obtain ⟨_, _, rfl, _⟩ := h; rfl) | (obtain ⟨_, _, _, rfl, _⟩ := h; rfl) | (obtain ⟨_, _, _, _, rfl, _⟩ := h; rfl) | (obtain ⟨_, _, _, _, _, rfl, _⟩ := h; rfl) | (obtain ⟨_, _, _, _, _, _, rfl, _⟩ := h; rfl) | (obtain ⟨_, _, _, _, _, _, _, rfl, _⟩ := h; rfl)) (fun cdv AA outer s H vs Q E hr h => ?_)
  refine ⟨_, (pss_cons (ps_set (i := 1) sc_law.nd rfl (.inl rfl) (pe_call (ok__law_start T) (hr.mono (by decide)) (by rfl) T.g__law_start T.k__law_start T.b__law_start .nil pass0 (pa_cons (pv 0) pa_nil)))
      (pss_cons (ps_for PassesOwn.never rfl (pi_range1 (by rfl) T.z_range (pa_cons pe_int pa_nil)) (pg_name (i := 2) sc_law.nd rfl (.inl rfl))
        (pss_one (ps_if (pt_not (pt_val (pe_call (ok__law_good T) (hr.mono (by decide)) (by rfl) T.g__law_good T.k__law_good T.b__law_good .nil pass0 (pa_cons (pe_call (ok__law_set T) (hr.mono (by decide)) (by rfl) T.g__law_set T.k__law_set T.b__law_set .nil pass0 (pa_cons (pv 1) (pa_cons (pe_ix ix_list (pe_lst (pa_cons pe_int (pa_cons pe_int pa_nil))) (pe_callTy call_int1 (by rfl) T.z_int (by decide +kernel) (pa_cons (pe_cmpR op_eq (pe_call (ok__law_drawn T) (hr.mono (by decide)) (by rfl) T.g__law_drawn T.k__law_drawn T.b__law_drawn .nil pass0 (pa_cons (pv 1) (pa_cons pe_int pa_nil))) pe_int (nomark _)) pa_nil)) (fun _ _ => rfl)) pa_nil))) pa_nil)))) (pss_one (ps_ret pe_bl)) pss_nil)))
      (pss_one (ps_ret (pe_call (ok__law_good T) (hr.mono (by decide)) (by rfl) T.g__law_good T.k__law_good T.b__law_good .nil pass0 (pa_cons (pe_tup pa_nil) pa_nil)))))), ?_⟩
  obtain ⟨a, ns, rfl, hS, hlen, q⟩ := h
  refine ⟨_, rfl, a, ns, rfl, hS, fun st H1 nst sm hSt => ?_⟩
  refine ⟨4, rfl, by decide, by decide, for_range (n := 4) (fun i σ H2 => ∃ v2, σ = [some (.ref a), some (.ref st), v2] ∧ Go K st H1 H2) ⟨none, rfl, Go.refl _⟩ ?_ ?_⟩
  · rintro i σ H2 hi ⟨v2, rfl, g⟩
    have S2 := g.st _ hSt
    refine ⟨_, rfl, by show 2 ≤ sizeLine; decide, fun l hl => ?_⟩
    refine ⟨_, rfl, a, st, 8, rfl, (Go.new hl).st _ S2, by decide, nat8000 (by decide) (by decide +kernel), fun v H3 _ _ g3 => ?_⟩
    have g3' := (Go.new hl).trans g3
    refine ⟨rfl, .inr ⟨_, rfl, ?_⟩⟩
    obtain ⟨n, hat, n1, n2⟩ := pickI (ns := [10, 96]) (lo := 10) (hi := 96) (v := if decide (V.int v = V.int 7) then 1 else 0) (by decide) (by split <;> decide) (by split <;> decide)
    refine ⟨l, _, _, _, rfl, rfl, SqL.of (g3.keep _ _ (S2.fresh hl) upd_same), hat, ?_⟩
    refine ⟨a, st, n, rfl, g3'.st _ S2, by omega, by omega, fun t ms H4 hset _ g4 _ ht => ?_⟩
    have g4' := (g.trans g3').trans g4
    refine ⟨t, ms, rfl, ht, hset, fun H5 s5 => ⟨true, rfl, iteF ?_⟩⟩
    exact ⟨_, rfl, g4'.trans (Go.of s5)⟩
  · rintro σ H2 ⟨v2, rfl, g⟩
    refine ⟨by show 0 ≤ sizeLine; decide, fun t ht => ?_⟩
    exact ⟨t, [], rfl, upd_same, SetL.nil, fun H5 _ => q H5⟩
end
theorem all_mk {l : PySem.W.OpenLaw} {w : World} {K : PySem.W.Frag} {h : Heap} {mg : Str → Option Value} {fa : Addr} (X : K.In h) (G : h.Ns mainGlobals mg) (hfa : mg "law" = some (.ref fa))
    {f0 : Addr} {od0 an0 : Option Addr} {sl0 : Array (Option Value)} {oc0 kV0 dc0 pm0 cd0 ct0 : Value} {f1 : Addr} {od1 an1 : Option Addr} {sl1 : Array (Option Value)} {oc1 kV1 dc1 pm1 cd1 ct1 : Value} {f2 : Addr} {od2 an2 : Option Addr} {sl2 : Array (Option Value)} {oc2 kV2 dc2 pm2 cd2 ct2 : Value} {f3 : Addr} {od3 an3 : Option Addr} {sl3 : Array (Option Value)} {oc3 kV3 dc3 pm3 cd3 ct3 : Value} {f4 : Addr} {od4 an4 : Option Addr} {sl4 : Array (Option Value)} {oc4 kV4 dc4 pm4 cd4 ct4 : Value} {f5 : Addr} {od5 an5 : Option Addr} {sl5 : Array (Option Value)} {oc5 kV5 dc5 pm5 cd5 ct5 : Value} {f6 : Addr} {od6 an6 : Option Addr} {sl6 : Array (Option Value)} {oc6 kV6 dc6 pm6 cd6 ct6 : Value} {f7 : Addr} {od7 an7 : Option Addr} {sl7 : Array (Option Value)} {oc7 kV7 dc7 pm7 cd7 ct7 : Value} {f8 : Addr} {od8 an8 : Option Addr} {sl8 : Array (Option Value)} {oc8 kV8 dc8 pm8 cd8 ct8 : Value} {f9 : Addr} {od9 an9 : Option Addr} {sl9 : Array (Option Value)} {oc9 kV9 dc9 pm9 cd9 ct9 : Value} {f10 : Addr} {od10 an10 : Option Addr} {sl10 : Array (Option Value)} {oc10 kV10 dc10 pm10 cd10 ct10 : Value} {f11 : Addr} {od11 an11 : Option Addr} {sl11 : Array (Option Value)} {oc11 kV11 dc11 pm11 cd11 ct11 : Value} {eNoSet : Addr} {tLAST_MARK : Nat} {tWHEEL : Nat}
    (a0 : PySem.W.nsIn K mainGlobals "is_set" = some (some (.ref f0)))
    (l0 : K.lookup f0 = some ⟨oc0, od0, .func (PySem.W.fnOf "is_set" "is_set" (defArgs s_is_set) (defBody s_is_set) (defScope s_is_set) .none kV0 dc0 pm0 an0 cd0 ct0), sl0⟩)
    (c0 : PySem.W.codeIn K cd0 "is_set" = true)
    (k0 : PySem.W.keepIn K (.ref f0) = true)
    (a1 : PySem.W.nsIn K mainGlobals "refuse_unless_set" = some (some (.ref f1)))
    (l1 : K.lookup f1 = some ⟨oc1, od1, .func (PySem.W.fnOf "refuse_unless_set" "refuse_unless_set" (defArgs s_refuse_unless_set) (defBody s_refuse_unless_set) (defScope s_refuse_unless_set) .none kV1 dc1 pm1 an1 cd1 ct1), sl1⟩)
    (c1 : PySem.W.codeIn K cd1 "refuse_unless_set" = true)
    (k1 : PySem.W.keepIn K (.ref f1) = true)
    (a2 : PySem.W.nsIn K mainGlobals "worth" = some (some (.ref f2)))
    (l2 : K.lookup f2 = some ⟨oc2, od2, .func (PySem.W.fnOf "worth" "worth" (defArgs s_worth) (defBody s_worth) (defScope s_worth) .none kV2 dc2 pm2 an2 cd2 ct2), sl2⟩)
    (c2 : PySem.W.codeIn K cd2 "worth" = true)
    (k2 : PySem.W.keepIn K (.ref f2) = true)
    (a3 : PySem.W.nsIn K mainGlobals "with_nought" = some (some (.ref f3)))
    (l3 : K.lookup f3 = some ⟨oc3, od3, .func (PySem.W.fnOf "with_nought" "with_nought" (defArgs s_with_nought) (defBody s_with_nought) (defScope s_with_nought) .none kV3 dc3 pm3 an3 cd3 ct3), sl3⟩)
    (c3 : PySem.W.codeIn K cd3 "with_nought" = true)
    (k3 : PySem.W.keepIn K (.ref f3) = true)
    (a4 : PySem.W.nsIn K mainGlobals "row_of" = some (some (.ref f4)))
    (l4 : K.lookup f4 = some ⟨oc4, od4, .func (PySem.W.fnOf "row_of" "row_of" (defArgs s_row_of) (defBody s_row_of) (defScope s_row_of) .none kV4 dc4 pm4 an4 cd4 ct4), sl4⟩)
    (c4 : PySem.W.codeIn K cd4 "row_of" = true)
    (k4 : PySem.W.keepIn K (.ref f4) = true)
    (a5 : PySem.W.nsIn K mainGlobals "noughts" = some (some (.ref f5)))
    (l5 : K.lookup f5 = some ⟨oc5, od5, .func (PySem.W.fnOf "noughts" "noughts" (defArgs s_noughts) (defBody s_noughts) (defScope s_noughts) .none kV5 dc5 pm5 an5 cd5 ct5), sl5⟩)
    (c5 : PySem.W.codeIn K cd5 "noughts" = true)
    (k5 : PySem.W.keepIn K (.ref f5) = true)
    (a6 : PySem.W.nsIn K mainGlobals "_law_start" = some (some (.ref f6)))
    (l6 : K.lookup f6 = some ⟨oc6, od6, .func (PySem.W.fnOf "_law_start" "_law_start" (defArgs s__law_start) (defBody s__law_start) (defScope s__law_start) .none kV6 dc6 pm6 an6 cd6 ct6), sl6⟩)
    (c6 : PySem.W.codeIn K cd6 "_law_start" = true)
    (k6 : PySem.W.keepIn K (.ref f6) = true)
    (a7 : PySem.W.nsIn K mainGlobals "_law_drawn" = some (some (.ref f7)))
    (l7 : K.lookup f7 = some ⟨oc7, od7, .func (PySem.W.fnOf "_law_drawn" "_law_drawn" (defArgs s__law_drawn) (defBody s__law_drawn) (defScope s__law_drawn) .none kV7 dc7 pm7 an7 cd7 ct7), sl7⟩)
    (c7 : PySem.W.codeIn K cd7 "_law_drawn" = true)
    (k7 : PySem.W.keepIn K (.ref f7) = true)
    (a8 : PySem.W.nsIn K mainGlobals "_law_set" = some (some (.ref f8)))
    (l8 : K.lookup f8 = some ⟨oc8, od8, .func (PySem.W.fnOf "_law_set" "_law_set" (defArgs s__law_set) (defBody s__law_set) (defScope s__law_set) .none kV8 dc8 pm8 an8 cd8 ct8), sl8⟩)
    (c8 : PySem.W.codeIn K cd8 "_law_set" = true)
    (k8 : PySem.W.keepIn K (.ref f8) = true)
    (a9 : PySem.W.nsIn K mainGlobals "_law_worth" = some (some (.ref f9)))
    (l9 : K.lookup f9 = some ⟨oc9, od9, .func (PySem.W.fnOf "_law_worth" "_law_worth" (defArgs s__law_worth) (defBody s__law_worth) (defScope s__law_worth) .none kV9 dc9 pm9 an9 cd9 ct9), sl9⟩)
    (c9 : PySem.W.codeIn K cd9 "_law_worth" = true)
    (k9 : PySem.W.keepIn K (.ref f9) = true)
    (a10 : PySem.W.nsIn K mainGlobals "_law_good" = some (some (.ref f10)))
    (l10 : K.lookup f10 = some ⟨oc10, od10, .func (PySem.W.fnOf "_law_good" "_law_good" (defArgs s__law_good) (defBody s__law_good) (defScope s__law_good) .none kV10 dc10 pm10 an10 cd10 ct10), sl10⟩)
    (c10 : PySem.W.codeIn K cd10 "_law_good" = true)
    (k10 : PySem.W.keepIn K (.ref f10) = true)
    (a11 : PySem.W.nsIn K mainGlobals "law" = some (some (.ref f11)))
    (l11 : K.lookup f11 = some ⟨oc11, od11, .func (PySem.W.fnOf "law" "law" (defArgs s_law) (defBody s_law) (defScope s_law) .none kV11 dc11 pm11 an11 cd11 ct11), sl11⟩)
    (c11 : PySem.W.codeIn K cd11 "law" = true)
    (k11 : PySem.W.keepIn K (.ref f11) = true)
    (gNoSet : PySem.W.nsIn K mainGlobals "NoSet" = some (some (.ref eNoSet)))
    (xNoSet : PySem.W.excIn K eNoSet [.type "ValueError", .type "Exception", .type "BaseException", .type "object"] "ValueError.__new__" = true)
    (kkNoSet : PySem.W.keepIn K (.ref eNoSet) = true)
    (bbNoSet : PySem.W.subIn K (.ref eNoSet) (.type "BaseException") = some true)
    (ttNoSet : PySem.W.typeIn K (.ref eNoSet) = some (.type "type"))
    (vLAST_MARK : PySem.W.nsIn K mainGlobals "LAST_MARK" = some (some (.int 96 tLAST_MARK)))
    (vWHEEL : PySem.W.nsIn K mainGlobals "WHEEL" = some (some (.int 97 tWHEEL)))
    (zbool : PySem.W.nsIn K mainGlobals "bool" = some none)
    (zint : PySem.W.nsIn K mainGlobals "int" = some none)
    (zisinstance : PySem.W.nsIn K mainGlobals "isinstance" = some none)
    (zlen : PySem.W.nsIn K mainGlobals "len" = some none)
    (zrange : PySem.W.nsIn K mainGlobals "range" = some none)
    (zreversed : PySem.W.nsIn K mainGlobals "reversed" = some none)
    (zset : PySem.W.nsIn K mainGlobals "set" = some none)
    (zsorted : PySem.W.nsIn K mainGlobals "sorted" = some none)
    (ztuple : PySem.W.nsIn K mainGlobals "tuple" = some none)
    (zzip : PySem.W.nsIn K mainGlobals "zip" = some none) :
    ∃ fd : FuncData, (∀ (s : Shared) (v : Value), BindsTo s fd ⟨[v], []⟩ [("_law_script", v)]) ∧ ∀ base : Heap, K.In base → base.Ns mainGlobals mg → FnOk l.prog w K mg base CX0 5 fa fd ["_law_script"] (sp_law K) := by
  have e := hfa.symm.trans (PySem.W.mg_of X G a11)
  cases e
  have F0 := fun_mk (st := s_is_set) l0 c0 k0
  have b0 := F0.binds (ps := ["marks"]) fun _ _ _ _ _ _ us hl => match us, hl with | [_], _ => rfl
  have F1 := fun_mk (st := s_refuse_unless_set) l1 c1 k1
  have b1 := F1.binds (ps := ["marks"]) fun _ _ _ _ _ _ us hl => match us, hl with | [_], _ => rfl
  have F2 := fun_mk (st := s_worth) l2 c2 k2
  have b2 := F2.binds (ps := ["row", "x"]) fun _ _ _ _ _ _ us hl => match us, hl with | [_, _], _ => rfl
  have F3 := fun_mk (st := s_with_nought) l3 c3 k3
  have b3 := F3.binds (ps := ["row", "mark"]) fun _ _ _ _ _ _ us hl => match us, hl with | [_, _], _ => rfl
  have F4 := fun_mk (st := s_row_of) l4 c4 k4
  have b4 := F4.binds (ps := ["marks"]) fun _ _ _ _ _ _ us hl => match us, hl with | [_], _ => rfl
  have F5 := fun_mk (st := s_noughts) l5 c5 k5
  have b5 := F5.binds (ps := ["row"]) fun _ _ _ _ _ _ us hl => match us, hl with | [_], _ => rfl
  have F6 := fun_mk (st := s__law_start) l6 c6 k6
  have b6 := F6.binds (ps := ["_law_script"]) fun _ _ _ _ _ _ us hl => match us, hl with | [_], _ => rfl
  have F7 := fun_mk (st := s__law_drawn) l7 c7 k7
  have b7 := F7.binds (ps := ["_law_state", "_law_many"]) fun _ _ _ _ _ _ us hl => match us, hl with | [_, _], _ => rfl
  have F8 := fun_mk (st := s__law_set) l8 c8 k8
  have b8 := F8.binds (ps := ["_law_state", "_law_most"]) fun _ _ _ _ _ _ us hl => match us, hl with | [_, _], _ => rfl
  have F9 := fun_mk (st := s__law_worth) l9 c9 k9
  have b9 := F9.binds (ps := ["_law_row", "_law_x"]) fun _ _ _ _ _ _ us hl => match us, hl with | [_, _], _ => rfl
  have F10 := fun_mk (st := s__law_good) l10 c10 k10
  have b10 := F10.binds (ps := ["_law_marks"]) fun _ _ _ _ _ _ us hl => match us, hl with | [_], _ => rfl
  have F11 := fun_mk (st := s_law) l11 c11 k11
  have b11 := F11.binds (ps := ["_law_script"]) fun _ _ _ _ _ _ us hl => match us, hl with | [_], _ => rfl
  have T : Txt K mg (⟨f0, _, f1, _, f2, _, f3, _, f4, _, f5, _, f6, _, f7, _, f8, _, f9, _, f10, _, fa, _, eNoSet, tLAST_MARK, tWHEEL⟩ : Ad) := ⟨F0, k0, PySem.W.mg_of X G a0, b0, F1, k1, PySem.W.mg_of X G a1, b1, F2, k2, PySem.W.mg_of X G a2, b2, F3, k3, PySem.W.mg_of X G a3, b3, F4, k4, PySem.W.mg_of X G a4, b4, F5, k5, PySem.W.mg_of X G a5, b5, F6, k6, PySem.W.mg_of X G a6, b6, F7, k7, PySem.W.mg_of X G a7, b7, F8, k8, PySem.W.mg_of X G a8, b8, F9, k9, PySem.W.mg_of X G a9, b9, F10, k10, PySem.W.mg_of X G a10, b10, F11, k11, PySem.W.mg_of X G a11, b11, PySem.W.mg_of X G vLAST_MARK, PySem.W.mg_of X G vWHEEL, PySem.W.mg_none_of X G zbool, PySem.W.mg_none_of X G zint, PySem.W.mg_none_of X G zisinstance, PySem.W.mg_none_of X G zlen, PySem.W.mg_none_of X G zrange, PySem.W.mg_none_of X G zreversed, PySem.W.mg_none_of X G zset, PySem.W.mg_none_of X G zsorted, PySem.W.mg_none_of X G ztuple, PySem.W.mg_none_of X G zzip, PySem.W.mg_of X G gNoSet, xNoSet, kkNoSet, bbNoSet, ttNoSet⟩
  exact ⟨PySem.W.fnOf "law" "law" (defArgs s_law) (defBody s_law) (defScope s_law) .none kV11 dc11 pm11 an11 cd11 ct11, fun s v => .of_eq rfl, fun base _ _ => ok_law T⟩
end My
open PySem PySem.W PyProof.Rows
set_option maxHeartbeats 0 in
theorem PySem.Challenge.cw_setmend_k03_rows_of_sets_holds : PySem.Challenge.rw_setmend_k03_rows_of_sets.Holds := by
  w_on; o_law; k_head; (case hw => w_witness2)
  k_fill
  refine L2.walk_ofB (l := PySem.Challenge.rw_setmend_k03_rows_of_sets) (n := 63) (k := 5) (x := "_law_script") (CX := fun _ => L2.CX0) (sp := fun w => My.sp_law _) rfl (by decide) rfl ⟨rfl, by decide, by decide⟩ (fun w h Y => PySem.W.kIn_of Y) ?F (fun _ H a ns hl hb hO hS => ⟨a, ns, rfl, hS, hl, fun _ => rfl⟩) (fun _ _ _ _ _ h => h)
  case F =>
    intro w mg fa h KX G hmg
    refine' My.all_mk KX G hmg ?a0 ?l0 ?c0 ?k0 ?a1 ?l1 ?c1 ?k1 ?a2 ?l2 ?c2 ?k2 ?a3 ?l3 ?c3 ?k3 ?a4 ?l4 ?c4 ?k4 ?a5 ?l5 ?c5 ?k5 ?a6 ?l6 ?c6 ?k6 ?a7 ?l7 ?c7 ?k7 ?a8 ?l8 ?c8 ?k8 ?a9 ?l9 ?c9 ?k9 ?a10 ?l10 ?c10 ?k10 ?a11 ?l11 ?c11 ?k11 ?gNoSet ?xNoSet ?kkNoSet ?bbNoSet ?ttNoSet ?vLAST_MARK ?vWHEEL ?zbool ?zint ?zisinstance ?zlen ?zrange ?zreversed ?zset ?zsorted ?ztuple ?zzip
    (case a0 => first | k_is | (first | rfl | k_is)); (case l0 => first | k_is | (first | rfl | k_is)); (case c0 => first | k_is | (first | rfl | k_is)); (case k0 => first | k_is | (first | rfl | k_is)); (case a1 => first | k_is | (first | rfl | k_is)); (case l1 => first | k_is | (first | rfl | k_is)); (case c1 => first | k_is | (first | rfl | k_is)); (case k1 => first | k_is | (first | rfl | k_is)); (case a2 => first | k_is | (first | rfl | k_is)); (case l2 => first | k_is | (first | rfl | k_is)); (case c2 => first | k_is | (first | rfl | k_is)); (case k2 => first | k_is | (first | rfl | k_is)); (case a3 => first | k_is | (first | rfl | k_is)); (case l3 => first | k_is | (first | rfl | k_is)); (case c3 => first | k_is | (first | rfl | k_is)); (case k3 => first | k_is | (first | rfl | k_is)); (case a4 => first | k_is | (first | rfl | k_is)); (case l4 => first | k_is | (first | rfl | k_is)); (case c4 => first | k_is | (first | rfl | k_is)); (case k4 => first | k_is | (first | rfl | k_is)); (case a5 => first | k_is | (first | rfl | k_is)); (case l5 => first | k_is | (first | rfl | k_is)); (case c5 => first | k_is | (first | rfl | k_is)); (case k5 => first | k_is | (first | rfl | k_is)); (case a6 => first | k_is | (first | rfl | k_is)); (case l6 => first | k_is | (first | rfl | k_is)); (case c6 => first | k_is | (first | rfl | k_is)); (case k6 => first | k_is | (first | rfl | k_is)); (case a7 => first | k_is | (first | rfl | k_is)); (case l7 => first | k_is | (first | rfl | k_is)); (case c7 => first | k_is | (first | rfl | k_is)); (case k7 => first | k_is | (first | rfl | k_is)); (case a8 => first | k_is | (first | rfl | k_is)); (case l8 => first | k_is | (first | rfl | k_is)); (case c8 => first | k_is | (first | rfl | k_is)); (case k8 => first | k_is | (first | rfl | k_is)); (case a9 => first | k_is | (first | rfl | k_is)); (case l9 => first | k_is | (first | rfl | k_is)); (case c9 => first | k_is | (first | rfl | k_is)); (case k9 => first | k_is | (first | rfl | k_is)); (case a10 => first | k_is | (first | rfl | k_is)); (case l10 => first | k_is | (first | rfl | k_is)); (case c10 => first | k_is | (first | rfl | k_is)); (case k10 => first | k_is | (first | rfl | k_is)); (case a11 => first | k_is | (first | rfl | k_is)); (case l11 => first | k_is | (first | rfl | k_is)); (case c11 => first | k_is | (first | rfl | k_is)); (case k11 => first | k_is | (first | rfl | k_is)); (case gNoSet => first | k_is | (first | rfl | k_is)); (case xNoSet => k_exc); (case kkNoSet => first | k_is | (first | rfl | k_is)); (case bbNoSet => first | k_is | (first | rfl | k_is)); (case ttNoSet => first | k_is | (first | rfl | k_is)); (case vLAST_MARK => first | k_is | (first | rfl | k_is)); (case vWHEEL => first | k_is | (first | rfl | k_is)); (case zbool => first | k_is | (first | rfl | k_is)); (case zint => first | k_is | (first | rfl | k_is)); (case zisinstance => first | k_is | (first | rfl | k_is)); (case zlen => first | k_is | (first | rfl | k_is)); (case zrange => first | k_is | (first | rfl | k_is)); (case zreversed => first | k_is | (first | rfl | k_is)); (case zset => first | k_is | (first | rfl | k_is)); (case zsorted => first | k_is | (first | rfl | k_is)); (case ztuple => first | k_is | (first | rfl | k_is)); (case zzip => first | k_is | (first | rfl | k_is))
