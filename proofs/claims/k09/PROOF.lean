import PyProof.Rows.All
import Wide.All
import OpenK.AllK
import Wide.FinOn
import PyProof.EqAt
import PyProof.EqKinds
import PyProof.TupleCall
import HandS.ForMost
import HandS.Wide
import HandS.EndBits
import HandS.IsInst
import HandS.TupAny
import HandS.Exc
import HandS.TryOnly
import HandS.ExcOwn
import HandS.WordsExc
import HandS.Strs
import HandS.SetFor
import HandS.SortInts
import HandS.TupMul
import HandS.More
import HandS.Star
import HandS.Rev
import HandS.Conv
import HandS.Style
import HandS.Evl
import HandS.Walk
import HandS.Zip
import KE.GoesEnum
import HandS.ExcIs
import HandS.Lambda
import HandS.EndTab
import PySem.Challenge.RW_setmend_k09_whole_rows_of_two_sets
set_option Elab.async false
set_option linter.all false
set_option maxRecDepth 100000
set_option maxHeartbeats 4000000
namespace MyS
open PySem PySem.Spec PyProof.Rows L2 Srt
section
variable {prog : Program} {w : World} {A : Around} {E : Value → Shared → Prop} {s : Shared}
/-- sorted(x) where collecting x hands out ints -/
theorem sorted_gen {a : Addr} {J : Shared → Prop} {C : List Value → Prop} {D : List Int → Prop} {Q : Value → Shared → Prop}
    (hcol : ∀ Q' : List Value → Shared → Prop, (∀ s1 vs, J s1 → C vs → Q' vs s1) → wpAny (model prog w) A.in1 (collect (.ref a)) Q' E s)
    (hC : ∀ vs, C vs → ∃ ns, IntsAre vs ns ∧ vs.length ≤ sizeLine ∧ D ns)
    (hQ : ∀ (s1 s' : Shared) (p : Addr) (out : List Value) (c : Nat) (ns ns' : List Int), J s1 → (∀ b o, s1.heap.get? b = some o → s'.heap.get? b = some o) → s'.gens = s1.gens → s'.os = s1.os → s1.heap.objs.size ≤ p → s'.heap.get? p = some (seqObj "list" out.toArray c) →
      IntsAre out ns' → ns'.Perm ns → ns'.Pairwise (· ≤ ·) → D ns → Q (.ref p) s') :
    wpAny (model prog w) A (call (.builtin "sorted") [.ref a]) Q E s := by
  refine Calls.call_function_entry kind_sorted plain_sorted entry_sorted (args_sorted1 _) ?_
  unfold Builtin.«sorted»
  refine wpAny_bind (m := checkCount "sorted" 1 1 _) (wpAny_pure (wpAny_bind (hcol _ fun s1 vs j1 hc => ?_)))
  obtain ⟨ns, hI, hlen, hD⟩ := hC vs hc
  refine wpAny_bind (wpAny_newList ?_ hlen)
  have h0 : (s1.heap.push (seqObj "list" vs.toArray 0)).get? s1.heap.objs.size = some (seqObj "list" vs.toArray 0) := Heap.get?_push_size _ rfl
  refine wpAny_bind (wpAny_holding (wpAny_call_entry slot_list_sort ⟨_, h0, rfl⟩ entry_list_sort (SrtO.list_sort_ord SrtO.swo_int h0 hlen (fun h2 => SrtO.ints_sortable hI h2) fun out hs hb => ⟨_, rfl, ?_⟩) (args_list_sort _)))
  obtain ⟨c, hcell⟩ := sortedHeap_at (vs := vs) (out := out.toArray) h0
  obtain ⟨i1, i2, i3⟩ := SrtO.ints_out hI hs hb
  refine wpAny_pure ⟨_, rfl, hQ s1 _ _ out c ns _ j1 (fun b u e => ?_) rfl rfl (Nat.le_refl _) hcell i1 i2 i3 hD⟩
  have lt1 := Heap.lt_size e
  show (sortedHeap (s1.heap.push (seqObj "list" vs.toArray 0)) s1.heap.objs.size vs out.toArray).get? b = some u
  rw [sortedHeap_old (Nat.ne_of_lt lt1) (by rw [size_push']; exact Nat.lt_succ_of_lt lt1)]
  exact Heap.get?_push_of_some _ e
end
theorem lt_nd : ∀ l : List Int, l.Pairwise (· ≤ ·) → l.Nodup → l.Pairwise (· < ·)
  | [], _, _ => .nil
  | x :: r, h, n => by
    have h' := List.pairwise_cons.mp h
    have n' := List.nodup_cons.mp n
    exact .cons (fun y hy => Int.lt_iff_le_and_ne.mpr ⟨h'.1 y hy, fun e => n'.1 (e ▸ hy)⟩) (lt_nd r h'.2 n'.2)
end MyS
namespace MyS
open PySem PySem.Spec PyProof.Rows L2
section
variable {P : Program} {w : World} {A : Around} {E : Value → Shared → Prop} {s : Shared}
/-- the set that set(..) begins with -/
def set0 (w : World) : Obj := { cls := .type "set", dict := none, data := .set #[] 0 (.fresh 0 0 (!w.params.followText "set-order")) }
set_option maxHeartbeats 3200000 in
theorem set_of_list {l : Addr} {items : Array Value} (ns : List Int) {Q : Value → Shared → Prop} (hh : A.handled = none) (hl : s.heap.IsList l items) (hit : IntsAre items.toList ns) (hb : ns.length + 1 < scanBound)
    (h : ∀ (h' : Heap) (tk c : Nat), SetR w h' s.heap.objs.size (fun j => decide (j ∈ ns)) c → c ≤ ns.length → (∀ b o, s.heap.get? b = some o → h'.get? b = some o) → Q (.ref s.heap.objs.size) { s with heap := h', toks := tk }) :
    wpAny (model P w) A (call (.type "set") [.ref l]) Q E s := by
  have hn : items.size = ns.length := by
    rw [← IntsAre.length hit, Array.length_toList]
  have hval : ∀ (i : Nat) (v : Value), items[i]? = some v → ∃ k t, ns[i]? = some k ∧ v = .int k t := fun i v hv => by
    have hi : i < ns.length := hn ▸ (Array.getElem?_eq_some_iff.mp hv).1
    obtain ⟨t, e⟩ := IntsAre.int_at hit i v (by rw [Array.getElem?_toList]; exact hv)
    have g : ns[i]? = some ns[i] := List.getElem?_eq_getElem hi
    exact ⟨ns[i], t, g, by rw [e, List.getD_eq_getElem?_getD, g]; rfl⟩
  have lt : l < s.heap.objs.size := by
    obtain ⟨o, ho, _⟩ := hl
    exact Heap.lt_size ho
  obtain ⟨c, tl, hmro⟩ := F.called_set.mro
  have f1 := F.called_set.made
  have f2 := F.called_set.sub
  have f3 := F.called_set.notType
  have f4 := F.called_set.canCreate
  have f5 := F.typeCall_set_1 (.ref l)
  refine wpAny_call (codeAny_of_tree ?_)
  show wpAny _ _ (callAny (.type "set") _) _ _ _
  refine wpAny_pure ⟨Code.quiet_builtin _ (by decide +kernel), codeAny_builtin F.entry_type_call ?_⟩
  rw [Around.under_plain (weight_type_call_type "set" [.ref l] []) rfl]
  repeat (any_goals (first | assumption | wp_step))
  refine codeAny_mono (code_set_led1 (.ref l) (E := E) (Q₁ := fun u s₁ => u = .ref s.heap.objs.size ∧ s₁ = { s with heap := s.heap.push (set0 w) }) ⟨rfl, rfl⟩) fun r s₁ hr => ?_
  match r, hr with
  | .error e, hr => exact hr
  | .ok (.ret u), hr =>
    obtain ⟨rfl, rfl⟩ := hr
    have hS : (s.heap.push (set0 w)).get? s.heap.objs.size = some (set0 w) := Heap.get?_push_size _ rfl
    have hT : Shared.TypeIs { s with heap := s.heap.push (set0 w) } (.ref s.heap.objs.size) "set" := ⟨_, hS, rfl⟩
    have i1 := F.called_set.init.lookup
    have i2 := F.called_set.init.bind (.ref s.heap.objs.size)
    repeat (any_goals (first | assumption | wp_step))
    refine codeAny_mono (codeAny_call_builtin (R := wants (fun r s₂ => r = .none ∧ ∃ h' tk c, s₂ = { s with heap := h', toks := tk } ∧ SetR w h' s.heap.objs.size (fun j => decide (j ∈ ns)) c ∧ c ≤ ns.length ∧ (∀ b o, s.heap.get? b = some o → h'.get? b = some o)) E)
      F.called_set.init.plain F.entry_set_init (check_set_init_1 hT ?_)) fun r₂ s₂ hr₂ => ?_
    · obtain ⟨ol, hol, hcl, nl, hdl⟩ := hl
      obtain ⟨ocls, odict, odata, oslots⟩ := ol
      dsimp only at hcl hdl
      subst hcl hdl
      have hol' : (s.heap.push (set0 w)).get? l = some { cls := .type "list", dict := odict, data := .seq items nl, slots := oslots } := Heap.get?_push_of_some _ hol
      have hl1 : (s.heap.push (set0 w)).IsList l items := ⟨_, hol', rfl, nl, rfl⟩
      have n1 := F.sub_list_set
      have n2 := F.sub_list_frozenset
      have n3 : (Value.type "list" == Value.type "dict") = false := by decide
      unfold Builtin.«set.__init__» noKeywords Builtin.Frozenset.updateFrom
      generalize hPI : pyIter = PI
      wp_walk
      subst hPI
      refine wpAny_pyIter_list hl1 (wpAny_bind (wpAny_runValue ?_))
      have sz : (s.heap.push (set0 w)).objs.size = s.heap.objs.size + 1 := Heap.size_push ..
      have a1 : l ≠ (s.heap.push (set0 w)).objs.size := by
        rw [sz]
        exact Nat.ne_of_lt (Nat.lt_succ_of_lt lt)
      have a2 : s.heap.objs.size ∉ [(s.heap.push (set0 w)).objs.size, l] := fun m => by
        rw [sz] at m
        rcases List.mem_cons.mp m with m | m
        · exact absurd m (Nat.ne_of_lt (Nat.lt_succ_self _))
        · exact absurd (List.mem_singleton.mp m) (Nat.ne_of_gt lt)
      have hh3 : A.in1.in1.in1.handled = none := by simp [hh]
      refine set_update_ints ((Walks.list hh3 _ l a1 items).toS) s.heap.objs.size a2 ns hn hb hval (items.size - 0) 0 _ (by omega) (Nat.zero_le _) ⟨⟨_, Heap.get?_push_size _ rfl, rfl, rfl⟩, hl1.push _⟩ ⟨0, Nat.le_refl 0, setR_new_at (Heap.get?_push_of_some _ hS)⟩ ?_
      intro s' c' hm hc' hS'
      obtain ⟨h', g2, d', tk', os'⟩ := s'
      obtain rfl : g2 = s.gens := hm.gens
      obtain rfl : d' = s.drawn := hm.drawn
      obtain rfl : os' = s.os := hm.os
      show wpAny _ _ _ _ _ _
      refine wpAny_pure ?_
      show wpAny _ _ (ret Value.none) _ _ _
      refine wpAny_pure ⟨rfl, h', tk', c', rfl, hS', hn ▸ hc', fun b o e => ?_⟩
      have b0 := Heap.lt_size e
      refine hm.heap b o (fun m => ?_) (Heap.get?_push_of_some _ (Heap.get?_push_of_some _ e))
      rw [sz] at m
      rcases List.mem_cons.mp m with m | m
      · exact absurd m (Nat.ne_of_lt b0)
      · exact absurd (List.mem_singleton.mp m) (Nat.ne_of_lt (Nat.lt_succ_of_lt b0))
    · match r₂, hr₂ with
      | .error e, hr₂ => exact hr₂
      | .ok (.ret r), hr₂ =>
        obtain ⟨rfl, h', tk, c', rfl, hS', hc', hk'⟩ := hr₂
        repeat (any_goals (first | assumption | wp_step))
        exact h _ _ _ hS' hc' hk'
end
end MyS
namespace L2
open PySem PySem.Spec PyProof.Rows
/-- sorted(t), t a list or tuple of ints -/
def rSortedQ (K : PySem.W.Frag) : List V → Hp → VK → Prop := fun vs H Q => ∃ (a : Addr) (ns : List Int), vs = [V.ref a] ∧ (SqL K H a (ns.map V.int) ∨ SqT K H a (ns.map V.int)) ∧
  ∀ (ms : List Int) (p : Addr), ms.Perm ns → ms.Pairwise (· ≤ ·) → H p = none → Q (.ref p) (upd H p (.lst (ms.map V.int)))
/-- sorted(found), any number below 4,000 -/
def rSortedU (w : World) : List V → Hp → VK → Prop := fun vs H Q => ∃ (a : Addr) (S : Int → Bool) (n : Nat), vs = [V.ref a] ∧ H a = some (SetO w a S n) ∧ n ≤ 4000 ∧
  ∀ (ms : List Int) (p : Addr), ms.Pairwise (· < ·) → (∀ k : Int, k ∈ ms ↔ S k = true) → ms.length = n → H p = none → Q (.ref p) (upd H p (.lst (ms.map V.int)))
section
variable {X : Cx}
theorem inv_laid {pins : List (Addr × Obj)} {σ : St} {H : Hp} {s s' : Shared} {p : Addr} {o : HO} (I : Inv X pins σ H s) (k : ∀ b u, s.heap.get? b = some u → s'.heap.get? b = some u) (hp : s.heap.objs.size ≤ p) (g : s'.gens = s.gens) (os : s'.os = s.os)
    (new : ObjOk X.prog X.w (upd H p o) s'.heap p o) : H p = none ∧ Inv X pins σ (upd H p o) s' := by
  have hn : H p = none := I.hok.fresh hp
  exact ⟨hn, I.call' (ch := []) os (Un.laid k hp hn) (I.hok.laid k hp new) (by rw [g]; exact I.bare) fun _ z => nomatch z⟩
theorem call_sortedQ (hc : X.calm = true) : CallR X (.builtin "sorted") (rSortedQ X.K) := by
  intro pins s σ H vs us Q I r h
  obtain ⟨a, ns, rfl, hs, q⟩ := h
  rw [Vals.ref1 r]
  have key : ∀ (T : String) (o : Obj) (its : List Value) (n : Nat), (T = "list" ∨ T = "tuple") → s.heap.get? a = some o → o.cls = .type T → o.data = .seq its.toArray n → IntsAre its ns → its.length ≤ sizeLine →
      wpAny (model X.prog X.w) X.A (call (.builtin "sorted") [.ref a]) (EP X pins σ Q) X.xe s := by
    intro T o its n hT ho hcl hd hi hz
    refine MyS.sorted_gen (J := fun s1 => Inv X pins σ H s1) (C := fun vs => vs = its) (D := fun ms => ms = ns) (fun Q' hq => ?_) (fun vs e => ⟨ns, by rw [e]; exact hi, by rw [e]; exact hz, rfl⟩) fun s1 s' p out c ns1 ms I1 k g os hp hcell i1 i2 i3 e => ?_
    · exact wpAny_collect_seq a hT ho hcl hd (fun h' hk => hq _ _ (I.kept (t' := s.toks) hk) (by simp)) (by rw [List.size_toArray]; exact hz)
    · subst e
      have hlen : (ms.map V.int).length ≤ sizeLine := by
        rw [List.length_map, i2.length_eq, ← IntsAre.length hi]
        exact hz
      obtain ⟨hn, J⟩ := inv_laid I1 k hp g os (o := .lst (ms.map V.int)) ⟨hlen, out, c, vals_of_ints i1, hcell⟩
      exact ⟨.ref p, _, J, rfl, q ms p i2 i3 hn⟩
  rcases hs with hs | hs
  · obtain ⟨its, rv, pl, hz⟩ := I.list hs
    obtain ⟨o, ho, hcl, n, hd⟩ := pl.isList
    exact key "list" o its n (.inl rfl) ho hcl hd rv.ints (by rw [← rv.length]; exact hz)
  · obtain ⟨its, rv, pl, hz⟩ := I.tuple hs
    obtain ⟨o, ho, hcl, n, hd⟩ := pl
    exact key "tuple" o its n (.inr rfl) ho hcl hd rv.ints (by rw [← rv.length]; exact hz)
theorem call_sortedU (hc : X.calm = true) : CallR X (.builtin "sorted") (rSortedU X.w) := by
  intro pins s σ H vs us Q I r h
  obtain ⟨a, S, n, rfl, ha, hsm, q⟩ := h
  obtain ⟨o, es, ep, t, ho, hex, hd, hg, hnd, hmem, hsz, hfit, hn, hris, hled⟩ := setO_get I ha
  rw [Vals.ref1 r]
  refine MyS.sorted_gen (J := fun s1 => Inv X pins σ H s1) (C := fun vs => vs.Perm (es.toList.map (·.2))) (D := fun ms => ms.Perm (es.toList.map keyOf)) (fun Q' hq => ?_) (fun vs e => ?_) fun s1 s' p out c ns1 ms I1 k g os hp hcell i1 i2 i3 e => ?_
  · exact collect_set (A := X.A.in1) (I.ok.hd hc) ⟨o, ho, hex.1, hd⟩ hfit hsz hris hled fun s1 out k _ g os pm => hq s1 out (I.call' (ch := []) os (Un.kept k) (I.hok.kept k) (by rw [g]; exact I.bare) fun _ z => nomatch z) pm
  · have hi : ∀ v ∈ vs, ∃ i t, v = Value.int i t := fun v hv => by
      obtain ⟨x, hx, ex⟩ := List.mem_map.mp (e.mem_iff.mp hv)
      obtain ⟨i, t, h1, _⟩ := hg x hx
      exact ⟨i, t, by rw [← ex]; exact h1⟩
    refine ⟨vs.map SrtO.iv, SrtO.ints_iv hi, ?_, ?_⟩
    · rw [e.length_eq, List.length_map, Array.length_toList, hn]
      exact Nat.le_trans hsm (by decide)
    · have pm := e.map SrtO.iv
      rw [List.map_map] at pm
      have ek : (es.toList.map fun x => SrtO.iv x.2) = es.toList.map keyOf := by
        refine List.map_congr_left fun x hx => ?_
        obtain ⟨i, t, h1, _⟩ := hg x hx
        unfold keyOf
        rw [h1]
        rfl
      rw [← ek]
      exact pm
  · have pm : ms.Perm (es.toList.map keyOf) := i2.trans e
    have hlen0 : ms.length = n := by rw [pm.length_eq, List.length_map, Array.length_toList]; exact hn
    have hlen : (ms.map V.int).length ≤ sizeLine := by
      rw [List.length_map, hlen0]
      exact Nat.le_trans hsm (by decide)
    obtain ⟨hfree, J⟩ := inv_laid I1 k hp g os (o := .lst (ms.map V.int)) ⟨hlen, out, c, vals_of_ints i1, hcell⟩
    exact ⟨.ref p, _, J, rfl, q ms p (MyS.lt_nd ms i3 (pm.nodup_iff.mpr hnd)) (fun z => by rw [pm.mem_iff, ← hmem z]) hlen0 hfree⟩
/-- set(t), t a list or tuple of ints -/
def rSetQ (K : PySem.W.Frag) (w : World) : List V → Hp → VK → Prop := fun vs H Q => ∃ (a : Addr) (ns : List Int), vs = [V.ref a] ∧ (SqL K H a (ns.map V.int) ∨ SqT K H a (ns.map V.int)) ∧ ns.length ≤ 4000 ∧
  ∀ (c : Nat) (p : Addr), c ≤ ns.length → H p = none → Q (.ref p) (upd H p (SetO w p (fun j => decide (j ∈ ns)) c))
theorem call_setQ (hc : X.calm = true) : CallR X (.type "set") (rSetQ X.K X.w) := by
  intro pins s σ H vs us Q I r h
  obtain ⟨a, ns, rfl, hs, hlen, q⟩ := h
  rw [Vals.ref1 r]
  have hb : ns.length + 1 < scanBound := Nat.lt_of_le_of_lt (Nat.succ_le_succ hlen) (by decide)
  have fin : ∀ (h' : Heap) (tk c : Nat), SetR X.w h' s.heap.objs.size (fun j => decide (j ∈ ns)) c → c ≤ ns.length → (∀ b o, s.heap.get? b = some o → h'.get? b = some o) → EP X pins σ Q (.ref s.heap.objs.size) { s with heap := h', toks := tk } := fun h' tk c R lc k => by
    obtain ⟨hn, J⟩ := inv_laid (s' := { s with heap := h', toks := tk }) I k (Nat.le_refl _) rfl rfl (o := SetO X.w s.heap.objs.size (fun j => decide (j ∈ ns)) c) (setO_new R)
    exact ⟨.ref _, _, J, rfl, q c _ lc hn⟩
  rcases hs with hs | hs
  · obtain ⟨its, rv, pl, hz⟩ := I.list hs
    exact MyS.set_of_list ns (I.ok.hd hc) pl.isList rv.ints hb fin
  · obtain ⟨its, rv, pl, hz⟩ := I.tuple hs
    exact call_set_tupI ns (I.ok.hd hc) pl rv.ints hb fin
end
end L2
namespace My
open PySem PySem.Spec PyProof.Rows L2
/-! ### heaps and the drawing state -/
theorem same_upd {H : Hp} {p : Addr} {o : HO} (h : H p = none) : Same H (upd H p o) := fun b x e => by
  rw [upd_ne (ne_of_none e h)]
  exact e
theorem rd_same {H H' : Hp} {a : Addr} {u : HO} (e : Same H H') (h : Rd H a u) : Rd H' a u := by
  rcases h with h | ⟨o, h⟩
  · exact .inl (e a _ h)
  · exact .inr ⟨o, e a _ h⟩
theorem seqT_same {K : PySem.W.Frag} {H H' : Hp} {a : Addr} {xs : List V} (e : Same H H') (h : SqT K H a xs) : SqT K H' a xs := by
  rcases h with h | h
  · exact .inl (rd_same e h)
  · exact .inr h
theorem int_at {ns : List Int} {i : Nat} {y : V} (h : (ns.map V.int)[i]? = some y) : ∃ z, ns[i]? = some z ∧ y = V.int z := by
  rw [List.getElem?_map] at h
  cases e : ns[i]? with
  | none =>
    rw [e] at h
    cases h
  | some z =>
    rw [e] at h
    exact ⟨z, rfl, (Option.some.inj h).symm⟩
/-! rules whose frame is a comprehension's -/
section
variable {X : Cx} {K : PySem.W.Frag}
theorem ix_tupK (h : X.K = K) : IxR X (rIxT K) := h ▸ ix_tup
theorem ix_listK (h : X.K = K) : IxR X (rIxL K) := h ▸ ix_list
theorem op_in_seqK (h : X.K = K) : OpR X (compareOp .In) (rIn K false) := h ▸ op_in_seq
theorem op_notIn_seqK (h : X.K = K) : OpR X (compareOp .NotIn) (rIn K true) := h ▸ op_notIn_seq
theorem call_isiK' (h : X.K = K) : CallR X (.builtin "isinstance") (rIsi K) := h ▸ call_isi
def rLenQ (K : PySem.W.Frag) : List V → Hp → VK → Prop := fun xs H Q => ∃ p ys, xs = [.ref p] ∧ (SqL K H p ys ∨ SqT K H p ys) ∧ Q (.int ys.length) H
theorem call_len_seqK (h : X.K = K) : CallR X (.builtin "len") (rLenQ K) := h ▸ call_len_seq
end
/-- the law's drawing state: a list of the script, how many were taken, a mixed number, a rest -/
structure StAt (K : PySem.W.Frag) (a st : Addr) (H : Hp) : Prop where
  ex : ∃ i m r : Int, 0 ≤ i ∧ H st = some (.lst [.ref a, .int i, .int m, .int r])
  sc : ∃ ns : List Int, SqL K H a (ns.map V.int)
/-- what drawing may do to the heap -/
structure Go (K : PySem.W.Frag) (st : Addr) (H H' : Hp) : Prop where
  keep : ∀ b o, b ≠ st → H b = some o → H' b = some o
  st : ∀ a, StAt K a st H → StAt K a st H'
section
variable {K : PySem.W.Frag} {st a : Addr} {H H1 H2 H' : Hp}
theorem Go.refl (H : Hp) : Go K st H H := ⟨fun _ _ _ e => e, fun _ h => h⟩
theorem Go.trans (x : Go K st H H1) (y : Go K st H1 H2) : Go K st H H2 := ⟨fun b o hb e => y.keep b o hb (x.keep b o hb e), fun a h => y.st a (x.st a h)⟩
theorem StAt.same (e : Same H H') (h : StAt K a st H) : StAt K a st H' := by
  obtain ⟨⟨i, m, r, hi, hs⟩, ns, hn⟩ := h
  exact ⟨⟨i, m, r, hi, e _ _ hs⟩, ns, e.seq hn⟩
theorem Go.of (e : Same H H') : Go K st H H' := ⟨fun b o _ h => e b o h, fun _ h => h.same e⟩
theorem Go.new {p : Addr} {o : HO} (h : H p = none) : Go K st H (upd H p o) := Go.of (same_upd h)
theorem StAt.ne {b : Addr} {o : HO} (h : StAt K a st H) (e : H b = some o) (hb : ∀ xs, o ≠ .lst xs) : b ≠ st := fun z => by
  obtain ⟨⟨i, m, r, _, hs⟩, _⟩ := h
  rw [z, hs] at e
  exact hb _ (Option.some.inj e).symm
/-- a stored state -/
theorem StAt.upd {i m r : Int} (h : StAt K a st H) (hi : 0 ≤ i) : StAt K a st (upd H st (.lst [.ref a, .int i, .int m, .int r])) := by
  obtain ⟨⟨i0, m0, r0, hi0, hs⟩, ns, hn⟩ := h
  refine ⟨⟨i, m, r, hi, upd_same⟩, ns, ?_⟩
  rcases hn with (hn | ⟨o, hn⟩) | hn
  · have hne : a ≠ st := fun z => by
      rw [z, hs] at hn
      have e := HO.lst.inj (Option.some.inj hn)
      cases ns with
      | nil => cases e
      | cons n r => cases e
    exact .inl (.inl (by rw [upd_ne hne]; exact hn))
  · have hne : a ≠ st := fun z => by
      rw [z, hs] at hn
      cases hn
    exact .inl (.inr ⟨o, by rw [upd_ne hne]; exact hn⟩)
  · exact .inr hn
theorem Go.upd {i m r : Int} (h : StAt K a st H) (hi : 0 ≤ i) : Go K st H (L2.upd H st (.lst [.ref a, .int i, .int m, .int r])) := by
  refine ⟨fun b o hb e => by rw [upd_ne hb]; exact e, fun a' h' => ?_⟩
  have e : a' = a := by
    obtain ⟨⟨i0, m0, r0, hi0, hs⟩, _⟩ := h
    obtain ⟨⟨i1, m1, r1, hi1, hs1⟩, _⟩ := h'
    rw [hs] at hs1
    injection hs1 with e1
    injection e1 with e2
    injection e2 with e3
    injection e3 with e4
    exact e4.symm
  subst e
  exact h'.upd hi
theorem Go.seqT {b : Addr} {xs : List V} (g : Go K st H H') (h : StAt K a st H) (hb : SqT K H b xs) : SqT K H' b xs := by
  rcases hb with (e | ⟨o, e⟩) | e
  · exact .inl (.inl (g.keep b _ (h.ne e (fun _ z => nomatch z)) e))
  · exact .inl (.inr ⟨o, g.keep b _ (h.ne e (fun _ z => nomatch z)) e⟩)
  · exact .inr e
theorem Go.free {p : Addr} (g : Go K st H H') (h : StAt K a st H) (hp : H' p = none) : H p = none := by
  cases e : H p with
  | none => rfl
  | some o =>
    by_cases hq : p = st
    · obtain ⟨⟨i, m, r, _, hs⟩, _⟩ := g.st a h
      rw [hq, hs] at hp
      cases hp
    · rw [g.keep p o hq e] at hp
      cases hp
end
theorem StAt.fresh {K : PySem.W.Frag} {a st p : Addr} {H : Hp} (h : StAt K a st H) (hp : H p = none) : p ≠ st := fun z => by
  obtain ⟨⟨i, m, r, _, hs⟩, _⟩ := h
  rw [z, hs] at hp
  cases hp
/-- a new object may change -/
theorem Go.mut {K : PySem.W.Frag} {st a p : Addr} {H H' : Hp} {o : HO} (g : Go K st H H') (h : StAt K a st H) (hp : H p = none) : Go K st H (L2.upd H' p o) := by
  have hne := h.fresh hp
  refine ⟨fun b u hb e => by rw [upd_ne (ne_of_none e hp)]; exact g.keep b u hb e, fun a' h' => ?_⟩
  obtain ⟨⟨i, m, r, hi, hs⟩, _⟩ := g.st a' h'
  obtain ⟨⟨i0, m0, r0, hi0, hs0⟩, ns, hn⟩ := h'
  refine ⟨⟨i, m, r, hi, by rw [upd_ne hne.symm]; exact hs⟩, ns, ?_⟩
  rcases hn with (hn | ⟨o', hn⟩) | hn
  · have hne' : a' ≠ st := fun z => by
      rw [z, hs0] at hn
      have e := HO.lst.inj (Option.some.inj hn)
      cases ns with
      | nil => cases e
      | cons n r => cases e
    exact .inl (.inl (by rw [upd_ne (ne_of_none hn hp)]; exact g.keep _ _ hne' hn))
  · have hne' : a' ≠ st := fun z => by
      rw [z, hs0] at hn
      cases hn
    exact .inl (.inr ⟨o', by rw [upd_ne (ne_of_none hn hp)]; exact g.keep _ _ hne' hn⟩)
  · exact .inr hn
/-- [f(..) for x in range(n)], each an int of which P holds, drawing meanwhile -/
theorem lc_ints {K : PySem.W.Frag} {st a D : Addr} {H : Hp} {te : TE} {σ : L2.St} {vs : List Nat} {j : Nat} {lo : Int} {n : Nat} {Qd : Hp → Prop} (P : Int → Prop) (hS : StAt K a st H) (hD : H D = none) (hn : n ≤ 10000)
    (hw : ∀ x, wipe ((wipe σ vs).set j (some x)) vs = wipe σ vs)
    (ht : ∀ (i : Nat) (H1 : Hp), i < n → Go K st H H1 → ∀ Q : VK, (∀ (v : Int) (H2 : Hp), P v → Go K st H1 H2 → Q (.int v) H2) → te ((wipe σ vs).set j (some (.int (lo + (i : Int))))) H1 Q)
    (q : ∀ (ns : List Int) (H' : Hp), ns.length = n → (∀ z ∈ ns, P z) → Go K st H H' → H' D = some (.lst (ns.map V.int)) → Qd H') :
    ∃ W : Nat → Nat → Hp → Prop, (∃ m, W 0 m (upd H D (.lst []))) ∧ ∀ i m H, W i m H →
      ((Itr lo n).stop i H ∧ Qd H) ∨ ((Itr lo n).go i H ∧ ∃ Nx : Hp → Prop, (∀ H', Nx H' → ∃ m', m' < m ∧ W (i + 1) m' H') ∧ ∀ x H', (Itr lo n).yld i H x H' → (gName j) x (wipe σ vs) H' fun σ2 H2 => wipe σ2 vs = wipe σ vs ∧ tYes σ2 H2 fun b H3 =>
        if b = true then te σ2 H3 fun y H4 => ∃ acc, H4 D = some (.lst acc) ∧ acc.length < sizeLine ∧ Nx (upd H4 D (.lst (acc ++ [y]))) else Nx H3) := by
  refine lc_range (fun i H' => ∃ ns : List Int, ns.length = i ∧ (∀ z ∈ ns, P z) ∧ Go K st H H' ∧ H' D = some (.lst (ns.map V.int))) ⟨[], rfl, (fun _ z => nomatch z), Go.new hD, upd_same⟩ ?_ ?_
  · rintro i H1 hi ⟨ns, hl, hP, g, hd⟩
    refine ⟨hw _, ?_⟩
    show te ((wipe σ vs).set j (some (.int (lo + (i : Int))))) H1 _
    refine ht i H1 hi g _ fun v H2 hv g2 => ?_
    have hd2 : H2 D = some (.lst (ns.map V.int)) := g2.keep _ _ (hS.fresh hD) hd
    refine ⟨_, hd2, ?_, ns ++ [v], ?_, ?_, (g.trans g2).mut hS hD, ?_⟩
    · rw [List.length_map]
      exact Nat.lt_of_lt_of_le (by omega : ns.length < 10000) (by decide)
    · rw [List.length_append, hl]
      rfl
    · intro z hz
      rcases List.mem_append.mp hz with h | h
      · exact hP z h
      · rw [List.mem_singleton.mp h]
        exact hv
    · rw [upd_same, List.map_append]
      rfl
  · rintro H' ⟨ns, hl, hP, g, hd⟩
    exact q ns H' hl hP g hd
theorem _root_.L2.Same.mut {H H' : Hp} {p : Addr} {o : HO} (e : Same H H') (h : H p = none) : Same H (upd H' p o) := fun b u q => by
  rw [upd_ne (ne_of_none q h)]
  exact e b u q
theorem filt_take {xs : List V} {f : V → Bool} {v : V → V} {i : Nat} {x : V} (h : xs[i]? = some x) : ((xs.take (i + 1)).filter f).map v = ((xs.take i).filter f).map v ++ (if f x = true then [v x] else []) := by
  rw [List.take_add_one, h, List.filter_append, List.map_append]
  congr 1
  show ([x].filter f).map v = _
  by_cases c : f x = true
  · rw [if_pos c, List.filter_cons, if_pos c]
    rfl
  · rw [if_neg c, List.filter_cons, if_neg c]
    rfl
/-- what a comprehension without drawing has made behind i turns -/
def Made (H1 : Hp) (D : Addr) (f : V → Bool) (v : V → V) (xs : List V) (i : Nat) (H' : Hp) : Prop := Same H1 H' ∧ H' D = some (.lst (((xs.take i).filter f).map v))
theorem made_turn {H1 H' : Hp} {D : Addr} {f : V → Bool} {v : V → V} {xs : List V} {i : Nat} {x : V} {tt : TT} {te : TE} {σ2 : L2.St} (hD : H1 D = none) (hz : xs.length ≤ 10000) (hx : xs[i]? = some x) (p : Made H1 D f v xs i H')
    (ht : ∀ H2, Same H1 H2 → ∀ Q : Bool → Hp → Prop, (∀ H3, Same H2 H3 → Q (f x) H3) → tt σ2 H2 Q) (he : f x = true → ∀ H2, Same H1 H2 → ∀ Q : VK, (∀ H3, Same H2 H3 → Q (v x) H3) → te σ2 H2 Q) :
    tt σ2 H' fun b H3 => if b = true then te σ2 H3 fun y H4 => ∃ acc, H4 D = some (.lst acc) ∧ acc.length < sizeLine ∧ Made H1 D f v xs (i + 1) (upd H4 D (.lst (acc ++ [y]))) else Made H1 D f v xs (i + 1) H3 := by
  obtain ⟨sm, hd⟩ := p
  refine ht H' sm _ fun H3 s3 => ?_
  have hd3 := s3 _ _ hd
  by_cases c : f x = true
  · rw [if_pos c]
    refine he c H3 (sm.trans s3) _ fun H4 s4 => ?_
    have hd4 := s4 _ _ hd3
    refine ⟨_, hd4, ?_, (sm.trans (s3.trans s4)).mut hD, ?_⟩
    · rw [List.length_map]
      refine Nat.lt_of_le_of_lt (Nat.le_trans (List.length_filter_le _ _) ?_) (show 10000 < sizeLine by decide)
      rw [List.length_take]
      omega
    · rw [upd_same, filt_take hx, if_pos c]
  · rw [if_neg c]
    refine ⟨sm.trans s3, ?_⟩
    rw [hd3, filt_take hx, if_neg c, List.append_nil]
theorem lc_pureT {K : PySem.W.Frag} {D a : Addr} {H1 : Hp} {σ : L2.St} {vs : List Nat} {j : Nat} {tt : TT} {te : TE} {xs : List V} {Qd : Hp → Prop} (f : V → Bool) (v : V → V) (hD : H1 D = none) (ha : SqT K H1 a xs) (hz : xs.length ≤ 10000)
    (hw : ∀ x, wipe ((wipe σ vs).set j (some x)) vs = wipe σ vs)
    (ht : ∀ x ∈ xs, ∀ H2, Same H1 H2 → ∀ Q : Bool → Hp → Prop, (∀ H3, Same H2 H3 → Q (f x) H3) → tt ((wipe σ vs).set j (some x)) H2 Q) (he : ∀ x ∈ xs, f x = true → ∀ H2, Same H1 H2 → ∀ Q : VK, (∀ H3, Same H2 H3 → Q (v x) H3) → te ((wipe σ vs).set j (some x)) H2 Q)
    (q : ∀ H', Same H1 H' → H' D = some (.lst ((xs.filter f).map v)) → Qd H') :
    ∃ W : Nat → Nat → Hp → Prop, (∃ m, W 0 m (upd H1 D (.lst []))) ∧ ∀ i m H, W i m H →
      ((Itt K a).stop i H ∧ Qd H) ∨ ((Itt K a).go i H ∧ ∃ Nx : Hp → Prop, (∀ H', Nx H' → ∃ m', m' < m ∧ W (i + 1) m' H') ∧ ∀ x H', (Itt K a).yld i H x H' → (gName j) x (wipe σ vs) H' fun σ2 H2 => wipe σ2 vs = wipe σ vs ∧ tt σ2 H2 fun b H3 =>
        if b = true then te σ2 H3 fun y H4 => ∃ acc, H4 D = some (.lst acc) ∧ acc.length < sizeLine ∧ Nx (upd H4 D (.lst (acc ++ [y]))) else Nx H3) :=
  lc_tup (xs := xs) (Made H1 D f v xs) ⟨same_upd hD, upd_same⟩ (fun _ _ _ p => seqT_same p.1 ha) (fun i x H' hx p => ⟨hw x, made_turn hD hz hx p (ht x (List.mem_of_getElem? hx)) (he x (List.mem_of_getElem? hx))⟩)
    fun H' p => q H' p.1 (by rw [p.2, List.take_length])
theorem lc_pureL {K : PySem.W.Frag} {D a : Addr} {H1 : Hp} {σ : L2.St} {vs : List Nat} {j : Nat} {tt : TT} {te : TE} {xs : List V} {Qd : Hp → Prop} (f : V → Bool) (v : V → V) (hD : H1 D = none) (ha : SqL K H1 a xs) (hz : xs.length ≤ 10000)
    (hw : ∀ x, wipe ((wipe σ vs).set j (some x)) vs = wipe σ vs)
    (ht : ∀ x ∈ xs, ∀ H2, Same H1 H2 → ∀ Q : Bool → Hp → Prop, (∀ H3, Same H2 H3 → Q (f x) H3) → tt ((wipe σ vs).set j (some x)) H2 Q) (he : ∀ x ∈ xs, f x = true → ∀ H2, Same H1 H2 → ∀ Q : VK, (∀ H3, Same H2 H3 → Q (v x) H3) → te ((wipe σ vs).set j (some x)) H2 Q)
    (q : ∀ H', Same H1 H' → H' D = some (.lst ((xs.filter f).map v)) → Qd H') :
    ∃ W : Nat → Nat → Hp → Prop, (∃ m, W 0 m (upd H1 D (.lst []))) ∧ ∀ i m H, W i m H →
      ((Itl K a).stop i H ∧ Qd H) ∨ ((Itl K a).go i H ∧ ∃ Nx : Hp → Prop, (∀ H', Nx H' → ∃ m', m' < m ∧ W (i + 1) m' H') ∧ ∀ x H', (Itl K a).yld i H x H' → (gName j) x (wipe σ vs) H' fun σ2 H2 => wipe σ2 vs = wipe σ vs ∧ tt σ2 H2 fun b H3 =>
        if b = true then te σ2 H3 fun y H4 => ∃ acc, H4 D = some (.lst acc) ∧ acc.length < sizeLine ∧ Nx (upd H4 D (.lst (acc ++ [y]))) else Nx H3) :=
  lc_list (xs := xs) (Made H1 D f v xs) ⟨same_upd hD, upd_same⟩ (fun _ _ _ p => p.1.seq ha) (fun i x H' hx p => ⟨hw x, made_turn hD hz hx p (ht x (List.mem_of_getElem? hx)) (he x (List.mem_of_getElem? hx))⟩)
    fun H' p => q H' p.1 (by rw [p.2, List.take_length])
def rgL (lo : Int) (n : Nat) : List V := (List.range n).map fun i : Nat => V.int (lo + (i : Int))
theorem rgL_get {lo : Int} {n i : Nat} (h : i < n) : (rgL lo n)[i]? = some (.int (lo + (i : Int))) := by
  unfold rgL
  rw [List.getElem?_map, List.getElem?_range h]
  rfl
theorem rgL_len (lo : Int) (n : Nat) : (rgL lo n).length = n := by
  unfold rgL
  rw [List.length_map, List.length_range]
theorem lc_pureR {D : Addr} {H1 : Hp} {σ : L2.St} {vs : List Nat} {j : Nat} {tt : TT} {te : TE} {lo : Int} {n : Nat} {Qd : Hp → Prop} (f : V → Bool) (v : V → V) (hD : H1 D = none) (hz : n ≤ 10000)
    (hw : ∀ x, wipe ((wipe σ vs).set j (some x)) vs = wipe σ vs)
    (ht : ∀ i : Nat, i < n → ∀ H2, Same H1 H2 → ∀ Q : Bool → Hp → Prop, (∀ H3, Same H2 H3 → Q (f (.int (lo + (i : Int)))) H3) → tt ((wipe σ vs).set j (some (.int (lo + (i : Int))))) H2 Q)
    (he : ∀ i : Nat, i < n → f (.int (lo + (i : Int))) = true → ∀ H2, Same H1 H2 → ∀ Q : VK, (∀ H3, Same H2 H3 → Q (v (.int (lo + (i : Int)))) H3) → te ((wipe σ vs).set j (some (.int (lo + (i : Int))))) H2 Q)
    (q : ∀ H', Same H1 H' → H' D = some (.lst (((rgL lo n).filter f).map v)) → Qd H') :
    ∃ W : Nat → Nat → Hp → Prop, (∃ m, W 0 m (upd H1 D (.lst []))) ∧ ∀ i m H, W i m H →
      ((Itr lo n).stop i H ∧ Qd H) ∨ ((Itr lo n).go i H ∧ ∃ Nx : Hp → Prop, (∀ H', Nx H' → ∃ m', m' < m ∧ W (i + 1) m' H') ∧ ∀ x H', (Itr lo n).yld i H x H' → (gName j) x (wipe σ vs) H' fun σ2 H2 => wipe σ2 vs = wipe σ vs ∧ tt σ2 H2 fun b H3 =>
        if b = true then te σ2 H3 fun y H4 => ∃ acc, H4 D = some (.lst acc) ∧ acc.length < sizeLine ∧ Nx (upd H4 D (.lst (acc ++ [y]))) else Nx H3) :=
  lc_range (Made H1 D f v (rgL lo n)) ⟨same_upd hD, upd_same⟩ (fun i H' hi p => ⟨hw _, made_turn hD (by rw [rgL_len]; exact hz) (rgL_get hi) p (ht i hi) (he i hi)⟩)
    fun H' p => q H' p.1 (by rw [p.2, List.take_of_length_le (by rw [rgL_len]; exact Nat.le_refl _)])
/-- a set of marks as a list -/
structure SetL (ms : List Int) : Prop where
  up : ms.Pairwise (· < ·)
  bd : ∀ z ∈ ms, 1 ≤ z ∧ z ≤ 96
theorem SetL.len {ms : List Int} (h : SetL ms) : ms.length ≤ 96 := by
  have key : ∀ (l : List Int) (lo : Int), l.Pairwise (· < ·) → (∀ z ∈ l, lo ≤ z ∧ z ≤ 96) → (l.length : Int) ≤ 96 - lo + 1 ∨ l = [] := by
    intro l
    induction l with
    | nil => intro _ _ _; exact .inr rfl
    | cons x r ih =>
      intro lo hp hb
      have hp' := List.pairwise_cons.mp hp
      have hx := hb x List.mem_cons_self
      left
      rcases ih (x + 1) hp'.2 (fun z hz => ⟨hp'.1 z hz, (hb z (List.mem_cons_of_mem _ hz)).2⟩) with h | h
      · rw [List.length_cons]
        omega
      · rw [h]
        show ((0 + 1 : Nat) : Int) ≤ _
        omega
  rcases key ms 1 h.up h.bd with h | h
  · omega
  · rw [h]
    exact Nat.zero_le _
theorem SetL.nil : SetL [] := ⟨.nil, fun _ z => nomatch z⟩
def sp__law_set (K : PySem.W.Frag) : Sp := fun vs H Q _ => ∃ (a st : Addr) (most : Int), vs = [.ref st, .int most] ∧ StAt K a st H ∧ 0 ≤ most ∧ most ≤ 96 ∧
  ∀ (t : Addr) (ms : List Int) H', SetL ms → (ms.length : Int) ≤ most → Go K st H H' → H t = none → H' t = some (.tup (ms.map V.int)) → Q (.ref t) H'
theorem pickI {ns : List Int} {v lo hi : Int} (h : ∀ z ∈ ns, lo ≤ z ∧ z ≤ hi) (h0 : 0 ≤ v) (h1 : v < (ns.length : Int)) : ∃ z, atI (ns.map V.int) v = some (.int z) ∧ lo ≤ z ∧ z ≤ hi := by
  have hlt : v.toNat < ns.length := by omega
  refine ⟨ns[v.toNat], at_of (j := v.toNat) (by omega) ?_, h _ (List.getElem_mem hlt)⟩
  rw [List.getElem?_map, List.getElem?_eq_getElem hlt]
  rfl
theorem nat8000 {n : Int} (h0 : 0 ≤ n) (h : n < 10 ^ 70) : n.natAbs < 2 ^ 8000 := Nat.lt_of_lt_of_le (by omega : n.natAbs < 10 ^ 70) (by decide +kernel)
/-! ### the promises of the drawing defs -/
def sp__law_start (K : PySem.W.Frag) : Sp := fun vs H Q _ => ∃ (a : Addr) (ns : List Int), vs = [.ref a] ∧ SqL K H a (ns.map V.int) ∧
  ∀ st H', H st = none → Same H H' → StAt K a st H' → Q (.ref st) H'
def sp__law_drawn (K : PySem.W.Frag) : Sp := fun vs H Q _ => ∃ (a st : Addr) (n : Int), vs = [.ref st, .int n] ∧ StAt K a st H ∧ 0 < n ∧ n.natAbs < 2 ^ 8000 ∧
  ∀ (v : Int) H', 0 ≤ v → v < n → Go K st H H' → Q (.int v) H'
end My
namespace L2
open PySem PySem.Spec PyProof.Rows
/-! ### isinstance of the error that a suite holds -/
def rIsEx (K : PySem.W.Frag) (cls : Value) (d : Option Addr) (a : Addr) : List V → Hp → VK → Prop := fun xs H Q => ∃ (D : Addr), cls = .ref D ∧ d = none ∧ ExcC K D ∧ rIsE K D a xs H Q
theorem call_isEx {X : Cx} {a : Addr} {oe : Obj} {cls : Value} {d : Option Addr} {pn : List (Addr × Obj)} (hz : Zc cls d oe) (hf : ∃ vs, oe.data = .fields vs) : CallR (X.suite a ((a, oe) :: pn)) (.builtin "isinstance") (rIsEx X.K cls d a) := by
  intro pins s σ H xs us Q I r h
  obtain ⟨D, rfl, rfl, C, h⟩ := h
  exact call_isE C hz hf pins s σ H xs us Q I r h
def rIsExT (K : PySem.W.Frag) (cls : Value) (d : Option Addr) (a : Addr) : List V → Hp → VK → Prop := fun xs H Q => ∃ (D tp : Addr) (cs : List V) (ts : List Value) (b : Bool), cls = .ref D ∧ d = none ∧ ExcC K D ∧ xs = [.ref a, .ref tp] ∧ H tp = some (.tup cs) ∧ Paired ClsV cs ts ∧ PySem.W.kitAny K (.ref D) ts = some b ∧ Q (.bl b) H
theorem call_isExT {X : Cx} {a : Addr} {oe : Obj} {cls : Value} {d : Option Addr} {pn : List (Addr × Obj)} (hz : Zc cls d oe) (hf : ∃ vs, oe.data = .fields vs) : CallR (X.suite a ((a, oe) :: pn)) (.builtin "isinstance") (rIsExT X.K cls d a) := by
  intro pins s σ H xs us Q I r h
  obtain ⟨D, tp, cs, ts, b, rfl, rfl, C, rfl, hT, k, e, q⟩ := h
  obtain ⟨u1, u2, rfl, r1, r2⟩ := vals2 r
  cases (show u2 = Value.ref tp from r2)
  cases (show u1 = Value.ref a from r1)
  obtain ⟨hget, _⟩ := I.pin (a, oe) (List.mem_append.mpr (.inl List.mem_cons_self))
  obtain ⟨vs, hv⟩ := hf
  have J : PySem.W.InstAt s.heap a oe D none := by
    obtain ⟨oc, od, oda, osl⟩ := oe
    obtain ⟨h1, h2⟩ := hz
    dsimp only at h1 h2 hv
    subst h1 h2 hv
    exact ⟨hget, rfl, rfl, trivial⟩
  obtain ⟨_, its, rv, o, h1, h2, n, h3⟩ := (show ObjOk X.prog X.w H s.heap tp (.tup cs) from I.hok tp _ hT)
  have e3 := ClsV.all k rv
  subst e3
  obtain ⟨oc, od, dt, sl⟩ := o
  simp only at h2 h3
  subst h2 h3
  exact PySem.W.kia_tup (PySem.W.handS_kitx_exc C.hg C.hk C.hs C.hd C.ha C.hn C.ht C.hm) I.kIn J h1 e (fun z => nomatch z) fun tk => ⟨.bl b, H, I.kept (t' := tk) fun _ _ z => z, rfl, q⟩
end L2
namespace Lm
open PySem PySem.Spec PyProof.Rows L2
/-- a def that makes lambdas: its code object is known -/
theorem okC {P : Program} {w : World} {K : PySem.W.Frag} {mg : Str → Option Value} {base : Heap}
    {x qual : Str} {st : Stmt} {f c : Addr} {fd : FuncData} {N ps : List Str} {k : Nat} {sp : Sp}
    (F : Fun K x qual st f fd) (hc : fd.code = .ref c) (S : FnScope N ps (defScope st))
    (len : ∀ vs H Q E, sp vs H Q E → vs.length = ps.length)
    (hb : ∀ (A : Around) (outer : List Env) (s : Shared) (H : Hp) (vs : List V) (Q : VK) (E : XK),
      Room k (A.deeper (envOfC qual (defScope st) s.heap.objs.size f (.ref c))) → sp vs H Q E →
      ∃ t, PSs (cxOf CX0 P w K mg base N qual (defScope st) f (.ref c) A outer s H E).nox (defBody st) t ∧
        t { nx := fun _ H' => Q .non H', rt := Q } (start N vs) H) :
    FnOk P w K mg base CX0 (k + 1) f fd ps sp := by
  obtain ⟨_, _, _, _, _, _, cdv, _, _, e, lk, hcd⟩ := F.ex
  subst e
  obtain rfl : cdv = .ref c := hc
  refine fn_of lk hcd S len fun A outer s H vs Q E hr z => ?_
  obtain ⟨t, h1, h2⟩ := hb A outer s H vs Q E hr z
  exact ⟨t, h1.nox, h2⟩
/-- what is taken may lean on how many slots there are -/
theorem takes_len {X : Cx} {W : WX} (tk : Takes X W) : Takes X (fun c d σ H => σ.length = X.N.length → W c d σ H) := by
  intro u s' z
  obtain ⟨a, B, sI, pins, σ, H, cls, d, e, I, r1, r2, r3, r4, r5, r6, w⟩ := z
  exact tk u s' ⟨a, B, sI, pins, σ, H, cls, d, e, I, r1, r2, r3, r4, r5, r6, w I.len⟩
/-- any wish for what the lambda raises -/
theorem pe_any {X : Cx} {e : Expr} {W : WX} {tl : XK → TE} (h : ∀ E : XK, (∀ cls d σ H, E cls d H → W cls d σ H) → PE X e (tl E)) :
    PE X e (fun σ H Q => ∃ E : XK, (∀ cls d σ H, E cls d H → W cls d σ H) ∧ tl E σ H Q) :=
  ⟨fun pins s σ H Q I z => by
    obtain ⟨E, hW, r⟩ := z
    exact (h E hW).run pins s σ H Q I r⟩
/-- what the ground tells of the tables of defs -/
def TabF (mg : Str → Option Value) (h : Heap) (ys : List Str) : Prop := ∀ y ∈ ys, ∃ (a : Addr) (o : Obj) (fd : FuncData) (c P : Addr),
  mg y = some (.ref a) ∧ h.get? a = some o ∧ o.data = .func fd ∧ fd.code = .ref c ∧ PySem.W.CodeHd h c P ∧ h.get? P = some { cls := .none, data := .fields #[] }
theorem walk_tabs {l : PySem.W.OpenLaw} {n k : Nat} {q : Program} {loose : List Str} {XP : (Str → Option Value) → Heap → Prop}
    {YP : World → Heap → Prop} {d : DefRec} {K : Params → PySem.W.Frag} {CX : World → CXT} {x : Str} (ys : List Str)
    (hn : l.most = some n) (hn2 : n ≤ sizeLine) (hdf : d.params.defaults = []) (hr : Room k callerA)
    (hrec : (ys.all fun y => (recsOf q).any fun e => e.name == y) = true)
    (hY : ∀ (w : World) (h : Heap), YP w h → (K w.params).In h)
    (F : ∀ (w : World) (mg : Str → Option Value) (fa : Addr) (h : Heap), (K w.params).In h → h.Ns mainGlobals mg →
      mg d.name = some (.ref fa) → TabF mg h ys → LamX.LawAtS l w (K w.params) (CX w) k n x mg fa h)
    (hCX : ∀ (w : World) (H : Hp) (s : Shared) (e : Value) (s' : Shared), CX w [] H s (fun _ _ _ => False) e s' → False) :
    PySem.W.WalkO q loose XP YP l.row.toRowW d [] (fun f vs => PySem.call f vs) := by
  refine Att.attach_callB hn hdf fun w s0 s1 mg mb fa o pm cd doc a vs ns
    G Y ho hd hcd hmg hobj hints hlen hbits hg => ?_
  have KX := hY w _ Y
  have tf : TabF mg s1.heap ys := fun y hy => by
    obtain ⟨dL, hm, e⟩ := List.any_eq_true.mp (List.all_eq_true.mp hrec y hy)
    obtain ⟨a', o', fd', c', P', h1, h2, h3, h4, h5, h6⟩ := G.T.tab dL hm
    rw [beq_iff_eq.mp e] at h1
    exact ⟨a', o', fd', c', P', h1, h2, h3, h4, .of h5 h6, h6.2⟩
  obtain ⟨fd, cs, sp, t1, t2, t3, hb, hsp, hF⟩ := F w mg fa _ KX G.T.g hmg tf
  exact LamX.law_callTs KX G.T.g G.T.b
    G.T.builtins G.T.nolimit hg t1 t2 t3
    G.T.bmain hobj hints
    (Nat.le_trans hlen hn2) hr hF hb
    (fun H hH hS => hsp H a ns hlen hbits hH hS)
    fun H e s' => hCX w H s1 e s'
/-- the table that a def's code object has, by the written part -/
theorem tab_of {K : PySem.W.Frag} {mg : Str → Option Value} {h : Heap} {ys : List Str} {y : Str} {f c P : Addr} {ob oc : Obj} {fd : FuncData} {vs : Array Value}
    (X : K.In h) (tf : TabF mg h ys) (hy : y ∈ ys) (hm : mg y = some (.ref f)) (lk : K.lookup f = some ob) (hd : ob.data = .func fd) (hc : fd.code = .ref c)
    (lc : K.lookup c = some oc) (hv : oc.data = .fields vs) (hP : vs[11]? = some (.ref P)) :
    h.get? P = some { cls := .none, data := .fields #[] } ∧ PySem.W.CodeHd h c P := by
  obtain ⟨a, o, fd', c', P', h1, h2, h3, h4, h5, h6⟩ := tf y hy
  rw [hm] at h1
  cases h1
  rw [X _ _ lk] at h2
  cases h2
  rw [hd] at h3
  cases h3
  rw [hc] at h4
  cases h4
  obtain ⟨o2, vs2, r1, r2, r3, r4, r5, r6, r7, e1, e2, e3, e4, r⟩ := id h5
  rw [X _ _ lc] at e1
  cases e1
  rw [hv] at e3
  cases e3
  rw [hP] at e4
  cases e4
  exact ⟨h6, h5⟩
end Lm
namespace My
open PySem PySem.Spec PyProof.Rows L2
/-- is it a set, from the mark before on -/
def isSetG : Int → List Int → Bool
  | _, [] => true
  | b, x :: r => if x ≤ b ∨ 96 < x then false else isSetG x r
def isSetB (ns : List Int) : Bool := isSetG 0 ns
theorem isSetG_iff : ∀ (ns : List Int) (b : Int), isSetG b ns = true ↔ ns.Pairwise (· < ·) ∧ (∀ z ∈ ns, b < z ∧ z ≤ 96)
  | [], b => ⟨fun _ => ⟨.nil, fun _ z => nomatch z⟩, fun _ => rfl⟩
  | x :: r, b => by
    unfold isSetG
    by_cases c : x ≤ b ∨ 96 < x
    · rw [if_pos c]
      refine ⟨(fun z => nomatch z), fun h => ?_⟩
      have := h.2 x List.mem_cons_self
      omega
    · rw [if_neg c, isSetG_iff r x]
      constructor
      · rintro ⟨h1, h2⟩
        refine ⟨.cons (fun y hy => (h2 y hy).1) h1, fun z hz => ?_⟩
        rcases List.mem_cons.mp hz with e | hz
        · omega
        · have := h2 z hz
          omega
      · rintro ⟨h1, h2⟩
        have h1' := List.pairwise_cons.mp h1
        exact ⟨h1'.2, fun z hz => ⟨h1'.1 z hz, (h2 z (List.mem_cons_of_mem _ hz)).2⟩⟩
theorem isSetB_iff {ns : List Int} : isSetB ns = true ↔ SetL ns := by
  unfold isSetB
  rw [isSetG_iff]
  exact ⟨fun h => ⟨h.1, fun z hz => by have := h.2 z hz; omega⟩, fun h => ⟨h.up, fun z hz => by have := h.bd z hz; omega⟩⟩
def sp_is_set (K : PySem.W.Frag) : Sp := fun vs H Q _ => ∃ (a : Addr) (ns : List Int), vs = [.ref a] ∧ SqT K H a (ns.map V.int) ∧ Q (.bl (isSetB ns)) H
def sp_refuse_unless_set (K : PySem.W.Frag) (C : Addr) : Sp := fun vs H Q E => ∃ (a : Addr) (ns : List Int), vs = [.ref a] ∧ SqT K H a (ns.map V.int) ∧ (isSetB ns = false → E (.ref C) none H) ∧ (isSetB ns = true → Q .non H)
end My
namespace My
open PySem PySem.Spec PyProof.Rows L2
theorem filt_no {α : Type} (xs : List α) : (xs.filter fun _ => false) = [] := List.filter_eq_nil_iff.mpr fun _ _ h => nomatch h
/-! ### == of lists and tuples of ints -/
theorem dpInts {K : PySem.W.Frag} {H : Hp} : ∀ ns : List Int, DpAll K H (ns.map V.int) (ns.map PyData.int)
  | [] => .nil
  | _ :: r => .cons (.int _) (dpInts r)
theorem lay_ints : ∀ ns : List Int, PyData.canLayAll0 (ns.map PyData.int) = true
  | [] => by simp [PyData.canLayAll0]
  | n :: r => by simp [PyData.canLayAll0, PyData.canLay0, lay_ints r]
theorem depth_ints : ∀ ns : List Int, PyData.depthAll (ns.map PyData.int) ≤ 1
  | [] => by simp [PyData.depthAll]
  | n :: r => by
    have h := depth_ints r
    simp only [List.map_cons, PyData.depthAll, PyData.depth]
    omega
theorem shaped_tup (ns : List Int) : SeqAt.shaped (.tuple (ns.map PyData.int)) = true := by
  have h := depth_ints ns
  show (_ && decide (_ ≤ 64)) = true
  rw [Bool.and_eq_true]
  exact ⟨by simp only [PyData.canLay0]; exact lay_ints ns, decide_eq_true (by simp only [PyData.depth]; omega)⟩
theorem shaped_lst (ns : List Int) : SeqAt.shaped (.list (ns.map PyData.int)) = true := by
  have h := depth_ints ns
  show (_ && decide (_ ≤ 64)) = true
  rw [Bool.and_eq_true]
  exact ⟨by simp only [PyData.canLay0]; exact lay_ints ns, decide_eq_true (by simp only [PyData.depth]; omega)⟩
theorem eqv_ints : ∀ ns ms : List Int, PyData.eqvAll (ns.map PyData.int) (ms.map PyData.int) = decide (ns = ms)
  | [], [] => by simp [PyData.eqvAll]
  | [], m :: r => by simp [PyData.eqvAll]
  | n :: r, [] => by simp [PyData.eqvAll]
  | n :: r, m :: t => by
    simp only [List.map_cons, PyData.eqvAll, PyData.eqv, eqv_ints r t, List.cons.injEq, Bool.decide_and]
    rfl
theorem eqv_tup (ns ms : List Int) : PyData.eqv (.tuple (ns.map PyData.int)) (.tuple (ms.map PyData.int)) = decide (ns = ms) := by
  rw [PyData.eqv]
  exact eqv_ints ns ms
theorem eqv_lst (ns ms : List Int) : PyData.eqv (.list (ns.map PyData.int)) (.list (ms.map PyData.int)) = decide (ns = ms) := by
  rw [PyData.eqv]
  exact eqv_ints ns ms
/-- t != u, t == u: tuples, lists of ints -/
theorem neT {K : PySem.W.Frag} {H : Hp} {a b : Addr} {ns ms : List Int} {Q : VK} (ha : SqT K H a (ns.map V.int)) (hb : SqT K H b (ms.map V.int)) (q : Q (.bl (!decide (ns = ms))) H) : rNeD K (.ref a) (.ref b) H Q :=
  ⟨_, _, .tup ha (dpInts ns), .tup hb (dpInts ms), shaped_tup ns, shaped_tup ms, by rw [eqv_tup]; exact q⟩
theorem eqT {K : PySem.W.Frag} {H : Hp} {a b : Addr} {ns ms : List Int} {Q : VK} (ha : SqT K H a (ns.map V.int)) (hb : SqT K H b (ms.map V.int)) (q : Q (.bl (decide (ns = ms))) H) : rEqD K (.ref a) (.ref b) H Q :=
  ⟨_, _, .tup ha (dpInts ns), .tup hb (dpInts ms), shaped_tup ns, shaped_tup ms, by rw [eqv_tup]; exact q⟩
theorem neL {K : PySem.W.Frag} {H : Hp} {a b : Addr} {ns ms : List Int} {Q : VK} (ha : SqL K H a (ns.map V.int)) (hb : SqL K H b (ms.map V.int)) (q : Q (.bl (!decide (ns = ms))) H) : rNeD K (.ref a) (.ref b) H Q :=
  ⟨_, _, .lst ha (dpInts ns), .lst hb (dpInts ms), shaped_lst ns, shaped_lst ms, by rw [eqv_lst]; exact q⟩
theorem eqL {K : PySem.W.Frag} {H : Hp} {a b : Addr} {ns ms : List Int} {Q : VK} (ha : SqL K H a (ns.map V.int)) (hb : SqL K H b (ms.map V.int)) (q : Q (.bl (decide (ns = ms))) H) : rEqD K (.ref a) (.ref b) H Q :=
  ⟨_, _, .lst ha (dpInts ns), .lst hb (dpInts ms), shaped_lst ns, shaped_lst ms, by rw [eqv_lst]; exact q⟩
theorem eq_of_up : ∀ l1 l2 : List Int, l1.Pairwise (· < ·) → l2.Pairwise (· < ·) → (∀ z, z ∈ l1 ↔ z ∈ l2) → l1 = l2
  | [], [], _, _, _ => rfl
  | [], y :: _, _, _, h => nomatch (h y).mpr List.mem_cons_self
  | x :: _, [], _, _, h => nomatch (h x).mp List.mem_cons_self
  | x :: r, y :: s, h1, h2, h => by
    have p1 := List.pairwise_cons.mp h1
    have p2 := List.pairwise_cons.mp h2
    have e : x = y := by
      rcases List.mem_cons.mp ((h x).mp List.mem_cons_self) with e | e
      · exact e
      · rcases List.mem_cons.mp ((h y).mpr List.mem_cons_self) with f | f
        · exact f.symm
        · have := p2.1 x e
          have := p1.1 y f
          omega
    subst e
    congr 1
    refine eq_of_up r s p1.2 p2.2 fun z => ⟨fun hz => ?_, fun hz => ?_⟩
    · rcases List.mem_cons.mp ((h z).mp (List.mem_cons_of_mem _ hz)) with f | f
      · have := p1.1 z hz
        omega
      · exact f
    · rcases List.mem_cons.mp ((h z).mpr (List.mem_cons_of_mem _ hz)) with f | f
      · have := p2.1 z hz
        omega
      · exact f
theorem marks_up : ((List.range 96).map fun i : Nat => 1 + (i : Int)).Pairwise (· < ·) :=
  List.pairwise_map.mpr (List.pairwise_lt_range.imp fun h => by omega)
theorem mem_marks {z : Int} : z ∈ ((List.range 96).map fun i : Nat => 1 + (i : Int)) ↔ 1 ≤ z ∧ z ≤ 96 := by
  rw [List.mem_map]
  constructor
  · rintro ⟨i, hi, rfl⟩
    have := List.mem_range.mp hi
    omega
  · rintro ⟨h0, h1⟩
    exact ⟨(z - 1).toNat, List.mem_range.mpr (by omega), by omega⟩
theorem ne_len {α : Type} {l : List α} {n : Nat} (h : l.length = n + 1) : l ≠ [] := fun e => by
  rw [e] at h
  cases h
/-- t + u, tuples of ints -/
theorem catA_ints {K : PySem.W.Frag} {H : Hp} {z t : Addr} {zs ns : List Int} {Q : VK} (hz : SqT K H z (zs.map V.int)) (ht : SqT K H t (ns.map V.int)) (hl : zs.length + ns.length ≤ 1000)
    (k : ∀ (w : Addr) (H' : Hp), Same H H' → SqT K H' w ((zs ++ ns).map V.int) → Q (.ref w) H') : rCatA K (.ref z) (.ref t) H Q := by
  refine ⟨z, t, zs.map V.int, ns.map V.int, rfl, rfl, hz, ht, ?_, fun e => ?_, fun _ e => ?_, fun _ _ p hp => k p _ (same_upd hp) (SqT.of ?_)⟩
  · rw [List.length_map, List.length_map]
    exact Nat.le_trans hl (by decide)
  · rw [List.map_eq_nil_iff] at e
    refine k t H (Same.refl H) ?_
    rw [e]
    exact ht
  · rw [List.map_eq_nil_iff] at e
    refine k z H (Same.refl H) ?_
    rw [e, List.append_nil]
    exact hz
  · rw [upd_same, List.map_append]
/-! comprehensions over ints -/
theorem int_filter {ns : List Int} {f : V → Bool} {g : Int → Bool} (h : ∀ z ∈ ns, f (.int z) = g z) : ((ns.map V.int).filter f).map (fun x => x) = (ns.filter g).map V.int := by
  rw [List.map_id']
  induction ns with
  | nil => rfl
  | cons x r ih =>
    have ih' := ih fun z hz => h z (List.mem_cons_of_mem _ hz)
    rw [List.map_cons, List.filter_cons, List.filter_cons, h x List.mem_cons_self]
    by_cases c : g x = true
    · rw [if_pos c, if_pos c, List.map_cons, ih']
    · rw [if_neg c, if_neg c, ih']
theorem rgL_ints (lo : Int) (n : Nat) : rgL lo n = ((List.range n).map fun i : Nat => lo + (i : Int)).map V.int := by
  unfold rgL
  rw [List.map_map]
  rfl
end My
namespace My
open PySem PySem.Spec PyProof.Rows L2
/-- x and y are the same data, tuples no deeper than n -/
inductive EqV (H : Hp) : Nat → V → V → Prop
  | non (n : Nat) : EqV H n .non .non
  | bl (n : Nat) (b : Bool) : EqV H n (.bl b) (.bl b)
  | int (n : Nat) (i : Int) : EqV H n (.int i) (.int i)
  | str (n : Nat) (z : Str) : EqV H n (.str z) (.str z)
  | tup {n : Nat} {p q : Addr} {xs ys : List V} (hp : H p = some (.tup xs)) (hq : H q = some (.tup ys)) (hl : xs.length = ys.length) (hl2 : xs.length ≤ 1000) (h : ∀ (k : Nat) (x y : V), xs[k]? = some x → ys[k]? = some y → EqV H n x y) : EqV H (n + 1) (.ref p) (.ref q)
theorem EqV.same {H H' : Hp} (s : Same H H') {n : Nat} {x y : V} (h : EqV H n x y) : EqV H' n x y := by
  induction h with
  | non n => exact .non n
  | bl n b => exact .bl n b
  | int n i => exact .int n i
  | str n z => exact .str n z
  | tup hp hq hl hl2 h ih => exact .tup (s _ _ hp) (s _ _ hq) hl hl2 ih
theorem EqV.ints {H : Hp} {n : Nat} {p q : Addr} {ns : List Int} (hp : H p = some (.tup (ns.map V.int))) (hq : H q = some (.tup (ns.map V.int))) (hl : ns.length ≤ 1000) : EqV H (n + 1) (.ref p) (.ref q) := by
  refine .tup hp hq rfl (by rw [List.length_map]; exact hl) fun k x y hx hy => ?_
  rw [hx] at hy
  obtain ⟨z, _, rfl⟩ := int_at hx
  cases hy
  exact .int n z
theorem EqV.pair {H : Hp} {n : Nat} {p q : Addr} {a b c d : V} (hp : H p = some (.tup [a, b])) (hq : H q = some (.tup [c, d])) (h1 : EqV H n a c) (h2 : EqV H n b d) : EqV H (n + 1) (.ref p) (.ref q) := by
  refine .tup hp hq rfl (by show 2 ≤ 1000; decide) fun k x y hx hy => ?_
  match k, hx, hy with
  | 0, hx, hy =>
    cases hx
    cases hy
    exact h1
  | 1, hx, hy =>
    cases hx
    cases hy
    exact h2
  | k + 2, hx, _ => cases hx
def sp__law_same (K : PySem.W.Frag) (n : Nat) : Sp := fun vs H Q _ => ∃ x y : V, vs = [x, y] ∧ EqV H n x y ∧ ∀ H', Same H H' → Q (.bl true) H'
end My
namespace My
open PySem PySem.Spec PyProof.Rows L2
def rTupleOf (K : PySem.W.Frag) : List V → Hp → VK → Prop := fun xs H Q => ∃ p ys, xs = [.ref p] ∧ ((SqL K H p ys ∧ ∀ l, H l = none → Q (.ref l) (upd H l (.tup ys))) ∨ (SqT K H p ys ∧ Q (.ref p) H))
section
variable {X : Cx} {K : PySem.W.Frag}
theorem call_tuple_ofK (h : X.K = K) : CallR X (.type "tuple") (rTupleOf K) := h ▸ call_tuple_of
theorem cr_sumK (h : X.K = K) (hc : X.calm = true) : CallR X (.builtin "sum") (rSum K) := h ▸ cr_sum hc
theorem sl_tupAK (h : X.K = K) : SlR X (rSlA K) := h ▸ sl_tupA
theorem sl_listK (h : X.K = K) : SlR X (rSlL K) := h ▸ sl_list
theorem op_catAK (h : X.K = K) : OpR X (binaryOp .Add) (rCatA K) := h ▸ op_catA
theorem pe_revLK {e : Expr} {te : TE} {k : Nat} {p1 p2 p3 pos : Pos} (h : X.K = K) (he : PE X e te) : PE X (.Subscript e (.Slice none none (some (.UnaryOp .USub (.Constant (.int 1) k p1) p2)) p3) pos) (tRevL K te) := h ▸ pe_revL he
theorem pi_tupK {tg l : Expr} {tl : TE} (h : X.K = K) (hl : PE X l tl) : PI X tg l (iTup K tl) := h ▸ pi_tup hl
theorem pi_listK {tg l : Expr} {tl : TE} (h : X.K = K) (hl : PE X l tl) : PI X tg l (iList K tl) := h ▸ pi_list hl
end
end My
namespace My
open PySem PySem.Spec PyProof.Rows L2
section
variable {X : Cx} {K : PySem.W.Frag}
theorem call_sortedQK (h : X.K = K) (hc : X.calm = true) : CallR X (.builtin "sorted") (rSortedQ K) := h ▸ call_sortedQ hc
end
end My
namespace L2
open PySem PySem.Spec PyProof.Rows
/-! ### tuple * 0, tuple * 1 -/
theorem tmul_one (l : Addr) (items : Array Value) (n : Nat) (dd : Option Addr) (sl : Array (Option Value)) (u : Tok) :
    Meets (Builtin.«tuple.__mul__» ⟨[.ref l, .int 1 u], []⟩) (fun _ R s => s.heap.get? l = some { cls := .type "tuple", dict := dd, data := .seq items n, slots := sl } ∧ R (.ok (.ret (Value.ref l))) s) :=
  .of_wp fun prog w A R s h => by
    obtain ⟨hp, g, d, tk, os⟩ := s
    obtain ⟨hl, h⟩ := h
    have f1 := AutoSeq1.idx_int
    have c1 : (items.isEmpty || (1 : Int) == 1) = true := by simp
    wp_walk using wpAny_loadPart' hl
    repeat (first
      | (refine wpAny_ite_false (by decide) ?_; wp_walk using wpAny_loadPart' hl)
      | (refine wpAny_ite_true (by rw [c1]) ?_; wp_walk using wpAny_loadPart' hl))
    exact ⟨_, rfl, h⟩
theorem tmul_zero (l : Addr) (items : Array Value) (n : Nat) (dd : Option Addr) (sl : Array (Option Value)) (u : Tok) (hne : items.isEmpty = false) :
    Meets (Builtin.«tuple.__mul__» ⟨[.ref l, .int 0 u], []⟩) (fun _ R s => s.heap.get? l = some { cls := .type "tuple", dict := dd, data := .seq items n, slots := sl } ∧
      R (.ok (.ret (Value.ref s.heap.objs.size))) { s with heap := s.heap.push { cls := Value.type "tuple", data := Data.seq #[] }, toks := s.toks }) :=
  .of_wp fun prog w A R s h => by
    obtain ⟨hp, g, d, tk, os⟩ := s
    obtain ⟨hl, h⟩ := h
    have f1 := AutoSeq1.idx_int
    have c1 : ¬ ((items.isEmpty || (0 : Int) == 1) = true) := by rw [hne]; decide
    have c2 : (decide ((0 : Int) ≤ 0) || items.isEmpty) = true := rfl
    wp_walk using wpAny_loadPart' hl
    repeat (first
      | (refine wpAny_ite_false (by decide) ?_; wp_walk using wpAny_loadPart' hl)
      | (refine wpAny_ite_false (decide_eq_false c1) ?_; wp_walk using wpAny_loadPart' hl)
      | (refine wpAny_ite_true (decide_eq_true c2) ?_; wp_walk using wpAny_loadPart' hl))
    exact ⟨_, rfl, h⟩
/-- t * k, k from 0 to 1000, t not empty -/
def rTMul (K : PySem.W.Frag) : R2 := fun x y H Q => ∃ l k xs, x = .ref l ∧ y = .int k ∧ SqT K H l xs ∧ xs ≠ [] ∧ 0 ≤ k ∧ k ≤ 1000 ∧ xs.length ≤ 1000 ∧ (k = 1 → Q (.ref l) H) ∧ (k ≠ 1 → ∀ p, H p = none → Q (.ref p) (upd H p (.tup (List.replicate k.toNat xs).flatten)))
section
variable {X : Cx}
theorem op_tmul : OpR X (binaryOp .Mult) (rTMul X.K) := by
  intro pins s σ H x y v u Q I rx ry h
  obtain ⟨l, k, xs, rfl, rfl, hT, hne, h0, h1, hz, q1, q2⟩ := h
  by_cases c2 : 2 ≤ k
  · exact op_repT pins s σ H _ _ v u Q I rx ry ⟨l, k, xs, rfl, rfl, hT, hne, c2, h1, hz, q2 (by omega)⟩
  cases rx
  obtain ⟨t, rfl⟩ := ry
  obtain ⟨its, r, ⟨⟨cls, dd, data, sl⟩, ho, hc, n, hd⟩, hs⟩ := I.tuple hT
  dsimp only at hc hd
  subst hc hd
  have hi : its.toArray.isEmpty = false := by
    cases its with
    | nil =>
      cases r
      exact absurd rfl hne
    | cons a b => rfl
  refine wpAny_binaryOp_repeat_ref (T := "tuple") (U := "int") (by decide) ⟨_, ho, rfl⟩ (fun s' => typeIs_int s' k t) noFill_tuple_mul F.fills_int_mul F.slot_int_rmul repeat_tuple F.slot_int_index.lookup
    (call_meets F.slot_int_rmul (typeIs_int s k t) F.entry_int_rmul (F.args_int_rmul_2 _ _) (int_rmul_tuple k t l its.toArray n dd sl) ⟨ho, rfl, ⟨_, ho, rfl⟩, ?_⟩)
  rcases (by omega : k = 0 ∨ k = 1) with rfl | rfl
  · refine call_meets F.slot_tuple_mul ⟨_, ho, rfl⟩ F.entry_tuple_mul (F.args_tuple_mul_2 _ _) (tmul_zero l its.toArray n dd sl t hi) ⟨ho, ?_⟩
    refine ⟨.ref s.heap.objs.size, _, I.laid (t' := s.toks) (o := .tup []) (fun b ob q => Heap.get?_push_of_some _ q) (Nat.le_refl _) ?_, rfl, q2 (by decide) _ (I.hok.fresh (Nat.le_refl _))⟩
    exact ⟨Nat.zero_le _, [], .nil, IsTup.new _ _⟩
  · refine call_meets F.slot_tuple_mul ⟨_, ho, rfl⟩ F.entry_tuple_mul (F.args_tuple_mul_2 _ _) (tmul_one l its.toArray n dd sl t) ⟨ho, ?_⟩
    exact ⟨.ref l, H, I.tok _, rfl, q1 rfl⟩
end
end L2
namespace My
open PySem PySem.Spec PyProof.Rows L2
theorem tmulH {K : PySem.W.Frag} {H : Hp} {a : Addr} {ns : List Int} {k : Int} {Q : VK} (ha : H a = some (.tup (ns.map V.int))) (hn : ns ≠ []) (hl : ns.length ≤ 1000) (h0 : 0 ≤ k) (h1 : k ≤ 1000)
    (q : ∀ (w : Addr) (H' : Hp), Same H H' → H' w = some (.tup ((List.replicate k.toNat ns).flatten.map V.int)) → Q (.ref w) H') : rTMul K (.ref a) (.int k) H Q := by
  have e : ∀ n : Nat, (List.replicate n (ns.map V.int)).flatten = (List.replicate n ns).flatten.map V.int := fun n => by
    rw [List.map_flatten, List.map_replicate]
  refine ⟨a, k, _, rfl, rfl, SqT.of ha, fun z => hn (List.map_eq_nil_iff.mp z), h0, h1, by rw [List.length_map]; exact hl, fun c => ?_, fun _ p hp => ?_⟩
  · subst c
    refine q a H (Same.refl _) ?_
    rw [ha]
    show _ = some (HO.tup ((ns ++ []).map V.int))
    rw [List.append_nil]
  · rw [e]
    exact q p _ (same_upd hp) upd_same
end My
namespace My
open PySem PySem.Spec PyProof.Rows L2
theorem op_tmulK {X : Cx} {K : PySem.W.Frag} (h : X.K = K) : OpR X (binaryOp .Mult) (rTMul K) := h ▸ op_tmul
end My
namespace My
open PySem PySem.Spec PyProof.Rows L2
theorem Go.tup {K : PySem.W.Frag} {a st p : Addr} {H H' : Hp} {xs : List V} (g : Go K st H H') (h : StAt K a st H) (e : H p = some (.tup xs)) : H' p = some (.tup xs) := g.keep p _ (h.ne e (fun _ z => nomatch z)) e
theorem takeA {K : PySem.W.Frag} {H : Hp} {a : Addr} {ns : List Int} {f : Int} {Q : VK} (hS : H a = some (.tup (ns.map V.int))) (h0 : 0 ≤ f) (h1 : f ≤ (ns.length : Int)) (k : ∀ (w : Addr) (H' : Hp), Same H H' → H' w = some (.tup ((ns.take f.toNat).map V.int)) → Q (.ref w) H') : rSlA K (.ref a) none (some f) H Q := by
  obtain ⟨j, rfl⟩ : ∃ j : Nat, f = (j : Int) := ⟨f.toNat, by omega⟩
  have ej : HT.sIx (ns.map V.int).length (ns.map V.int).length (some (j : Int)) = j := by
    rw [HT.sIx_nat, List.length_map]
    omega
  have e0 : HT.sIx (ns.map V.int).length 0 none = 0 := rfl
  refine ⟨a, _, rfl, SqT.of hS, fun c => ?_, fun c p hp => k p _ (same_upd hp) ?_⟩
  · refine k a H (Same.refl _) ?_
    have c2 := c.2
    rw [ej, List.length_map] at c2
    rw [hS, Int.toNat_natCast, c2, List.take_length]
  · rw [upd_same]
    unfold cutV
    rw [ej, e0, List.drop_zero, Nat.sub_zero, Int.toNat_natCast, List.map_take]
/-- t + u of tuples that stand in the heap -/
theorem catH {K : PySem.W.Frag} {H : Hp} {z t : Addr} {zs ns : List Int} {Q : VK} (hz : H z = some (.tup (zs.map V.int))) (ht : H t = some (.tup (ns.map V.int))) (hl : zs.length + ns.length ≤ 1000)
    (k : ∀ (w : Addr) (H' : Hp), Same H H' → H' w = some (.tup ((zs ++ ns).map V.int)) → Q (.ref w) H') : rCatA K (.ref z) (.ref t) H Q := by
  refine ⟨z, t, zs.map V.int, ns.map V.int, rfl, rfl, SqT.of hz, SqT.of ht, ?_, fun e => ?_, fun _ e => ?_, fun _ _ p hp => k p _ (same_upd hp) ?_⟩
  · rw [List.length_map, List.length_map]
    exact Nat.le_trans hl (by decide)
  · rw [List.map_eq_nil_iff] at e
    refine k t H (Same.refl H) ?_
    rw [e]
    exact ht
  · rw [List.map_eq_nil_iff] at e
    refine k z H (Same.refl H) ?_
    rw [e, List.append_nil]
    exact hz
  · rw [upd_same, List.map_append]
end My
namespace My
open PySem PySem.Spec PyProof.Rows L2
/-- those of xs that ys hasn't -/
def diffL (xs ys : List Int) : List Int := xs.filter fun z => decide (z ∉ ys)
/-- mended -/
def mendL (xs ys zs : List Int) : List Int := ((List.range 96).map fun i : Nat => 1 + (i : Int)).filter fun z => decide (z ∈ ys ∨ (z ∈ xs ∧ z ∉ zs))
theorem inV_ints (z : Int) : ∀ ns : List Int, inV (.int z) (ns.map V.int) = decide (z ∈ ns)
  | [] => by simp [inV]
  | n :: r => by
    have ih := inV_ints z r
    unfold inV at ih ⊢
    rw [List.map_cons, List.any_cons, ih]
    by_cases c : z = n
    · subst c
      simp [eqV]
    · have c' : ¬ n = z := fun e => c e.symm
      simp [eqV, c, c']
theorem flat_ints : ∀ ns : List Int, (ns.map V.int).all flatV = true
  | [] => rfl
  | n :: r => by
    rw [List.map_cons, List.all_cons, flat_ints r]
    rfl
theorem diffL_set {xs ys : List Int} (h : SetL xs) : SetL (diffL xs ys) := ⟨h.up.filter _, fun z hz => h.bd z (List.mem_filter.mp hz).1⟩
theorem mem_diffL {xs ys : List Int} {z : Int} : z ∈ diffL xs ys ↔ z ∈ xs ∧ z ∉ ys := by
  unfold diffL
  rw [List.mem_filter, decide_eq_true_eq]
theorem mem_mendL {xs ys zs : List Int} (hx : SetL xs) (hy : SetL ys) {z : Int} : z ∈ mendL xs ys zs ↔ z ∈ ys ∨ (z ∈ xs ∧ z ∉ zs) := by
  unfold mendL
  rw [List.mem_filter, mem_marks, decide_eq_true_eq]
  refine ⟨fun h => h.2, fun h => ⟨?_, h⟩⟩
  rcases h with h | h
  · exact hy.bd z h
  · exact hx.bd z h.1
theorem mendL_set (xs ys zs : List Int) : SetL (mendL xs ys zs) := ⟨marks_up.filter _, fun z hz => mem_marks.mp (List.mem_filter.mp hz).1⟩
theorem mendL_diff {xs ys : List Int} (hx : SetL xs) (hy : SetL ys) : mendL xs (diffL ys xs) (diffL xs ys) = ys := by
  refine eq_of_up _ _ (mendL_set _ _ _).up hy.up fun z => ?_
  rw [mem_mendL hx (diffL_set hy), mem_diffL, mem_diffL]
  constructor
  · rintro (h | ⟨h1, h2⟩)
    · exact h.1
    · exact Classical.byContradiction fun c => h2 ⟨h1, c⟩
  · intro h
    by_cases c : z ∈ xs
    · exact .inr ⟨c, fun w => w.2 h⟩
    · exact .inl ⟨h, c⟩
theorem notset {ms : List Int} {P : Prop} (h : SetL ms) (c : isSetB ms = false) : P := by
  rw [isSetB_iff.mpr h] at c
  cases c
end My
namespace My
open PySem PySem.Spec PyProof.Rows L2
/-- the turn of a comprehension over marks that asks «not in» -/
theorem notin_turn {K : PySem.W.Frag} {H2 : Hp} {b : Addr} {ys : List Int} {z : Int} {Q : VK} (hb : SqT K H2 b (ys.map V.int)) (q : Q (.bl (decide (z ∉ ys))) H2) : rIn K true (.int z) (.ref b) H2 Q := by
  refine ⟨b, _, rfl, .inr hb, rfl, flat_ints ys, ?_⟩
  rw [inV_ints]
  have e : (!decide (z ∈ ys)) = decide (z ∉ ys) := by by_cases c : z ∈ ys <;> simp [c]
  rw [if_pos rfl, e]
  exact q
theorem in_turn {K : PySem.W.Frag} {H2 : Hp} {b : Addr} {ys : List Int} {z : Int} {Q : VK} (hb : SqT K H2 b (ys.map V.int)) (q : Q (.bl (decide (z ∈ ys))) H2) : rIn K false (.int z) (.ref b) H2 Q := by
  refine ⟨b, _, rfl, .inr hb, rfl, flat_ints ys, ?_⟩
  rw [inV_ints]
  exact q
def sp_without (K : PySem.W.Frag) : Sp := fun vs H Q _ => ∃ (a b : Addr) (xs ys : List Int), vs = [.ref a, .ref b] ∧ SqT K H a (xs.map V.int) ∧ SqT K H b (ys.map V.int) ∧ xs.length ≤ 1000 ∧ ∀ t H', Same H H' → H t = none → H' t = some (.tup ((diffL xs ys).map V.int)) → Q (.ref t) H'
def sp_apart (K : PySem.W.Frag) (C : Addr) : Sp := fun vs H Q E => ∃ (a b : Addr) (xs ys : List Int), vs = [.ref a, .ref b] ∧ SqT K H a (xs.map V.int) ∧ SqT K H b (ys.map V.int) ∧ (isSetB xs = false ∨ isSetB ys = false → E (.ref C) none H) ∧
  (isSetB xs = true → isSetB ys = true → ∀ t t1 t2 H', Same H H' → H t = none → H' t = some (.tup [.ref t1, .ref t2]) → H' t1 = some (.tup ((diffL ys xs).map V.int)) → H' t2 = some (.tup ((diffL xs ys).map V.int)) → Q (.ref t) H')
def sp_mended (K : PySem.W.Frag) (C : Addr) : Sp := fun vs H Q E => ∃ (a b c : Addr) (xs ys zs : List Int), vs = [.ref a, .ref b, .ref c] ∧ SqT K H a (xs.map V.int) ∧ SqT K H b (ys.map V.int) ∧ SqT K H c (zs.map V.int) ∧ (isSetB xs = false ∨ isSetB ys = false ∨ isSetB zs = false → E (.ref C) none H) ∧
  (isSetB xs = true → isSetB ys = true → isSetB zs = true → ∀ t H', Same H H' → H t = none → H' t = some (.tup ((mendL xs ys zs).map V.int)) → Q (.ref t) H')
end My
namespace Ms
/-! ### Newton's recurrence, off the wheel -/
def sm (f : Nat → Int) : Nat → Int
  | 0 => 0
  | n + 1 => sm f n + f n
theorem sm_congr {f g : Nat → Int} : ∀ {n : Nat}, (∀ i, i < n → f i = g i) → sm f n = sm g n
  | 0, _ => rfl
  | n + 1, h => by
    show sm f n + f n = sm g n + g n
    rw [sm_congr fun i hi => h i (Nat.lt_succ_of_lt hi), h n (Nat.lt_succ_self n)]
theorem sm_add (f g : Nat → Int) : ∀ n, sm (fun i => f i + g i) n = sm f n + sm g n
  | 0 => rfl
  | n + 1 => by
    show sm (fun i => f i + g i) n + (f n + g n) = sm f n + f n + (sm g n + g n)
    rw [sm_add f g n]
    omega
theorem sm_mul (c : Int) (f : Nat → Int) : ∀ n, sm (fun i => c * f i) n = c * sm f n
  | 0 => (Int.mul_zero c).symm
  | n + 1 => by
    show sm (fun i => c * f i) n + c * f n = c * (sm f n + f n)
    rw [sm_mul c f n, Int.mul_add]
theorem sm_first (f : Nat → Int) : ∀ n, sm f (n + 1) = f 0 + sm (fun i => f (i + 1)) n
  | 0 => by
    show 0 + f 0 = f 0 + 0
    omega
  | n + 1 => by
    show sm f (n + 1) + f (n + 1) = f 0 + (sm (fun i => f (i + 1)) n + f (n + 1))
    rw [sm_first f n]
    omega
theorem sm_zero {f : Nat → Int} : ∀ {n : Nat}, (∀ i, i < n → f i = 0) → sm f n = 0
  | 0, _ => rfl
  | n + 1, h => by
    show sm f n + f n = 0
    rw [sm_zero fun i hi => h i (Nat.lt_succ_of_lt hi), h n (Nat.lt_succ_self n)]
    rfl
theorem sm_mod {f g : Nat → Int} : ∀ {n : Nat}, (∀ i, i < n → f i % 97 = g i % 97) → sm f n % 97 = sm g n % 97
  | 0, _ => rfl
  | n + 1, h => by
    have ih := sm_mod (n := n) fun i hi => h i (Nat.lt_succ_of_lt hi)
    have hn := h n (Nat.lt_succ_self n)
    show (sm f n + f n) % 97 = (sm g n + g n) % 97
    omega
/-- sum of s (j) times f (k - j), j from 1 to k -/
def cv (s f : Nat → Int) (k : Nat) : Int := sm (fun i => s (i + 1) * f (k - 1 - i)) k
def NW (f s : Nat → Int) : Prop := ∀ k : Nat, (k : Int) * f k + cv s f k = 0
def bk (f : Nat → Int) : Nat → Int
  | 0 => 0
  | k + 1 => f k
def st (f : Nat → Int) (z : Int) : Nat → Int := fun k => f k - z * bk f k
theorem NW_st {f s : Nat → Int} (h : NW f s) (z : Int) : NW (st f z) (fun i => s i + z ^ i) := by
  intro k
  cases k with
  | zero =>
    show (0 : Int) * _ + 0 = 0
    rw [Int.zero_mul]
    rfl
  | succ K =>
    have h1 : ((K : Int) + 1) * f (K + 1) + cv s f (K + 1) = 0 := h (K + 1)
    have h2 : (K : Int) * f K + cv s f K = 0 := h K
    have e : cv (fun i => s i + z ^ i) (st f z) (K + 1) = cv s f (K + 1) - z * sm (fun i => s (i + 1) * bk f (K - i)) (K + 1) + (sm (fun i => z ^ (i + 1) * f (K - i)) (K + 1) - z * sm (fun i => z ^ (i + 1) * bk f (K - i)) (K + 1)) := by
      unfold cv
      rw [← sm_mul, ← sm_mul]
      have e1 : ∀ (a b : Nat → Int) n, sm a n - sm b n = sm (fun i => a i - b i) n := by
        intro a b n
        induction n with
        | zero => rfl
        | succ n ih =>
          show sm a n + a n - (sm b n + b n) = sm (fun i => a i - b i) n + (a n - b n)
          rw [← ih]
          omega
      rw [e1, e1, ← sm_add]
      refine sm_congr fun i _ => ?_
      show (s (i + 1) + z ^ (i + 1)) * (f (K + 1 - 1 - i) - z * bk f (K + 1 - 1 - i)) = _
      rw [Nat.add_sub_cancel]
      grind
    have t2 : sm (fun i => s (i + 1) * bk f (K - i)) (K + 1) = cv s f K := by
      show sm (fun i => s (i + 1) * bk f (K - i)) K + s (K + 1) * bk f (K - K) = _
      rw [Nat.sub_self]
      show _ + s (K + 1) * 0 = _
      rw [Int.mul_zero, Int.add_zero]
      refine sm_congr fun i hi => ?_
      show s (i + 1) * bk f (K - i) = s (i + 1) * f (K - 1 - i)
      rw [show K - i = (K - 1 - i) + 1 by omega]
      rfl
    have t4 : sm (fun i => z ^ (i + 1) * bk f (K - i)) (K + 1) = sm (fun i => z ^ (i + 1) * f (K - 1 - i)) K := by
      show sm (fun i => z ^ (i + 1) * bk f (K - i)) K + z ^ (K + 1) * bk f (K - K) = _
      rw [Nat.sub_self]
      show _ + z ^ (K + 1) * 0 = _
      rw [Int.mul_zero, Int.add_zero]
      refine sm_congr fun i hi => ?_
      rw [show K - i = (K - 1 - i) + 1 by omega]
      rfl
    have t3 : sm (fun i => z ^ (i + 1) * f (K - i)) (K + 1) = z * f K + z * sm (fun i => z ^ (i + 1) * f (K - 1 - i)) K := by
      rw [sm_first, ← sm_mul]
      congr 1
      · show z ^ 1 * f K = _
        rw [Int.pow_succ, Int.pow_zero, Int.one_mul]
      · refine sm_congr fun i hi => ?_
        rw [show K - (i + 1) = K - 1 - i by omega, Int.pow_succ]
        grind
    show ((K + 1 : Nat) : Int) * (f (K + 1) - z * f K) + _ = 0
    rw [e, t2, t3, t4]
    have e3 : ((K + 1 : Nat) : Int) = (K : Int) + 1 := by omega
    rw [e3]
    grind
def dl : Nat → Int
  | 0 => 1
  | _ + 1 => 0
theorem NW_dl : NW dl (fun _ => 0) := by
  intro k
  have e : cv (fun _ => 0) dl k = 0 := sm_zero fun i _ => Int.zero_mul _
  rw [e]
  cases k with
  | zero => rfl
  | succ k =>
    show _ * 0 + 0 = (0 : Int)
    rw [Int.mul_zero]
    rfl
/-- the sum of the powers -/
def ps : List Int → Nat → Int
  | [], _ => 0
  | z :: r, i => z ^ i + ps r i
theorem ps_append (a b : List Int) (i : Nat) : ps (a ++ b) i = ps a i + ps b i := by
  induction a with
  | nil => show ps b i = 0 + ps b i; omega
  | cons z r ih =>
    show z ^ i + ps (r ++ b) i = z ^ i + ps r i + ps b i
    rw [ih]
    omega
theorem ps_filter (p : Int → Bool) (l : List Int) (i : Nat) : ps l i = ps (l.filter p) i + ps (l.filter fun z => !p z) i := by
  induction l with
  | nil => rfl
  | cons z r ih =>
    rw [List.filter_cons, List.filter_cons]
    cases c : p z with
    | true =>
      rw [if_pos rfl, if_neg (by decide)]
      show z ^ i + ps r i = z ^ i + ps (r.filter p) i + _
      rw [ih]
      omega
    | false =>
      rw [if_neg (by decide), if_pos (by decide)]
      show z ^ i + ps r i = _ + (z ^ i + ps (r.filter fun z => !p z) i)
      rw [ih]
      omega
/-- the row of a set, off the wheel -/
def EG (f : Nat → Int) (ms : List Int) : Nat → Int := ms.foldl st f
def E (ms : List Int) : Nat → Int := EG dl ms
theorem NW_EG : ∀ (ms : List Int) (f s : Nat → Int), NW f s → NW (EG f ms) (fun i => s i + ps ms i)
  | [], f, s, h => by
    have e : (fun i => s i + ps [] i) = s := funext fun i => Int.add_zero _
    rw [e]
    exact h
  | z :: r, f, s, h => by
    have h' := NW_EG r (st f z) _ (NW_st h z)
    have e : (fun i => s i + ps (z :: r) i) = (fun i => s i + z ^ i + ps r i) := funext fun i => (Int.add_assoc _ _ _).symm
    rw [e]
    exact h'
theorem NW_E (ms : List Int) : NW (E ms) (ps ms) := by
  have h := NW_EG ms dl _ NW_dl
  have e : (fun i => (0 : Int) + ps ms i) = ps ms := funext fun i => Int.zero_add _
  rw [e] at h
  exact h
theorem EG_deg : ∀ (ms : List Int) (f : Nat → Int) (d : Nat), (∀ k, d < k → f k = 0) → ∀ k, d + ms.length < k → EG f ms k = 0
  | [], f, d, h, k, hk => h k hk
  | z :: r, f, d, h, k, hk => by
    refine EG_deg r (st f z) (d + 1) (fun j hj => ?_) k (by rw [List.length_cons] at hk; omega)
    show f j - z * bk f j = 0
    rw [h j (by omega)]
    obtain ⟨i, rfl⟩ : ∃ i, j = i + 1 := ⟨j - 1, by omega⟩
    show 0 - z * f i = 0
    rw [h i (by omega), Int.mul_zero]
    rfl
theorem E_deg {ms : List Int} {k : Nat} (h : ms.length < k) : E ms k = 0 := EG_deg ms dl 0 (fun k hk => by obtain ⟨i, rfl⟩ : ∃ i, k = i + 1 := ⟨k - 1, by omega⟩; rfl) k (by omega)
theorem EG_zero : ∀ (ms : List Int) (f : Nat → Int), EG f ms 0 = f 0
  | [], _ => rfl
  | z :: r, f => by
    show EG (st f z) r 0 = f 0
    rw [EG_zero r]
    show f 0 - z * 0 = f 0
    rw [Int.mul_zero, Int.sub_zero]
theorem E_zero (ms : List Int) : E ms 0 = 1 := EG_zero ms dl
/-- on the wheel the sums tell the row, as far as k has an inverse -/
theorem cancel97 (hp : ∀ a b : Int, a * b % 97 = 0 → a % 97 = 0 ∨ b % 97 = 0) {k : Nat} (h0 : 1 ≤ k) (h1 : k ≤ 96) {a b : Int} (h : (k : Int) * a % 97 = (k : Int) * b % 97) : a % 97 = b % 97 := by
  have e : (k : Int) * (a - b) % 97 = 0 := by
    rw [Int.mul_sub]
    omega
  rcases hp _ _ e with e | e
  · omega
  · omega
theorem uniq (hp : ∀ a b : Int, a * b % 97 = 0 → a % 97 = 0 ∨ b % 97 = 0) {f g s t : Nat → Int} {m : Nat} (hm : m ≤ 96) (hf : ∀ k : Nat, k ≤ m → ((k : Int) * f k + cv s f k) % 97 = 0) (hg : ∀ k : Nat, k ≤ m → ((k : Int) * g k + cv t g k) % 97 = 0)
    (h0 : f 0 % 97 = g 0 % 97) (hs : ∀ i, 1 ≤ i → i ≤ m → s i % 97 = t i % 97) : ∀ k, k ≤ m → f k % 97 = g k % 97 := by
  intro k
  induction k using Nat.strongRecOn with
  | ind k ih =>
    intro hk
    cases k with
    | zero => exact h0
    | succ K =>
      have e : cv s f (K + 1) % 97 = cv t g (K + 1) % 97 := by
        refine sm_mod fun i hi => ?_
        show s (i + 1) * f (K + 1 - 1 - i) % 97 = t (i + 1) * g (K + 1 - 1 - i) % 97
        rw [Int.mul_emod, hs (i + 1) (by omega) (by omega), ih (K + 1 - 1 - i) (by omega) (by omega), ← Int.mul_emod]
      have e1 := hf (K + 1) hk
      have e2 := hg (K + 1) hk
      exact cancel97 hp (k := K + 1) (by omega) (by omega) (by omega)
end Ms
namespace Ms
/-! ### rows multiplied -/
def sh (a : Nat → Int) : Nat → Int := fun i => a (i + 1)
def cvl : (Nat → Int) → (Nat → Int) → Nat → Int
  | a, c, 0 => a 0 * c 0
  | a, c, k + 1 => a 0 * c (k + 1) + cvl (sh a) c k
theorem cvl_sm (a c : Nat → Int) : ∀ k, cvl a c k = sm (fun i => a i * c (k - i)) (k + 1)
  | 0 => (Int.zero_add _).symm
  | k + 1 => by
    rw [sm_first]
    show a 0 * c (k + 1) + cvl (sh a) c k = a 0 * c (k + 1 - 0) + _
    rw [cvl_sm (sh a) c k]
    congr 1
    refine sm_congr fun i _ => ?_
    show a (i + 1) * c (k - i) = a (i + 1) * c (k + 1 - (i + 1))
    rw [Nat.add_sub_add_right]
theorem cvl_congr {a b c d : Nat → Int} (k : Nat) (h1 : ∀ i, i ≤ k → a i = b i) (h2 : ∀ i, i ≤ k → c i = d i) : cvl a c k = cvl b d k := by
  rw [cvl_sm, cvl_sm]
  exact sm_congr fun i hi => by rw [h1 i (by omega), h2 (k - i) (by omega)]
theorem cvl_addL (a b c : Nat → Int) : ∀ k, cvl (fun i => a i + b i) c k = cvl a c k + cvl b c k := fun k => by
  rw [cvl_sm, cvl_sm, cvl_sm, ← sm_add]
  exact sm_congr fun i _ => Int.add_mul _ _ _
theorem cvl_addR (a c d : Nat → Int) : ∀ k, cvl a (fun i => c i + d i) k = cvl a c k + cvl a d k := fun k => by
  rw [cvl_sm, cvl_sm, cvl_sm, ← sm_add]
  exact sm_congr fun i _ => Int.mul_add _ _ _
theorem cvl_mulL (x : Int) (a c : Nat → Int) : ∀ k, cvl (fun i => x * a i) c k = x * cvl a c k := fun k => by
  rw [cvl_sm, cvl_sm, ← sm_mul]
  exact sm_congr fun i _ => Int.mul_assoc _ _ _
theorem cvl_assoc (b c : Nat → Int) : ∀ (k : Nat) (a : Nat → Int), cvl (cvl a b) c k = cvl a (cvl b c) k
  | 0, a => Int.mul_assoc _ _ _
  | k + 1, a => by
    show cvl a b 0 * c (k + 1) + cvl (sh (cvl a b)) c k = a 0 * cvl b c (k + 1) + cvl (sh a) (cvl b c) k
    have e : sh (cvl a b) = fun i => a 0 * sh b i + cvl (sh a) b i := funext fun i => rfl
    rw [e, cvl_addL, cvl_mulL, cvl_assoc b c k (sh a)]
    show a 0 * b 0 * c (k + 1) + (a 0 * cvl (sh b) c k + cvl (sh a) (cvl b c) k) = a 0 * (b 0 * c (k + 1) + cvl (sh b) c k) + cvl (sh a) (cvl b c) k
    grind
theorem cvl_right (c : Nat → Int) : ∀ (k : Nat) (a : Nat → Int), cvl a c (k + 1) = cvl a (sh c) k + a (k + 1) * c 0
  | 0, a => rfl
  | k + 1, a => by
    show a 0 * c (k + 2) + cvl (sh a) c (k + 1) = a 0 * sh c (k + 1) + cvl (sh a) (sh c) k + a (k + 2) * c 0
    rw [cvl_right c k (sh a)]
    show a 0 * c (k + 2) + (cvl (sh a) (sh c) k + a (k + 2) * c 0) = a 0 * c (k + 2) + cvl (sh a) (sh c) k + a (k + 2) * c 0
    omega
theorem cvl_comm : ∀ (k : Nat) (a c : Nat → Int), cvl a c k = cvl c a k
  | 0, a, c => Int.mul_comm _ _
  | k + 1, a, c => by
    rw [cvl_right a k c]
    show a 0 * c (k + 1) + cvl (sh a) c k = cvl c (sh a) k + c (k + 1) * a 0
    rw [cvl_comm k (sh a) c, Int.mul_comm (c (k + 1))]
    omega
def dv (a : Nat → Int) : Nat → Int := fun k => (k : Int) * a k
theorem dv_cvl (c : Nat → Int) : ∀ (k : Nat) (a : Nat → Int), (k : Int) * cvl a c k = cvl (dv a) c k + cvl a (dv c) k
  | 0, a => by
    show (0 : Int) * _ = (0 : Int) * a 0 * c 0 + a 0 * ((0 : Int) * c 0)
    grind
  | k + 1, a => by
    have ih := dv_cvl c k (sh a)
    have e : sh (dv a) = fun i => dv (sh a) i + sh a i := funext fun i => by
      show ((i + 1 : Nat) : Int) * a (i + 1) = (i : Int) * a (i + 1) + a (i + 1)
      have : ((i + 1 : Nat) : Int) = (i : Int) + 1 := by omega
      rw [this]
      grind
    show ((k + 1 : Nat) : Int) * (a 0 * c (k + 1) + cvl (sh a) c k) = ((0 : Nat) : Int) * a 0 * c (k + 1) + cvl (sh (dv a)) c k + (a 0 * (((k + 1 : Nat) : Int) * c (k + 1)) + cvl (sh a) (dv c) k)
    rw [e, cvl_addL]
    have e2 : ((k + 1 : Nat) : Int) = (k : Int) + 1 := by omega
    rw [e2]
    have e3 : ((0 : Nat) : Int) = 0 := rfl
    rw [e3]
    grind
/-- the sums from the first on -/
def zs (s : Nat → Int) : Nat → Int
  | 0 => 0
  | i + 1 => s (i + 1)
theorem cv_cvl (s f : Nat → Int) : ∀ k, cv s f k = cvl (zs s) f k
  | 0 => (Int.zero_mul _).symm
  | k + 1 => by
    show cv s f (k + 1) = 0 * f (k + 1) + cvl (sh (zs s)) f k
    rw [Int.zero_mul, Int.zero_add, cvl_sm]
    refine sm_congr fun i _ => ?_
    show s (i + 1) * f (k + 1 - 1 - i) = s (i + 1) * f (k - i)
    rw [Nat.add_sub_cancel]
/-- how far a row is from keeping Newton's recurrence -/
def rs (f s : Nat → Int) : Nat → Int := fun k => (k : Int) * f k + cv s f k
theorem rs_cvl (a c s t : Nat → Int) (k : Nat) : rs (cvl a c) (fun i => s i + t i) k = cvl (rs a s) c k + cvl a (rs c t) k := by
  have e1 : zs (fun i => s i + t i) = fun i => zs s i + zs t i := funext fun i => by
    cases i with
    | zero => rfl
    | succ i => rfl
  have e2 : rs a s = fun i => dv a i + cvl (zs s) a i := funext fun i => by
    show (i : Int) * a i + cv s a i = _
    rw [cv_cvl]
    rfl
  have e3 : rs c t = fun i => dv c i + cvl (zs t) c i := funext fun i => by
    show (i : Int) * c i + cv t c i = _
    rw [cv_cvl]
    rfl
  show (k : Int) * cvl a c k + cv _ (cvl a c) k = _
  rw [cv_cvl, e1, e2, e3, cvl_addL, cvl_addL, cvl_addR, dv_cvl, cvl_assoc a c k (zs s)]
  have e4 : cvl (zs t) (cvl a c) k = cvl a (cvl (zs t) c) k := by
    rw [← cvl_assoc a c k (zs t), ← cvl_assoc (zs t) c k a]
    exact cvl_congr k (fun i _ => cvl_comm i _ _) fun _ _ => rfl
  rw [e4]
  omega
theorem cvl_mod {a b c d : Nat → Int} (k : Nat) (h1 : ∀ i, i ≤ k → a i % 97 = b i % 97) (h2 : ∀ i, i ≤ k → c i % 97 = d i % 97) : cvl a c k % 97 = cvl b d k % 97 := by
  rw [cvl_sm, cvl_sm]
  exact sm_mod fun i hi => by rw [Int.mul_emod, h1 i (by omega), h2 (k - i) (by omega), ← Int.mul_emod]
theorem cvl_zeroL (c : Nat → Int) (k : Nat) : cvl (fun _ => 0) c k = 0 := by
  rw [cvl_sm]
  exact sm_zero fun _ _ => Int.zero_mul _
theorem cvl_zeroR (a : Nat → Int) (k : Nat) : cvl a (fun _ => 0) k = 0 := by
  rw [cvl_sm]
  exact sm_zero fun _ _ => Int.mul_zero _
/-- the row by the differences of the sums, multiplied by the one's row, begins as the other's -/
theorem quotient (hp : ∀ a b : Int, a * b % 97 = 0 → a % 97 = 0 ∨ b % 97 = 0) {A B : List Int} {c t : Nat → Int} {m : Nat} (hm : m ≤ 96) (h0 : c 0 % 97 = 1) (hc : ∀ k, k ≤ m → rs c t k % 97 = 0) (ht : ∀ i, 1 ≤ i → i ≤ m → (ps A i + t i) % 97 = ps B i % 97) :
    ∀ k, k ≤ m → cvl (E A) c k % 97 = E B k % 97 := by
  refine uniq hp hm (f := cvl (E A) c) (g := E B) (s := fun i => ps A i + t i) (t := ps B) (fun k hk => ?_) (fun k _ => by rw [NW_E B k]; rfl) ?_ ht
  · show rs (cvl (E A) c) (fun i => ps A i + t i) k % 97 = 0
    rw [rs_cvl]
    have e1 : cvl (rs (E A) (ps A)) c k = 0 := by
      rw [show rs (E A) (ps A) = fun _ => 0 from funext fun i => NW_E A i]
      exact cvl_zeroL c k
    have e2 : cvl (E A) (rs c t) k % 97 = cvl (E A) (fun _ => 0) k % 97 := cvl_mod k (fun _ _ => rfl) fun i hi => hc i (by omega)
    rw [cvl_zeroR] at e2
    omega
  · show E A 0 * c 0 % 97 = E B 0 % 97
    rw [E_zero, E_zero, Int.one_mul, h0]
    rfl
end Ms
namespace My
open PySem PySem.Spec PyProof.Rows L2
/-- a comprehension over any walk, without ifs, without drawing: item i is F i -/
theorem lc_F {J : It} {n : Nat} {G : Hp → Prop} {Y : Nat → Hp → V → Hp → Prop} (w : Walk J n G Y) {te : TE} {g : TG} {vs : List Nat} {σ : L2.St} {H1 : Hp} {D : Addr} {Qd : Hp → Prop} (F : Nat → V) (hz : n ≤ 10000) (hD : H1 D = none) (hG : ∀ H, Same H1 H → G H)
    (ht : ∀ i x H H', i < n → Same H1 H → Y i H x H' → ∀ Q : VK, (∀ H3, Same H H3 → Q (F i) H3) → g x (wipe σ vs) H' fun σ2 H2 => wipe σ2 vs = wipe σ vs ∧ te σ2 H2 Q)
    (k : ∀ H', Same H1 H' → H' D = some (.lst ((List.range n).map F)) → Qd H') :
    ∃ W : Nat → Nat → Hp → Prop, (∃ m, W 0 m (upd H1 D (.lst []))) ∧ ∀ i m H, W i m H →
      (J.stop i H ∧ Qd H) ∨ (J.go i H ∧ ∃ Nx : Hp → Prop, (∀ H', Nx H' → ∃ m', m' < m ∧ W (i + 1) m' H') ∧ ∀ x H', J.yld i H x H' → g x (wipe σ vs) H' fun σ2 H2 => wipe σ2 vs = wipe σ vs ∧ tYes σ2 H2 fun b H3 =>
        if b = true then te σ2 H3 fun y H4 => ∃ acc, H4 D = some (.lst acc) ∧ acc.length < sizeLine ∧ Nx (upd H4 D (.lst (acc ++ [y]))) else Nx H3) := by
  refine lc_it w (fun i H' => Same H1 H' ∧ H' D = some (.lst ((List.range i).map F))) ⟨same_upd hD, upd_same⟩ (fun i H _ p => hG H p.1) ?_ ?_
  · rintro i x H H' hi ⟨sm, hd⟩ y
    refine ht i x H H' hi sm y _ fun H3 s3 => ?_
    refine ⟨_, s3 _ _ hd, ?_, (sm.trans s3).mut hD, ?_⟩
    · rw [List.length_map, List.length_range]
      exact Nat.lt_of_lt_of_le (by omega : i < 10001) (by decide)
    · rw [upd_same, List.range_succ, List.map_append]
      rfl
  · rintro H' ⟨sm, hd⟩
    exact k H' sm hd
/-- the same with an if: items i of which f i holds -/
theorem lc_FT {J : It} {n : Nat} {G : Hp → Prop} {Y : Nat → Hp → V → Hp → Prop} (w : Walk J n G Y) {tt : TT} {te : TE} {g : TG} {vs : List Nat} {σ : L2.St} {H1 : Hp} {D : Addr} {Qd : Hp → Prop} (f : Nat → Bool) (F : Nat → V) (hz : n ≤ 10000) (hD : H1 D = none) (hG : ∀ H, Same H1 H → G H)
    (ht : ∀ i x H H', i < n → Same H1 H → Y i H x H' → ∀ Q : L2.St → Bool → Hp → Prop, (∀ σ2 H3, Same H H3 → (f i = true → ∀ Q2 : VK, (∀ H4, Same H3 H4 → Q2 (F i) H4) → te σ2 H3 Q2) → Q σ2 (f i) H3) → g x (wipe σ vs) H' fun σ2 H2 => wipe σ2 vs = wipe σ vs ∧ tt σ2 H2 (Q σ2))
    (k : ∀ H', Same H1 H' → H' D = some (.lst (((List.range n).filter f).map F)) → Qd H') :
    ∃ W : Nat → Nat → Hp → Prop, (∃ m, W 0 m (upd H1 D (.lst []))) ∧ ∀ i m H, W i m H →
      (J.stop i H ∧ Qd H) ∨ (J.go i H ∧ ∃ Nx : Hp → Prop, (∀ H', Nx H' → ∃ m', m' < m ∧ W (i + 1) m' H') ∧ ∀ x H', J.yld i H x H' → g x (wipe σ vs) H' fun σ2 H2 => wipe σ2 vs = wipe σ vs ∧ tt σ2 H2 fun b H3 =>
        if b = true then te σ2 H3 fun y H4 => ∃ acc, H4 D = some (.lst acc) ∧ acc.length < sizeLine ∧ Nx (upd H4 D (.lst (acc ++ [y]))) else Nx H3) := by
  refine lc_it w (fun i H' => Same H1 H' ∧ H' D = some (.lst (((List.range i).filter f).map F))) ⟨same_upd hD, upd_same⟩ (fun i H _ p => hG H p.1) ?_ ?_
  · rintro i x H H' hi ⟨sm, hd⟩ y
    refine ht i x H H' hi sm y _ fun σ2 H3 s3 he => ?_
    have hd3 := s3 _ _ hd
    have er : (List.range (i + 1)).filter f = (List.range i).filter f ++ (if f i = true then [i] else []) := by
      rw [List.range_succ, List.filter_append, List.filter_cons]
      rfl
    by_cases c : f i = true
    · rw [if_pos c] at er ⊢
      refine he c _ fun H4 s4 => ⟨_, s4 _ _ hd3, ?_, (sm.trans (s3.trans s4)).mut hD, ?_⟩
      · rw [List.length_map]
        refine Nat.lt_of_le_of_lt (List.length_filter_le _ _) ?_
        rw [List.length_range]
        exact Nat.lt_of_lt_of_le (by omega : i < 10001) (by decide)
      · rw [upd_same, er, List.map_append]
        rfl
    · rw [if_neg c] at er ⊢
      refine ⟨sm.trans s3, ?_⟩
      rw [hd3, er, List.append_nil]
  · rintro H' ⟨sm, hd⟩
    exact k H' sm hd
end My
namespace Mz
open PySem PySem.Spec PyProof.Rows L2
/-! ### zip of a list or a tuple with a list or a tuple -/
/-- a list (true) or a tuple (false) -/
def Sq (K : PySem.W.Frag) (H : Hp) : Bool → Addr → List V → Prop
  | true => SqL K H
  | false => SqT K H
def Wk (h : Heap) : Bool → Addr → Addr → Nat → Prop
  | true => fun it l i => h.IsListIter it l i
  | false => fun it l i => h.IsTupleIter it l i
def Im (h : Heap) : Bool → Addr → Array Value → Prop
  | true => fun l m => h.IsList l m
  | false => fun l m => h.IsTuple l m
theorem drw {P : Program} {w : World} {A : Around} (hh : A.handled = none) {it l : Addr} (ne : l ≠ it) (m : Array Value) : ∀ p : Bool, Draws P w A it [it, l] m.size (fun i v => m[i]? = some v) (fun i h => Wk h p it l i ∧ Im h p l m)
  | true => Draws.list hh it l ne m
  | false => Draws.tuple hh it l ne m
theorem Wk.live {h : Heap} {p : Bool} {it l : Addr} {i : Nat} (x : Wk h p it l i) : ∃ o, h.get? it = some o ∧ ∀ v, o.data ≠ .cell v := by
  cases p with
  | false =>
    obtain ⟨o, e, _, d⟩ := x
    exact ⟨o, e, fun v z => by rw [d] at z; exact nomatch z⟩
  | true =>
    obtain ⟨o, e, _, d⟩ := x
    exact ⟨o, e, fun v z => by rw [d] at z; exact nomatch z⟩
theorem Wk.on {h h' : Heap} {p : Bool} {it l : Addr} {i : Nat} (x : Wk h p it l i) (k : ∀ o, h.get? it = some o → h'.get? it = some o) : Wk h' p it l i := by
  cases p with
  | false => exact Heap.IsTupleIter.at x k
  | true => exact Heap.IsListIter.at x k
theorem stands {X : Cx} {pins : List (Addr × Obj)} {σ : L2.St} {H : Hp} {s : Shared} {a : Addr} {xs : List V} (I : Inv X pins σ H s) {p : Bool} (h : Sq X.K H p a xs) : ∃ its, Vals xs its ∧ Im s.heap p a its.toArray ∧ a < s.heap.objs.size := by
  cases p with
  | false =>
    obtain ⟨its, rv, q, _⟩ := I.tuple h
    obtain ⟨o, ho, _⟩ := id q
    exact ⟨its, rv, q, Heap.lt_size ho⟩
  | true =>
    obtain ⟨its, rv, q, _⟩ := I.list h
    exact ⟨its, rv, q.isList, q.lt⟩
theorem one {X : Cx} {pins : List (Addr × Obj)} {σ : L2.St} {H : Hp} {s : Shared} {a : Addr} {xs ys : List V} (I : Inv X pins σ H s) {p : Bool} (h : Sq X.K H p a xs) (h' : Sq X.K H p a ys) : xs = ys := by
  cases p with
  | false => exact I.tuple_inj h h'
  | true => exact I.list_inj h h'
/-- both as they stand at each turn, the items in new pairs -/
def It2 (K : PySem.W.Frag) (p q : Bool) (a b : Addr) : It where
  go i H := ∃ (xs ys : List V) (x y : V), (Sq K H p a xs ∧ Sq K H q b ys) ∧ xs[i]? = some x ∧ ys[i]? = some y
  yld i H v H' := ∃ (T : Addr) (x y : V), v = .ref T ∧ H T = none ∧ H' = upd H T (.tup [x, y]) ∧ (∀ xs, Sq K H p a xs → xs[i]? = some x) ∧ ∀ ys, Sq K H q b ys → ys[i]? = some y
  stop i H := ∃ xs ys : List V, (Sq K H p a xs ∧ Sq K H q b ys) ∧ i ≤ xs.length ∧ i ≤ ys.length ∧ (i = xs.length ∨ i = ys.length)
theorem turn2 {P : Program} {w : World} {K : PySem.W.Frag} {es : List Expr} {k : Nat} {tp : Pos} {a b z U O j1 j2 : Addr} {p q : Bool} (S : ZipSep2 z U O j1 j2 [j1, a] [j2, b]) (n1 : a ≠ j1) (n2 : b ≠ j2) :
    Turn P w K (.Tuple es k tp) (It2 K p q a b) [z, U, O, j1, j2] z (fun i h => (IsZip h z U O .none ∧ IsTupOf2 h U (.ref j1) (.ref j2) ∧ ∃ x y, IsTupOf2 h O x y) ∧ Wk h p j1 a i ∧ Wk h q j2 b i) where
  mem := List.mem_cons_self
  obj := by
    rintro i h ⟨⟨f1, f2, x, y, f3⟩, f4, f5⟩ c hc
    rcases (by simpa using hc : c = z ∨ c = U ∨ c = O ∨ c = j1 ∨ c = j2) with e | e | e | e | e <;> subst e
    · exact ⟨_, f1, (fun _ y => nomatch y)⟩
    · exact ⟨_, f2, (fun _ y => nomatch y)⟩
    · exact ⟨_, f3, (fun _ y => nomatch y)⟩
    · exact f4.live
    · exact f5.live
  keep := by
    rintro i h h' ⟨⟨f1, f2, x, y, f3⟩, f4, f5⟩ kk
    exact ⟨⟨kk _ (by simp) _ f1, kk _ (by simp) _ f2, x, y, kk _ (by simp) _ f3⟩, f4.on (kk _ (by simp)), f5.on (kk _ (by simp))⟩
  item := by
    rintro X rfl rfl rfl calm i pins s σ H E I fr ⟨⟨f1, f2, x0, y0, f3⟩, f4, f5⟩ ⟨xs, ys, x, y, ⟨g1, g2⟩, gx, gy⟩
    obtain ⟨m1, r1, p1, _⟩ := stands I g1
    obtain ⟨m2, r2, p2, _⟩ := stands I g2
    obtain ⟨u1, k1, t1⟩ := r1.get gx
    obtain ⟨u2, k2, t2⟩ := r2.get gy
    have c1 : i < m1.toArray.size := by
      rw [List.size_toArray]
      exact (List.getElem?_eq_some_iff.mp k1).1
    have c2 : i < m2.toArray.size := by
      rw [List.size_toArray]
      exact (List.getElem?_eq_some_iff.mp k2).1
    have zl : z < s.heap.objs.size := Heap.lt_size f1
    refine wpAny_pyNext_zipD2_item S (drw (A := X.A.in1) (show X.A.in1.handled = none from I.ok.hd calm) n1 m1.toArray p) (drw (A := X.A.in1) (show X.A.in1.handled = none from I.ok.hd calm) n2 m2.toArray q) f1 f2 f3 ⟨f4, p1⟩ ⟨f5, p2⟩ c1 c2 fun v1 v2 h1 tk w1 w2 z1 O1 s1 s2 T1 _ kk => ?_
    have e1 : v1 = u1 := by
      rw [show m1.toArray[i]? = m1[i]? by simp, k1] at w1
      exact (Option.some.inj w1).symm
    have e2 : v2 = u2 := by
      rw [show m2.toArray[i]? = m2[i]? by simp, k2] at w2
      exact (Option.some.inj w2).symm
    subst e1 e2
    refine ⟨_, rfl, wpAny_letOwnedTupleGo_zip (s := { s with heap := h1, toks := tk }) z1 fun h2 z2 sb => ?_⟩
    have T2 := (sb.2 _ (Nat.ne_of_gt zl)).trans T1
    have nw : ObjOk X.prog X.w (upd H s.heap.objs.size (.tup [x, y])) h2 s.heap.objs.size (.tup [x, y]) := ⟨by show 2 ≤ sizeLine; decide, [v1, v2], .cons t1 (.cons t2 .nil), _, T2, rfl, _, rfl⟩
    have fz : ∀ c ∈ [z, U, O, j1, j2], c < s.heap.objs.size := fun c hc => by
      rcases (by simpa using hc : c = z ∨ c = U ∨ c = O ∨ c = j1 ∨ c = j2) with e | e | e | e | e <;> subst e
      · exact zl
      · exact Heap.lt_size f2
      · exact Heap.lt_size f3
      · exact Heap.lt_size f4.live.choose_spec.1
      · exact Heap.lt_size f5.live.choose_spec.1
    have J := I.turnedNew (t' := tk) (ch := [z, U, O, j1, j2]) (fun c o hc e => (sb.2 c fun ez => hc (by rw [ez]; simp)).trans (kk c o (fun ez => hc (by rw [ez]; simp)) (fun ez => hc (by rw [ez]; simp)) (fun ez => hc (by rw [ez]; simp)) (fun ez => hc (by rw [ez]; simp)) e)) fr (Nat.le_refl _) nw
    refine ⟨.ref s.heap.objs.size, _, J, rfl, ⟨_, x, y, rfl, I.hok.fresh (Nat.le_refl _), rfl, fun l hl => one I hl g1 ▸ gx, fun l hl => one I hl g2 ▸ gy⟩, ⟨⟨z2, ?_, v1, v2, ?_⟩, ?_, ?_⟩, fun c hc => ?_⟩
    · exact (sb.2 _ S.TIz).trans (kk _ _ S.TIz S.TITO S.TIi1 S.TIi2 f2)
    · exact (sb.2 _ S.TOz).trans O1
    · exact s1.1.on fun o e => (sb.2 _ S.zi1.symm).trans e
    · exact s2.1.on fun o e => (sb.2 _ S.zi2.symm).trans e
    · rw [upd_ne (Nat.ne_of_lt (fz c hc))]
      exact (fr c hc).1
  done := by
    rintro X rfl rfl rfl calm i pins s σ H E I fr ⟨⟨f1, f2, x0, y0, f3⟩, f4, f5⟩ ⟨xs, ys, ⟨g1, g2⟩, b1, b2, be⟩
    obtain ⟨m1, r1, p1, _⟩ := stands I g1
    obtain ⟨m2, r2, p2, _⟩ := stands I g2
    have l1 : m1.toArray.size = xs.length := by rw [List.size_toArray, r1.length]
    have l2 : m2.toArray.size = ys.length := by rw [List.size_toArray, r2.length]
    refine wpAny_pyNext_zipD2_end S (drw (A := X.A.in1) (show X.A.in1.handled = none from I.ok.hd calm) n1 m1.toArray p) (drw (A := X.A.in1) (show X.A.in1.handled = none from I.ok.hd calm) n2 m2.toArray q) f1 f2 f3 ⟨f4, p1⟩ ⟨f5, p2⟩ (by rw [l1]; exact b1) (by rw [l2]; exact b2) (by rw [l1, l2]; exact be) fun h1 tk kk => ⟨rfl, ?_⟩
    exact I.turnedL (t' := tk) (ch := [z, U, O, j1, j2]) (fun c o hc e => kk c o (fun ez => hc (by rw [ez]; simp)) (fun ez => hc (by rw [ez]; simp)) (fun ez => hc (by rw [ez]; simp)) (fun ez => hc (by rw [ez]; simp)) e) fr
  self := fun A i s Q E st h => wpAny_pyIter_zip st.1.1 h
theorem walk2 {K : PySem.W.Frag} {p q : Bool} {a b : Addr} {xs ys : List V} {n : Nat} (hn : n = min xs.length ys.length) : Walk (It2 K p q a b) n (fun H => Sq K H p a xs ∧ Sq K H q b ys) (YPair (fun i => xs[i]?) (fun i => ys[i]?)) where
  goes i H hi G := ⟨xs, ys, xs[i]'(by omega), ys[i]'(by omega), G, List.getElem?_eq_getElem _, List.getElem?_eq_getElem _⟩
  stops H G := ⟨xs, ys, G, by omega, by omega, by omega⟩
  yields := by
    rintro i H v H' hi G ⟨T, x, y, rfl, fr, e, g1, g2⟩
    exact ⟨T, x, y, rfl, fr, e, g1 xs G.1, g2 ys G.2⟩
def iZip2 (K : PySem.W.Frag) (p q : Bool) (ta : TA) : TI := fun σ H R => ta σ H fun vs H1 => ∃ a b xs ys, vs = [.ref a, .ref b] ∧ Sq K H1 p a xs ∧ Sq K H1 q b ys ∧ R (It2 K p q a b) H1
theorem begins {s : Shared} : ∀ (p : Bool) (a : Addr) (m : Array Value), ∃ o, Begins (.ref a) o (fun h => Im h p a m) ∧ ∀ h b, h.get? b = some o → Wk h p b a 0
  | true, a, m => ⟨_, begins_list a m, fun h b e => ⟨_, e, rfl, rfl⟩⟩
  | false, a, m => ⟨_, begins_tuple a m, fun h b e => ⟨_, e, rfl, rfl⟩⟩
theorem pi_zip2 {X : Cx} {e e2 : Expr} {ta : TA} {l pos tpos : Pos} {es : List Expr} {k : Nat} {p q : Bool} (hg : Gl X "zip") (hm : X.mg "zip" = none) (ha : PA X [e, e2] ta)
    (hs : starEach [e, e2] X.env = (false, eval e X.env) :: starEach [e2] X.env := by rfl) (hpl : (backTo pos (starEach [e2] X.env)).any (·.1) = false := by rfl) :
    PI X (.Tuple es k tpos) (.Call (.Name "zip" l) [e, e2] [] pos) (iZip2 X.K p q ta) where
  run pins s σ H R I h := by
    refine Call_ (ld_blt I hg hm PyProof.Rows.boot_zip (PyProof.Rows.callWith_type1 (thn (ha.run pos pins s σ H _ I h) ?_) hs hpl))
    rintro us s1 ⟨vs, H1, J, rr, a, b, xs, ys, rfl, g1, g2, R1⟩
    obtain ⟨u1, u2, rfl, c1, c2⟩ := vals2 rr
    cases (show u1 = Value.ref a from c1)
    cases (show u2 = Value.ref b from c2)
    obtain ⟨m1, _, p1, l1⟩ := stands J g1
    obtain ⟨m2, _, p2, l2⟩ := stands J g2
    obtain ⟨o1, B1, w1⟩ := begins (s := s1) p a m1.toArray
    obtain ⟨o2, B2, w2⟩ := begins (s := s1) q b m2.toArray
    refine zip_begins2 B1 B2 p1 p2 fun h' z1 U1 O1 k1 k2 _ kk => wpAny_pyIter_zip z1 ?_
    have J2 : Inv X pins σ H1 { s1 with heap := h' } := J.kept (t' := s1.toks) kk
    refine ⟨s1.heap.objs.size + 4, [s1.heap.objs.size + 4, s1.heap.objs.size + 2, s1.heap.objs.size + 3, s1.heap.objs.size, s1.heap.objs.size + 1], _, _, H1, rfl, J2, turn2 (zip_sep2 (N := s1.heap.objs.size) (fp1 := [a]) (fp2 := [b]) (fun c hc => ?_) fun c hc => ?_) (Nat.ne_of_lt l1) (Nat.ne_of_lt (Nat.lt_succ_of_lt l2)), ⟨⟨z1, U1, _, _, O1⟩, w1 _ _ k1, w2 _ _ k2⟩, fun c hc => ?_, R1⟩
    · rw [List.mem_singleton.mp hc]
      exact l1
    · rw [List.mem_singleton.mp hc]
      exact l2
    · have le : s1.heap.objs.size ≤ c := by
        rcases (by simpa using hc : c = s1.heap.objs.size + 4 ∨ c = s1.heap.objs.size + 2 ∨ c = s1.heap.objs.size + 3 ∨ c = s1.heap.objs.size ∨ c = s1.heap.objs.size + 1) with e | e | e | e | e <;> subst e
        · exact Nat.le_add_right _ 4
        · exact Nat.le_add_right _ 2
        · exact Nat.le_add_right _ 3
        · exact Nat.le_refl _
        · exact Nat.le_add_right _ 1
      exact J.fpOk le (J.hok.fresh le)
end Mz
namespace My
open PySem PySem.Spec PyProof.Rows L2
/-- a comprehension over any walk, without ifs, without drawing: of item i P holds -/
theorem lc_P {J : It} {n : Nat} {G : Hp → Prop} {Y : Nat → Hp → V → Hp → Prop} (w : Walk J n G Y) {te : TE} {g : TG} {vs : List Nat} {σ : L2.St} {H1 : Hp} {D : Addr} {Qd : Hp → Prop} (P : Nat → V → Hp → Prop) (hz : n ≤ 10000) (hD : H1 D = none) (hG : ∀ H, Same H1 H → G H)
    (hP : ∀ i v H H' acc, P i v H → H D = some (.lst acc) → (∀ b o, b ≠ D → H b = some o → H' b = some o) → P i v H')
    (ht : ∀ i x H H', i < n → Same H1 H → Y i H x H' → ∀ Q : VK, (∀ v H3, Same H H3 → P i v H3 → Q v H3) → g x (wipe σ vs) H' fun σ2 H2 => wipe σ2 vs = wipe σ vs ∧ te σ2 H2 Q)
    (k : ∀ ws H', Same H1 H' → H' D = some (.lst ws) → ws.length = n → (∀ i v, ws[i]? = some v → P i v H') → Qd H') :
    ∃ W : Nat → Nat → Hp → Prop, (∃ m, W 0 m (upd H1 D (.lst []))) ∧ ∀ i m H, W i m H →
      (J.stop i H ∧ Qd H) ∨ (J.go i H ∧ ∃ Nx : Hp → Prop, (∀ H', Nx H' → ∃ m', m' < m ∧ W (i + 1) m' H') ∧ ∀ x H', J.yld i H x H' → g x (wipe σ vs) H' fun σ2 H2 => wipe σ2 vs = wipe σ vs ∧ tYes σ2 H2 fun b H3 =>
        if b = true then te σ2 H3 fun y H4 => ∃ acc, H4 D = some (.lst acc) ∧ acc.length < sizeLine ∧ Nx (upd H4 D (.lst (acc ++ [y]))) else Nx H3) := by
  refine lc_it w (fun i H' => ∃ ws, Same H1 H' ∧ H' D = some (.lst ws) ∧ ws.length = i ∧ ∀ j v, ws[j]? = some v → P j v H') ⟨[], same_upd hD, upd_same, rfl, (fun _ _ z => nomatch z)⟩ (fun i H _ ⟨_, p, _⟩ => hG H p) ?_ ?_
  · rintro i x H H' hi ⟨ws, sm, hd, hl, hp⟩ y
    refine ht i x H H' hi sm y _ fun v H3 s3 pv => ?_
    have hd3 := s3 _ _ hd
    refine ⟨_, hd3, Nat.lt_of_lt_of_le (by omega : ws.length < 10001) (by decide), ws ++ [v], (sm.trans s3).mut hD, upd_same, by rw [List.length_append, hl]; rfl, fun j u hj => ?_⟩
    have up : ∀ j u, P j u H3 → P j u (upd H3 D (.lst (ws ++ [v]))) := fun j u hu => hP j u H3 _ _ hu hd3 fun b o hb e => by rw [upd_ne hb]; exact e
    rcases Nat.lt_trichotomy j i with c | c | c
    · rw [List.getElem?_append_left (by omega)] at hj
      exact up j u (hP j u H H3 _ (hp j u hj) hd fun b o _ e => s3 b o e)
    · subst c
      rw [List.getElem?_append_right (by omega), hl, Nat.sub_self] at hj
      cases hj
      exact up j v pv
    · rw [List.getElem?_eq_none (by rw [List.length_append, hl]; exact c)] at hj
      cases hj
  · rintro H' ⟨ws, sm, hd, hl, hp⟩
    exact k ws H' sm hd hl hp
end My
namespace My
open PySem PySem.Spec PyProof.Rows L2
/-! ### rows as functions -/
def gd (l : List Int) : Nat → Int := fun i => l.getD i 0
def sg (l : List Int) : Nat → Int := fun i => l.getD (i - 1) 0
theorem gd_get {l : List Int} {i : Nat} {z : Int} (h : l[i]? = some z) : gd l i = z := by
  unfold gd
  rw [List.getD_eq_getElem?_getD, h]
  rfl
theorem get_gd {l : List Int} {i : Nat} (h : i < l.length) : l[i]? = some (gd l i) := by
  rw [gd_get (List.getElem?_eq_getElem h)]
  exact List.getElem?_eq_getElem h
theorem gd_out {l : List Int} {i : Nat} (h : l.length ≤ i) : gd l i = 0 := by
  unfold gd
  rw [List.getD_eq_getElem?_getD, List.getElem?_eq_none h]
  rfl
theorem gd_app {l r : List Int} {i : Nat} (h : i < l.length) : gd (l ++ r) i = gd l i := by
  unfold gd
  rw [List.getD_eq_getElem?_getD, List.getD_eq_getElem?_getD, List.getElem?_append_left h]
theorem gd_last (l : List Int) (z : Int) : gd (l ++ [z]) l.length = z := gd_get (by
  rw [List.getElem?_append_right (Nat.le_refl _), Nat.sub_self]
  rfl)
theorem gd_rev {l : List Int} {n j : Nat} (h : l.length = n + 1) (hj : j ≤ n) : l.reverse.getD j 0 = gd l (n - j) := by
  unfold gd
  rw [List.getD_eq_getElem?_getD, List.getD_eq_getElem?_getD, List.getElem?_reverse (by omega), h]
  congr 2
theorem sum_range (f : Nat → Int) : ∀ n, ((List.range n).map f).sum = Ms.sm f n
  | 0 => rfl
  | n + 1 => by
    rw [List.range_succ, List.map_append, List.sum_append, sum_range f n]
    show _ + (f n + 0) = Ms.sm f n + f n
    rw [Int.add_zero]
def ofF (n : Nat) (f : Nat → Int) : List Int := (List.range n).map f
theorem ofF_len (n : Nat) (f : Nat → Int) : (ofF n f).length = n := by
  unfold ofF
  rw [List.length_map, List.length_range]
theorem ofF_get {n i : Nat} (f : Nat → Int) (h : i < n) : (ofF n f)[i]? = some (f i) := by
  unfold ofF
  rw [List.getElem?_map, List.getElem?_range h]
  rfl
theorem gd_ofF {n i : Nat} (f : Nat → Int) (h : i < n) : gd (ofF n f) i = f i := gd_get (ofF_get f h)
theorem ofF_gd {l : List Int} {n : Nat} (h : l.length = n) : ofF n (gd l) = l := by
  refine List.ext_getElem? fun k => ?_
  by_cases c : k < n
  · rw [ofF_get _ c, get_gd (by omega)]
  · rw [List.getElem?_eq_none (by rw [ofF_len]; omega), List.getElem?_eq_none (by omega)]
theorem ofF_congr {n : Nat} {f g : Nat → Int} (h : ∀ i, i < n → f i = g i) : ofF n f = ofF n g :=
  List.map_congr_left fun i hi => h i (List.mem_range.mp hi)
theorem ofF_vals (n : Nat) (f : Nat → Int) : (List.range n).map (fun i => V.int (f i)) = (ofF n f).map V.int := by
  unfold ofF
  rw [List.map_map]
  rfl
theorem ofF_set {n i : Nat} (f : Nat → Int) (v : Int) (h : i < n) : (ofF n f).set i v = ofF n fun k => if k = i then v else f k := by
  refine List.ext_getElem? fun k => ?_
  by_cases c : k < n
  · rw [List.getElem?_set, ofF_get (fun k => if k = i then v else f k) c]
    show _ = some (if k = i then v else f k)
    by_cases e : k = i
    · rw [if_pos e.symm, if_pos (by rw [ofF_len]; omega), if_pos e]
    · rw [if_neg (fun z => e z.symm), ofF_get _ c, if_neg e]
  · rw [List.getElem?_eq_none (by rw [List.length_set, ofF_len]; omega), List.getElem?_eq_none (by rw [ofF_len]; omega)]
theorem mem_ofF {n : Nat} {f : Nat → Int} {z : Int} (h : z ∈ ofF n f) : ∃ i, i < n ∧ z = f i := by
  obtain ⟨i, hi, rfl⟩ := List.mem_map.mp h
  exact ⟨i, List.mem_range.mp hi, rfl⟩
/-! rows multiplied, step by step -/
def co (f g : Nat → Int) (j i : Nat) : Int := if j ≤ i then f j * g (i - j) else 0
def part (f g : Nat → Int) (j i : Nat) : Int := Ms.sm (fun j => co f g j i) j
theorem sm_tail {f : Nat → Int} {n : Nat} : ∀ m, (∀ k, n ≤ k → k < n + m → f k = 0) → Ms.sm f (n + m) = Ms.sm f n
  | 0, _ => rfl
  | m + 1, h => by
    show Ms.sm f (n + m) + f (n + m) = _
    rw [sm_tail m fun k h1 h2 => h k h1 (by omega), h (n + m) (by omega) (by omega), Int.add_zero]
theorem part_full {f g : Nat → Int} {J i : Nat} (h : ∀ j, J ≤ j → j ≤ i → f j = 0) : part f g J i = Ms.cvl f g i := by
  rw [Ms.cvl_sm]
  have e : Ms.sm (fun j => f j * g (i - j)) (i + 1) = Ms.sm (fun j => co f g j i) (i + 1) := Ms.sm_congr fun j hj => by
    show _ = if j ≤ i then _ else _
    rw [if_pos (by omega)]
  rw [e]
  unfold part
  by_cases c : J ≤ i + 1
  · have := sm_tail (f := fun j => co f g j i) (n := J) (i + 1 - J) fun k h1 h2 => by
      show (if k ≤ i then f k * g (i - k) else 0) = 0
      rw [if_pos (by omega), h k h1 (by omega), Int.zero_mul]
    rw [show J + (i + 1 - J) = i + 1 by omega] at this
    exact this.symm
  · have := sm_tail (f := fun j => co f g j i) (n := i + 1) (J - (i + 1)) fun k h1 h2 => by
      show (if k ≤ i then f k * g (i - k) else 0) = 0
      rw [if_neg (by omega)]
    rw [show i + 1 + (J - (i + 1)) = J by omega] at this
    exact this
/-- behind j full turns and k steps of the next -/
def stepF (f g : Nat → Int) (j k : Nat) : Nat → Int := fun i => (part f g j i + (if j ≤ i ∧ i < j + k then f j * g (i - j) else 0)) % 97
theorem stepF_next {n j k : Nat} {f g : Nat → Int} : (ofF n fun i => if i = j + k then (stepF f g j k (j + k) + f j * g k) % 97 else stepF f g j k i) = ofF n (stepF f g j (k + 1)) := by
  refine ofF_congr fun i hi => ?_
  by_cases c : i = j + k
  · subst c
    rw [if_pos rfl]
    unfold stepF
    rw [if_neg (by omega), if_pos (by omega), show j + k - j = k by omega]
    omega
  · rw [if_neg c]
    unfold stepF
    congr 2
    by_cases d : j ≤ i ∧ i < j + k
    · rw [if_pos d, if_pos (by omega)]
    · rw [if_neg d, if_neg (by omega)]
theorem stepF_zero {n : Nat} {f g : Nat → Int} {j : Nat} : ofF n (stepF f g j 0) = ofF n fun i => part f g j i % 97 := ofF_congr fun i _ => by
  unfold stepF
  rw [if_neg (by omega), Int.add_zero]
theorem stepF_end {n j k : Nat} {f g : Nat → Int} (h : ∀ i, i < n → j + k ≤ i → g (i - j) = 0) : ofF n (stepF f g j k) = ofF n fun i => part f g (j + 1) i % 97 := ofF_congr fun i hi => by
  unfold stepF
  show _ = (part f g j i + (if j ≤ i then f j * g (i - j) else 0)) % 97
  congr 2
  by_cases c : j ≤ i
  · rw [if_pos c]
    by_cases d : i < j + k
    · rw [if_pos ⟨c, d⟩]
    · rw [if_neg (by omega), h i hi (by omega), Int.mul_zero]
  · rw [if_neg c, if_neg (by omega)]
def timesL (xs ys : List Int) (n : Nat) : List Int := ofF n fun i => Ms.cvl (gd xs) (gd ys) i % 97
/-- a set's row, told on -/
def rowE (ms : List Int) (n : Nat) : List Int := ofF n fun i => Ms.E ms i % 97
theorem gd_rowE {ms : List Int} {n i : Nat} (h : ms.length < n) : gd (rowE ms n) i = Ms.E ms i % 97 := by
  by_cases c : i < n
  · exact gd_ofF _ c
  · rw [gd_out (by unfold rowE; rw [ofF_len]; omega), Ms.E_deg (by omega)]
    rfl
theorem cvl_two (f : Nat → Int) (z : Int) : ∀ k, Ms.cvl f (gd [1, 0 - z]) k = Ms.st f z k
  | 0 => by
    show f 0 * 1 = f 0 - z * 0
    omega
  | k + 1 => by
    rw [Ms.cvl_comm]
    show 1 * f (k + 1) + Ms.cvl (Ms.sh (gd [1, 0 - z])) f k = f (k + 1) - z * f k
    have e : Ms.cvl (Ms.sh (gd [1, 0 - z])) f k = (0 - z) * f k := by
      cases k with
      | zero => rfl
      | succ k =>
        show (0 - z) * f (k + 1) + Ms.cvl (Ms.sh (Ms.sh (gd [1, 0 - z]))) f k = _
        have e0 : Ms.sh (Ms.sh (gd [1, 0 - z])) = fun _ => 0 := funext fun i => show gd [1, 0 - z] (i + 1 + 1) = 0 from gd_out (by show 2 ≤ i + 1 + 1; omega)
        rw [e0, Ms.cvl_zeroL, Int.add_zero]
    rw [e]
    grind
theorem E_snoc (ms : List Int) (z : Int) : Ms.E (ms ++ [z]) = Ms.st (Ms.E ms) z := by
  unfold Ms.E Ms.EG
  rw [List.foldl_append]
  rfl
theorem times_row {ms : List Int} {z : Int} {n m : Nat} (h : ms.length < n) : timesL (rowE ms n) [1, 0 - z] m = rowE (ms ++ [z]) m := by
  refine ofF_congr fun i _ => ?_
  rw [E_snoc, ← cvl_two]
  exact Ms.cvl_mod i (fun j _ => by rw [gd_rowE h, Int.emod_emod]) fun _ _ => rfl
theorem rowE_bd (ms : List Int) (n : Nat) : ∀ z ∈ rowE ms n, 0 ≤ z ∧ z ≤ 96 := by
  intro z hz
  obtain ⟨i, _, rfl⟩ := mem_ofF hz
  have := Int.emod_nonneg (Ms.E ms i) (show (97 : Int) ≠ 0 by decide)
  have := Int.emod_lt_of_pos (Ms.E ms i) (show (0 : Int) < 97 by decide)
  omega
theorem rowE_len (ms : List Int) (n : Nat) : (rowE ms n).length = n := ofF_len _ _
theorem rowE_more {ms : List Int} {n k : Nat} (h : ms.length < n) : rowE ms n ++ List.replicate k 0 = rowE ms (n + k) := by
  refine List.ext_getElem? fun i => ?_
  rcases Nat.lt_or_ge i n with c | c
  · rw [List.getElem?_append_left (by rw [rowE_len]; exact c)]
    unfold rowE
    rw [ofF_get _ c, ofF_get _ (by omega)]
  · rw [List.getElem?_append_right (by rw [rowE_len]; exact c), rowE_len]
    by_cases d : i < n + k
    · unfold rowE
      rw [ofF_get _ d, List.getElem?_replicate, if_pos (by omega), Ms.E_deg (by omega)]
      rfl
    · rw [List.getElem?_eq_none (by rw [List.length_replicate]; omega), List.getElem?_eq_none (by rw [rowE_len]; omega)]
theorem rowE_take {ms : List Int} {n k : Nat} (h : k ≤ n) : (rowE ms n).take k = rowE ms k := by
  unfold rowE ofF
  rw [← List.map_take, List.take_range, Nat.min_eq_left h]
def minI (x y : Int) : Int := if y < x then y else x
theorem minI_eq {x y : Int} : minI x y = x ∧ x ≤ y ∨ minI x y = y ∧ y < x := by
  unfold minI
  by_cases c : y < x
  · exact .inr ⟨if_pos c, c⟩
  · exact .inl ⟨if_neg c, by omega⟩
/-- the row by sums, as far as i -/
structure Rb (ts : List Int) (i : Nat) (row : List Int) : Prop where
  len : row.length = i + 1
  bd : ∀ z ∈ row, 0 ≤ z ∧ z ≤ 96
  hd : gd row 0 = 1
  kp : ∀ k, k ≤ i → Ms.rs (gd row) (sg ts) k % 97 = 0
theorem Rb.one (ts : List Int) : Rb ts 0 [1] := ⟨rfl, fun z hz => by rw [List.mem_singleton.mp hz]; decide, rfl, fun k hk => by
  have e : k = 0 := by omega
  subst e
  show ((0 : Nat) : Int) * gd [1] 0 % 97 = 0
  rfl⟩
theorem rs_congr {f g s : Nat → Int} {k : Nat} (h : ∀ i, i ≤ k → f i = g i) : Ms.rs f s k = Ms.rs g s k := by
  unfold Ms.rs Ms.cv
  rw [h k (Nat.le_refl _)]
  congr 1
  exact Ms.sm_congr fun i hi => by rw [h _ (by omega)]
theorem Rb.next {ts row : List Int} {i : Nat} (h : Rb ts i row) {t g : Int} (ht : t = Ms.cv (sg ts) (gd row) (i + 1)) (hg : (1 + (i : Int)) * g % 97 = 1) : Rb ts (i + 1) (row ++ [-t * g % 97]) := by
  have hl := h.len
  refine ⟨by rw [List.length_append, h.len]; rfl, fun z hz => ?_, ?_, fun k hk => ?_⟩
  · rcases List.mem_append.mp hz with hz | hz
    · exact h.bd z hz
    · rw [List.mem_singleton.mp hz]
      have := Int.emod_nonneg (-t * g) (show (97 : Int) ≠ 0 by decide)
      have := Int.emod_lt_of_pos (-t * g) (show (0 : Int) < 97 by decide)
      omega
  · rw [gd_app (by omega)]
    exact h.hd
  · rcases Nat.lt_or_eq_of_le hk with c | c
    · rw [rs_congr (g := gd row) fun j hj => gd_app (by omega)]
      exact h.kp k (by omega)
    · subst c
      have e1 : gd (row ++ [-t * g % 97]) (i + 1) = -t * g % 97 := by
        have := gd_last row (-t * g % 97)
        rwa [hl] at this
      have e2 : Ms.cv (sg ts) (gd (row ++ [-t * g % 97])) (i + 1) = t := by
        rw [ht]
        unfold Ms.cv
        exact Ms.sm_congr fun j hj => by rw [gd_app (by omega)]
      show (((i + 1 : Nat) : Int) * gd (row ++ [-t * g % 97]) (i + 1) + Ms.cv (sg ts) (gd (row ++ [-t * g % 97])) (i + 1)) % 97 = 0
      rw [e1, e2]
      have e3 : ((i + 1 : Nat) : Int) = 1 + (i : Int) := by omega
      rw [e3]
      obtain ⟨u, hu⟩ : ∃ u, (1 + (i : Int)) * g = 1 + 97 * u := ⟨(1 + (i : Int)) * g / 97, by omega⟩
      obtain ⟨v, hv⟩ : ∃ v, -t * g % 97 = -t * g + 97 * v := ⟨-(-t * g / 97), by omega⟩
      rw [hv]
      have e4 : (1 + (i : Int)) * (-t * g + 97 * v) + t = 97 * ((1 + (i : Int)) * v - t * u) := by
        have : (1 + (i : Int)) * (-t * g) = -t * ((1 + (i : Int)) * g) := by grind
        rw [Int.mul_add, this, hu]
        grind
      rw [e4]
      omega
def RowBy (ts row : List Int) : Prop := Rb ts ts.length row
end My
namespace My
open PySem PySem.Spec PyProof.Rows L2
/-! ### sums -/
def powL (ns : List Int) (i : Nat) : List Int := ns.map fun z => z ^ i % 97
def sumsL (ns : List Int) (m : Nat) : List Int := (List.range m).map fun i => Ms.ps ns (i + 1) % 97
theorem sum_powL (ns : List Int) (i : Nat) : (powL ns i).sum % 97 = Ms.ps ns i % 97 := by
  induction ns with
  | nil => rfl
  | cons z r ih =>
    show (z ^ i % 97 + (powL r i).sum) % 97 = (z ^ i + Ms.ps r i) % 97
    omega
theorem powL_zero (ns : List Int) : powL ns 0 = List.replicate ns.length 1 := by
  unfold powL
  rw [List.eq_replicate_iff]
  refine ⟨List.length_map _, fun b hb => ?_⟩
  obtain ⟨z, _, rfl⟩ := List.mem_map.mp hb
  rw [Int.pow_zero]
  rfl
theorem powL_get {ns : List Int} {i k : Nat} {z : Int} (h : ns[k]? = some z) : (powL ns i)[k]? = some (z ^ i % 97) := by
  unfold powL
  rw [List.getElem?_map, h]
  rfl
theorem powL_step (z : Int) (i : Nat) : z ^ i % 97 * z % 97 = z ^ (i + 1) % 97 := by
  rw [Int.pow_succ, Int.mul_emod, Int.emod_emod, ← Int.mul_emod]
theorem powL_next (ns : List Int) (i : Nat) : (List.range ns.length).map (fun k => V.int ((powL ns i).getD k 0 * ns.getD k 0 % 97)) = (powL ns (i + 1)).map V.int := by
  refine List.ext_getElem? fun k => ?_
  by_cases c : k < ns.length
  · have e := List.getElem?_eq_getElem c
    rw [List.getElem?_map, List.getElem?_range c, List.getElem?_map, powL_get e]
    show some (V.int ((powL ns i).getD k 0 * ns.getD k 0 % 97)) = some (V.int _)
    rw [List.getD_eq_getElem?_getD, List.getD_eq_getElem?_getD, powL_get e, e]
    show some (V.int (ns[k] ^ i % 97 * ns[k] % 97)) = _
    rw [powL_step]
  · rw [List.getElem?_eq_none (by rw [List.length_map, List.length_range]; omega), List.getElem?_eq_none (by unfold powL; rw [List.length_map, List.length_map]; omega)]
theorem powL_bd (ns : List Int) (i : Nat) : ∀ z ∈ powL ns i, 0 ≤ z ∧ z < 97 := by
  intro z hz
  obtain ⟨y, _, rfl⟩ := List.mem_map.mp hz
  exact ⟨Int.emod_nonneg _ (by decide), Int.emod_lt_of_pos _ (by decide)⟩
theorem sumsL_succ (ns : List Int) (m : Nat) : sumsL ns (m + 1) = sumsL ns m ++ [Ms.ps ns (m + 1) % 97] := by
  unfold sumsL
  rw [List.range_succ, List.map_append]
  rfl
theorem sumsL_len (ns : List Int) (m : Nat) : (sumsL ns m).length = m := by
  unfold sumsL
  rw [List.length_map, List.length_range]
theorem sumsL_take {ns : List Int} {m k : Nat} (h : k ≤ m) : (sumsL ns m).take k = sumsL ns k := by
  unfold sumsL
  rw [← List.map_take, List.take_range, Nat.min_eq_left h]
theorem sumsL_bd (ns : List Int) (m : Nat) : ∀ z ∈ sumsL ns m, 0 ≤ z ∧ z < 97 := by
  intro z hz
  obtain ⟨y, _, rfl⟩ := List.mem_map.mp hz
  exact ⟨Int.emod_nonneg _ (by decide), Int.emod_lt_of_pos _ (by decide)⟩
def sp_refuse_unless_count (C : Addr) : Sp := fun vs H Q E => ∃ n : Int, vs = [.int n] ∧ ((n < 0 ∨ 97 ≤ n) → E (.ref C) none H) ∧ (0 ≤ n → n < 97 → Q .non H)
def sp_sums (K : PySem.W.Frag) (C D : Addr) : Sp := fun vs H Q E => ∃ (a : Addr) (ns : List Int) (m : Int), vs = [.ref a, .int m] ∧ SqT K H a (ns.map V.int) ∧ (isSetB ns = false → E (.ref C) none H) ∧ (isSetB ns = true → (m < 0 ∨ 97 ≤ m) → E (.ref D) none H) ∧
  (isSetB ns = true → 0 ≤ m → m < 97 → ∀ t H', Same H H' → H t = none → H' t = some (.tup ((sumsL ns m.toNat).map V.int)) → Q (.ref t) H')
end My
namespace My
open PySem PySem.Spec PyProof.Rows L2
theorem cong_iff {a b : Int} : a % 97 = b % 97 ↔ ∃ k, a = b + 97 * k := by
  constructor
  · intro h
    exact ⟨a / 97 - b / 97, by omega⟩
  · rintro ⟨k, rfl⟩
    omega
theorem prime97 {a b : Int} (h : a * b % 97 = 0) : a % 97 = 0 ∨ b % 97 = 0 := by
  have key : ∀ x y : Fin 97, x.val * y.val % 97 = 0 → x.val = 0 ∨ y.val = 0 := by decide +kernel
  have a0 := Int.emod_nonneg a (show (97 : Int) ≠ 0 by decide)
  have a1 := Int.emod_lt_of_pos a (show (0 : Int) < 97 by decide)
  have b0 := Int.emod_nonneg b (show (97 : Int) ≠ 0 by decide)
  have b1 := Int.emod_lt_of_pos b (show (0 : Int) < 97 by decide)
  rw [Int.mul_emod] at h
  have e : (a % 97) * (b % 97) = (((a % 97).toNat * (b % 97).toNat : Nat) : Int) := by
    rw [Int.natCast_mul, Int.toNat_of_nonneg a0, Int.toNat_of_nonneg b0]
  rw [e] at h
  have := key ⟨(a % 97).toNat, by omega⟩ ⟨(b % 97).toNat, by omega⟩ (by show (a % 97).toNat * (b % 97).toNat % 97 = 0; omega)
  rcases this with h | h
  · have h' : (a % 97).toNat = 0 := h
    omega
  · have h' : (b % 97).toNat = 0 := h
    omega
end My
namespace My
open PySem PySem.Spec PyProof.Rows L2
theorem sg_sums {ms : List Int} {m i : Nat} (h0 : 1 ≤ i) (h1 : i ≤ m) : sg (sumsL ms m) i = Ms.ps ms i % 97 := by
  have e : (sumsL ms m)[i - 1]? = some (Ms.ps ms (i - 1 + 1) % 97) := by
    unfold sumsL
    rw [List.getElem?_map, List.getElem?_range (by omega)]
    rfl
  rw [show i - 1 + 1 = i by omega] at e
  exact gd_get e
/-- the row by a set's own sums -/
theorem rowBy_sums {ms row : List Int} {m : Nat} (hm : m ≤ 96) (h : RowBy (sumsL ms m) row) : row = rowE ms (m + 1) := by
  have hl := h.len
  rw [sumsL_len] at hl
  have key := Ms.uniq (fun a b z => prime97 z) (f := gd row) (g := Ms.E ms) (s := sg (sumsL ms m)) (t := Ms.ps ms) (m := m) hm (fun k hk => h.kp k (by rw [sumsL_len]; exact hk)) (fun k _ => by rw [Ms.NW_E ms k]; rfl) (by rw [h.hd, Ms.E_zero]) (fun i h0 h1 => by rw [sg_sums h0 h1, Int.emod_emod])
  rw [← ofF_gd hl]
  refine ofF_congr fun i hi => ?_
  have hb := h.bd _ (List.mem_of_getElem? (get_gd (l := row) (i := i) (by omega)))
  have := key i (by omega)
  omega
end My
namespace My
open PySem PySem.Spec PyProof.Rows L2
def sp_inverse (C : Addr) : Sp := fun vs H Q E => ∃ n : Int, vs = [.int n] ∧ (n % 97 = 0 → E (.ref C) none H) ∧ (n % 97 ≠ 0 → ∀ g : Int, 1 ≤ g → g ≤ 96 → n * g % 97 = 1 → Q (.int g) H)
theorem has_inv : ∀ r : Fin 97, r.val ≠ 0 → ∃ g : Fin 96, (r.val * (g.val + 1)) % 97 = 1 := by decide +kernel
theorem no_inv {n : Int} (h : ∀ g : Nat, g < 96 → n % 97 * (1 + (g : Int)) % 97 ≠ 1) : n % 97 = 0 := by
  have h0 := Int.emod_nonneg n (show (97 : Int) ≠ 0 by decide)
  have h1 := Int.emod_lt_of_pos n (show (0 : Int) < 97 by decide)
  by_cases z : n % 97 = 0
  · exact z
  · exfalso
    obtain ⟨g, hg⟩ := has_inv ⟨(n % 97).toNat, by omega⟩ (by show (n % 97).toNat ≠ 0; omega)
    have hg' : (n % 97).toNat * (g.val + 1) % 97 = 1 := hg
    refine h g.val g.isLt ?_
    have e : n % 97 * (1 + (g.val : Int)) = (((n % 97).toNat * (g.val + 1) : Nat) : Int) := by
      rw [Int.natCast_mul, Int.toNat_of_nonneg h0, Int.natCast_add]
      congr 1
      omega
    rw [e]
    omega
/-- row_by: NoInverse can't come -/
def sp_row_by (K : PySem.W.Frag) (C : Addr) : Sp := fun vs H Q E => ∃ (a : Addr) (ts : List Int), vs = [.ref a] ∧ H a = some (.tup (ts.map V.int)) ∧ ts.length ≤ 1000 ∧ (97 ≤ ts.length → E (.ref C) none H) ∧
  (ts.length ≤ 96 → ∀ t row H', RowBy ts row → Same H H' → H t = none → H' t = some (.tup (row.map V.int)) → Q (.ref t) H')
end My
namespace My
open PySem PySem.Spec PyProof.Rows L2
theorem lc_G {K : PySem.W.Frag} {st a : Addr} {J : It} {n : Nat} {G : Hp → Prop} {Y : Nat → Hp → V → Hp → Prop} (w : Walk J n G Y) {te : TE} {g : TG} {vs : List Nat} {σ : L2.St} {H1 : Hp} {D : Addr} {Qd : Hp → Prop} (P : Nat → V → Hp → Prop) (hS : StAt K a st H1) (hz : n ≤ 10000) (hD : H1 D = none) (hG : ∀ H, Go K st H1 H → G H)
    (hP : ∀ i v H H', P i v H → (∀ b o, b ≠ D → b ≠ st → H b = some o → H' b = some o) → P i v H')
    (ht : ∀ i x H H', i < n → Go K st H1 H → (∃ acc, H D = some (.lst acc)) → Y i H x H' → ∀ Q : VK, (∀ v H3, Go K st H H3 → P i v H3 → Q v H3) → g x (wipe σ vs) H' fun σ2 H2 => wipe σ2 vs = wipe σ vs ∧ te σ2 H2 Q)
    (k : ∀ ws H', Go K st H1 H' → H' D = some (.lst ws) → ws.length = n → (∀ i v, ws[i]? = some v → P i v H') → Qd H') :
    ∃ W : Nat → Nat → Hp → Prop, (∃ m, W 0 m (upd H1 D (.lst []))) ∧ ∀ i m H, W i m H →
      (J.stop i H ∧ Qd H) ∨ (J.go i H ∧ ∃ Nx : Hp → Prop, (∀ H', Nx H' → ∃ m', m' < m ∧ W (i + 1) m' H') ∧ ∀ x H', J.yld i H x H' → g x (wipe σ vs) H' fun σ2 H2 => wipe σ2 vs = wipe σ vs ∧ tYes σ2 H2 fun b H3 =>
        if b = true then te σ2 H3 fun y H4 => ∃ acc, H4 D = some (.lst acc) ∧ acc.length < sizeLine ∧ Nx (upd H4 D (.lst (acc ++ [y]))) else Nx H3) := by
  have hne := hS.fresh hD
  refine lc_it w (fun i H' => ∃ ws, Go K st H1 H' ∧ H' D = some (.lst ws) ∧ ws.length = i ∧ ∀ j v, ws[j]? = some v → P j v H') ⟨[], Go.new hD, upd_same, rfl, (fun _ _ z => nomatch z)⟩ (fun i H _ ⟨_, p, _⟩ => hG H p) ?_ ?_
  · rintro i x H H' hi ⟨ws, gg, hd, hl, hp⟩ y
    refine ht i x H H' hi gg ⟨_, hd⟩ y _ fun v H3 g3 pv => ?_
    have hd3 := g3.keep _ _ hne hd
    refine ⟨_, hd3, Nat.lt_of_lt_of_le (by omega : ws.length < 10001) (by decide), ws ++ [v], (gg.trans g3).mut hS hD, upd_same, by rw [List.length_append, hl]; rfl, fun j u hj => ?_⟩
    have up : ∀ j u, P j u H3 → P j u (upd H3 D (.lst (ws ++ [v]))) := fun j u hu => hP j u H3 _ hu fun b o hb _ e => by rw [upd_ne hb]; exact e
    rcases Nat.lt_trichotomy j i with c | c | c
    · rw [List.getElem?_append_left (by omega)] at hj
      exact up j u (hP j u H H3 (hp j u hj) fun b o _ hs e => g3.keep b o hs e)
    · subst c
      rw [List.getElem?_append_right (by omega), hl, Nat.sub_self] at hj
      cases hj
      exact up j v pv
    · rw [List.getElem?_eq_none (by rw [List.length_append, hl]; exact c)] at hj
      cases hj
  · rintro H' ⟨ws, gg, hd, hl, hp⟩
    exact k ws H' gg hd hl hp
theorem pick_ints : ∀ ws : List V, (∀ (i : Nat) (v : V), ws[i]? = some v → ∃ z : Int, v = .int z) → ∃ ts : List Int, ws = ts.map V.int
  | [], _ => ⟨[], rfl⟩
  | v :: ws, h => by
    obtain ⟨z, rfl⟩ := h 0 v rfl
    obtain ⟨ts, rfl⟩ := pick_ints ws fun i u hu => h (i + 1) u hu
    exact ⟨z :: ts, rfl⟩
end My
namespace My
open PySem PySem.Spec PyProof.Rows L2
theorem ixN_of {n j : Nat} {z : Int} (e : z = (j : Int)) (h : j < n) : ixN n z = some j := by
  subst e
  unfold ixN
  rw [if_pos (by omega), if_pos (by omega)]
  simp
theorem int_get {l : List Int} {i : Nat} (h : i < l.length) : (l.map V.int)[i]? = some (.int (gd l i)) := by
  rw [List.getElem?_map, get_gd h]
  rfl
def sp__law_times (K : PySem.W.Frag) : Sp := fun vs H Q _ => ∃ (a b : Addr) (xs ys : List Int) (n : Int), vs = [.ref a, .ref b, .int n] ∧ SqT K H a (xs.map V.int) ∧ SqT K H b (ys.map V.int) ∧ 0 ≤ n ∧ n ≤ 1000 ∧ xs.length ≤ 1000 ∧ ys.length ≤ 1000 ∧ (∀ y ∈ ys, -1000 ≤ y ∧ y ≤ 1000) ∧
  ∀ (t : Addr) H', Same H H' → H t = none → H' t = some (.tup ((timesL xs ys n.toNat).map V.int)) → Q (.ref t) H'
def sp__law_row (K : PySem.W.Frag) : Sp := fun vs H Q _ => ∃ (a : Addr) (ms : List Int), vs = [.ref a] ∧ SqT K H a (ms.map V.int) ∧ SetL ms ∧
  ∀ (t : Addr) H', Same H H' → H' t = some (.tup ((rowE ms (ms.length + 1)).map V.int)) → Q (.ref t) H'
end My
namespace My
open PySem PySem.Spec PyProof.Rows L2
def sp__law_turned (K : PySem.W.Frag) : Sp := fun vs H Q _ => ∃ (a : Addr) (ms : List Int) (m : Int), vs = [.ref a, .int m] ∧ H a = some (.tup (ms.map V.int)) ∧ SetL ms ∧ 1 ≤ m ∧ m ≤ 96 ∧ ∀ (t : Addr) (ns : List Int) H', SetL ns → Same H H' → H t = none → H' t = some (.tup (ns.map V.int)) → Q (.ref t) H'
def sp__law_changed (K : PySem.W.Frag) : Sp := fun vs H Q _ => ∃ (a st b : Addr) (ms : List Int) (n : Int), vs = [.ref st, .ref b, .int n] ∧ StAt K a st H ∧ H b = some (.tup (ms.map V.int)) ∧ SetL ms ∧ 0 ≤ n ∧ n ≤ 100 ∧ ∀ (t : Addr) (ns : List Int) H', SetL ns → Go K st H H' → H' t = some (.tup (ns.map V.int)) → Q (.ref t) H'
end My
namespace My
open PySem PySem.Spec PyProof.Rows L2
def sp__law_any (K : PySem.W.Frag) : Sp := fun vs H Q _ => ∃ (a st : Addr), vs = [.ref st] ∧ StAt K a st H ∧ ∀ H', Go K st H H' → Q (.bl true) H'
def sp_law (K : PySem.W.Frag) (P : Addr) : Sp := fun vs H Q _ => ∃ (a : Addr) (ns : List Int), vs = [.ref a] ∧ SqL K H a (ns.map V.int) ∧ ns.length ≤ 63 ∧ H P = some (.tbl #[]) ∧ ∀ H', Q (.bl true) H'
theorem set_true {ms : List Int} (h : SetL ms) {p : Prop} (z : isSetB ms = false) : p := by
  rw [isSetB_iff.mpr h] at z
  cases z
end My
namespace My
open PySem PySem.Spec PyProof.Rows L2
/-! ### the text -/
def topS (i : Nat) : Stmt := PySem.Challenge.pw_setmend_k09_whole_rows_of_two_sets.main.body.getD i (.Pass ⟨0, 0, 0, 0⟩)
abbrev s_is_set : Stmt := topS 15
theorem sc_is_set : FnScope ["marks", "before", "mark"] ["marks"] (defScope s_is_set) := ⟨rfl, rfl, rfl, by decide +kernel, rfl, by decide +kernel, by decide +kernel⟩
abbrev s_refuse_unless_set : Stmt := topS 16
theorem sc_refuse_unless_set : FnScope ["marks"] ["marks"] (defScope s_refuse_unless_set) := ⟨rfl, rfl, rfl, by decide +kernel, rfl, by decide +kernel, by decide +kernel⟩
abbrev s_inverse : Stmt := topS 19
theorem sc_inverse : FnScope ["number", "rest", "guess"] ["number"] (defScope s_inverse) := ⟨rfl, rfl, rfl, by decide +kernel, rfl, by decide +kernel, by decide +kernel⟩
abbrev s_refuse_unless_count : Stmt := topS 21
theorem sc_refuse_unless_count : FnScope ["number"] ["number"] (defScope s_refuse_unless_count) := ⟨rfl, rfl, rfl, by decide +kernel, rfl, by decide +kernel, by decide +kernel⟩
abbrev s_sums : Stmt := topS 22
theorem sc_sums : FnScope ["marks", "many", "powers", "found", "_", "power", "mark"] ["marks", "many"] (defScope s_sums) := ⟨rfl, rfl, rfl, by decide +kernel, rfl, by decide +kernel, by decide +kernel⟩
abbrev s_row_by : Stmt := topS 23
theorem sc_row_by : FnScope ["told", "row", "k", "total", "number", "before"] ["told"] (defScope s_row_by) := ⟨rfl, rfl, rfl, by decide +kernel, rfl, by decide +kernel, by decide +kernel⟩
abbrev s__law_start : Stmt := topS 25
theorem sc__law_start : FnScope ["_law_script", "_law_mixed", "_law_cell"] ["_law_script"] (defScope s__law_start) := ⟨rfl, rfl, rfl, by decide +kernel, rfl, by decide +kernel, by decide +kernel⟩
abbrev s__law_drawn : Stmt := topS 26
theorem sc__law_drawn : FnScope ["_law_state", "_law_many", "_law_found", "_law_cell"] ["_law_state", "_law_many"] (defScope s__law_drawn) := ⟨rfl, rfl, rfl, by decide +kernel, rfl, by decide +kernel, by decide +kernel⟩
abbrev s__law_set : Stmt := topS 27
theorem sc__law_set : FnScope ["_law_state", "_law_most", "_law_many", "_law_first", "_law_step", "_law_k"] ["_law_state", "_law_most"] (defScope s__law_set) := ⟨rfl, rfl, rfl, by decide +kernel, rfl, by decide +kernel, by decide +kernel⟩
abbrev s__law_turned : Stmt := topS 28
theorem sc__law_turned : FnScope ["_law_marks", "_law_mark", "_law_one"] ["_law_marks", "_law_mark"] (defScope s__law_turned) := ⟨rfl, rfl, rfl, by decide +kernel, rfl, by decide +kernel, by decide +kernel⟩
abbrev s__law_changed : Stmt := topS 29
theorem sc__law_changed : FnScope ["_law_state", "_law_marks", "_law_many", "_law_k", "_law_mark"] ["_law_state", "_law_marks", "_law_many"] (defScope s__law_changed) := ⟨rfl, rfl, rfl, by decide +kernel, rfl, by decide +kernel, by decide +kernel⟩
abbrev s__law_times : Stmt := topS 30
theorem sc__law_times : FnScope ["_law_one", "_law_other", "_law_many", "_law_k", "_law_found", "_law_j"] ["_law_one", "_law_other", "_law_many"] (defScope s__law_times) := ⟨rfl, rfl, rfl, by decide +kernel, rfl, by decide +kernel, by decide +kernel⟩
abbrev s__law_row : Stmt := topS 31
theorem sc__law_row : FnScope ["_law_marks", "_law_row_here", "_law_mark"] ["_law_marks"] (defScope s__law_row) := ⟨rfl, rfl, rfl, by decide +kernel, rfl, by decide +kernel, by decide +kernel⟩
abbrev s__law_no_count : Stmt := topS 32
theorem sc__law_no_count : FnScope ["_law_work", "e", "_law_other"] ["_law_work"] (defScope s__law_no_count) := ⟨rfl, rfl, rfl, by decide +kernel, rfl, by decide +kernel, by decide +kernel⟩
abbrev s__law_any : Stmt := topS 33
theorem sc__law_any : FnScope ["_law_state", "_law_far", "_law_k", "_law_told", "_law_row_here", "_law_j"] ["_law_state"] (defScope s__law_any) := ⟨rfl, rfl, rfl, by decide +kernel, rfl, by decide +kernel, by decide +kernel⟩
abbrev s_law : Stmt := topS 34
theorem sc_law : FnScope ["_law_script", "_law_state", "_law_turn", "_law_most", "_law_one", "_law_other", "_law_many", "_law_told", "_law_due", "_law_first", "_law_two", "_law_number"] ["_law_script"] (defScope s_law) := ⟨rfl, rfl, rfl, by decide +kernel, rfl, by decide +kernel, by decide +kernel⟩
structure Ad where
  f_is_set : Addr
  d_is_set : FuncData
  f_refuse_unless_set : Addr
  d_refuse_unless_set : FuncData
  f_inverse : Addr
  d_inverse : FuncData
  f_refuse_unless_count : Addr
  d_refuse_unless_count : FuncData
  f_sums : Addr
  d_sums : FuncData
  f_row_by : Addr
  d_row_by : FuncData
  f__law_start : Addr
  d__law_start : FuncData
  f__law_drawn : Addr
  d__law_drawn : FuncData
  f__law_set : Addr
  d__law_set : FuncData
  f__law_turned : Addr
  d__law_turned : FuncData
  f__law_changed : Addr
  d__law_changed : FuncData
  f__law_times : Addr
  d__law_times : FuncData
  f__law_row : Addr
  d__law_row : FuncData
  f__law_no_count : Addr
  d__law_no_count : FuncData
  f__law_any : Addr
  d__law_any : FuncData
  f_law : Addr
  d_law : FuncData
  cc_law : Addr
  cp_law : Addr
  e_MendError : Addr
  e_NoSet : Addr
  e_NoMark : Addr
  e_NoInverse : Addr
  e_NoCount : Addr
  e_NoHand : Addr
  e_NoLetter : Addr
  e_NoText : Addr
  e_Held : Addr
  e_NotHeld : Addr
  e_Unlike : Addr
  e_Late : Addr
  t_LAST_MARK : Nat
  t_WHEEL : Nat
structure Txt (K : PySem.W.Frag) (mg : Str → Option Value) (base : Heap) (A : Ad) : Prop where
  F_is_set : Fun K "is_set" "is_set" s_is_set A.f_is_set A.d_is_set
  k_is_set : PySem.W.keepIn K (.ref A.f_is_set) = true
  g_is_set : mg "is_set" = some (.ref A.f_is_set)
  b_is_set : Binds K A.d_is_set ["marks"] []
  F_refuse_unless_set : Fun K "refuse_unless_set" "refuse_unless_set" s_refuse_unless_set A.f_refuse_unless_set A.d_refuse_unless_set
  k_refuse_unless_set : PySem.W.keepIn K (.ref A.f_refuse_unless_set) = true
  g_refuse_unless_set : mg "refuse_unless_set" = some (.ref A.f_refuse_unless_set)
  b_refuse_unless_set : Binds K A.d_refuse_unless_set ["marks"] []
  F_inverse : Fun K "inverse" "inverse" s_inverse A.f_inverse A.d_inverse
  k_inverse : PySem.W.keepIn K (.ref A.f_inverse) = true
  g_inverse : mg "inverse" = some (.ref A.f_inverse)
  b_inverse : Binds K A.d_inverse ["number"] []
  F_refuse_unless_count : Fun K "refuse_unless_count" "refuse_unless_count" s_refuse_unless_count A.f_refuse_unless_count A.d_refuse_unless_count
  k_refuse_unless_count : PySem.W.keepIn K (.ref A.f_refuse_unless_count) = true
  g_refuse_unless_count : mg "refuse_unless_count" = some (.ref A.f_refuse_unless_count)
  b_refuse_unless_count : Binds K A.d_refuse_unless_count ["number"] []
  F_sums : Fun K "sums" "sums" s_sums A.f_sums A.d_sums
  k_sums : PySem.W.keepIn K (.ref A.f_sums) = true
  g_sums : mg "sums" = some (.ref A.f_sums)
  b_sums : Binds K A.d_sums ["marks", "many"] []
  F_row_by : Fun K "row_by" "row_by" s_row_by A.f_row_by A.d_row_by
  k_row_by : PySem.W.keepIn K (.ref A.f_row_by) = true
  g_row_by : mg "row_by" = some (.ref A.f_row_by)
  b_row_by : Binds K A.d_row_by ["told"] []
  F__law_start : Fun K "_law_start" "_law_start" s__law_start A.f__law_start A.d__law_start
  k__law_start : PySem.W.keepIn K (.ref A.f__law_start) = true
  g__law_start : mg "_law_start" = some (.ref A.f__law_start)
  b__law_start : Binds K A.d__law_start ["_law_script"] []
  F__law_drawn : Fun K "_law_drawn" "_law_drawn" s__law_drawn A.f__law_drawn A.d__law_drawn
  k__law_drawn : PySem.W.keepIn K (.ref A.f__law_drawn) = true
  g__law_drawn : mg "_law_drawn" = some (.ref A.f__law_drawn)
  b__law_drawn : Binds K A.d__law_drawn ["_law_state", "_law_many"] []
  F__law_set : Fun K "_law_set" "_law_set" s__law_set A.f__law_set A.d__law_set
  k__law_set : PySem.W.keepIn K (.ref A.f__law_set) = true
  g__law_set : mg "_law_set" = some (.ref A.f__law_set)
  b__law_set : Binds K A.d__law_set ["_law_state", "_law_most"] []
  F__law_turned : Fun K "_law_turned" "_law_turned" s__law_turned A.f__law_turned A.d__law_turned
  k__law_turned : PySem.W.keepIn K (.ref A.f__law_turned) = true
  g__law_turned : mg "_law_turned" = some (.ref A.f__law_turned)
  b__law_turned : Binds K A.d__law_turned ["_law_marks", "_law_mark"] []
  F__law_changed : Fun K "_law_changed" "_law_changed" s__law_changed A.f__law_changed A.d__law_changed
  k__law_changed : PySem.W.keepIn K (.ref A.f__law_changed) = true
  g__law_changed : mg "_law_changed" = some (.ref A.f__law_changed)
  b__law_changed : Binds K A.d__law_changed ["_law_state", "_law_marks", "_law_many"] []
  F__law_times : Fun K "_law_times" "_law_times" s__law_times A.f__law_times A.d__law_times
  k__law_times : PySem.W.keepIn K (.ref A.f__law_times) = true
  g__law_times : mg "_law_times" = some (.ref A.f__law_times)
  b__law_times : Binds K A.d__law_times ["_law_one", "_law_other", "_law_many"] []
  F__law_row : Fun K "_law_row" "_law_row" s__law_row A.f__law_row A.d__law_row
  k__law_row : PySem.W.keepIn K (.ref A.f__law_row) = true
  g__law_row : mg "_law_row" = some (.ref A.f__law_row)
  b__law_row : Binds K A.d__law_row ["_law_marks"] []
  F__law_no_count : Fun K "_law_no_count" "_law_no_count" s__law_no_count A.f__law_no_count A.d__law_no_count
  k__law_no_count : PySem.W.keepIn K (.ref A.f__law_no_count) = true
  g__law_no_count : mg "_law_no_count" = some (.ref A.f__law_no_count)
  b__law_no_count : Binds K A.d__law_no_count ["_law_work"] []
  F__law_any : Fun K "_law_any" "_law_any" s__law_any A.f__law_any A.d__law_any
  k__law_any : PySem.W.keepIn K (.ref A.f__law_any) = true
  g__law_any : mg "_law_any" = some (.ref A.f__law_any)
  b__law_any : Binds K A.d__law_any ["_law_state"] []
  F_law : Fun K "law" "law" s_law A.f_law A.d_law
  k_law : PySem.W.keepIn K (.ref A.f_law) = true
  g_law : mg "law" = some (.ref A.f_law)
  b_law : Binds K A.d_law ["_law_script"] []
  c_LAST_MARK : mg "LAST_MARK" = some (.int 96 A.t_LAST_MARK)
  c_WHEEL : mg "WHEEL" = some (.int 97 A.t_WHEEL)
  z_ValueError : mg "ValueError" = none
  z_bool : mg "bool" = none
  z_int : mg "int" = none
  z_isinstance : mg "isinstance" = none
  z_len : mg "len" = none
  z_min : mg "min" = none
  z_range : mg "range" = none
  z_set : mg "set" = none
  z_sorted : mg "sorted" = none
  z_sum : mg "sum" = none
  z_tuple : mg "tuple" = none
  z_zip : mg "zip" = none
  g_MendError : mg "MendError" = some (.ref A.e_MendError)
  g_NoSet : mg "NoSet" = some (.ref A.e_NoSet)
  g_NoMark : mg "NoMark" = some (.ref A.e_NoMark)
  g_NoInverse : mg "NoInverse" = some (.ref A.e_NoInverse)
  g_NoCount : mg "NoCount" = some (.ref A.e_NoCount)
  g_NoHand : mg "NoHand" = some (.ref A.e_NoHand)
  g_NoLetter : mg "NoLetter" = some (.ref A.e_NoLetter)
  g_NoText : mg "NoText" = some (.ref A.e_NoText)
  g_Held : mg "Held" = some (.ref A.e_Held)
  g_NotHeld : mg "NotHeld" = some (.ref A.e_NotHeld)
  g_Unlike : mg "Unlike" = some (.ref A.e_Unlike)
  g_Late : mg "Late" = some (.ref A.e_Late)
  cd_law : A.d_law.code = .ref A.cc_law
  tb_law : LamX.TabB base mg A.cc_law A.cp_law
  x_NoSet : PySem.W.excIn K A.e_NoSet [.type "ValueError", .type "Exception", .type "BaseException", .type "object"] "ValueError.__new__" = true
  k_NoSet : PySem.W.keepIn K (.ref A.e_NoSet) = true
  bb_NoSet : PySem.W.subIn K (.ref A.e_NoSet) (.type "BaseException") = some true
  tt_NoSet : PySem.W.typeIn K (.ref A.e_NoSet) = some (.type "type")
  x_NoInverse : PySem.W.excIn K A.e_NoInverse [.type "ValueError", .type "Exception", .type "BaseException", .type "object"] "ValueError.__new__" = true
  k_NoInverse : PySem.W.keepIn K (.ref A.e_NoInverse) = true
  bb_NoInverse : PySem.W.subIn K (.ref A.e_NoInverse) (.type "BaseException") = some true
  tt_NoInverse : PySem.W.typeIn K (.ref A.e_NoInverse) = some (.type "type")
  x_NoCount : PySem.W.excIn K A.e_NoCount [.type "ValueError", .type "Exception", .type "BaseException", .type "object"] "ValueError.__new__" = true
  k_NoCount : PySem.W.keepIn K (.ref A.e_NoCount) = true
  bb_NoCount : PySem.W.subIn K (.ref A.e_NoCount) (.type "BaseException") = some true
  tt_NoCount : PySem.W.typeIn K (.ref A.e_NoCount) = some (.type "type")
  kv : PySem.W.kitOne K (.ref A.e_NoCount) (.type "ValueError") = some true
  ko : PySem.W.kitOne K (.ref A.e_NoCount) (.ref A.e_NoCount) = some true
  kt : PySem.W.kitAny K (.ref A.e_NoCount) [.ref A.e_Held, .ref A.e_Late, .ref A.e_NoHand, .ref A.e_NoInverse, .ref A.e_NoLetter, .ref A.e_NoMark, .ref A.e_NoSet, .ref A.e_NoText, .ref A.e_NotHeld, .ref A.e_Unlike] = some false
  q1_NoCount : PySem.W.findIn K (.ref A.e_NoCount) "__getattribute__" = some (some (.builtin "BaseException.__getattribute__"))
  q2_NoCount : PySem.W.findIn K (.ref A.e_NoCount) "__getattr__" = some none
  q3_NoCount : PySem.W.subIn K (.ref A.e_NoCount) (.type "BaseException") = some true
  q4_NoCount : PySem.W.hasDictIn K A.e_NoCount = true
  q5_NoCount : PySem.W.findIn K (.ref A.e_NoCount) "__class__" = some (some (.builtin "object.__class__"))
  q6_NoCount : PySem.W.specialIn K (.builtin "object.__class__") "__get__" = some (some (.builtin "getset_descriptor.__get__"))
  q7_NoCount : PySem.W.takesIn K (.builtin "object.__class__") = some true
  q8_NoCount : PySem.W.mroIn K A.e_NoCount (.type "object") = some true
  s_NoCount_MendError : PySem.W.subIn K (.ref A.e_NoCount) (.ref A.e_MendError) = some true
  h1_MendError : PySem.W.subIn K (.ref A.e_MendError) (.type "BaseException") = some true
  h2_MendError : PySem.W.hasDictIn K A.e_MendError = true
  h3_MendError : PySem.W.typeIn K (.ref A.e_MendError) = some (.type "type")
theorem Txt.ec_NoCount {K : PySem.W.Frag} {mg : Str → Option Value} {base : Heap} {A : Ad} (T : Txt K mg base A) : ExcC K A.e_NoCount := ⟨T.q1_NoCount, T.q2_NoCount, T.q3_NoCount, T.q4_NoCount, T.q5_NoCount, T.q6_NoCount, T.q7_NoCount, T.q8_NoCount⟩
theorem Txt.ex_NoCount_MendError {K : PySem.W.Frag} {mg : Str → Option Value} {base : Heap} {A : Ad} (T : Txt K mg base A) : PySem.W.exmOne K (.ref A.e_NoCount) (.ref A.e_MendError) = some true := PySem.W.exm_ref T.h1_MendError T.h2_MendError T.h3_MendError T.s_NoCount_MendError
section
variable {P : Program} {w : World} {K : PySem.W.Frag} {mg : Str → Option Value} {base : Heap} {A : Ad}
/-! ### is_set: slots 0 marks, 1 before, 2 mark -/

theorem ok_is_set (T : Txt K mg base A) : FnOk P w K mg base CX0 1 A.f_is_set A.d_is_set ["marks"] (sp_is_set K) := by
  refine T.F_is_set.ok sc_is_set (fun vs H Q E h => by first | (obtain ⟨_, rfl, _⟩ := h; rfl) | (obtain ⟨_, _, rfl, _⟩ := h; rfl) | (obtain ⟨_, _, _, rfl, _⟩ := h; rfl) | (obtain ⟨_, _, _, _, rfl, _⟩ := h; rfl) | (obtain ⟨_, _, _, _, _, rfl, _⟩ := h; rfl) | (obtain ⟨_, _, _, _, _, _, rfl, _⟩ := h; rfl) | (obtain ⟨_, _, _, _, _, _, _, rfl, _⟩ := h; rfl)) (fun cdv AA outer s H vs Q E hr h => ?_)
  refine ⟨_, (pss_cons (ps_set (i := 1) sc_is_set.nd rfl (.inl rfl) pe_int)
      (pss_cons (ps_for PassesOwn.never rfl (pi_tup (pv 0)) (pg_name (i := 2) sc_is_set.nd rfl (.inl rfl))
        (pss_cons (ps_if (PW.pt (pw_or (pt_cmpR op_le (pv 2) (pv 1) (nomark _)) (pw_or1 (pt_cmpR op_gt (pv 2) (pe_glob (v := .int 96) rfl T.c_LAST_MARK ⟨_, rfl⟩) (nomark _))))) (pss_one (ps_ret pe_bl)) pss_nil)
        (pss_one (ps_set (i := 1) sc_is_set.nd rfl (.inl rfl) (pv 2)))))
      (pss_one (ps_ret pe_bl)))), ?_⟩
  obtain ⟨a, ns, rfl, hS, q⟩ := h
  refine ⟨_, rfl, a, rfl, ⟨_, hS⟩, for_tup (K := K) (a := a) (xs := ns.map V.int) (fun i σ H' => ∃ (b : Int) (v : Option V), σ = [some (.ref a), some (.int b), v] ∧ H' = H ∧ isSetG b (ns.drop i) = isSetB ns) ⟨0, none, rfl, rfl, rfl⟩ (fun i σ H' _ ⟨_, _, _, e, _⟩ => e ▸ hS) ?_ ?_⟩
  · rintro i y σ H' hi ⟨b, v, rfl, rfl, hb⟩
    obtain ⟨z, hz, rfl⟩ := int_at hi
    have hd : ns.drop i = z :: ns.drop (i + 1) := by
      have hlt : i < ns.length := (List.getElem?_eq_some_iff.mp hz).1
      rw [List.drop_eq_getElem_cons hlt, (List.getElem?_eq_some_iff.mp hz).2]
    rw [hd] at hb
    unfold isSetG at hb
    refine ⟨_, rfl, _, rfl, _, _, rfl, rfl, _, rfl, ite2 (fun c => ?_) (fun c => ?_)⟩
    · refine iteT ?_
      rw [if_pos (.inl (of_decide_eq_true c))] at hb
      rw [← hb] at q
      exact q
    · refine ⟨_, rfl, _, _, rfl, rfl, _, rfl, ite2 (fun c2 => ?_) (fun c2 => ?_)⟩
      · rw [if_pos (.inr (of_decide_eq_true c2))] at hb
        rw [← hb] at q
        exact q
      · refine ⟨_, rfl, _, _, rfl, rfl, ?_⟩
        rw [if_neg (fun w => w.elim (fun w => c (decide_eq_true w)) fun w => c2 (decide_eq_true w))] at hb
        exact hb
  · rintro σ H' ⟨b, v, rfl, rfl, hb⟩
    rw [List.drop_of_length_le (by rw [List.length_map]; exact Nat.le_refl _)] at hb
    rw [← hb] at q
    exact q
/-! ### refuse_unless_set: slots 0 marks -/

theorem ok_refuse_unless_set (T : Txt K mg base A) : FnOk P w K mg base (L2.CX P w) 2 A.f_refuse_unless_set A.d_refuse_unless_set ["marks"] (sp_refuse_unless_set K A.e_NoSet) := by
  refine T.F_refuse_unless_set.okX sc_refuse_unless_set (fun vs H Q E h => by first | (obtain ⟨_, rfl, _⟩ := h; rfl) | (obtain ⟨_, _, rfl, _⟩ := h; rfl) | (obtain ⟨_, _, _, rfl, _⟩ := h; rfl) | (obtain ⟨_, _, _, _, rfl, _⟩ := h; rfl) | (obtain ⟨_, _, _, _, _, rfl, _⟩ := h; rfl) | (obtain ⟨_, _, _, _, _, _, rfl, _⟩ := h; rfl) | (obtain ⟨_, _, _, _, _, _, _, rfl, _⟩ := h; rfl)) (fun cdv AA outer s H vs Q E hr h => ?_)
  refine ⟨_, (pss_one (ps_if (pt_not (pt_val (pe_call (ok_is_set T) (hr.mono (by decide)) (by rfl) T.g_is_set T.k_is_set T.b_is_set .nil pass0 (pa_cons (pv 0) pa_nil)))) (pss_one (ps_raise rfl (takes_of rfl rfl rfl rfl) (pmk_own PySem.F.excBase_ValueError T.x_NoSet T.g_NoSet T.k_NoSet (raises_own T.bb_NoSet T.tt_NoSet) rfl))) pss_nil)), ?_⟩
  obtain ⟨a, ns, rfl, hS, hE, hQ⟩ := h
  refine ⟨_, rfl, a, ns, rfl, hS, _, rfl, ?_⟩
  cases c : isSetB ns with
  | true => exact iteF (hQ c)
  | false => exact iteT (hE c)
/-! ### inverse: slots 0 number, 1 rest, 2 guess -/

theorem ok_inverse (T : Txt K mg base A) : FnOk P w K mg base (L2.CX P w) 1 A.f_inverse A.d_inverse ["number"] (sp_inverse A.e_NoInverse) := by
  refine T.F_inverse.okX sc_inverse (fun vs H Q E h => by first | (obtain ⟨_, rfl, _⟩ := h; rfl) | (obtain ⟨_, _, rfl, _⟩ := h; rfl) | (obtain ⟨_, _, _, rfl, _⟩ := h; rfl) | (obtain ⟨_, _, _, _, rfl, _⟩ := h; rfl) | (obtain ⟨_, _, _, _, _, rfl, _⟩ := h; rfl) | (obtain ⟨_, _, _, _, _, _, rfl, _⟩ := h; rfl) | (obtain ⟨_, _, _, _, _, _, _, rfl, _⟩ := h; rfl)) (fun cdv AA outer s H vs Q E hr h => ?_)
  refine ⟨_, (pss_cons (ps_set (i := 1) sc_inverse.nd rfl (.inl rfl) (pe_op op_mod (pv 0) (pe_glob (v := .int 97) rfl T.c_WHEEL ⟨_, rfl⟩)))
      (pss_cons (ps_for (passes_of rfl) rfl (pi_range2 (by rfl) T.z_range (pa_cons pe_int (pa_cons (pe_glob (v := .int 97) rfl T.c_WHEEL ⟨_, rfl⟩) pa_nil))) (pg_name (i := 2) sc_inverse.nd rfl (.inl rfl))
        (pss_one (ps_if (pt_cmpR op_eq (pe_op op_mod (pe_op op_mul (pv 1) (pv 2)) (pe_glob (v := .int 97) rfl T.c_WHEEL ⟨_, rfl⟩)) pe_int (nomark _)) (pss_one (ps_ret (pv 2))) pss_nil)))
      (pss_one (ps_raise rfl (takes_of rfl rfl rfl rfl) (pmk_own PySem.F.excBase_ValueError T.x_NoInverse T.g_NoInverse T.k_NoInverse (raises_own T.bb_NoInverse T.tt_NoInverse) rfl))))), ?_⟩
  obtain ⟨n, rfl, hE, hQ⟩ := h
  refine ⟨_, rfl, _, _, rfl, rfl, by show (0:Int) < _; decide, ?_⟩
  refine ⟨1, 97, rfl, ⟨by decide, by decide, by decide, by decide⟩, for_range (lo := 1) (n := 96) (fun i σ H' => ∃ v, σ = [some (.int n), some (.int (n % 97)), v] ∧ H' = H ∧ ∀ g : Nat, g < i → n % 97 * (1 + (g : Int)) % 97 ≠ 1) ⟨none, rfl, rfl, fun g hg => absurd hg (Nat.not_lt_zero _)⟩ ?_ ?_⟩
  · rintro i σ H' hi ⟨v, rfl, rfl, hno⟩
    refine ⟨_, rfl, _, rfl, _, _, rfl, rfl, .inr ⟨by omega, by omega⟩, _, _, rfl, rfl, by show (0:Int) < _; decide, rfl, _, rfl, ite2 (fun c => ?_) (fun c => ?_)⟩
    · have e : n % 97 * (1 + (i : Int)) % 97 = 1 := V.int.inj (of_decide_eq_true c)
      refine ⟨_, rfl, ?_⟩
      have e2 : n * (1 + (i : Int)) % 97 = 1 := by
        have a1 := Int.mul_emod n (1 + (i : Int)) 97
        have a2 := Int.mul_emod (n % 97) (1 + (i : Int)) 97
        rw [Int.emod_emod] at a2
        rw [a1, ← a2]
        exact e
      refine hQ (fun z => ?_) _ (by omega) (by omega) e2
      rw [z, Int.zero_mul] at e
      cases e
    · refine ⟨_, rfl, rfl, fun g hg => ?_⟩
      rcases Nat.lt_succ_iff_lt_or_eq.mp hg with h | h
      · exact hno g h
      · rw [h]
        exact fun z => c (decide_eq_true (congrArg V.int z))
  · rintro σ H' ⟨v, rfl, rfl, hno⟩
    exact hE (no_inv hno)
/-! ### refuse_unless_count: slots 0 number -/

theorem ok_refuse_unless_count (T : Txt K mg base A) : FnOk P w K mg base (L2.CX P w) 1 A.f_refuse_unless_count A.d_refuse_unless_count ["number"] (sp_refuse_unless_count A.e_NoCount) := by
  refine T.F_refuse_unless_count.okX sc_refuse_unless_count (fun vs H Q E h => by first | (obtain ⟨_, rfl, _⟩ := h; rfl) | (obtain ⟨_, _, rfl, _⟩ := h; rfl) | (obtain ⟨_, _, _, rfl, _⟩ := h; rfl) | (obtain ⟨_, _, _, _, rfl, _⟩ := h; rfl) | (obtain ⟨_, _, _, _, _, rfl, _⟩ := h; rfl) | (obtain ⟨_, _, _, _, _, _, rfl, _⟩ := h; rfl) | (obtain ⟨_, _, _, _, _, _, _, rfl, _⟩ := h; rfl)) (fun cdv AA outer s H vs Q E hr h => ?_)
  refine ⟨_, (pss_one (ps_if (PW.pt (pw_or (pt_cmpR op_lt (pv 0) pe_int (nomark _)) (pw_or1 (pt_cmpR op_ge (pv 0) (pe_glob (v := .int 97) rfl T.c_WHEEL ⟨_, rfl⟩) (nomark _))))) (pss_one (ps_raise rfl (takes_of rfl rfl rfl rfl) (pmk_own PySem.F.excBase_ValueError T.x_NoCount T.g_NoCount T.k_NoCount (raises_own T.bb_NoCount T.tt_NoCount) rfl))) pss_nil)), ?_⟩
  obtain ⟨n, rfl, hE, q⟩ := h
  refine ⟨_, rfl, _, _, rfl, rfl, _, rfl, ite2 (fun c => ?_) (fun c => ?_)⟩
  · exact iteT (hE (.inl (of_decide_eq_true c)))
  · refine ⟨_, rfl, _, _, rfl, rfl, _, rfl, ite2 (fun c2 => ?_) (fun c2 => ?_)⟩
    · exact hE (.inr (of_decide_eq_true c2))
    · have h1 : ¬ n < 0 := fun z => c (decide_eq_true z)
      have h2 : ¬ n ≥ 97 := fun z => c2 (decide_eq_true z)
      exact q (by omega) (by omega)
/-! ### sums: slots 0 marks, 1 many, 2 powers, 3 found, 4 _, 5 power, 6 mark -/

theorem ok_sums (T : Txt K mg base A) : FnOk P w K mg base (L2.CX P w) 3 A.f_sums A.d_sums ["marks", "many"] (sp_sums K A.e_NoSet A.e_NoCount) := by
  refine T.F_sums.okX sc_sums (fun vs H Q E h => by first | (obtain ⟨_, rfl, _⟩ := h; rfl) | (obtain ⟨_, _, rfl, _⟩ := h; rfl) | (obtain ⟨_, _, _, rfl, _⟩ := h; rfl) | (obtain ⟨_, _, _, _, rfl, _⟩ := h; rfl) | (obtain ⟨_, _, _, _, _, rfl, _⟩ := h; rfl) | (obtain ⟨_, _, _, _, _, _, rfl, _⟩ := h; rfl) | (obtain ⟨_, _, _, _, _, _, _, rfl, _⟩ := h; rfl)) (fun cdv AA outer s H vs Q E hr h => ?_)
  refine ⟨_, (pss_cons (ps_expr (pe_call (ok_refuse_unless_set T) (hr.mono (by decide)) (by rfl) T.g_refuse_unless_set T.k_refuse_unless_set T.b_refuse_unless_set .nil (passes_call (takes_of rfl rfl rfl rfl) (fun _ _ _ _ z => z)) (pa_cons (pv 0) pa_nil)))
      (pss_cons (ps_expr (pe_call (ok_refuse_unless_count T) (hr.mono (by decide)) (by rfl) T.g_refuse_unless_count T.k_refuse_unless_count T.b_refuse_unless_count .nil (passes_call (takes_of rfl rfl rfl rfl) (fun _ _ _ _ z => z)) (pa_cons (pv 1) pa_nil)))
      (pss_cons (ps_set (i := 2) sc_sums.nd rfl (.inl rfl) (pe_op op_rep (pe_lst (pa_cons pe_int pa_nil)) (pe_callB call_len_seq (by rfl) T.z_len PySem.boot_len (pa_cons (pv 0) pa_nil))))
      (pss_cons (ps_set (i := 3) sc_sums.nd rfl (.inl rfl) (pe_lst pa_nil))
      (pss_cons (ps_for (passes_of rfl) rfl (pi_range1 (by rfl) T.z_range (pa_cons (pv 1) pa_nil)) (pg_name (i := 4) sc_sums.nd rfl (.inl rfl))
        (pss_cons (ps_setLc (i := 2) (own := [("power", 5), ("mark", 6)]) (g := gTup K 2 (gCons (gName 5) (gCons (gName 6) gNil)))  rfl sc_sums.nd rfl rfl (sw_true rfl rfl rfl (by decide +kernel)) (Mz.pi_zip2 (p := true) (q := false) (by rfl) T.z_zip (pa_cons (pv 2) (pa_cons (pv 0) pa_nil))) (blkOk_by (own := [("power", 5), ("mark", 6)]) (N := ["marks", "many", "powers", "found", "_", "power", "mark"]) (sc := defScope s_sums) (by decide +kernel)) (fun _ _ _ _ _ => pg_tup rfl (pgs_cons (pg_name (i := 5) sc_sums.nd rfl (.inl rfl)) (pgs_cons (pg_name (i := 6) sc_sums.nd rfl (.inl rfl)) pgs_nil))) (fun _ _ _ _ _ => pts_nil) (fun _ _ _ _ _ => (pe_op op_mod (pe_op op_mul (pv 5) (pv 6)) (pe_glob (v := .int 97) rfl T.c_WHEEL ⟨_, rfl⟩))))
        (pss_one (ps_expr (pe_bm PySem.F.plainAttrs_list PySem.F.slot_list_append PySem.F.type_list_append mt_append (pv 3) (pa_cons (pe_op op_mod (pe_callB (cr_sum rfl) (by rfl) T.z_sum (by decide +kernel) (pa_cons (pv 2) pa_nil)) (pe_glob (v := .int 97) rfl T.c_WHEEL ⟨_, rfl⟩)) pa_nil))))))
      (pss_one (ps_ret (pe_callTy call_tuple_of (by rfl) T.z_tuple (by decide +kernel) (pa_cons (pv 3) pa_nil))))))))), ?_⟩
  obtain ⟨a, ns, m, rfl, hS, hE, hE2, q⟩ := h
  refine ⟨_, rfl, a, ns, rfl, hS, hE, fun c => ?_⟩
  refine ⟨_, rfl, m, rfl, hE2 c, fun m0 m1 => ?_⟩
  have hset := isSetB_iff.mp c
  have hlen := hset.len
  refine ⟨by show 1 ≤ sizeLine; decide, fun l hl => ?_⟩
  have s1 := same_upd (o := .lst [V.int 1]) hl
  refine ⟨_, rfl, a, _, rfl, .inr (seqT_same s1 hS), l, _, _, rfl, rfl, upd_same, by rw [List.length_map]; omega, by rw [List.length_map]; omega, by rw [List.length_map]; show 1 * _ ≤ sizeLine; exact Nat.le_trans (by omega : _ ≤ 96) (by decide), fun p hp => ?_⟩
  have s20 := s1.trans (same_upd (o := .lst (List.replicate ((((ns.map V.int).length : Nat) : Int)).toNat [V.int 1]).flatten) hp)
  refine ⟨by show 0 ≤ sizeLine; decide, fun f hf => ?_⟩
  have hfH : H f = none := s20.free hf
  have s3 := s20.trans (same_upd (o := .lst []) hf)
  have e0 : (List.replicate ((((ns.map V.int).length : Nat) : Int)).toNat [V.int 1]).flatten = (powL ns 0).map V.int := by
    rw [powL_zero, List.map_replicate, List.length_map, Int.toNat_natCast, List.flatten_replicate_singleton]
  have hpf : p ≠ f := ne_of_none upd_same hf
  refine ⟨_, rfl, m, rfl, by omega, by omega, for_range (n := m.toNat) (fun i σ H' => ∃ (r : Addr) (v4 : Option V), σ = [some (.ref a), some (.int m), some (.ref r), some (.ref f), v4, none, none] ∧ r ≠ f ∧ Same H H' ∧ H' r = some (.lst ((powL ns i).map V.int)) ∧ H' f = some (.lst ((sumsL ns i).map V.int)))
    ⟨p, none, rfl, hpf, s3, by rw [upd_ne hpf, ← e0]; exact upd_same, upd_same⟩ ?_ ?_⟩
  · rintro i σ H' hi ⟨r, v4, rfl, hrf, sm, hr, hf'⟩
    have gM := seqT_same sm hS
    refine ⟨_, rfl, _, rfl, r, a, (powL ns i).map V.int, ns.map V.int, rfl, SqL.of hr, gM, fun D hD => lc_F (Mz.walk2 (K := K) (p := true) (q := false) (a := r) (b := a) (xs := (powL ns i).map V.int) (ys := ns.map V.int) (n := ns.length) (by rw [List.length_map, List.length_map]; unfold powL; rw [List.length_map, Nat.min_self])) (fun k => V.int ((powL ns i).getD k 0 * ns.getD k 0 % 97)) (by omega) hD (fun H2 s => ⟨SqL.of (s _ _ hr), seqT_same s gM⟩) ?_ ?_⟩
    · rintro k v H2 H3 hk s2 ⟨T, x, y, rfl, hT, rfl, gx, gy⟩ Q' q'
      dsimp only at gx gy
      have gz := List.getElem?_eq_getElem hk
      have ex : x = .int (ns[k] ^ i % 97) := by
        rw [List.getElem?_map, powL_get gz] at gx
        exact (Option.some.inj gx).symm
      have ey : y = .int ns[k] := by
        rw [List.getElem?_map, gz] at gy
        exact (Option.some.inj gy).symm
      subst ex ey
      have hb := hset.bd _ (List.getElem_mem hk)
      refine ⟨T, [.int (ns[k] ^ i % 97), .int ns[k]], rfl, SqT.of upd_same, rfl, _, _, rfl, _, _, rfl, rfl, rfl, ?_⟩
      refine ⟨_, rfl, _, rfl, _, _, rfl, rfl, .inr ⟨by omega, by omega⟩, _, _, rfl, rfl, by show (0:Int) < _; decide, ?_⟩
      have := q' _ (same_upd (o := .tup [.int (ns[k] ^ i % 97), .int ns[k]]) hT)
      rw [List.getD_eq_getElem?_getD, List.getD_eq_getElem?_getD, powL_get gz, gz] at this
      exact this
    · intro H2 s2 hd
      rw [powL_next] at hd
      have hf2 := s2 _ _ hf'
      have hDf : D ≠ f := fun z => by
        rw [z, hf'] at hD
        cases hD
      refine ⟨_, rfl, .inl ⟨rfl, _, SqL.of hf2⟩, _, rfl, D, _, rfl, SqL.of hd, _, _, rfl, rfl, by show (0:Int) < _; decide, f, _, _, rfl, rfl, hf2, ?_, ?_⟩
      · rw [List.length_map, sumsL_len]
        exact Nat.lt_of_lt_of_le (by omega : i < 100) (by decide)
      · refine ⟨D, _, rfl, hDf, (sm.trans s2).mut hfH, by rw [upd_ne hDf]; exact hd, ?_⟩
        rw [upd_same, sumsL_succ, List.map_append]
        show some (HO.lst (_ ++ [V.int ((powL ns (i + 1)).sum % 97)])) = _
        rw [sum_powL]
        rfl
  · rintro σ H' ⟨r, v4, rfl, hrf, sm, hr, hf'⟩
    refine ⟨_, rfl, f, _, rfl, .inl ⟨SqL.of hf', fun t ht => ?_⟩⟩
    exact q c m0 m1 t _ (sm.trans (same_upd ht)) (sm.free ht) upd_same
/-! ### row_by: slots 0 told, 1 row, 2 k, 3 total, 4 number, 5 before -/

theorem ok_row_by (T : Txt K mg base A) : FnOk P w K mg base (L2.CX P w) 2 A.f_row_by A.d_row_by ["told"] (sp_row_by K A.e_NoCount) := by
  refine T.F_row_by.okX sc_row_by (fun vs H Q E h => by first | (obtain ⟨_, rfl, _⟩ := h; rfl) | (obtain ⟨_, _, rfl, _⟩ := h; rfl) | (obtain ⟨_, _, _, rfl, _⟩ := h; rfl) | (obtain ⟨_, _, _, _, rfl, _⟩ := h; rfl) | (obtain ⟨_, _, _, _, _, rfl, _⟩ := h; rfl) | (obtain ⟨_, _, _, _, _, _, rfl, _⟩ := h; rfl) | (obtain ⟨_, _, _, _, _, _, _, rfl, _⟩ := h; rfl)) (fun cdv AA outer s H vs Q E hr h => ?_)
  refine ⟨_, (pss_cons (ps_expr (pe_call (ok_refuse_unless_count T) (hr.mono (by decide)) (by rfl) T.g_refuse_unless_count T.k_refuse_unless_count T.b_refuse_unless_count .nil (passes_call (takes_of rfl rfl rfl rfl) (fun _ _ _ _ z => z)) (pa_cons (pe_callB call_len_seq (by rfl) T.z_len PySem.boot_len (pa_cons (pv 0) pa_nil)) pa_nil)))
      (pss_cons (ps_set (i := 1) sc_row_by.nd rfl (.inl rfl) (pe_lst (pa_cons pe_int pa_nil)))
      (pss_cons (ps_for (passes_of rfl) rfl (pi_range2 (by rfl) T.z_range (pa_cons pe_int (pa_cons (pe_op op_add (pe_callB call_len_seq (by rfl) T.z_len PySem.boot_len (pa_cons (pv 0) pa_nil)) pe_int) pa_nil))) (pg_name (i := 2) sc_row_by.nd rfl (.inl rfl))
        (pss_cons (ps_set (i := 3) sc_row_by.nd rfl (.inl rfl) (pe_callB (cr_sum rfl) (by rfl) T.z_sum (by decide +kernel) (pa_cons (pe_lc (own := [("number", 4), ("before", 5)]) (g := gTup K 2 (gCons (gName 4) (gCons (gName 5) gNil)))  rfl sc_row_by.nd (Mz.pi_zip2 (p := false) (q := true) (by rfl) T.z_zip (pa_cons (pe_slice sl_tupA (pv 0) po_none (po_some (pv 2))) (pa_cons (pe_revL (pv 1)) pa_nil))) (blkOk_by (own := [("number", 4), ("before", 5)]) (N := ["told", "row", "k", "total", "number", "before"]) (sc := defScope s_row_by) (by decide +kernel)) (fun _ _ _ _ _ => pg_tup rfl (pgs_cons (pg_name (i := 4) sc_row_by.nd rfl (.inl rfl)) (pgs_cons (pg_name (i := 5) sc_row_by.nd rfl (.inl rfl)) pgs_nil))) (fun _ _ _ _ _ => pts_nil) (fun _ _ _ _ _ => (pe_op op_mul (pv 4) (pv 5)))) pa_nil)))
        (pss_one (ps_expr (pe_bm PySem.F.plainAttrs_list PySem.F.slot_list_append PySem.F.type_list_append mt_append (pv 1) (pa_cons (pe_op op_mod (pe_op op_mul (pe_un un_neg (pv 3)) (pe_call (ok_inverse T) (hr.mono (by decide)) (by rfl) T.g_inverse T.k_inverse T.b_inverse .nil (passes_call (takes_of rfl rfl rfl rfl) (fun _ _ _ _ z => z)) (pa_cons (pv 2) pa_nil))) (pe_glob (v := .int 97) rfl T.c_WHEEL ⟨_, rfl⟩)) pa_nil))))))
      (pss_one (ps_ret (pe_callTy call_tuple_of (by rfl) T.z_tuple (by decide +kernel) (pa_cons (pv 1) pa_nil))))))), ?_⟩
  obtain ⟨a, ts, rfl, ha, hz, hE, q⟩ := h
  refine ⟨_, rfl, a, _, rfl, .inr (SqT.of ha), _, rfl, fun c => hE (by rw [List.length_map] at c; omega), fun _ c => ?_⟩
  rw [List.length_map] at c
  refine ⟨by show 1 ≤ sizeLine; decide, fun l hl => ?_⟩
  have s1 := same_upd (o := .lst [V.int 1]) hl
  refine ⟨_, rfl, a, _, rfl, .inr (SqT.of (s1 _ _ ha)), _, _, rfl, rfl, 1, _, rfl, ⟨by decide, by decide, by rw [List.length_map]; omega, by rw [List.length_map]; omega⟩, for_range (lo := 1) (n := ((((ts.map V.int).length : Nat) : Int) + 1 - 1).toNat) (fun i σ H' => ∃ (row : List Int) (v2 v3 : Option V), σ = [some (.ref a), some (.ref l), v2, v3, none, none] ∧ Rb ts i row ∧ Same H H' ∧ H' l = some (.lst (row.map V.int))) ⟨[1], none, none, rfl, Rb.one ts, s1, upd_same⟩ ?_ ?_⟩
  · rintro i σ H' hi ⟨row, v2, v3, rfl, rb, sm, hr⟩
    rw [List.length_map] at hi
    have hi' : i < ts.length := by omega
    have ek : (1 + (i : Int)).toNat = i + 1 := by omega
    refine ⟨_, rfl, _, rfl, 1 + (i : Int), rfl, takeA (sm _ _ ha) (by omega) (by omega) fun w H2 s2 hw => ?_⟩
    rw [ek] at hw
    have hr2 := s2 _ _ hr
    refine ⟨_, rfl, l, _, rfl, SqL.of hr2, fun p hp => ?_⟩
    have s3 := same_upd (o := .lst (row.map V.int).reverse) hp
    have hlw : (ts.take (i + 1)).length = i + 1 := by rw [List.length_take]; omega
    refine ⟨w, p, (ts.take (i + 1)).map V.int, (row.map V.int).reverse, rfl, SqT.of (s3 _ _ hw), SqL.of upd_same, fun D hD => lc_F (Mz.walk2 (K := K) (p := false) (q := true) (a := w) (b := p) (xs := (ts.take (i + 1)).map V.int) (ys := (row.map V.int).reverse) (n := i + 1) (by rw [List.length_map, List.length_reverse, List.length_map, hlw, rb.len, Nat.min_self])) (fun j => V.int (sg ts (j + 1) * gd row (i + 1 - 1 - j))) (by omega) hD (fun H3 s => ⟨SqT.of (s _ _ (s3 _ _ hw)), SqL.of (s _ _ upd_same)⟩) ?_ ?_⟩
    · rintro j v H3 H4 hj s4 ⟨T, x, y, rfl, hT, rfl, gx, gy⟩ Q' q'
      dsimp only at gx gy
      have hjt : j < ts.length := by omega
      have ex : x = .int (sg ts (j + 1)) := by
        rw [List.getElem?_map, List.getElem?_take, if_pos hj, get_gd hjt] at gx
        exact (Option.some.inj gx).symm
      have ey : y = .int (gd row (i + 1 - 1 - j)) := by
        rw [← List.map_reverse, List.getElem?_map, List.getElem?_reverse (by rw [rb.len]; exact hj), rb.len, get_gd (by rw [rb.len]; omega)] at gy
        exact (Option.some.inj gy).symm
      subst ex ey
      have hb := rb.bd _ (List.mem_of_getElem? (get_gd (l := row) (i := i + 1 - 1 - j) (by rw [rb.len]; omega)))
      refine ⟨T, [.int (sg ts (j + 1)), .int (gd row (i + 1 - 1 - j))], rfl, SqT.of upd_same, rfl, _, _, rfl, _, _, rfl, rfl, rfl, ?_⟩
      exact ⟨_, rfl, _, rfl, _, _, rfl, rfl, .inr ⟨by omega, by omega⟩, q' _ (same_upd hT)⟩
    · intro H3 s4 hd
      rw [ofF_vals] at hd
      have hr3 := s4 _ _ (s3 _ _ hr2)
      refine ⟨D, _, rfl, SqL.of hd, ?_⟩
      refine ⟨_, rfl, .inl ⟨rfl, _, SqL.of hr3⟩, _, rfl, _, rfl, _, rfl, 1 + (i : Int), rfl, fun z => absurd z (by omega), fun _ g g0 g1 g2 => ?_⟩
      refine ⟨_, _, rfl, rfl, .inr ⟨by omega, by omega⟩, _, _, rfl, rfl, by show (0:Int) < _; decide, l, _, _, rfl, rfl, hr3, ?_, ?_⟩
      · rw [List.length_map, rb.len]
        exact Nat.lt_of_lt_of_le (by omega : i + 1 < 1000) (by decide)
      · refine ⟨row ++ [-(ofF (i + 1) fun j => sg ts (j + 1) * gd row (i + 1 - 1 - j)).sum * g % 97], _, _, rfl, rb.next (sum_range _ _) g2, ((sm.trans s2).trans (s3.trans s4)).mut hl, ?_⟩
        rw [upd_same, List.map_append]
        rfl
  · rintro σ H' ⟨row, v2, v3, rfl, rb, sm, hr⟩
    have er : ((((ts.map V.int).length : Nat) : Int) + 1 - 1).toNat = ts.length := by rw [List.length_map]; omega
    rw [er] at rb
    exact ⟨_, rfl, l, _, rfl, .inl ⟨SqL.of hr, fun t ht => q (by omega) t row _ rb (sm.trans (same_upd ht)) (sm.free ht) upd_same⟩⟩
/-! ### _law_start: slots 0 _law_script, 1 _law_mixed, 2 _law_cell -/

theorem ok__law_start (T : Txt K mg base A) : FnOk P w K mg base CX0 1 A.f__law_start A.d__law_start ["_law_script"] (sp__law_start K) := by
  refine T.F__law_start.ok sc__law_start (fun vs H Q E h => by first | (obtain ⟨_, rfl, _⟩ := h; rfl) | (obtain ⟨_, _, rfl, _⟩ := h; rfl) | (obtain ⟨_, _, _, rfl, _⟩ := h; rfl) | (obtain ⟨_, _, _, _, rfl, _⟩ := h; rfl) | (obtain ⟨_, _, _, _, _, rfl, _⟩ := h; rfl) | (obtain ⟨_, _, _, _, _, _, rfl, _⟩ := h; rfl) | (obtain ⟨_, _, _, _, _, _, _, rfl, _⟩ := h; rfl)) (fun cdv AA outer s H vs Q E hr h => ?_)
  refine ⟨_, (pss_cons (ps_set (i := 1) sc__law_start.nd rfl (.inl rfl) pe_int)
      (pss_cons (ps_for PassesOwn.never rfl (pi_list (pv 0)) (pg_name (i := 2) sc__law_start.nd rfl (.inl rfl))
        (pss_one (ps_set (i := 1) sc__law_start.nd rfl (.inl rfl) (pe_op op_mod (pe_op op_add (pe_op op_add (pe_op op_mul (pv 1) pe_int) (pv 2)) pe_int) pe_int))))
      (pss_one (ps_ret (pe_lst (pa_cons (pv 0) (pa_cons pe_int (pa_cons (pv 1) (pa_cons pe_int pa_nil))))))))), ?_⟩
  obtain ⟨a, ns, rfl, hS, q⟩ := h
  refine ⟨_, rfl, a, rfl, ⟨_, hS⟩, for_list (K := K) (a := a) (xs := ns.map V.int) (fun i σ H' => ∃ (m : Int) (v : Option V), σ = [some (.ref a), some (.int m), v] ∧ H' = H) ⟨1, none, rfl, rfl⟩ (fun i σ H' _ ⟨_, _, _, e⟩ => e ▸ hS) ?_ ?_⟩
  · rintro i y σ H' hi ⟨m, v, rfl, rfl⟩
    obtain ⟨z, hz, rfl⟩ := int_at hi
    exact ⟨_, rfl, _, _, rfl, rfl, .inr ⟨by decide, by decide⟩, _, rfl, _, _, rfl, rfl, _, _, rfl, rfl, _, _, rfl, rfl, by show (0:Int) < _; decide, _, _, rfl, rfl⟩
  · rintro σ H' ⟨m, v, rfl, rfl⟩
    refine ⟨_, rfl, _, rfl, by show 4 ≤ sizeLine; decide, fun p hp => ?_⟩
    exact q p _ hp (same_upd hp) ⟨⟨0, m, 0, Int.le_refl 0, upd_same⟩, ns, (same_upd hp).seq hS⟩
/-! ### _law_drawn: slots 0 _law_state, 1 _law_many, 2 _law_found, 3 _law_cell -/

theorem ok__law_drawn (T : Txt K mg base A) : FnOk P w K mg base CX0 1 A.f__law_drawn A.d__law_drawn ["_law_state", "_law_many"] (sp__law_drawn K) := by
  refine T.F__law_drawn.ok sc__law_drawn (fun vs H Q E h => by first | (obtain ⟨_, rfl, _⟩ := h; rfl) | (obtain ⟨_, _, rfl, _⟩ := h; rfl) | (obtain ⟨_, _, _, rfl, _⟩ := h; rfl) | (obtain ⟨_, _, _, _, rfl, _⟩ := h; rfl) | (obtain ⟨_, _, _, _, _, rfl, _⟩ := h; rfl) | (obtain ⟨_, _, _, _, _, _, rfl, _⟩ := h; rfl) | (obtain ⟨_, _, _, _, _, _, _, rfl, _⟩ := h; rfl)) (fun cdv AA outer s H vs Q E hr h => ?_)
  refine ⟨_, (pss_cons (ps_if (pt_cmpR op_gt (pe_ix ix_list (pv 0) pe_int (fun _ _ => rfl)) pe_int (nomark _)) (pss_cons (ps_set (i := 2) sc__law_drawn.nd rfl (.inl rfl) (pe_op op_mod (pe_ix ix_list (pv 0) pe_int (fun _ _ => rfl)) (pv 1)))
        (pss_cons (ps_asg (pe_op op_fdivW (pe_ix ix_list (pv 0) pe_int (fun _ _ => rfl)) (pv 1)) (pg_sub (pv 0) pe_int set_list))
        (pss_one (ps_ret (pv 2))))) pss_nil)
      (pss_cons (ps_asg (pe_op op_add (pe_ix ix_list (pv 0) pe_int (fun _ _ => rfl)) pe_int) (pg_sub (pv 0) pe_int set_list))
      (pss_cons (ps_if (pt_cmpR op_le (pe_ix ix_list (pv 0) pe_int (fun _ _ => rfl)) (pe_callB call_len_seq (by rfl) T.z_len PySem.boot_len (pa_cons (pe_ix ix_list (pv 0) pe_int (fun _ _ => rfl)) pa_nil)) (nomark _)) (pss_cons (ps_set (i := 3) sc__law_drawn.nd rfl (.inl rfl) (pe_ix ix_list (pe_ix ix_list (pv 0) pe_int (fun _ _ => rfl)) (pe_op op_sub (pe_ix ix_list (pv 0) pe_int (fun _ _ => rfl)) pe_int) (fun _ _ => rfl)))
        (pss_cons (ps_asg (pe_ifExp (pt_cmpR op_ge (pv 3) (pe_op op_pow pe_int pe_int) (nomark _)) (pe_op op_fdivW (pv 3) (pv 1)) pe_int) (pg_sub (pv 0) pe_int set_list))
        (pss_one (ps_ret (pe_op op_mod (pv 3) (pv 1)))))) pss_nil)
      (pss_cons (ps_asg (pe_op op_mod (pe_op op_add (pe_op op_mul (pe_ix ix_list (pv 0) pe_int (fun _ _ => rfl)) pe_int) pe_int) pe_int) (pg_sub (pv 0) pe_int set_list))
      (pss_one (ps_ret (pe_op op_mod (pe_op op_fdiv (pe_ix ix_list (pv 0) pe_int (fun _ _ => rfl)) pe_int) (pv 1)))))))), ?_⟩
  obtain ⟨a, st, n, rfl, hS, hn, hnb, q⟩ := h
  obtain ⟨⟨i, m, r, hi, hs⟩, ns, hns⟩ := id hS
  -- if state[3] > 0
  refine ⟨_, rfl, st, _, 3, _, rfl, rfl, SqL.of hs, atI_nat (j := 3) rfl, _, _, rfl, rfl, _, rfl, ite2 (fun c => ?_) (fun c => ?_)⟩
  · refine ⟨_, rfl, st, _, 3, _, rfl, rfl, SqL.of hs, atI_nat (j := 3) rfl, _, rfl, _, _, rfl, rfl, hn, ?_⟩
    refine ⟨_, rfl, st, _, 3, _, rfl, rfl, SqL.of hs, atI_nat (j := 3) rfl, _, rfl, _, _, rfl, rfl, wide_div hn hnb (by decide) (by decide), ?_⟩
    refine ⟨_, rfl, st, _, 3, 3, rfl, rfl, hs, rfl, ?_⟩
    exact ⟨_, rfl, q _ _ (Int.emod_nonneg _ (by omega)) (Int.emod_lt_of_pos _ hn) (Go.upd (r := r / n) (m := m) hS hi)⟩
  · -- state[1] = state[1] + 1
    refine ⟨_, rfl, st, _, 1, _, rfl, rfl, SqL.of hs, atI_nat (j := 1) rfl, _, _, rfl, rfl, ?_⟩
    refine ⟨_, rfl, st, _, 1, 1, rfl, rfl, hs, rfl, ?_⟩
    have g1 : Go K st H (upd H st (.lst [.ref a, .int (i + 1), .int m, .int r])) := Go.upd hS (by omega)
    have hS1 := g1.st _ hS
    have hs1 : (upd H st (.lst [.ref a, .int (i + 1), .int m, .int r])) st = some (.lst [.ref a, .int (i + 1), .int m, .int r]) := upd_same
    obtain ⟨_, ns1, hns1⟩ := id hS1
    -- if state[1] <= len(state[0])
    refine ⟨_, rfl, st, _, 1, _, rfl, rfl, SqL.of hs1, atI_nat (j := 1) rfl, _, rfl, st, _, 0, _, rfl, rfl, SqL.of hs1, atI_nat (j := 0) rfl, a, _, rfl, .inl hns1, _, _, rfl, rfl, _, rfl, ite2 (fun c => ?_) (fun c => ?_)⟩
    · have c2 : i + 1 ≤ (ns1.length : Int) := by
        have := of_decide_eq_true c
        rw [List.length_map] at this
        exact this
      have hlt : i.toNat < ns1.length := by omega
      have hat : atI (ns1.map V.int) (i + 1 - 1) = some (.int ns1[i.toNat]) := at_of (j := i.toNat) (by omega) (by rw [List.getElem?_map, List.getElem?_eq_getElem hlt]; rfl)
      -- cell = state[0][state[1] - 1]
      refine ⟨_, rfl, st, _, 0, _, rfl, rfl, SqL.of hs1, atI_nat (j := 0) rfl, _, rfl, st, _, 1, _, rfl, rfl, SqL.of hs1, atI_nat (j := 1) rfl, _, _, rfl, rfl, a, _, _, _, rfl, rfl, hns1, hat, ?_⟩
      -- state[3] = cell // many if cell >= 10 ** 18 else 0
      refine ⟨_, rfl, _, _, rfl, rfl, ⟨by decide, by decide, by decide⟩, _, _, rfl, rfl, _, rfl, ite2 (fun c3 => ?_) (fun c3 => ?_)⟩
      · refine ⟨_, rfl, _, rfl, _, _, rfl, rfl, wide_div hn hnb (by decide) (by decide), _, rfl, st, _, 3, 3, rfl, rfl, hs1, rfl, ?_⟩
        exact ⟨_, rfl, _, rfl, _, _, rfl, rfl, hn, q _ _ (Int.emod_nonneg _ (by omega)) (Int.emod_lt_of_pos _ hn) (g1.trans (Go.upd (m := m) hS1 (by omega)))⟩
      · refine ⟨_, rfl, st, _, 3, 3, rfl, rfl, hs1, rfl, ?_⟩
        exact ⟨_, rfl, _, rfl, _, _, rfl, rfl, hn, q _ _ (Int.emod_nonneg _ (by omega)) (Int.emod_lt_of_pos _ hn) (g1.trans (Go.upd (m := m) hS1 (by omega)))⟩
    · -- state[2] = (state[2] * 48271 + 11) % 2147483647
      refine ⟨_, rfl, st, _, 2, _, rfl, rfl, SqL.of hs1, atI_nat (j := 2) rfl, _, _, rfl, rfl, .inr ⟨by decide, by decide⟩, _, _, rfl, rfl, _, _, rfl, rfl, by show (0:Int) < _; decide, ?_⟩
      refine ⟨_, rfl, st, _, 2, 2, rfl, rfl, hs1, rfl, ?_⟩
      have g2 := g1.trans (Go.upd (m := (m * 48271 + 11) % 2147483647) (r := r) hS1 (by omega : 0 ≤ i + 1))
      refine ⟨_, rfl, st, _, 2, _, rfl, rfl, SqL.of upd_same, atI_nat (j := 2) rfl, _, _, rfl, rfl, ⟨by decide, by decide⟩, _, rfl, _, _, rfl, rfl, hn, ?_⟩
      exact q _ _ (Int.emod_nonneg _ (by omega)) (Int.emod_lt_of_pos _ hn) g2
/-! ### _law_set: slots 0 _law_state, 1 _law_most, 2 _law_many, 3 _law_first, 4 _law_step, 5 _law_k -/

theorem ok__law_set (T : Txt K mg base A) : FnOk P w K mg base CX0 2 A.f__law_set A.d__law_set ["_law_state", "_law_most"] (sp__law_set K) := by
  refine T.F__law_set.ok sc__law_set (fun vs H Q E h => by first | (obtain ⟨_, rfl, _⟩ := h; rfl) | (obtain ⟨_, _, rfl, _⟩ := h; rfl) | (obtain ⟨_, _, _, rfl, _⟩ := h; rfl) | (obtain ⟨_, _, _, _, rfl, _⟩ := h; rfl) | (obtain ⟨_, _, _, _, _, rfl, _⟩ := h; rfl) | (obtain ⟨_, _, _, _, _, _, rfl, _⟩ := h; rfl) | (obtain ⟨_, _, _, _, _, _, _, rfl, _⟩ := h; rfl)) (fun cdv AA outer s H vs Q E hr h => ?_)
  refine ⟨_, (pss_cons (ps_set (i := 2) sc__law_set.nd rfl (.inl rfl) (pe_call (ok__law_drawn T) (hr.mono (by decide)) (by rfl) T.g__law_drawn T.k__law_drawn T.b__law_drawn .nil pass0 (pa_cons (pv 0) (pa_cons (pe_op op_add (pv 1) pe_int) pa_nil))))
      (pss_cons (ps_set (i := 3) sc__law_set.nd rfl (.inr rfl) (pe_call (ok__law_drawn T) (hr.mono (by decide)) (by rfl) T.g__law_drawn T.k__law_drawn T.b__law_drawn .nil pass0 (pa_cons (pv 0) (pa_cons pe_int pa_nil))))
      (pss_cons (ps_set (i := 4) sc__law_set.nd rfl (.inr rfl) (pe_ix ix_list (pe_lst (pa_cons pe_int (pa_cons pe_int (pa_cons (pe_op op_add pe_int (pe_call (ok__law_drawn T) (hr.mono (by decide)) (by rfl) T.g__law_drawn T.k__law_drawn T.b__law_drawn .nil pass0 (pa_cons (pv 0) (pa_cons pe_int pa_nil)))) pa_nil)))) (pe_call (ok__law_drawn T) (hr.mono (by decide)) (by rfl) T.g__law_drawn T.k__law_drawn T.b__law_drawn .nil pass0 (pa_cons (pv 0) (pa_cons pe_int pa_nil))) (fun _ _ => rfl)))
      (pss_cons (ps_if (pt_cmpR op_eq (pv 4) pe_int (nomark _)) (pss_one (ps_ret (pe_callTy call_tuple_of (by rfl) T.z_tuple (by decide +kernel) (pa_cons (pe_callB (call_sortedU rfl) (by rfl) T.z_sorted (by decide +kernel) (pa_cons (pe_callTy (call_setQ rfl) (by rfl) T.z_set (by decide +kernel) (pa_cons (pe_lc (own := [("_law_k", 5)]) (g := gName 5)  rfl sc__law_set.nd (pi_range1 (by rfl) T.z_range (pa_cons (pv 2) pa_nil)) (blkOk_by (own := [("_law_k", 5)]) (N := ["_law_state", "_law_most", "_law_many", "_law_first", "_law_step", "_law_k"]) (sc := defScope s__law_set) (by decide +kernel)) (fun _ _ _ _ _ => pg_name (i := 5) sc__law_set.nd rfl (Or.inl rfl)) (fun _ _ _ _ _ => pts_nil) (fun _ _ _ _ _ => (pe_op op_add pe_int (pe_call (ok__law_drawn T) (hr.mono (by decide)) (by rfl) T.g__law_drawn T.k__law_drawn T.b__law_drawn .nil pass0 (pa_cons (pv 0) (pa_cons pe_int pa_nil)))))) pa_nil)) pa_nil)) pa_nil)))) pss_nil)
      (pss_one (ps_ret (pe_callTy call_tuple_of (by rfl) T.z_tuple (by decide +kernel) (pa_cons (pe_callB (call_sortedU rfl) (by rfl) T.z_sorted (by decide +kernel) (pa_cons (pe_callTy (call_setQ rfl) (by rfl) T.z_set (by decide +kernel) (pa_cons (pe_lc (own := [("_law_k", 5)]) (g := gName 5)  rfl sc__law_set.nd (pi_range1 (by rfl) T.z_range (pa_cons (pv 2) pa_nil)) (blkOk_by (own := [("_law_k", 5)]) (N := ["_law_state", "_law_most", "_law_many", "_law_first", "_law_step", "_law_k"]) (sc := defScope s__law_set) (by decide +kernel)) (fun _ _ _ _ _ => pg_name (i := 5) sc__law_set.nd rfl (Or.inl rfl)) (fun _ _ _ _ _ => pts_nil) (fun _ _ _ _ _ => (pe_op op_add pe_int (pe_op op_mod (pe_op op_add (pv 3) (pe_op op_mul (pv 4) (pv 5))) pe_int)))) pa_nil)) pa_nil)) pa_nil)))))))), ?_⟩
  obtain ⟨a, st, most, rfl, hS, m0, m1, q⟩ := h
  refine ⟨_, rfl, _, rfl, _, _, rfl, rfl, a, st, most + 1, rfl, hS, by omega, nat8000 (by omega) (by omega), fun many H1 n0 n1 g1 => ?_⟩
  have S1 := g1.st _ hS
  refine ⟨_, rfl, a, st, 96, rfl, S1, by decide, nat8000 (by decide) (by decide +kernel), fun first H2 _ _ g2 => ?_⟩
  have g2' := g1.trans g2
  have S2 := g2'.st _ hS
  refine ⟨_, rfl, a, st, 95, rfl, S2, by decide, nat8000 (by decide) (by decide +kernel), fun u H3 u0 u1 g3 => ?_⟩
  have g3' := g2'.trans g3
  have S3 := g3'.st _ hS
  refine ⟨_, _, rfl, rfl, by show 3 ≤ sizeLine; decide, fun l hl => ?_⟩
  refine ⟨_, rfl, a, st, 3, rfl, (Go.new hl).st _ S3, by decide, nat8000 (by decide) (by decide +kernel), fun v H4 v0 v1 g4 => ?_⟩
  obtain ⟨step, hat, s0, s1⟩ := pickI (ns := [0, 1, 1 + u]) (lo := 0) (hi := 95) (by simp only [List.mem_cons, List.not_mem_nil, or_false]; rintro z (rfl | rfl | rfl) <;> omega) v0 v1
  have g4' := g3'.trans ((Go.new hl).trans g4)
  have S4 := g4'.st _ hS
  refine ⟨l, _, _, _, rfl, rfl, SqL.of (g4.keep _ _ (S3.fresh hl) upd_same), hat, ?_⟩
  refine ⟨_, rfl, rfl, _, rfl, ite2 (fun c => ?_) (fun c => ?_)⟩
  · refine ⟨_, rfl, many, rfl, by omega, by omega, fun D hD => lc_ints (K := K) (st := st) (a := a) (fun z => 1 ≤ z ∧ z ≤ 96) S4 hD (by omega) (fun _ => rfl) (fun i H5 hi g5 Q' q' => ?_) fun ns H5 hl5 hP g5 hd5 => ?_⟩
    · refine ⟨_, rfl, a, st, 96, rfl, g5.st _ S4, by decide, nat8000 (by decide) (by decide +kernel), fun z H6 z0 z1 g6 => ?_⟩
      exact ⟨_, _, rfl, rfl, q' _ H6 ⟨by omega, by omega⟩ g6⟩
    · refine ⟨D, ns, rfl, .inl (SqL.of hd5), by omega, fun c p hc hp => ?_⟩
      refine ⟨p, _, c, rfl, upd_same, by omega, fun ms p2 hpw hmem hlen hp2 => ?_⟩
      refine ⟨p2, _, rfl, .inl ⟨SqL.of upd_same, fun t ht => ?_⟩⟩
      have g6 := (((g4'.trans g5).trans (Go.new hp)).trans (Go.new hp2)).trans (Go.new (o := .tup (ms.map V.int)) ht)
      exact q t ms _ ⟨hpw, fun z hz => hP z (of_decide_eq_true ((hmem z).mp hz))⟩ (by omega) g6 ((((g4'.trans g5).trans (Go.new hp)).trans (Go.new hp2)).free hS ht) upd_same
  · refine ⟨_, rfl, many, rfl, by omega, by omega, fun D hD => lc_ints (K := K) (st := st) (a := a) (fun z => 1 ≤ z ∧ z ≤ 96) S4 hD (by omega) (fun _ => rfl) (fun i H5 hi g5 Q' q' => ?_) fun ns H5 hl5 hP g5 hd5 => ?_⟩
    · refine ⟨_, rfl, _, rfl, _, rfl, _, _, rfl, rfl, .inl ⟨by omega, by omega⟩, _, _, rfl, rfl, _, _, rfl, rfl, by show (0:Int) < _; decide, _, _, rfl, rfl, ?_⟩
      exact q' _ H5 ⟨by show 1 ≤ 1 + _ % 96; omega, by show 1 + _ % 96 ≤ 96; omega⟩ (Go.refl _)
    · refine ⟨D, ns, rfl, .inl (SqL.of hd5), by omega, fun c p hc hp => ?_⟩
      refine ⟨p, _, c, rfl, upd_same, by omega, fun ms p2 hpw hmem hlen hp2 => ?_⟩
      refine ⟨p2, _, rfl, .inl ⟨SqL.of upd_same, fun t ht => ?_⟩⟩
      have g6 := (((g4'.trans g5).trans (Go.new hp)).trans (Go.new hp2)).trans (Go.new (o := .tup (ms.map V.int)) ht)
      exact q t ms _ ⟨hpw, fun z hz => hP z (of_decide_eq_true ((hmem z).mp hz))⟩ (by omega) g6 ((((g4'.trans g5).trans (Go.new hp)).trans (Go.new hp2)).free hS ht) upd_same
/-! ### _law_turned: slots 0 _law_marks, 1 _law_mark, 2 _law_one -/

theorem ok__law_turned (T : Txt K mg base A) : FnOk P w K mg base CX0 1 A.f__law_turned A.d__law_turned ["_law_marks", "_law_mark"] (sp__law_turned K) := by
  refine T.F__law_turned.ok sc__law_turned (fun vs H Q E h => by first | (obtain ⟨_, rfl, _⟩ := h; rfl) | (obtain ⟨_, _, rfl, _⟩ := h; rfl) | (obtain ⟨_, _, _, rfl, _⟩ := h; rfl) | (obtain ⟨_, _, _, _, rfl, _⟩ := h; rfl) | (obtain ⟨_, _, _, _, _, rfl, _⟩ := h; rfl) | (obtain ⟨_, _, _, _, _, _, rfl, _⟩ := h; rfl) | (obtain ⟨_, _, _, _, _, _, _, rfl, _⟩ := h; rfl)) (fun cdv AA outer s H vs Q E hr h => ?_)
  refine ⟨_, (pss_cons (ps_if (pt_cmpR op_in_seq (pv 1) (pv 0) (by rfl)) (pss_one (ps_ret (pe_callTy call_tuple_of (by rfl) T.z_tuple (by decide +kernel) (pa_cons (pe_lc (own := [("_law_one", 2)]) (g := gName 2)  rfl sc__law_turned.nd (pi_tup (pv 0)) (blkOk_by (own := [("_law_one", 2)]) (N := ["_law_marks", "_law_mark", "_law_one"]) (sc := defScope s__law_turned) (by decide +kernel)) (fun _ _ _ _ _ => pg_name (i := 2) sc__law_turned.nd rfl (Or.inl rfl)) (fun _ _ _ _ _ => (pts_one (pt_cmpR op_ne (pv 2) (pv 1) (nomark _)))) (fun _ _ _ _ _ => (pv 2))) pa_nil)))) pss_nil)
      (pss_one (ps_ret (pe_callTy call_tuple_of (by rfl) T.z_tuple (by decide +kernel) (pa_cons (pe_callB (call_sortedQ rfl) (by rfl) T.z_sorted (by decide +kernel) (pa_cons (pe_op op_catA (pv 0) (pe_tup (pa_cons (pv 1) pa_nil))) pa_nil)) pa_nil))))), ?_⟩
  obtain ⟨a, ms, m, rfl, ha, hset, m0, m1, q⟩ := h
  have hl := hset.len
  refine ⟨_, rfl, _, rfl, in_turn (SqT.of ha) ⟨_, rfl, ite2 (fun c => ?_) (fun c => ?_)⟩⟩
  · refine ⟨_, rfl, a, rfl, ⟨_, SqT.of ha⟩, fun D hD => lc_pureT (K := K) (a := a) (xs := ms.map V.int) (fun v => !decide (v = .int m)) (fun v => v) hD (SqT.of ha) (by rw [List.length_map]; omega) (fun _ => rfl) ?_ (fun x _ _ H2 s2 Q' q' => ⟨_, rfl, q' H2 (Same.refl _)⟩) fun H2 s2 hd => ?_⟩
    · intro x hx H2 s2 Q' q'
      obtain ⟨z, hz, rfl⟩ := List.mem_map.mp hx
      exact ⟨_, rfl, _, rfl, rfl, _, rfl, q' H2 (Same.refl _)⟩
    rw [int_filter (g := fun z => !decide (z = m)) (fun z _ => by
      have e : decide (V.int z = V.int m) = decide (z = m) := decide_eq_decide.mpr ⟨fun h => V.int.inj h, fun h => congrArg V.int h⟩
      show (!decide (V.int z = V.int m)) = _
      rw [e])] at hd
    exact ⟨D, _, rfl, .inl ⟨SqL.of hd, fun t ht => q t _ _ ⟨hset.up.filter _, fun z hz => hset.bd z (List.mem_filter.mp hz).1⟩ (s2.trans (same_upd ht)) (s2.free ht) upd_same⟩⟩
  · have hm : m ∉ ms := fun w => c (decide_eq_true w)
    refine ⟨_, rfl, _, rfl, by show 1 ≤ sizeLine; decide, fun u hu => ?_⟩
    refine catA_ints (zs := ms) (ns := [m]) (SqT.of ((same_upd hu) _ _ ha)) (SqT.of upd_same) (by show ms.length + 1 ≤ 1000; omega) fun w H2 s2 hw => ?_
    refine ⟨w, ms ++ [m], rfl, .inr hw, fun ns p hperm hle hp => ?_⟩
    refine ⟨p, _, rfl, .inl ⟨SqL.of upd_same, fun t ht => ?_⟩⟩
    have hnd : (ms ++ [m]).Nodup := by
      refine List.nodup_append.mpr ⟨hset.up.imp fun h => Int.ne_of_lt h, (List.nodup_cons.mpr ⟨(fun h => nomatch h), List.nodup_nil⟩), fun x hx y hy e => ?_⟩
      rw [List.mem_singleton.mp hy] at e
      exact hm (e ▸ hx)
    have hs : SetL ns := ⟨MyS.lt_nd ns hle (hperm.nodup_iff.mpr hnd), fun z hz => by
      rcases List.mem_append.mp (hperm.mem_iff.mp hz) with h | h
      · exact hset.bd z h
      · rw [List.mem_singleton.mp h]
        exact ⟨m0, m1⟩⟩
    exact q t ns _ hs ((((same_upd hu).trans s2).trans (same_upd hp)).trans (same_upd ht)) ((((same_upd hu).trans s2).trans (same_upd hp)).free ht) upd_same
/-! ### _law_changed: slots 0 _law_state, 1 _law_marks, 2 _law_many, 3 _law_k, 4 _law_mark -/

theorem ok__law_changed (T : Txt K mg base A) : FnOk P w K mg base CX0 2 A.f__law_changed A.d__law_changed ["_law_state", "_law_marks", "_law_many"] (sp__law_changed K) := by
  refine T.F__law_changed.ok sc__law_changed (fun vs H Q E h => by first | (obtain ⟨_, rfl, _⟩ := h; rfl) | (obtain ⟨_, _, rfl, _⟩ := h; rfl) | (obtain ⟨_, _, _, rfl, _⟩ := h; rfl) | (obtain ⟨_, _, _, _, rfl, _⟩ := h; rfl) | (obtain ⟨_, _, _, _, _, rfl, _⟩ := h; rfl) | (obtain ⟨_, _, _, _, _, _, rfl, _⟩ := h; rfl) | (obtain ⟨_, _, _, _, _, _, _, rfl, _⟩ := h; rfl)) (fun cdv AA outer s H vs Q E hr h => ?_)
  refine ⟨_, (pss_cons (ps_for PassesOwn.never rfl (pi_range1 (by rfl) T.z_range (pa_cons (pv 2) pa_nil)) (pg_name (i := 3) sc__law_changed.nd rfl (.inl rfl))
        (pss_cons (ps_set (i := 4) sc__law_changed.nd rfl (.inl rfl) (pe_op op_add pe_int (pe_call (ok__law_drawn T) (hr.mono (by decide)) (by rfl) T.g__law_drawn T.k__law_drawn T.b__law_drawn .nil pass0 (pa_cons (pv 0) (pa_cons pe_int pa_nil)))))
        (Evl.pss_cut (ps_if (PW.pt (pw_and (pt_cmpR (op_neD hr.units) (pv 1) (pe_tup pa_nil) (nomark _)) (pw_and1 (pt_cmpR op_eq (pe_call (ok__law_drawn T) (hr.mono (by decide)) (by rfl) T.g__law_drawn T.k__law_drawn T.b__law_drawn .nil pass0 (pa_cons (pv 0) (pa_cons pe_int pa_nil))) pe_int (nomark _))))) (pss_one (ps_set (i := 4) sc__law_changed.nd rfl (.inl rfl) (pe_ix ix_tup (pv 1) (pe_call (ok__law_drawn T) (hr.mono (by decide)) (by rfl) T.g__law_drawn T.k__law_drawn T.b__law_drawn .nil pass0 (pa_cons (pv 0) (pa_cons (pe_callB call_len_seq (by rfl) T.z_len PySem.boot_len (pa_cons (pv 1) pa_nil)) pa_nil))) (fun _ _ => rfl)))) pss_nil)
        (pss_one (ps_set (i := 1) sc__law_changed.nd rfl (.inl rfl) (pe_call (ok__law_turned T) (hr.mono (by decide)) (by rfl) T.g__law_turned T.k__law_turned T.b__law_turned .nil pass0 (pa_cons (pv 1) (pa_cons (pv 4) pa_nil))))))))
      (pss_one (ps_ret (pv 1)))), ?_⟩
  obtain ⟨a, st, b, ms, n, rfl, hS, hb, hset, n0, n1, q⟩ := h
  refine ⟨_, rfl, n, rfl, by omega, by omega, for_range (n := n.toNat) (fun i σ H' => ∃ (t : Addr) (ns : List Int) (v3 v4 : Option V), σ = [some (.ref st), some (.ref t), some (.int n), v3, v4] ∧ Go K st H H' ∧ H' t = some (.tup (ns.map V.int)) ∧ SetL ns) ⟨b, ms, none, none, rfl, Go.refl _, hb, hset⟩ ?_ ?_⟩
  · rintro i σ H1 hi ⟨t, ns, v3, v4, rfl, g1, ht, hns⟩
    have S1 := g1.st _ hS
    refine ⟨_, rfl, a, st, 96, rfl, S1, by decide, nat8000 (by decide) (by decide +kernel), fun d H2 d0 d1 g2 => ?_⟩
    refine ⟨_, _, rfl, rfl, ?_⟩
    have g2' := g1.trans g2
    have S2 := g2'.st _ hS
    have ht2 := g2.keep _ _ (S1.ne ht (fun _ z => nomatch z)) ht
    have hnl := hns.len
    refine ⟨fun σ H' => ∃ (m : Int) (v3 : Option V), σ = [some (.ref st), some (.ref t), some (.int n), v3, some (.int m)] ∧ 1 ≤ m ∧ m ≤ 96 ∧ Go K st H H' ∧ H' t = some (.tup (ns.map V.int)), ?_, ?_⟩
    · refine ⟨_, rfl, by show 0 ≤ sizeLine; decide, fun u hu => neT (ns := ns) (ms := []) (SqT.of ((same_upd hu) _ _ ht2)) (SqT.of upd_same) ⟨_, rfl, ?_⟩⟩
      have gu := Go.new (K := K) (st := st) (o := .tup []) hu
      have htu := (same_upd (o := .tup []) hu) _ _ ht2
      by_cases hc : ns = []
      · rw [decide_eq_true hc]
        refine iteF (iteF ?_)
        exact ⟨1 + d, _, rfl, by omega, by omega, g2'.trans gu, htu⟩
      · rw [decide_eq_false hc]
        refine iteT ?_
        have Su := gu.st _ S2
        refine ⟨_, rfl, a, st, 2, rfl, Su, by decide, nat8000 (by decide) (by decide +kernel), fun c H3 _ _ g3 => ⟨rfl, _, rfl, ite2 (fun _ => ?_) (fun _ => ?_)⟩⟩
        · have S3 := g3.st _ Su
          have ht3 := g3.keep _ _ (Su.ne htu (fun _ z => nomatch z)) htu
          have lpos : 0 < ns.length := List.length_pos_iff.mpr hc
          refine ⟨_, rfl, _, rfl, _, rfl, t, _, rfl, .inr (SqT.of ht3), a, st, _, rfl, S3, by rw [List.length_map]; omega, by rw [List.length_map]; exact nat8000 (by omega) (by omega), fun e H4 e0 e1 g4 => ?_⟩
          rw [List.length_map] at e1
          have hlt : e.toNat < ns.length := by omega
          have ht4 := g4.keep _ _ (S3.ne ht3 (fun _ z => nomatch z)) ht3
          have ge : (ns.map V.int)[e.toNat]? = some (.int ns[e.toNat]) := by rw [List.getElem?_map, List.getElem?_eq_getElem hlt]; rfl
          refine ⟨t, _, _, _, rfl, rfl, SqT.of ht4, at_of (j := e.toNat) (by omega) ge, ?_⟩
          have hb := hns.bd _ (List.getElem_mem hlt)
          exact ⟨ns[e.toNat], _, rfl, hb.1, hb.2, (g2'.trans gu).trans (g3.trans g4), ht4⟩
        · exact ⟨1 + d, _, rfl, by omega, by omega, (g2'.trans gu).trans g3, g3.keep _ _ (Su.ne htu (fun _ z => nomatch z)) htu⟩
    · rintro σ H3 ⟨m, v3, rfl, m0, m1, g3, ht3⟩
      exact ⟨_, rfl, _, rfl, t, ns, m, rfl, ht3, hns, m0, m1, fun t2 ns2 H5 hs2 s5 _ ht5 => ⟨t2, ns2, _, _, rfl, g3.trans (Go.of s5), ht5, hs2⟩⟩
  · rintro σ H1 ⟨t, ns, v3, v4, rfl, g1, ht, hns⟩
    exact ⟨_, rfl, q t ns _ hns g1 ht⟩
/-! ### _law_times: slots 0 _law_one, 1 _law_other, 2 _law_many, 3 _law_k, 4 _law_found, 5 _law_j -/

theorem ok__law_times (T : Txt K mg base A) : FnOk P w K mg base CX0 1 A.f__law_times A.d__law_times ["_law_one", "_law_other", "_law_many"] (sp__law_times K) := by
  refine T.F__law_times.ok sc__law_times (fun vs H Q E h => by first | (obtain ⟨_, rfl, _⟩ := h; rfl) | (obtain ⟨_, _, rfl, _⟩ := h; rfl) | (obtain ⟨_, _, _, rfl, _⟩ := h; rfl) | (obtain ⟨_, _, _, _, rfl, _⟩ := h; rfl) | (obtain ⟨_, _, _, _, _, rfl, _⟩ := h; rfl) | (obtain ⟨_, _, _, _, _, _, rfl, _⟩ := h; rfl) | (obtain ⟨_, _, _, _, _, _, _, rfl, _⟩ := h; rfl)) (fun cdv AA outer s H vs Q E hr h => ?_)
  refine ⟨_, (pss_cons (ps_setLc (i := 4) (own := [("_law_k", 3)]) (g := gName 3)  rfl sc__law_times.nd rfl rfl (sw_true rfl rfl rfl (by decide +kernel)) (pi_range1 (by rfl) T.z_range (pa_cons (pv 2) pa_nil)) (blkOk_by (own := [("_law_k", 3)]) (N := ["_law_one", "_law_other", "_law_many", "_law_k", "_law_found", "_law_j"]) (sc := defScope s__law_times) (by decide +kernel)) (fun _ _ _ _ _ => pg_name (i := 3) sc__law_times.nd rfl (Or.inl rfl)) (fun _ _ _ _ _ => pts_nil) (fun _ _ _ _ _ => pe_int))
      (pss_cons (ps_for PassesOwn.never rfl (pi_range1 (by rfl) T.z_range (pa_cons (pe_callB (call_min2 rfl) (by rfl) T.z_min (by decide +kernel) (pa_cons (pv 2) (pa_cons (pe_callB call_len_seq (by rfl) T.z_len PySem.boot_len (pa_cons (pv 0) pa_nil)) pa_nil))) pa_nil)) (pg_name (i := 5) sc__law_times.nd rfl (.inl rfl))
        (pss_one (ps_for PassesOwn.never rfl (pi_range1 (by rfl) T.z_range (pa_cons (pe_callB (call_min2 rfl) (by rfl) T.z_min (by decide +kernel) (pa_cons (pe_op op_sub (pv 2) (pv 5)) (pa_cons (pe_callB call_len_seq (by rfl) T.z_len PySem.boot_len (pa_cons (pv 1) pa_nil)) pa_nil))) pa_nil)) (pg_name (i := 3) sc__law_times.nd rfl (.inl rfl))
          (pss_one (ps_asg (pe_op op_mod (pe_op op_add (pe_ix ix_list (pv 4) (pe_op op_add (pv 5) (pv 3)) (fun _ _ => rfl)) (pe_op op_mul (pe_ix ix_tup (pv 0) (pv 5) (fun _ _ => rfl)) (pe_ix ix_tup (pv 1) (pv 3) (fun _ _ => rfl)))) pe_int) (pg_sub (pv 4) (pe_op op_add (pv 5) (pv 3)) set_list))))))
      (pss_one (ps_ret (pe_callTy call_tuple_of (by rfl) T.z_tuple (by decide +kernel) (pa_cons (pv 4) pa_nil)))))), ?_⟩
  obtain ⟨a, b, xs, ys, n, rfl, ha, hb, n0, n1, lx, ly, by', q⟩ := h
  refine ⟨_, rfl, n, rfl, by omega, by omega, fun D hD => lc_F (walk_range (lo := 0) (n := n.toNat)) (fun _ => .int 0) (by omega) hD (fun _ _ => trivial) (by rintro k v H2 H3 hk s2 ⟨rfl, rfl⟩ Q' q'; exact ⟨rfl, q' _ (Same.refl _)⟩) fun H1 s1 h1 => ?_⟩
  have e0 : (List.range n.toNat).map (fun _ => V.int 0) = (ofF n.toNat fun i => part (gd xs) (gd ys) 0 i % 97).map V.int := ofF_vals _ (fun _ => 0)
  rw [e0] at h1
  refine ⟨_, rfl, _, rfl, a, _, rfl, .inr (seqT_same s1 ha), n, ((xs.map V.int).length : Int), rfl, _, rfl, ?_⟩
  rw [List.length_map]
  have em := minI_eq (x := n) (y := (xs.length : Int))
  refine ⟨by show -(2 ^ 62) ≤ minI _ _; omega, by show minI _ _ < 2 ^ 62; omega, for_range (n := (minI n (xs.length : Int)).toNat) (fun j σ H' => ∃ (v4 v5 : Option V), σ = [some (.ref a), some (.ref b), some (.int n), v4, some (.ref D), v5] ∧ Same H H' ∧ H' D = some (.lst ((ofF n.toNat fun i => part (gd xs) (gd ys) j i % 97).map V.int))) ⟨none, none, rfl, s1, h1⟩ ?_ ?_⟩
  · rintro j σ H2 hj ⟨v4, v5, rfl, s2, h2⟩
    have hjn : j < n.toNat := by omega
    have hjx : j < xs.length := by omega
    refine ⟨_, rfl, _, rfl, _, _, rfl, rfl, _, rfl, b, _, rfl, .inr (seqT_same s2 hb), n - (0 + (j : Int)), ((ys.map V.int).length : Int), rfl, _, rfl, ?_⟩
    rw [List.length_map]
    have em2 := minI_eq (x := n - (0 + (j : Int))) (y := (ys.length : Int))
    rw [← stepF_zero] at h2
    refine ⟨by show -(2 ^ 62) ≤ minI _ _; omega, by show minI _ _ < 2 ^ 62; omega, for_range (n := (minI (n - (0 + (j : Int))) (ys.length : Int)).toNat) (fun k σ H' => ∃ (v5 : Option V), σ = [some (.ref a), some (.ref b), some (.int n), v5, some (.ref D), some (.int (0 + (j : Int)))] ∧ Same H H' ∧ H' D = some (.lst ((ofF n.toNat (stepF (gd xs) (gd ys) j k)).map V.int))) ⟨v4, rfl, s2, h2⟩ ?_ ?_⟩
    · rintro k σ H3 hk ⟨v5, rfl, s3, h3⟩
      have hky : k < ys.length := by omega
      have hjk : j + k < n.toNat := by omega
      have gz : ((ofF n.toNat (stepF (gd xs) (gd ys) j k)).map V.int)[j + k]? = some (.int (stepF (gd xs) (gd ys) j k (j + k))) := by rw [List.getElem?_map, ofF_get _ hjk]; rfl
      have bz := by' _ (List.mem_of_getElem? (get_gd hky))
      refine ⟨_, rfl, _, rfl, _, rfl, _, _, rfl, rfl, D, _, _, _, rfl, rfl, SqL.of h3, at_of (j := j + k) (by omega) gz, ?_⟩
      refine ⟨_, rfl, _, rfl, a, _, _, _, rfl, rfl, seqT_same s3 ha, at_of (j := j) (by omega) (int_get hjx), ?_⟩
      refine ⟨_, rfl, _, rfl, b, _, _, _, rfl, rfl, seqT_same s3 hb, at_of (j := k) (by omega) (int_get hky), _, _, rfl, rfl, .inr ⟨by omega, by omega⟩, _, _, rfl, rfl, _, _, rfl, rfl, by show (0:Int) < _; decide, ?_⟩
      refine ⟨_, rfl, _, rfl, _, rfl, _, _, rfl, rfl, D, _, _, j + k, rfl, rfl, h3, ixN_of (by omega) (by rw [List.length_map, ofF_len]; exact hjk), ?_⟩
      refine ⟨_, rfl, s3.mut hD, ?_⟩
      rw [upd_same, ← stepF_next, ← ofF_set _ _ hjk, List.map_set]
    · rintro σ H3 ⟨v5, rfl, s3, h3⟩
      rw [stepF_end fun i hi hk => gd_out (by omega)] at h3
      exact ⟨_, _, rfl, s3, h3⟩
  · rintro σ H2 ⟨v4, v5, rfl, s2, h2⟩
    have ef : (ofF n.toNat fun i => part (gd xs) (gd ys) (minI n (xs.length : Int)).toNat i % 97) = timesL xs ys n.toNat := ofF_congr fun i hi => by
      rw [part_full fun j h1 h2 => gd_out (by omega)]
    rw [ef] at h2
    exact ⟨_, rfl, D, _, rfl, .inl ⟨SqL.of h2, fun t ht => q t _ (s2.trans (same_upd ht)) (s2.free ht) upd_same⟩⟩
/-! ### _law_row: slots 0 _law_marks, 1 _law_row_here, 2 _law_mark -/

theorem ok__law_row (T : Txt K mg base A) : FnOk P w K mg base CX0 2 A.f__law_row A.d__law_row ["_law_marks"] (sp__law_row K) := by
  refine T.F__law_row.ok sc__law_row (fun vs H Q E h => by first | (obtain ⟨_, rfl, _⟩ := h; rfl) | (obtain ⟨_, _, rfl, _⟩ := h; rfl) | (obtain ⟨_, _, _, rfl, _⟩ := h; rfl) | (obtain ⟨_, _, _, _, rfl, _⟩ := h; rfl) | (obtain ⟨_, _, _, _, _, rfl, _⟩ := h; rfl) | (obtain ⟨_, _, _, _, _, _, rfl, _⟩ := h; rfl) | (obtain ⟨_, _, _, _, _, _, _, rfl, _⟩ := h; rfl)) (fun cdv AA outer s H vs Q E hr h => ?_)
  refine ⟨_, (pss_cons (ps_set (i := 1) sc__law_row.nd rfl (.inl rfl) (pe_tup (pa_cons pe_int pa_nil)))
      (pss_cons (ps_for PassesOwn.never rfl (pi_tup (pv 0)) (pg_name (i := 2) sc__law_row.nd rfl (.inl rfl))
        (pss_one (ps_set (i := 1) sc__law_row.nd rfl (.inl rfl) (pe_call (ok__law_times T) (hr.mono (by decide)) (by rfl) T.g__law_times T.k__law_times T.b__law_times .nil pass0 (pa_cons (pv 1) (pa_cons (pe_tup (pa_cons pe_int (pa_cons (pe_op op_sub pe_int (pv 2)) pa_nil))) (pa_cons (pe_op op_add (pe_callB call_len_seq (by rfl) T.z_len PySem.boot_len (pa_cons (pv 1) pa_nil)) pe_int) pa_nil)))))))
      (pss_one (ps_ret (pv 1))))), ?_⟩
  obtain ⟨a, ms, rfl, ha, hset, q⟩ := h
  have hl := hset.len
  refine ⟨by show 1 ≤ sizeLine; decide, fun u hu => ?_⟩
  have s0 := same_upd (o := .tup [V.int 1]) hu
  refine ⟨_, rfl, a, rfl, ⟨_, seqT_same s0 ha⟩, for_tup (K := K) (a := a) (xs := ms.map V.int) (fun i σ H' => ∃ (t : Addr) (v2 : Option V), σ = [some (.ref a), some (.ref t), v2] ∧ Same H H' ∧ H' t = some (.tup ((rowE (ms.take i) (i + 1)).map V.int))) ⟨u, none, rfl, s0, upd_same⟩ (fun i σ H' _ ⟨_, _, _, sm, _⟩ => seqT_same sm ha) ?_ ?_⟩
  · rintro i y σ H' hi ⟨t, v2, rfl, sm, ht⟩
    obtain ⟨z, hz, rfl⟩ := int_at hi
    have hzb := hset.bd z (List.mem_of_getElem? hz)
    have hil : i < ms.length := (List.getElem?_eq_some_iff.mp hz).1
    refine ⟨_, rfl, _, rfl, _, _, rfl, rfl, by show 2 ≤ sizeLine; decide, fun p hp => ?_⟩
    have s1 := same_upd (o := .tup [V.int 1, V.int (0 - z)]) hp
    refine ⟨_, rfl, t, _, rfl, .inr (SqT.of (s1 _ _ ht)), _, _, rfl, rfl, ?_⟩
    rw [List.length_map, rowE_len]
    refine ⟨t, p, rowE (ms.take i) (i + 1), [1, 0 - z], ((i + 1 : Nat) : Int) + 1, rfl, SqT.of (s1 _ _ ht), SqT.of upd_same, by omega, by omega, by rw [rowE_len]; omega, by show 2 ≤ 1000; decide, ?_, fun t2 H2 s2 _ ht2 => ?_⟩
    · intro y hy
      rcases List.mem_cons.mp hy with rfl | hy
      · omega
      · rw [List.mem_singleton.mp hy]
        omega
    · rw [times_row (by rw [List.length_take]; omega), show (((i + 1 : Nat) : Int) + 1).toNat = i + 1 + 1 by omega] at ht2
      refine ⟨t2, _, rfl, sm.trans (s1.trans s2), ?_⟩
      rw [ht2, List.take_add_one, hz]
      rfl
  · rintro σ H' ⟨t, v2, rfl, sm, ht⟩
    rw [List.length_map, List.take_length] at ht
    exact ⟨_, rfl, q t _ sm ht⟩
/-! ### _law_no_count: slots 0 _law_work, 1 e, 2 _law_other -/
/-- what is asked of the lambda: it is refused with NoCount -/
def TT__law_no_count (K : PySem.W.Frag) (A : Ad) : (XK → Hp → VK → Prop) → Hp → VK → Prop := fun tl H Q => tl (fun cls d H1 => cls = .ref A.e_NoCount ∧ d = none ∧ ∀ H2, Same H1 H2 → Q (.bl true) H2) H (fun _ H1 => Q (.bl false) H1)
theorem gv__law_no_count (T : Txt K mg base A) {q : Str} (AA : Around) (outer : List Env) (cdg : Value) (f c1 : Addr) (s : Shared) (H : Hp) (Q : VK) (tl : XK → Hp → VK → Prop)
    (act : ∀ (W : WX) (pn : List (Addr × Obj)) (xe : Value → Shared → Prop) (E : XK) (p1 p2 : Pos), Takes ((cxOf C8.CX0 P w K mg base ["_law_work", "e", "_law_other"] "_law_no_count" (defScope s__law_no_count) A.f__law_no_count cdg AA outer s H C8.E0).tr pn xe) W → (∀ cls d σ1 H1, E cls d H1 → W cls d σ1 H1) →
      PE ((cxOf C8.CX0 P w K mg base ["_law_work", "e", "_law_other"] "_law_no_count" (defScope s__law_no_count) A.f__law_no_count cdg AA outer s H C8.E0).tr pn xe) (.Call (.Name "_law_work" p1) [] [] p2) (fun σZ HZ Q => σZ[0]? = some (some (.ref f)) ∧ HZ c1 = some (LamX.CodeO c1 q) ∧ tl E HZ Q))
    (hc : H c1 = some (LamX.CodeO c1 q)) (h : TT__law_no_count K A tl H Q) : ∃ t, PSs (cxOf C8.CX0 P w K mg base ["_law_work", "e", "_law_other"] "_law_no_count" (defScope s__law_no_count) A.f__law_no_count cdg AA outer s H C8.E0).nox (defBody s__law_no_count) t ∧ t { nx := fun _ H1 => Q .non H1, rt := Q } (L2.start ["_law_work", "e", "_law_other"] [.ref f]) H := by
  refine ⟨_, (pss_cons (ps_try_as (i := 1) rfl rfl sc__law_no_count.nd rfl rfl ⟨rfl, by decide, .inl T.g_MendError⟩ takes0
        (fun W pn xe tk _ => (pss_one (ps_expr (Lm.pe_any (W := fun c d σ H => σ.length = (3 : Nat) → W c d σ H) fun E hW => act _ pn xe E _ _ (Lm.takes_len tk) hW))))
        (fun a oe cls d pn hz hf => (pss_cons (ps_set (i := 2) sc__law_no_count.nd rfl (.inl rfl) (pe_callB (call_isExT hz hf) (by rfl) T.z_isinstance (show bootBuiltins "isinstance" = some (.builtin "isinstance") by decide +kernel) (pa_cons (pv 1) (pa_cons (pe_tup (pa_cons (pe_glob (v := .ref A.e_Held) rfl T.g_Held rfl) (pa_cons (pe_glob (v := .ref A.e_Late) rfl T.g_Late rfl) (pa_cons (pe_glob (v := .ref A.e_NoHand) rfl T.g_NoHand rfl) (pa_cons (pe_glob (v := .ref A.e_NoInverse) rfl T.g_NoInverse rfl) (pa_cons (pe_glob (v := .ref A.e_NoLetter) rfl T.g_NoLetter rfl) (pa_cons (pe_glob (v := .ref A.e_NoMark) rfl T.g_NoMark rfl) (pa_cons (pe_glob (v := .ref A.e_NoSet) rfl T.g_NoSet rfl) (pa_cons (pe_glob (v := .ref A.e_NoText) rfl T.g_NoText rfl) (pa_cons (pe_glob (v := .ref A.e_NotHeld) rfl T.g_NotHeld rfl) (pa_cons (pe_glob (v := .ref A.e_Unlike) rfl T.g_Unlike rfl) pa_nil))))))))))) pa_nil))))
        (pss_one (ps_ret (pe_and (pe_callB (call_isEx hz hf) (by rfl) T.z_isinstance (show bootBuiltins "isinstance" = some (.builtin "isinstance") by decide +kernel) (pa_cons (pv 1) (pa_cons (pe_glob (v := .ref A.e_NoCount) rfl T.g_NoCount rfl) pa_nil))) (pe_and (pe_callB (call_isEx hz hf) (by rfl) T.z_isinstance (show bootBuiltins "isinstance" = some (.builtin "isinstance") by decide +kernel) (pa_cons (pv 1) (pa_cons (pe_bltn (v := .ty "ValueError") (by rfl) T.z_ValueError (by decide +kernel) rfl) pa_nil))) (pe_one (pe_not (pv 2))))))))))
      (pss_one (ps_ret pe_bl))), ?_⟩
  refine ⟨fun cls d H1 => cls = .ref A.e_NoCount ∧ d = none ∧ ∀ H2, Same H1 H2 → Q (.bl true) H2, ?_, rfl, hc, ?_⟩
  · rintro cls d σ' H1 ⟨rfl, rfl, hq⟩ hlen
    obtain ⟨v0, v1, v2, rfl⟩ : ∃ v0 v1 v2, σ' = [v0, v1, v2] := by
      match σ', hlen with
      | [_, _, _], _ => exact ⟨_, _, _, rfl⟩
    refine ⟨true, T.ex_NoCount_MendError, fun _ x hx => ?_, fun z => Bool.noConfusion z⟩
    refine ⟨_, rfl, by show 10 ≤ sizeLine; decide, fun tp htp => ?_⟩
    refine ⟨_, tp, _, _, false, rfl, rfl, T.ec_NoCount, rfl, upd_same, .cons (.own _) (.cons (.own _) (.cons (.own _) (.cons (.own _) (.cons (.own _) (.cons (.own _) (.cons (.own _) (.cons (.own _) (.cons (.own _) (.cons (.own _) .nil))))))))), T.kt, ?_⟩
    refine ⟨_, rfl, _, rfl, rfl, T.ec_NoCount, _, _, true, rfl, fun _ r => r, T.ko, _, rfl, iteT ?_⟩
    refine ⟨_, rfl, _, rfl, rfl, T.ec_NoCount, _, _, true, rfl, fun _ r => r, T.kv, _, rfl, iteT ?_⟩
    refine ⟨_, rfl, _, rfl, ?_⟩
    exact hq _ (same_upd htp)
  · exact h
/-! ### _law_any: slots 0 _law_state, 1 _law_far, 2 _law_k, 3 _law_told, 4 _law_row_here, 5 _law_j -/

theorem ok__law_any (T : Txt K mg base A) : FnOk P w K mg base CX0 3 A.f__law_any A.d__law_any ["_law_state"] (sp__law_any K) := by
  refine T.F__law_any.ok sc__law_any (fun vs H Q E h => by first | (obtain ⟨_, rfl, _⟩ := h; rfl) | (obtain ⟨_, _, rfl, _⟩ := h; rfl) | (obtain ⟨_, _, _, rfl, _⟩ := h; rfl) | (obtain ⟨_, _, _, _, rfl, _⟩ := h; rfl) | (obtain ⟨_, _, _, _, _, rfl, _⟩ := h; rfl) | (obtain ⟨_, _, _, _, _, _, rfl, _⟩ := h; rfl) | (obtain ⟨_, _, _, _, _, _, _, rfl, _⟩ := h; rfl)) (fun cdv AA outer s H vs Q E hr h => ?_)
  refine ⟨_, (pss_cons (ps_set (i := 1) sc__law_any.nd rfl (.inr rfl) (pe_ix ix_list (pe_lst (pa_cons pe_int (pa_cons pe_int (pa_cons (pe_op op_pow pe_int pe_int) pa_nil)))) (pe_call (ok__law_drawn T) (hr.mono (by decide)) (by rfl) T.g__law_drawn T.k__law_drawn T.b__law_drawn .nil pass0 (pa_cons (pv 0) (pa_cons pe_int pa_nil))) (fun _ _ => rfl)))
      (pss_cons (ps_set (i := 3) sc__law_any.nd rfl (.inr rfl) (pe_callTy call_tuple_of (by rfl) T.z_tuple (by decide +kernel) (pa_cons (pe_lc (own := [("_law_k", 2)]) (g := gName 2)  rfl sc__law_any.nd (pi_range1 (by rfl) T.z_range (pa_cons (pe_call (ok__law_drawn T) (hr.mono (by decide)) (by rfl) T.g__law_drawn T.k__law_drawn T.b__law_drawn .nil pass0 (pa_cons (pv 0) (pa_cons pe_int pa_nil))) pa_nil)) (blkOk_by (own := [("_law_k", 2)]) (N := ["_law_state", "_law_far", "_law_k", "_law_told", "_law_row_here", "_law_j"]) (sc := defScope s__law_any) (by decide +kernel)) (fun _ _ _ _ _ => pg_name (i := 2) sc__law_any.nd rfl (Or.inl rfl)) (fun _ _ _ _ _ => pts_nil) (fun _ _ _ _ _ => (pe_op op_sub (pe_call (ok__law_drawn T) (hr.mono (by decide)) (by rfl) T.g__law_drawn T.k__law_drawn T.b__law_drawn .nil pass0 (pa_cons (pv 0) (pa_cons (pe_op op_add (pe_op op_mul pe_int (pv 1)) pe_int) pa_nil))) (pv 1)))) pa_nil)))
      (pss_cons (ps_set (i := 4) sc__law_any.nd rfl (.inr rfl) (pe_call (ok_row_by T) (hr.mono (by decide)) (by rfl) T.g_row_by T.k_row_by T.b_row_by .nil passL (pa_cons (pv 3) pa_nil)))
      (pss_cons (ps_if (PW.pt (pw_or (pt_not (pt_val (pe_callB call_isi (by rfl) T.z_isinstance (show bootBuiltins "isinstance" = some (.builtin "isinstance") by decide +kernel) (pa_cons (pv 4) (pa_cons (pe_bltn (v := .ty "tuple") (by rfl) T.z_tuple (by decide +kernel) rfl) pa_nil))))) (pw_or (pt_cmpR op_ne (pe_callB call_len_seq (by rfl) T.z_len PySem.boot_len (pa_cons (pv 4) pa_nil)) (pe_op op_add (pe_callB call_len_seq (by rfl) T.z_len PySem.boot_len (pa_cons (pv 3) pa_nil)) pe_int) (nomark _)) (pw_or1 (pt_cmpR op_ne (pe_ix ix_tup (pv 4) pe_int (fun _ _ => rfl)) pe_int (nomark _)))))) (pss_one (ps_ret pe_bl)) pss_nil)
      (pss_cons (ps_for PassesOwn.never rfl (pi_range1 (by rfl) T.z_range (pa_cons (pe_callB call_len_seq (by rfl) T.z_len PySem.boot_len (pa_cons (pv 4) pa_nil)) pa_nil)) (pg_name (i := 2) sc__law_any.nd rfl (.inr rfl))
        (pss_cons (ps_if (PW.pt (pw_or (pt_not (pt_val (pe_callB call_isi (by rfl) T.z_isinstance (show bootBuiltins "isinstance" = some (.builtin "isinstance") by decide +kernel) (pa_cons (pe_ix ix_tup (pv 4) (pv 2) (fun _ _ => rfl)) (pa_cons (pe_bltn (v := .ty "int") (by rfl) T.z_int (by decide +kernel) rfl) pa_nil))))) (pw_or (pt_val (pe_callB call_isi (by rfl) T.z_isinstance (show bootBuiltins "isinstance" = some (.builtin "isinstance") by decide +kernel) (pa_cons (pe_ix ix_tup (pv 4) (pv 2) (fun _ _ => rfl)) (pa_cons (pe_bltn (v := .ty "bool") (by rfl) T.z_bool (by decide +kernel) rfl) pa_nil)))) (pw_or1 (pt_not (pt_chain op_le op_le pe_int (pe_ix ix_tup (pv 4) (pv 2) (fun _ _ => rfl)) pe_int)))))) (pss_one (ps_ret pe_bl)) pss_nil)
        (pss_one (ps_if (pt_cmpR op_ne (pe_op op_mod (pe_op op_add (pe_op op_mul (pv 2) (pe_ix ix_tup (pv 4) (pv 2) (fun _ _ => rfl))) (pe_callB (cr_sum rfl) (by rfl) T.z_sum (by decide +kernel) (pa_cons (pe_lc (own := [("_law_j", 5)]) (g := gName 5)  rfl sc__law_any.nd (pi_range1 (by rfl) T.z_range (pa_cons (pv 2) pa_nil)) (blkOk_by (own := [("_law_j", 5)]) (N := ["_law_state", "_law_far", "_law_k", "_law_told", "_law_row_here", "_law_j"]) (sc := defScope s__law_any) (by decide +kernel)) (fun _ _ _ _ _ => pg_name (i := 5) sc__law_any.nd rfl (Or.inl rfl)) (fun _ _ _ _ _ => pts_nil) (fun _ _ _ _ _ => (pe_op op_mul (pe_ix (ix_tupK (K := K) rfl) (pv 3) (pv 5) (fun _ _ => rfl)) (pe_ix (ix_tupK (K := K) rfl) (pv 4) (pe_op op_sub (pe_op op_sub (pv 2) pe_int) (pv 5)) (fun _ _ => rfl))))) pa_nil))) pe_int) pe_int (nomark _)) (pss_one (ps_ret pe_bl)) pss_nil))))
      (pss_one (ps_ret pe_bl))))))), ?_⟩
  obtain ⟨a, st, rfl, hS, q⟩ := h
  refine ⟨_, _, rfl, rfl, ⟨by decide, by decide, by decide⟩, by show 3 ≤ sizeLine; decide, fun l hl => ?_⟩
  have gl := Go.new (K := K) (st := st) (o := .lst [.int 3, .int 100, .int (10 ^ Int.toNat 59)]) hl
  have S1 := gl.st _ hS
  refine ⟨_, rfl, a, st, 3, rfl, S1, by decide, nat8000 (by decide) (by decide +kernel), fun v H2 v0 v1 g2 => ?_⟩
  have S2 := g2.st _ S1
  obtain ⟨far, hat, f1, f2⟩ := pickI (ns := [3, 100, 10 ^ Int.toNat 59]) (lo := 3) (hi := 10 ^ 59) (by decide +kernel) v0 v1
  refine ⟨l, _, _, _, rfl, rfl, SqL.of (g2.keep _ _ (hS.fresh hl) upd_same), hat, ?_⟩
  -- told
  refine ⟨_, rfl, a, st, 9, rfl, S2, by decide, nat8000 (by decide) (by decide +kernel), fun n H3 n0 n1 g3 => ?_⟩
  have S3 := g3.st _ S2
  refine ⟨n, rfl, by omega, by omega, fun D hD => lc_G (K := K) (st := st) (a := a) (walk_range (lo := 0) (n := n.toNat)) (fun _ v _ => ∃ z : Int, v = .int z) S3 (by omega) hD (fun _ _ => trivial) (fun _ _ _ _ h _ => h) ?_ fun ws H4 g4 hd hwl hws => ?_⟩
  · rintro i x H5 H6 hi g5 _ ⟨rfl, rfl⟩ Q' q'
    have S5 := g5.st _ S3
    refine ⟨rfl, _, rfl, _, rfl, _, _, rfl, rfl, .inl ⟨by decide, by decide⟩, _, _, rfl, rfl, a, st, _, rfl, S5, by omega, nat8000 (by omega) (by omega), fun y H7 y0 y1 g7 => ?_⟩
    exact ⟨_, rfl, _, _, rfl, rfl, q' _ _ g7 ⟨_, rfl⟩⟩
  obtain ⟨ts, rfl⟩ := pick_ints ws hws
  rw [List.length_map] at hwl
  refine ⟨D, _, rfl, .inl ⟨SqL.of hd, fun t ht => ?_⟩⟩
  have s5 := same_upd (o := .tup (ts.map V.int)) ht
  -- row
  refine ⟨_, rfl, t, ts, rfl, upd_same, by omega, fun z => absurd z (by omega), fun _ r row H6 hrow s6 _ hr => ?_⟩
  have ht6 := s6 _ _ (upd_same (H := H4) (a := t) (o := .tup (ts.map V.int)))
  have hrl := hrow.len
  have hl0 : 0 < row.length := by omega
  refine ⟨_, rfl, _, _, _, _, true, rfl, .ty "tuple", .base (.tup hr), kit_ty (by decide +kernel), _, rfl, iteF ?_⟩
  refine ⟨_, rfl, r, _, rfl, .inr (SqT.of hr), _, rfl, t, _, rfl, .inr (SqT.of ht6), _, _, rfl, rfl, rfl, _, rfl, iteNS (congrArg V.int (by rw [List.length_map, List.length_map]; omega)) ?_⟩
  refine ⟨_, rfl, r, _, 0, .int 1, rfl, rfl, SqT.of hr, atI_nat (j := 0) (by rw [int_get hl0, hrow.hd]), rfl, _, rfl, iteNS rfl ?_⟩
  have gA := ((gl.trans g2).trans g3).trans (g4.trans (Go.of (s5.trans s6)))
  refine ⟨_, rfl, r, _, rfl, .inr (SqT.of hr), _, rfl, by rw [List.length_map]; omega, by rw [List.length_map]; omega, for_range (n := (((row.map V.int).length : Int)).toNat) (fun i σ H' => ∃ v2 : Option V, σ = [some (.ref st), some (.int far), v2, some (.ref t), some (.ref r), none] ∧ Same H6 H') ⟨none, rfl, Same.refl _⟩ ?_ ?_⟩
  · rintro i σ H7 hi ⟨v2, rfl, s7⟩
    rw [List.length_map, Int.toNat_natCast] at hi
    have hr7 := s7 _ _ hr
    have ht7 := s7 _ _ ht6
    have hb := hrow.bd _ (List.mem_of_getElem? (get_gd hi))
    have at1 : atI (row.map V.int) (0 + (i : Int)) = some (.int (gd row i)) := at_of (j := i) (by omega) (int_get hi)
    refine ⟨_, rfl, _, rfl, r, _, _, _, rfl, rfl, SqT.of hr7, at1, _, _, _, _, true, rfl, .ty "int", .base (.int _), kit_ty (by decide +kernel), _, rfl, iteF ?_⟩
    refine ⟨_, rfl, _, rfl, r, _, _, _, rfl, rfl, SqT.of hr7, at1, _, _, _, _, false, rfl, .ty "bool", .base (.int _), kit_ty (by decide +kernel), _, rfl, iteF ?_⟩
    refine ⟨_, rfl, _, rfl, r, _, _, _, rfl, rfl, SqT.of hr7, at1, _, _, rfl, rfl, true, congrArg V.bl (decide_eq_true hb.1), iteT ?_⟩
    refine ⟨_, _, rfl, rfl, true, congrArg V.bl (decide_eq_true hb.2), ?_⟩
    refine iteF ?_
    refine ⟨_, rfl, _, rfl, _, rfl, r, _, _, _, rfl, rfl, SqT.of hr7, at1, _, _, rfl, rfl, .inl ⟨by omega, by omega⟩, _, rfl, _, rfl, by omega, by omega, fun D2 hD2 => lc_F (walk_range (lo := 0) (n := (0 + (i : Int)).toNat)) (fun j => V.int (gd ts j * gd row (i - 1 - j))) (by omega) hD2 (fun _ _ => trivial) ?_ fun H8 s8 hd8 => ?_⟩
    · rintro j x H9 H10 hj s9 ⟨rfl, rfl⟩ Q' q'
      have hb2 := hrow.bd _ (List.mem_of_getElem? (get_gd (l := row) (i := i - 1 - j) (by omega)))
      exact ⟨rfl, _, rfl, _, rfl, t, _, _, _, rfl, rfl, SqT.of (s9 _ _ ht7), at_of (j := j) (by omega) (int_get (by omega)), _, rfl, _, rfl, _, _, rfl, rfl, _, rfl, _, _, rfl, rfl, r, _, _, _, rfl, rfl, SqT.of (s9 _ _ hr7), at_of (j := i - 1 - j) (by omega) (int_get (by omega)), _, _, rfl, rfl, .inr ⟨by omega, by omega⟩, q' _ (Same.refl _)⟩
    rw [show (0 + (i : Int)).toNat = i by omega, ofF_vals] at hd8
    refine ⟨D2, _, rfl, SqL.of hd8, _, _, rfl, rfl, _, _, rfl, rfl, by show (0:Int) < _; decide, rfl, _, rfl, iteNS (congrArg V.int ?_) ?_⟩
    · have key := hrow.kp i (by omega)
      unfold ofF
      rw [sum_range, Int.zero_add]
      exact key
    · exact ⟨_, rfl, s7.trans s8⟩
  · rintro σ H7 ⟨v2, rfl, s7⟩
    exact q _ (gA.trans (Go.of s7))
/-! ### law: slots 0 _law_script, 1 _law_state, 2 _law_turn, 3 _law_most, 4 _law_one, 5 _law_other, 6 _law_many, 7 _law_told, 8 _law_due, 9 _law_first, 10 _law_two, 11 _law_number -/

theorem ok_law (T : Txt K mg base A) : FnOk P w K mg base CX0 12 A.f_law A.d_law ["_law_script"] (sp_law K A.cp_law) := by
  obtain ⟨oc__law_no_count, od__law_no_count, kV__law_no_count, doc__law_no_count, pm__law_no_count, an__law_no_count, cdv__law_no_count, ct__law_no_count, osl__law_no_count, efd__law_no_count, lk__law_no_count, hcd__law_no_count⟩ := T.F__law_no_count.ex
  have bd__law_no_count := T.b__law_no_count
  rw [efd__law_no_count] at bd__law_no_count lk__law_no_count
  refine Lm.okC T.F_law T.cd_law sc_law (fun vs H Q E h => by first | (obtain ⟨_, rfl, _⟩ := h; rfl) | (obtain ⟨_, _, rfl, _⟩ := h; rfl) | (obtain ⟨_, _, _, rfl, _⟩ := h; rfl) | (obtain ⟨_, _, _, _, rfl, _⟩ := h; rfl) | (obtain ⟨_, _, _, _, _, rfl, _⟩ := h; rfl) | (obtain ⟨_, _, _, _, _, _, rfl, _⟩ := h; rfl) | (obtain ⟨_, _, _, _, _, _, _, rfl, _⟩ := h; rfl)) (fun AA outer s H vs Q E hr h => ?_)
  refine ⟨_, (pss_cons (ps_set (i := 1) sc_law.nd rfl (.inl rfl) (pe_call (ok__law_start T) (hr.mono (by decide)) (by rfl) T.g__law_start T.k__law_start T.b__law_start .nil pass0 (pa_cons (pv 0) pa_nil)))
      (pss_cons (ps_for PassesOwn.never rfl (pi_range1 (by rfl) T.z_range (pa_cons pe_int pa_nil)) (pg_name (i := 2) sc_law.nd rfl (.inl rfl))
        (pss_cons (ps_set (i := 3) sc_law.nd rfl (.inl rfl) (pe_ix ix_list (pe_lst (pa_cons pe_int (pa_cons pe_int (pa_cons pe_int (pa_cons pe_int (pa_cons pe_int (pa_cons pe_int (pa_cons pe_int (pa_cons pe_int pa_nil))))))))) (pe_call (ok__law_drawn T) (hr.mono (by decide)) (by rfl) T.g__law_drawn T.k__law_drawn T.b__law_drawn .nil pass0 (pa_cons (pv 1) (pa_cons pe_int pa_nil))) (fun _ _ => rfl)))
        (pss_cons (ps_set (i := 4) sc_law.nd rfl (.inl rfl) (pe_call (ok__law_set T) (hr.mono (by decide)) (by rfl) T.g__law_set T.k__law_set T.b__law_set .nil pass0 (pa_cons (pv 1) (pa_cons (pv 3) pa_nil))))
        (pss_cons (ps_set (i := 5) sc_law.nd rfl (.inl rfl) (pe_ix ix_list (pe_lst (pa_cons (pe_call (ok__law_changed T) (hr.mono (by decide)) (by rfl) T.g__law_changed T.k__law_changed T.b__law_changed .nil pass0 (pa_cons (pv 1) (pa_cons (pv 4) (pa_cons (pe_call (ok__law_drawn T) (hr.mono (by decide)) (by rfl) T.g__law_drawn T.k__law_drawn T.b__law_drawn .nil pass0 (pa_cons (pv 1) (pa_cons pe_int pa_nil))) pa_nil)))) (pa_cons (pe_call (ok__law_set T) (hr.mono (by decide)) (by rfl) T.g__law_set T.k__law_set T.b__law_set .nil pass0 (pa_cons (pv 1) (pa_cons (pv 3) pa_nil))) pa_nil))) (pe_call (ok__law_drawn T) (hr.mono (by decide)) (by rfl) T.g__law_drawn T.k__law_drawn T.b__law_drawn .nil pass0 (pa_cons (pv 1) (pa_cons pe_int pa_nil))) (fun _ _ => rfl)))
        (pss_cons (ps_set (i := 6) sc_law.nd rfl (.inl rfl) (pe_ix ix_list (pe_lst (pa_cons (pe_call (ok__law_drawn T) (hr.mono (by decide)) (by rfl) T.g__law_drawn T.k__law_drawn T.b__law_drawn .nil pass0 (pa_cons (pv 1) (pa_cons pe_int pa_nil))) (pa_cons (pe_op op_sub pe_int (pe_call (ok__law_drawn T) (hr.mono (by decide)) (by rfl) T.g__law_drawn T.k__law_drawn T.b__law_drawn .nil pass0 (pa_cons (pv 1) (pa_cons pe_int pa_nil)))) pa_nil))) (pe_callTy call_int1 (by rfl) T.z_int (by decide +kernel) (pa_cons (pe_cmpR op_eq (pe_call (ok__law_drawn T) (hr.mono (by decide)) (by rfl) T.g__law_drawn T.k__law_drawn T.b__law_drawn .nil pass0 (pa_cons (pv 1) (pa_cons pe_int pa_nil))) pe_int (nomark _)) pa_nil)) (fun _ _ => rfl)))
        (pss_cons (ps_setLc (i := 7) (own := [("_law_first", 9), ("_law_two", 10)]) (g := gTup K 2 (gCons (gName 9) (gCons (gName 10) gNil)))  rfl sc_law.nd rfl rfl (sw_true rfl rfl rfl (by decide +kernel)) (Mz.pi_zip2 (p := false) (q := false) (by rfl) T.z_zip (pa_cons (pe_call (ok_sums T) (hr.mono (by decide)) (by rfl) T.g_sums T.k_sums T.b_sums .nil passL (pa_cons (pv 4) (pa_cons (pv 6) pa_nil))) (pa_cons (pe_call (ok_sums T) (hr.mono (by decide)) (by rfl) T.g_sums T.k_sums T.b_sums .nil passL (pa_cons (pv 5) (pa_cons (pv 6) pa_nil))) pa_nil))) (blkOk_by (own := [("_law_first", 9), ("_law_two", 10)]) (N := ["_law_script", "_law_state", "_law_turn", "_law_most", "_law_one", "_law_other", "_law_many", "_law_told", "_law_due", "_law_first", "_law_two", "_law_number"]) (sc := defScope s_law) (by decide +kernel)) (fun _ _ _ _ _ => pg_tup rfl (pgs_cons (pg_name (i := 9) sc_law.nd rfl (.inl rfl)) (pgs_cons (pg_name (i := 10) sc_law.nd rfl (.inl rfl)) pgs_nil))) (fun _ _ _ _ _ => pts_nil) (fun _ _ _ _ _ => (pe_op op_sub (pv 10) (pv 9))))
        (Evl.pss_cut (ps_if (pt_cmpR op_eq (pe_call (ok__law_drawn T) (hr.mono (by decide)) (by rfl) T.g__law_drawn T.k__law_drawn T.b__law_drawn .nil pass0 (pa_cons (pv 1) (pa_cons pe_int pa_nil))) pe_int (nomark _)) (pss_one (ps_setLc (i := 7) (own := [("_law_number", 11)]) (g := gName 11)  rfl sc_law.nd rfl rfl (sw_true rfl rfl rfl (by decide +kernel)) (pi_list (pv 7)) (blkOk_by (own := [("_law_number", 11)]) (N := ["_law_script", "_law_state", "_law_turn", "_law_most", "_law_one", "_law_other", "_law_many", "_law_told", "_law_due", "_law_first", "_law_two", "_law_number"]) (sc := defScope s_law) (by decide +kernel)) (fun _ _ _ _ _ => pg_name (i := 11) sc_law.nd rfl (Or.inl rfl)) (fun _ _ _ _ _ => pts_nil) (fun _ _ _ _ _ => (pe_op op_mod (pv 11) pe_int)))) pss_nil)
        (pss_cons (ps_set (i := 8) sc_law.nd rfl (.inl rfl) (pe_slice sl_tupA (pe_op op_catA (pe_call (ok__law_row T) (hr.mono (by decide)) (by rfl) T.g__law_row T.k__law_row T.b__law_row .nil pass0 (pa_cons (pv 5) pa_nil)) (pe_op op_tmul (pe_tup (pa_cons pe_int pa_nil)) (pv 6))) po_none (po_some (pe_op op_add (pv 6) pe_int))))
        (pss_one (ps_if (PW.pt (pw_or (pt_cmpR (op_neD hr.units) (pe_call (ok__law_times T) (hr.mono (by decide)) (by rfl) T.g__law_times T.k__law_times T.b__law_times .nil pass0 (pa_cons (pe_call (ok_row_by T) (hr.mono (by decide)) (by rfl) T.g_row_by T.k_row_by T.b_row_by .nil passL (pa_cons (pe_callTy call_tuple_of (by rfl) T.z_tuple (by decide +kernel) (pa_cons (pv 7) pa_nil)) pa_nil)) (pa_cons (pe_call (ok__law_row T) (hr.mono (by decide)) (by rfl) T.g__law_row T.k__law_row T.b__law_row .nil pass0 (pa_cons (pv 4) pa_nil)) (pa_cons (pe_op op_add (pv 6) pe_int) pa_nil)))) (pv 8) (nomark _)) (pw_or1 (pt_not (pt_val (pe_call (ok__law_any T) (hr.mono (by decide)) (by rfl) T.g__law_any T.k__law_any T.b__law_any .nil pass0 (pa_cons (pv 1) pa_nil))))))) (pss_one (ps_ret pe_bl)) pss_nil))))))))))
      (pss_one (ps_ret (LamX.pe_lamcall (k := 2) (T := [(A.cp_law, _)]) (TT := TT__law_no_count K A) (a := "_law_work") (by rfl) T.g__law_no_count T.k__law_no_count lk__law_no_count hcd__law_no_count bd__law_no_count sc__law_no_count rfl (by first | exact Or.inl rfl | exact Or.inr (Or.inl rfl) | exact Or.inr (Or.inr rfl)) (fun f3 c3 s3 H3 Q3 tl act hc3 h3 => gv__law_no_count T _ _ _ f3 c3 s3 H3 Q3 tl act hc3 h3) T.tb_law rfl List.mem_cons_self (fun p hp _ => by rw [List.mem_singleton.mp hp]) (hr.mono (by decide)) (LamX.lamS_by (sc := defScope s_law) (by decide +kernel)) rfl (fun _ _ _ _ _ => rfl) (fun A2 o2 s2 H2 E2 f2 c2 hr2 => (pe_call (ok_row_by T) (hr2.mono (by decide)) (by rfl) T.g_row_by T.k_row_by T.b_row_by .nil (passes_call (takes_of rfl rfl rfl rfl) (fun _ _ _ _ z => z)) (pa_cons (pe_op (op_tmulK (K := K) rfl) (pe_tup (pa_cons pe_int pa_nil)) pe_int) pa_nil)))))))), ?_⟩
  obtain ⟨a, ns, rfl, hS, hlen, hP, q⟩ := h
  refine ⟨_, rfl, a, ns, rfl, hS, fun st H1 nst sm hSt => ?_⟩
  refine ⟨3, rfl, by decide, by decide, for_range (n := 3) (fun i σ H2 => ∃ v2 v3 v4 v5 v6 v7 v8, σ = [some (.ref a), some (.ref st), v2, v3, v4, v5, v6, v7, v8, none, none, none] ∧ Go K st H1 H2) ⟨none, none, none, none, none, none, none, rfl, Go.refl _⟩ ?_ ?_⟩
  · rintro i σ H2 hi ⟨v2, v3, v4, v5, v6, v7, v8, rfl, g⟩
    have S2 := g.st _ hSt
    -- most
    refine ⟨by show 8 ≤ sizeLine; decide, fun l hl => ?_⟩
    have gl := Go.new (K := K) (st := st) (o := .lst [.int 10, .int 10, .int 10, .int 10, .int 10, .int 10, .int 10, .int 96]) hl
    have S3 := gl.st _ S2
    refine ⟨_, rfl, a, st, 8, rfl, S3, by decide, nat8000 (by decide) (by decide +kernel), fun v H4 p0 p1 g4 => ?_⟩
    have S4 := g4.st _ S3
    obtain ⟨n, hat, n1, n2⟩ := pickI (ns := [10, 10, 10, 10, 10, 10, 10, 96]) (lo := 10) (hi := 96) (by decide) p0 p1
    refine ⟨l, _, _, _, rfl, rfl, SqL.of (g4.keep _ _ (S2.fresh hl) upd_same), hat, ?_⟩
    -- one
    refine ⟨_, rfl, _, rfl, a, st, n, rfl, S4, by omega, by omega, fun t A H5 hA _ g5 _ ht => ?_⟩
    have S5 := g5.st _ S4
    -- other
    refine ⟨_, rfl, _, rfl, _, rfl, a, st, 9, rfl, S5, by decide, nat8000 (by decide) (by decide +kernel), fun c H6 c0 c1 g6 => ?_⟩
    have S6 := g6.st _ S5
    have ht6 := g6.tup S5 ht
    refine ⟨a, st, t, A, c, rfl, S6, ht6, hA, c0, by omega, fun u1 B1 H7 hB1 g7 hu1 => ?_⟩
    have S7 := g7.st _ S6
    refine ⟨_, rfl, _, rfl, a, st, n, rfl, S7, by omega, by omega, fun u2 B2 H8 hB2 _ g8 _ hu2 => ?_⟩
    have S8 := g8.st _ S7
    have hu18 := g8.tup S7 hu1
    refine ⟨by show 2 ≤ sizeLine; decide, fun l2 hl2 => ?_⟩
    have gl2 := Go.new (K := K) (st := st) (o := .lst [.ref u1, .ref u2]) hl2
    have S9 := gl2.st _ S8
    refine ⟨_, rfl, a, st, 2, rfl, S9, by decide, nat8000 (by decide) (by decide +kernel), fun d H10 d0 d1 g10 => ?_⟩
    have S10 := g10.st _ S9
    obtain ⟨u, B, hatu, hu, hB⟩ : ∃ (u : Addr) (B : List Int), atI [V.ref u1, V.ref u2] d = some (.ref u) ∧ H10 u = some (.tup (B.map V.int)) ∧ SetL B := by
      rcases (by omega : d = 0 ∨ d = 1) with rfl | rfl
      · exact ⟨u1, B1, rfl, g10.tup S9 (gl2.tup S8 hu18), hB1⟩
      · exact ⟨u2, B2, rfl, g10.tup S9 (gl2.tup S8 hu2), hB2⟩
    refine ⟨l2, _, _, _, rfl, rfl, SqL.of (g10.keep _ _ (S8.fresh hl2) upd_same), hatu, ?_⟩
    have gB := (((gl.trans g4).trans g5).trans g6).trans ((g7.trans g8).trans (gl2.trans g10))
    have ht10 := g10.tup S9 (gl2.tup S8 (g8.tup S7 (g7.tup S6 ht6)))
    -- many
    refine ⟨_, rfl, a, st, 13, rfl, S10, by decide, nat8000 (by decide) (by decide +kernel), fun x H11 x0 x1 g11 => ?_⟩
    have S11 := g11.st _ S10
    refine ⟨_, rfl, a, st, 60, rfl, S11, by decide, nat8000 (by decide) (by decide +kernel), fun y H12 y0 y1 g12 => ?_⟩
    have S12 := g12.st _ S11
    refine ⟨_, _, rfl, rfl, by show 2 ≤ sizeLine; decide, fun l3 hl3 => ?_⟩
    have gl3 := Go.new (K := K) (st := st) (o := .lst [.int x, .int (96 - y)]) hl3
    have S13 := gl3.st _ S12
    refine ⟨_, rfl, a, st, 8, rfl, S13, by decide, nat8000 (by decide) (by decide +kernel), fun z H14 z0 z1 g14 => ?_⟩
    have S14 := g14.st _ S13
    obtain ⟨m, hatm, m0, m1⟩ : ∃ m : Int, atI [V.int x, V.int (96 - y)] (if decide (V.int z = V.int 7) = true then 1 else 0) = some (.int m) ∧ 0 ≤ m ∧ m ≤ 96 := by
      by_cases cc : decide (V.int z = V.int 7) = true
      · rw [if_pos cc]
        exact ⟨96 - y, rfl, by omega, by omega⟩
      · rw [if_neg cc]
        exact ⟨x, rfl, by omega, by omega⟩
    refine ⟨rfl, .inr ⟨_, rfl, l3, _, _, _, rfl, rfl, SqL.of (g14.keep _ _ (S12.fresh hl3) upd_same), hatm, ?_⟩⟩
    have gC := gB.trans ((g11.trans g12).trans (gl3.trans g14))
    have gBC := (g11.trans g12).trans (gl3.trans g14)
    have ht14 := gBC.tup S10 ht10
    have hu14 := gBC.tup S10 hu
    -- told
    have hA96 := hA.len
    have hB96 := hB.len
    refine ⟨_, rfl, _, rfl, t, A, m, rfl, SqT.of ht14, set_true hA, fun _ z => absurd z (by omega), fun _ _ _ e1 H15 s15 _ he1 => ?_⟩
    refine ⟨_, rfl, _, rfl, u, B, m, rfl, SqT.of (s15 _ _ hu14), set_true hB, fun _ z => absurd z (by omega), fun _ _ _ e2 H16 s16 _ he2 => ?_⟩
    have he1' := s16 _ _ he1
    obtain ⟨k, ek⟩ : ∃ k : Nat, m.toNat = k := ⟨_, rfl⟩
    rw [ek] at he1' he2
    have hk96 : k ≤ 96 := by omega
    have hlA := sumsL_len A k
    have hlB := sumsL_len B k
    have S16 := (S14.same s15).same s16
    refine ⟨e1, e2, (sumsL A k).map V.int, (sumsL B k).map V.int, rfl, SqT.of he1', SqT.of he2, fun D hD => lc_F (Mz.walk2 (K := K) (p := false) (q := false) (a := e1) (b := e2) (xs := (sumsL A k).map V.int) (ys := (sumsL B k).map V.int) (n := k) (by rw [List.length_map, List.length_map, hlA, hlB, Nat.min_self])) (fun i => V.int (gd (sumsL B k) i - gd (sumsL A k) i)) (by omega) hD (fun H2 s => ⟨SqT.of (s _ _ he1'), SqT.of (s _ _ he2)⟩) ?_ fun H17 s17 hd17 => ?_⟩
    · rintro j v H3 H4 hj s3 ⟨T, x, y, rfl, hT, rfl, gx, gy⟩ Q' q'
      dsimp only at gx gy
      rw [int_get (by omega)] at gx
      rw [int_get (by omega)] at gy
      have ex := (Option.some.inj gx).symm
      have ey := (Option.some.inj gy).symm
      subst ex ey
      refine ⟨T, [.int (gd (sumsL A k) j), .int (gd (sumsL B k) j)], rfl, SqT.of upd_same, rfl, _, _, rfl, _, _, rfl, rfl, rfl, ?_⟩
      exact ⟨_, rfl, _, rfl, _, _, rfl, rfl, q' _ (same_upd hT)⟩
    rw [ofF_vals] at hd17
    have S17 := S16.same s17
    have nD : D ≠ st := S16.fresh hD
    have s57 := s15.trans (s16.trans s17)
    refine ⟨fun σ H' => ∃ (D : Addr) (TL : List Int), σ = [some (.ref a), some (.ref st), some (.int (0 + (i : Int))), some (.int n), some (.ref t), some (.ref u), some (.int m), some (.ref D), v8, none, none, none] ∧ TL.length = k ∧ (∀ j, j < k → gd TL j % 97 = (gd (sumsL B k) j - gd (sumsL A k) j) % 97) ∧ Go K st H1 H' ∧ H' D = some (.lst (TL.map V.int)) ∧ H' t = some (.tup (A.map V.int)) ∧ H' u = some (.tup (B.map V.int)), ?_, ?_⟩
    · refine ⟨_, rfl, a, st, 2, rfl, S17, by decide, nat8000 (by decide) (by decide +kernel), fun c2 H18 _ _ g18 => ⟨rfl, _, rfl, ite2 (fun _ => ?_) (fun _ => ?_)⟩⟩
      · have hd18 := g18.keep _ _ nD hd17
        refine ⟨_, rfl, D, rfl, ⟨_, SqL.of hd18⟩, fun D2 hD2 => lc_F (walk_list (K := K) (a := D) (xs := (ofF k fun i => gd (sumsL B k) i - gd (sumsL A k) i).map V.int)) (fun j => V.int ((gd (sumsL B k) j - gd (sumsL A k) j) % 97)) (by rw [List.length_map, ofF_len]; omega) hD2 (fun _ s => SqL.of (s _ _ hd18)) ?_ fun H19 s19 hd19 => ?_⟩
        · rintro j v H3 H4 hj s3 ⟨rfl, hv⟩ Q' q'
          rw [List.length_map, ofF_len] at hj
          rw [int_get (by rw [ofF_len]; exact hj), gd_ofF _ hj] at hv
          cases hv
          exact ⟨rfl, _, rfl, _, _, rfl, rfl, by show (0:Int) < _; decide, q' _ (Same.refl _)⟩
        rw [List.length_map, ofF_len, ofF_vals] at hd19
        refine ⟨D2, _, rfl, ofF_len _ _, fun j hj => by rw [gd_ofF _ hj, Int.emod_emod], ((g.trans gC).trans (Go.of s57)).trans (g18.trans (Go.of s19)), hd19, s19 _ _ (g18.tup S17 (s57 _ _ ht14)), s19 _ _ (g18.tup S17 (s57 _ _ hu14))⟩
      · exact ⟨D, _, rfl, ofF_len _ _, fun j hj => by rw [gd_ofF _ hj], ((g.trans gC).trans (Go.of s57)).trans g18, g18.keep _ _ nD hd17, g18.tup S17 (s57 _ _ ht14), g18.tup S17 (s57 _ _ hu14)⟩
    clear hd17 nD hD
    rintro σ H8' ⟨D, TL, rfl, hTl, hTL, gE, hD, htE, huE⟩
    have SE := gE.st _ hSt
    -- due
    refine ⟨_, rfl, u, B, rfl, SqT.of huE, hB, fun r H9 s9 hr => ?_⟩
    refine ⟨by show 1 ≤ sizeLine; decide, fun z hz => ?_⟩
    have s10 := same_upd (o := .tup [V.int 0]) hz
    refine ⟨_, rfl, tmulH (ns := [0]) upd_same (fun e => nomatch e) (by decide) m0 (by omega) fun w2 H11 s11 hw2 => ?_⟩
    rw [List.flatten_replicate_singleton] at hw2
    refine catH (s11 _ _ (s10 _ _ hr)) hw2 (by rw [rowE_len, List.length_replicate]; omega) fun w3 H12 s12 hw3 => ?_
    rw [rowE_more (by omega)] at hw3
    refine ⟨_, rfl, _, _, rfl, rfl, m + 1, rfl, takeA hw3 (by omega) (by rw [rowE_len]; omega) fun d H13 s13 hd => ?_⟩
    rw [rowE_take (by omega), show (m + 1).toNat = k + 1 by omega] at hd
    have s13' := s9.trans (s10.trans (s11.trans (s12.trans s13)))
    have S13 := SE.same s13'
    -- the product
    refine ⟨_, rfl, D, _, rfl, .inl ⟨SqL.of (s13' _ _ hD), fun p hp => ?_⟩⟩
    refine ⟨p, TL, rfl, upd_same, by omega, fun z => absurd z (by omega), fun _ x row H21 hrow s21 _ hx => ?_⟩
    have sp := same_upd (o := .tup (TL.map V.int)) hp
    have hrl := hrow.len
    refine ⟨_, rfl, t, A, rfl, SqT.of (s21 _ _ (sp _ _ (s13' _ _ htE))), hA, fun y H22 s22 hy => ?_⟩
    refine ⟨_, rfl, _, _, rfl, rfl, x, y, row, rowE A (A.length + 1), m + 1, rfl, SqT.of (s22 _ _ hx), SqT.of hy, by omega, by omega, by omega, by rw [rowE_len]; omega, fun z hz => ?_, fun e H23 s23 _ he => ?_⟩
    · obtain ⟨j, _, rfl⟩ := mem_ofF hz
      omega
    have eT : timesL row (rowE A (A.length + 1)) (m + 1).toNat = rowE B (k + 1) := by
      rw [show (m + 1).toNat = k + 1 by omega]
      refine ofF_congr fun j hj => ?_
      have e3 : Ms.cvl (gd row) (gd (rowE A (A.length + 1))) j % 97 = Ms.cvl (gd row) (Ms.E A) j % 97 := Ms.cvl_mod j (fun _ _ => rfl) fun i _ => by rw [gd_rowE (by omega), Int.emod_emod]
      rw [e3, Ms.cvl_comm]
      refine Ms.quotient (fun a b z => prime97 z) (t := sg TL) hk96 (by rw [hrow.hd]; rfl) (fun i hi => hrow.kp i (by omega)) (fun i i0 i1 => ?_) j (by omega)
      have e4 := hTL (i - 1) (by omega)
      have e5 : gd (sumsL A k) (i - 1) = Ms.ps A i % 97 := sg_sums i0 i1
      have e6 : gd (sumsL B k) (i - 1) = Ms.ps B i % 97 := sg_sums i0 i1
      have e7 : sg TL i = gd TL (i - 1) := rfl
      rw [e7]
      rw [e5, e6] at e4
      omega
    rw [eT] at he
    refine ⟨_, rfl, neT (ns := rowE B (k + 1)) (ms := rowE B (k + 1)) (SqT.of he) (SqT.of (s23 _ _ (s22 _ _ (s21 _ _ (sp _ _ hd))))) ⟨_, rfl, iteNS rfl ?_⟩⟩
    have sF := (s13'.trans sp).trans (s21.trans (s22.trans s23))
    refine ⟨_, rfl, a, st, rfl, SE.same sF, fun H24 g24 => ⟨true, rfl, iteF ?_⟩⟩
    exact ⟨_, _, _, _, _, _, _, rfl, gE.trans ((Go.of sF).trans g24)⟩
  · rintro σ H2 ⟨v2, v3, v4, v5, v6, v7, v8, rfl, g⟩
    have hP1 := sm _ _ hP
    have hP2 := g.keep _ _ (hSt.ne hP1 (fun _ z => nomatch z)) hP1
    refine ⟨fun p hp => by rw [List.mem_singleton.mp hp]; exact LamX.TabS.nil hP2, fun H3 _ _ => ?_⟩
    refine ⟨by show 1 ≤ sizeLine; decide, fun z hz => ?_⟩
    dsimp only [tC, tNil]
    refine tmulH (ns := [5]) (k := 97) upd_same (fun e => nomatch e) (by decide) (by decide) (by decide) fun w H4 s4 hw => ?_
    refine ⟨w, _, rfl, hw, by decide, fun _ => ⟨rfl, rfl, fun H5 _ => q H5⟩, fun z => absurd z (by decide)⟩
end
theorem all_mk {l : PySem.W.OpenLaw} {w : World} {K : PySem.W.Frag} {h : Heap} {mg : Str → Option Value} {fa : Addr} (X : K.In h) (G : h.Ns mainGlobals mg) (hfa : mg "law" = some (.ref fa)) (tf : Lm.TabF mg h ["law"])
    {f0 : Addr} {od0 an0 : Option Addr} {sl0 : Array (Option Value)} {oc0 kV0 dc0 pm0 cd0 ct0 : Value} {f1 : Addr} {od1 an1 : Option Addr} {sl1 : Array (Option Value)} {oc1 kV1 dc1 pm1 cd1 ct1 : Value} {f2 : Addr} {od2 an2 : Option Addr} {sl2 : Array (Option Value)} {oc2 kV2 dc2 pm2 cd2 ct2 : Value} {f3 : Addr} {od3 an3 : Option Addr} {sl3 : Array (Option Value)} {oc3 kV3 dc3 pm3 cd3 ct3 : Value} {f4 : Addr} {od4 an4 : Option Addr} {sl4 : Array (Option Value)} {oc4 kV4 dc4 pm4 cd4 ct4 : Value} {f5 : Addr} {od5 an5 : Option Addr} {sl5 : Array (Option Value)} {oc5 kV5 dc5 pm5 cd5 ct5 : Value} {f6 : Addr} {od6 an6 : Option Addr} {sl6 : Array (Option Value)} {oc6 kV6 dc6 pm6 cd6 ct6 : Value} {f7 : Addr} {od7 an7 : Option Addr} {sl7 : Array (Option Value)} {oc7 kV7 dc7 pm7 cd7 ct7 : Value} {f8 : Addr} {od8 an8 : Option Addr} {sl8 : Array (Option Value)} {oc8 kV8 dc8 pm8 cd8 ct8 : Value} {f9 : Addr} {od9 an9 : Option Addr} {sl9 : Array (Option Value)} {oc9 kV9 dc9 pm9 cd9 ct9 : Value} {f10 : Addr} {od10 an10 : Option Addr} {sl10 : Array (Option Value)} {oc10 kV10 dc10 pm10 cd10 ct10 : Value} {f11 : Addr} {od11 an11 : Option Addr} {sl11 : Array (Option Value)} {oc11 kV11 dc11 pm11 cd11 ct11 : Value} {f12 : Addr} {od12 an12 : Option Addr} {sl12 : Array (Option Value)} {oc12 kV12 dc12 pm12 cd12 ct12 : Value} {f13 : Addr} {od13 an13 : Option Addr} {sl13 : Array (Option Value)} {oc13 kV13 dc13 pm13 cd13 ct13 : Value} {f14 : Addr} {od14 an14 : Option Addr} {sl14 : Array (Option Value)} {oc14 kV14 dc14 pm14 cd14 ct14 : Value} {f15 : Addr} {od15 an15 : Option Addr} {sl15 : Array (Option Value)} {oc15 kV15 dc15 pm15 cd15 ct15 : Value} {cT15 PT15 : Addr} {eT15 : Value} {dT15 : Option Addr} {vT15 : Array Value} {sT15 : Array (Option Value)} {eMendError : Addr} {eNoSet : Addr} {eNoMark : Addr} {eNoInverse : Addr} {eNoCount : Addr} {eNoHand : Addr} {eNoLetter : Addr} {eNoText : Addr} {eHeld : Addr} {eNotHeld : Addr} {eUnlike : Addr} {eLate : Addr} {tLAST_MARK : Nat} {tWHEEL : Nat}
    (a0 : PySem.W.nsIn K mainGlobals "is_set" = some (some (.ref f0)))
    (l0 : K.lookup f0 = some ⟨oc0, od0, .func (PySem.W.fnOf "is_set" "is_set" (defArgs s_is_set) (defBody s_is_set) (defScope s_is_set) .none kV0 dc0 pm0 an0 cd0 ct0), sl0⟩)
    (c0 : PySem.W.codeIn K cd0 "is_set" = true)
    (k0 : PySem.W.keepIn K (.ref f0) = true)
    (a1 : PySem.W.nsIn K mainGlobals "refuse_unless_set" = some (some (.ref f1)))
    (l1 : K.lookup f1 = some ⟨oc1, od1, .func (PySem.W.fnOf "refuse_unless_set" "refuse_unless_set" (defArgs s_refuse_unless_set) (defBody s_refuse_unless_set) (defScope s_refuse_unless_set) .none kV1 dc1 pm1 an1 cd1 ct1), sl1⟩)
    (c1 : PySem.W.codeIn K cd1 "refuse_unless_set" = true)
    (k1 : PySem.W.keepIn K (.ref f1) = true)
    (a2 : PySem.W.nsIn K mainGlobals "inverse" = some (some (.ref f2)))
    (l2 : K.lookup f2 = some ⟨oc2, od2, .func (PySem.W.fnOf "inverse" "inverse" (defArgs s_inverse) (defBody s_inverse) (defScope s_inverse) .none kV2 dc2 pm2 an2 cd2 ct2), sl2⟩)
    (c2 : PySem.W.codeIn K cd2 "inverse" = true)
    (k2 : PySem.W.keepIn K (.ref f2) = true)
    (a3 : PySem.W.nsIn K mainGlobals "refuse_unless_count" = some (some (.ref f3)))
    (l3 : K.lookup f3 = some ⟨oc3, od3, .func (PySem.W.fnOf "refuse_unless_count" "refuse_unless_count" (defArgs s_refuse_unless_count) (defBody s_refuse_unless_count) (defScope s_refuse_unless_count) .none kV3 dc3 pm3 an3 cd3 ct3), sl3⟩)
    (c3 : PySem.W.codeIn K cd3 "refuse_unless_count" = true)
    (k3 : PySem.W.keepIn K (.ref f3) = true)
    (a4 : PySem.W.nsIn K mainGlobals "sums" = some (some (.ref f4)))
    (l4 : K.lookup f4 = some ⟨oc4, od4, .func (PySem.W.fnOf "sums" "sums" (defArgs s_sums) (defBody s_sums) (defScope s_sums) .none kV4 dc4 pm4 an4 cd4 ct4), sl4⟩)
    (c4 : PySem.W.codeIn K cd4 "sums" = true)
    (k4 : PySem.W.keepIn K (.ref f4) = true)
    (a5 : PySem.W.nsIn K mainGlobals "row_by" = some (some (.ref f5)))
    (l5 : K.lookup f5 = some ⟨oc5, od5, .func (PySem.W.fnOf "row_by" "row_by" (defArgs s_row_by) (defBody s_row_by) (defScope s_row_by) .none kV5 dc5 pm5 an5 cd5 ct5), sl5⟩)
    (c5 : PySem.W.codeIn K cd5 "row_by" = true)
    (k5 : PySem.W.keepIn K (.ref f5) = true)
    (a6 : PySem.W.nsIn K mainGlobals "_law_start" = some (some (.ref f6)))
    (l6 : K.lookup f6 = some ⟨oc6, od6, .func (PySem.W.fnOf "_law_start" "_law_start" (defArgs s__law_start) (defBody s__law_start) (defScope s__law_start) .none kV6 dc6 pm6 an6 cd6 ct6), sl6⟩)
    (c6 : PySem.W.codeIn K cd6 "_law_start" = true)
    (k6 : PySem.W.keepIn K (.ref f6) = true)
    (a7 : PySem.W.nsIn K mainGlobals "_law_drawn" = some (some (.ref f7)))
    (l7 : K.lookup f7 = some ⟨oc7, od7, .func (PySem.W.fnOf "_law_drawn" "_law_drawn" (defArgs s__law_drawn) (defBody s__law_drawn) (defScope s__law_drawn) .none kV7 dc7 pm7 an7 cd7 ct7), sl7⟩)
    (c7 : PySem.W.codeIn K cd7 "_law_drawn" = true)
    (k7 : PySem.W.keepIn K (.ref f7) = true)
    (a8 : PySem.W.nsIn K mainGlobals "_law_set" = some (some (.ref f8)))
    (l8 : K.lookup f8 = some ⟨oc8, od8, .func (PySem.W.fnOf "_law_set" "_law_set" (defArgs s__law_set) (defBody s__law_set) (defScope s__law_set) .none kV8 dc8 pm8 an8 cd8 ct8), sl8⟩)
    (c8 : PySem.W.codeIn K cd8 "_law_set" = true)
    (k8 : PySem.W.keepIn K (.ref f8) = true)
    (a9 : PySem.W.nsIn K mainGlobals "_law_turned" = some (some (.ref f9)))
    (l9 : K.lookup f9 = some ⟨oc9, od9, .func (PySem.W.fnOf "_law_turned" "_law_turned" (defArgs s__law_turned) (defBody s__law_turned) (defScope s__law_turned) .none kV9 dc9 pm9 an9 cd9 ct9), sl9⟩)
    (c9 : PySem.W.codeIn K cd9 "_law_turned" = true)
    (k9 : PySem.W.keepIn K (.ref f9) = true)
    (a10 : PySem.W.nsIn K mainGlobals "_law_changed" = some (some (.ref f10)))
    (l10 : K.lookup f10 = some ⟨oc10, od10, .func (PySem.W.fnOf "_law_changed" "_law_changed" (defArgs s__law_changed) (defBody s__law_changed) (defScope s__law_changed) .none kV10 dc10 pm10 an10 cd10 ct10), sl10⟩)
    (c10 : PySem.W.codeIn K cd10 "_law_changed" = true)
    (k10 : PySem.W.keepIn K (.ref f10) = true)
    (a11 : PySem.W.nsIn K mainGlobals "_law_times" = some (some (.ref f11)))
    (l11 : K.lookup f11 = some ⟨oc11, od11, .func (PySem.W.fnOf "_law_times" "_law_times" (defArgs s__law_times) (defBody s__law_times) (defScope s__law_times) .none kV11 dc11 pm11 an11 cd11 ct11), sl11⟩)
    (c11 : PySem.W.codeIn K cd11 "_law_times" = true)
    (k11 : PySem.W.keepIn K (.ref f11) = true)
    (a12 : PySem.W.nsIn K mainGlobals "_law_row" = some (some (.ref f12)))
    (l12 : K.lookup f12 = some ⟨oc12, od12, .func (PySem.W.fnOf "_law_row" "_law_row" (defArgs s__law_row) (defBody s__law_row) (defScope s__law_row) .none kV12 dc12 pm12 an12 cd12 ct12), sl12⟩)
    (c12 : PySem.W.codeIn K cd12 "_law_row" = true)
    (k12 : PySem.W.keepIn K (.ref f12) = true)
    (a13 : PySem.W.nsIn K mainGlobals "_law_no_count" = some (some (.ref f13)))
    (l13 : K.lookup f13 = some ⟨oc13, od13, .func (PySem.W.fnOf "_law_no_count" "_law_no_count" (defArgs s__law_no_count) (defBody s__law_no_count) (defScope s__law_no_count) .none kV13 dc13 pm13 an13 cd13 ct13), sl13⟩)
    (c13 : PySem.W.codeIn K cd13 "_law_no_count" = true)
    (k13 : PySem.W.keepIn K (.ref f13) = true)
    (a14 : PySem.W.nsIn K mainGlobals "_law_any" = some (some (.ref f14)))
    (l14 : K.lookup f14 = some ⟨oc14, od14, .func (PySem.W.fnOf "_law_any" "_law_any" (defArgs s__law_any) (defBody s__law_any) (defScope s__law_any) .none kV14 dc14 pm14 an14 cd14 ct14), sl14⟩)
    (c14 : PySem.W.codeIn K cd14 "_law_any" = true)
    (k14 : PySem.W.keepIn K (.ref f14) = true)
    (a15 : PySem.W.nsIn K mainGlobals "law" = some (some (.ref f15)))
    (l15 : K.lookup f15 = some ⟨oc15, od15, .func (PySem.W.fnOf "law" "law" (defArgs s_law) (defBody s_law) (defScope s_law) .none kV15 dc15 pm15 an15 cd15 ct15), sl15⟩)
    (c15 : PySem.W.codeIn K cd15 "law" = true)
    (k15 : PySem.W.keepIn K (.ref f15) = true)
    (tc15 : cd15 = .ref cT15) (tl15 : K.lookup cT15 = some ⟨eT15, dT15, .fields vT15, sT15⟩) (tp15 : vT15[11]? = some (.ref PT15)) (tn15 : K.lookup PT15 = none)
    (gMendError : PySem.W.nsIn K mainGlobals "MendError" = some (some (.ref eMendError)))
    (gNoSet : PySem.W.nsIn K mainGlobals "NoSet" = some (some (.ref eNoSet)))
    (gNoMark : PySem.W.nsIn K mainGlobals "NoMark" = some (some (.ref eNoMark)))
    (gNoInverse : PySem.W.nsIn K mainGlobals "NoInverse" = some (some (.ref eNoInverse)))
    (gNoCount : PySem.W.nsIn K mainGlobals "NoCount" = some (some (.ref eNoCount)))
    (gNoHand : PySem.W.nsIn K mainGlobals "NoHand" = some (some (.ref eNoHand)))
    (gNoLetter : PySem.W.nsIn K mainGlobals "NoLetter" = some (some (.ref eNoLetter)))
    (gNoText : PySem.W.nsIn K mainGlobals "NoText" = some (some (.ref eNoText)))
    (gHeld : PySem.W.nsIn K mainGlobals "Held" = some (some (.ref eHeld)))
    (gNotHeld : PySem.W.nsIn K mainGlobals "NotHeld" = some (some (.ref eNotHeld)))
    (gUnlike : PySem.W.nsIn K mainGlobals "Unlike" = some (some (.ref eUnlike)))
    (gLate : PySem.W.nsIn K mainGlobals "Late" = some (some (.ref eLate)))
    (xNoSet : PySem.W.excIn K eNoSet [.type "ValueError", .type "Exception", .type "BaseException", .type "object"] "ValueError.__new__" = true)
    (kkNoSet : PySem.W.keepIn K (.ref eNoSet) = true)
    (bbNoSet : PySem.W.subIn K (.ref eNoSet) (.type "BaseException") = some true)
    (ttNoSet : PySem.W.typeIn K (.ref eNoSet) = some (.type "type"))
    (xNoInverse : PySem.W.excIn K eNoInverse [.type "ValueError", .type "Exception", .type "BaseException", .type "object"] "ValueError.__new__" = true)
    (kkNoInverse : PySem.W.keepIn K (.ref eNoInverse) = true)
    (bbNoInverse : PySem.W.subIn K (.ref eNoInverse) (.type "BaseException") = some true)
    (ttNoInverse : PySem.W.typeIn K (.ref eNoInverse) = some (.type "type"))
    (xNoCount : PySem.W.excIn K eNoCount [.type "ValueError", .type "Exception", .type "BaseException", .type "object"] "ValueError.__new__" = true)
    (kkNoCount : PySem.W.keepIn K (.ref eNoCount) = true)
    (bbNoCount : PySem.W.subIn K (.ref eNoCount) (.type "BaseException") = some true)
    (ttNoCount : PySem.W.typeIn K (.ref eNoCount) = some (.type "type"))
    (vLAST_MARK : PySem.W.nsIn K mainGlobals "LAST_MARK" = some (some (.int 96 tLAST_MARK)))
    (vWHEEL : PySem.W.nsIn K mainGlobals "WHEEL" = some (some (.int 97 tWHEEL)))
    (zValueError : PySem.W.nsIn K mainGlobals "ValueError" = some none)
    (zbool : PySem.W.nsIn K mainGlobals "bool" = some none)
    (zint : PySem.W.nsIn K mainGlobals "int" = some none)
    (zisinstance : PySem.W.nsIn K mainGlobals "isinstance" = some none)
    (zlen : PySem.W.nsIn K mainGlobals "len" = some none)
    (zmin : PySem.W.nsIn K mainGlobals "min" = some none)
    (zrange : PySem.W.nsIn K mainGlobals "range" = some none)
    (zset : PySem.W.nsIn K mainGlobals "set" = some none)
    (zsorted : PySem.W.nsIn K mainGlobals "sorted" = some none)
    (zsum : PySem.W.nsIn K mainGlobals "sum" = some none)
    (ztuple : PySem.W.nsIn K mainGlobals "tuple" = some none)
    (zzip : PySem.W.nsIn K mainGlobals "zip" = some none)
    (ykv : PySem.W.kitOne K (.ref eNoCount) (.type "ValueError") = some true)
    (yko : PySem.W.kitOne K (.ref eNoCount) (.ref eNoCount) = some true)
    (ykt : PySem.W.kitAny K (.ref eNoCount) [.ref eHeld, .ref eLate, .ref eNoHand, .ref eNoInverse, .ref eNoLetter, .ref eNoMark, .ref eNoSet, .ref eNoText, .ref eNotHeld, .ref eUnlike] = some false)
    (yq1_NoCount : PySem.W.findIn K (.ref eNoCount) "__getattribute__" = some (some (.builtin "BaseException.__getattribute__")))
    (yq2_NoCount : PySem.W.findIn K (.ref eNoCount) "__getattr__" = some none)
    (yq3_NoCount : PySem.W.subIn K (.ref eNoCount) (.type "BaseException") = some true)
    (yq4_NoCount : PySem.W.hasDictIn K eNoCount = true)
    (yq5_NoCount : PySem.W.findIn K (.ref eNoCount) "__class__" = some (some (.builtin "object.__class__")))
    (yq6_NoCount : PySem.W.specialIn K (.builtin "object.__class__") "__get__" = some (some (.builtin "getset_descriptor.__get__")))
    (yq7_NoCount : PySem.W.takesIn K (.builtin "object.__class__") = some true)
    (yq8_NoCount : PySem.W.mroIn K eNoCount (.type "object") = some true)
    (ys_NoCount_MendError : PySem.W.subIn K (.ref eNoCount) (.ref eMendError) = some true)
    (yh1_MendError : PySem.W.subIn K (.ref eMendError) (.type "BaseException") = some true)
    (yh2_MendError : PySem.W.hasDictIn K eMendError = true)
    (yh3_MendError : PySem.W.typeIn K (.ref eMendError) = some (.type "type")) :
    LamX.LawAtS l w K L2.CX0 12 63 "_law_script" mg fa h := by
  have e := hfa.symm.trans (PySem.W.mg_of X G a15)
  cases e
  have F0 := fun_mk (st := s_is_set) l0 c0 k0
  have b0 := F0.binds (ps := ["marks"]) fun _ _ _ _ _ _ us hl => match us, hl with | [_], _ => rfl
  have F1 := fun_mk (st := s_refuse_unless_set) l1 c1 k1
  have b1 := F1.binds (ps := ["marks"]) fun _ _ _ _ _ _ us hl => match us, hl with | [_], _ => rfl
  have F2 := fun_mk (st := s_inverse) l2 c2 k2
  have b2 := F2.binds (ps := ["number"]) fun _ _ _ _ _ _ us hl => match us, hl with | [_], _ => rfl
  have F3 := fun_mk (st := s_refuse_unless_count) l3 c3 k3
  have b3 := F3.binds (ps := ["number"]) fun _ _ _ _ _ _ us hl => match us, hl with | [_], _ => rfl
  have F4 := fun_mk (st := s_sums) l4 c4 k4
  have b4 := F4.binds (ps := ["marks", "many"]) fun _ _ _ _ _ _ us hl => match us, hl with | [_, _], _ => rfl
  have F5 := fun_mk (st := s_row_by) l5 c5 k5
  have b5 := F5.binds (ps := ["told"]) fun _ _ _ _ _ _ us hl => match us, hl with | [_], _ => rfl
  have F6 := fun_mk (st := s__law_start) l6 c6 k6
  have b6 := F6.binds (ps := ["_law_script"]) fun _ _ _ _ _ _ us hl => match us, hl with | [_], _ => rfl
  have F7 := fun_mk (st := s__law_drawn) l7 c7 k7
  have b7 := F7.binds (ps := ["_law_state", "_law_many"]) fun _ _ _ _ _ _ us hl => match us, hl with | [_, _], _ => rfl
  have F8 := fun_mk (st := s__law_set) l8 c8 k8
  have b8 := F8.binds (ps := ["_law_state", "_law_most"]) fun _ _ _ _ _ _ us hl => match us, hl with | [_, _], _ => rfl
  have F9 := fun_mk (st := s__law_turned) l9 c9 k9
  have b9 := F9.binds (ps := ["_law_marks", "_law_mark"]) fun _ _ _ _ _ _ us hl => match us, hl with | [_, _], _ => rfl
  have F10 := fun_mk (st := s__law_changed) l10 c10 k10
  have b10 := F10.binds (ps := ["_law_state", "_law_marks", "_law_many"]) fun _ _ _ _ _ _ us hl => match us, hl with | [_, _, _], _ => rfl
  have F11 := fun_mk (st := s__law_times) l11 c11 k11
  have b11 := F11.binds (ps := ["_law_one", "_law_other", "_law_many"]) fun _ _ _ _ _ _ us hl => match us, hl with | [_, _, _], _ => rfl
  have F12 := fun_mk (st := s__law_row) l12 c12 k12
  have b12 := F12.binds (ps := ["_law_marks"]) fun _ _ _ _ _ _ us hl => match us, hl with | [_], _ => rfl
  have F13 := fun_mk (st := s__law_no_count) l13 c13 k13
  have b13 := F13.binds (ps := ["_law_work"]) fun _ _ _ _ _ _ us hl => match us, hl with | [_], _ => rfl
  have F14 := fun_mk (st := s__law_any) l14 c14 k14
  have b14 := F14.binds (ps := ["_law_state"]) fun _ _ _ _ _ _ us hl => match us, hl with | [_], _ => rfl
  have F15 := fun_mk (st := s_law) l15 c15 k15
  have b15 := F15.binds (ps := ["_law_script"]) fun _ _ _ _ _ _ us hl => match us, hl with | [_], _ => rfl
  subst tc15
  have tt15 := Lm.tab_of X tf (by decide) (PySem.W.mg_of X G a15) l15 rfl rfl tl15 rfl tp15
  refine ⟨PySem.W.fnOf "law" "law" (defArgs s_law) (defBody s_law) (defScope s_law) .none kV15 dc15 pm15 an15 (.ref cT15) ct15, [(cT15, PT15)], sp_law K PT15, List.forall_mem_cons.mpr ⟨tt15.1, (fun _ z => nomatch z)⟩, List.forall_mem_cons.mpr ⟨tn15, (fun _ z => nomatch z)⟩, List.forall_mem_cons.mpr ⟨tt15.2, (fun _ z => nomatch z)⟩, fun s v => .of_eq rfl, fun H a ns hl hb hT hS => ⟨a, ns, rfl, hS, hl, hT _ List.mem_cons_self, fun _ => rfl⟩, fun base _ _ hTB => ?_⟩
  have TB15 : LamX.TabB base mg cT15 PT15 := hTB (cT15, PT15) (by simp)
  have T : Txt K mg base (⟨f0, _, f1, _, f2, _, f3, _, f4, _, f5, _, f6, _, f7, _, f8, _, f9, _, f10, _, f11, _, f12, _, f13, _, f14, _, fa, _, cT15, PT15, eMendError, eNoSet, eNoMark, eNoInverse, eNoCount, eNoHand, eNoLetter, eNoText, eHeld, eNotHeld, eUnlike, eLate, tLAST_MARK, tWHEEL⟩ : Ad) := ⟨F0, k0, PySem.W.mg_of X G a0, b0, F1, k1, PySem.W.mg_of X G a1, b1, F2, k2, PySem.W.mg_of X G a2, b2, F3, k3, PySem.W.mg_of X G a3, b3, F4, k4, PySem.W.mg_of X G a4, b4, F5, k5, PySem.W.mg_of X G a5, b5, F6, k6, PySem.W.mg_of X G a6, b6, F7, k7, PySem.W.mg_of X G a7, b7, F8, k8, PySem.W.mg_of X G a8, b8, F9, k9, PySem.W.mg_of X G a9, b9, F10, k10, PySem.W.mg_of X G a10, b10, F11, k11, PySem.W.mg_of X G a11, b11, F12, k12, PySem.W.mg_of X G a12, b12, F13, k13, PySem.W.mg_of X G a13, b13, F14, k14, PySem.W.mg_of X G a14, b14, F15, k15, PySem.W.mg_of X G a15, b15, PySem.W.mg_of X G vLAST_MARK, PySem.W.mg_of X G vWHEEL, PySem.W.mg_none_of X G zValueError, PySem.W.mg_none_of X G zbool, PySem.W.mg_none_of X G zint, PySem.W.mg_none_of X G zisinstance, PySem.W.mg_none_of X G zlen, PySem.W.mg_none_of X G zmin, PySem.W.mg_none_of X G zrange, PySem.W.mg_none_of X G zset, PySem.W.mg_none_of X G zsorted, PySem.W.mg_none_of X G zsum, PySem.W.mg_none_of X G ztuple, PySem.W.mg_none_of X G zzip, PySem.W.mg_of X G gMendError, PySem.W.mg_of X G gNoSet, PySem.W.mg_of X G gNoMark, PySem.W.mg_of X G gNoInverse, PySem.W.mg_of X G gNoCount, PySem.W.mg_of X G gNoHand, PySem.W.mg_of X G gNoLetter, PySem.W.mg_of X G gNoText, PySem.W.mg_of X G gHeld, PySem.W.mg_of X G gNotHeld, PySem.W.mg_of X G gUnlike, PySem.W.mg_of X G gLate, rfl, TB15, xNoSet, kkNoSet, bbNoSet, ttNoSet, xNoInverse, kkNoInverse, bbNoInverse, ttNoInverse, xNoCount, kkNoCount, bbNoCount, ttNoCount, ykv, yko, ykt, yq1_NoCount, yq2_NoCount, yq3_NoCount, yq4_NoCount, yq5_NoCount, yq6_NoCount, yq7_NoCount, yq8_NoCount, ys_NoCount_MendError, yh1_MendError, yh2_MendError, yh3_MendError⟩
  exact ok_law T
end My
open PySem PySem.W PyProof.Rows
set_option maxHeartbeats 0 in
theorem PySem.Challenge.cw_setmend_k09_whole_rows_of_two_sets_holds : PySem.Challenge.rw_setmend_k09_whole_rows_of_two_sets.Holds := by
  w_on; o_law; k_head; (case hw => w_witness2)
  k_fill
  refine Lm.walk_tabs (l := PySem.Challenge.rw_setmend_k09_whole_rows_of_two_sets) (n := 63) (k := 12) (x := "_law_script") (CX := fun _ => L2.CX0) ["law"] rfl (by decide) rfl ⟨rfl, by decide, by decide⟩ (by decide +kernel) (fun w h Y => PySem.W.km_in_of Y) ?F (fun _ _ _ _ _ h => h)
  case F =>
    intro w mg fa h KX G hmg tf
    refine' My.all_mk KX G hmg tf ?a0 ?l0 ?c0 ?k0 ?a1 ?l1 ?c1 ?k1 ?a2 ?l2 ?c2 ?k2 ?a3 ?l3 ?c3 ?k3 ?a4 ?l4 ?c4 ?k4 ?a5 ?l5 ?c5 ?k5 ?a6 ?l6 ?c6 ?k6 ?a7 ?l7 ?c7 ?k7 ?a8 ?l8 ?c8 ?k8 ?a9 ?l9 ?c9 ?k9 ?a10 ?l10 ?c10 ?k10 ?a11 ?l11 ?c11 ?k11 ?a12 ?l12 ?c12 ?k12 ?a13 ?l13 ?c13 ?k13 ?a14 ?l14 ?c14 ?k14 ?a15 ?l15 ?c15 ?k15 ?tc15 ?tl15 ?tp15 ?tn15 ?gMendError ?gNoSet ?gNoMark ?gNoInverse ?gNoCount ?gNoHand ?gNoLetter ?gNoText ?gHeld ?gNotHeld ?gUnlike ?gLate ?xNoSet ?kkNoSet ?bbNoSet ?ttNoSet ?xNoInverse ?kkNoInverse ?bbNoInverse ?ttNoInverse ?xNoCount ?kkNoCount ?bbNoCount ?ttNoCount ?vLAST_MARK ?vWHEEL ?zValueError ?zbool ?zint ?zisinstance ?zlen ?zmin ?zrange ?zset ?zsorted ?zsum ?ztuple ?zzip ?ykv ?yko ?ykt ?yq1_NoCount ?yq2_NoCount ?yq3_NoCount ?yq4_NoCount ?yq5_NoCount ?yq6_NoCount ?yq7_NoCount ?yq8_NoCount ?ys_NoCount_MendError ?yh1_MendError ?yh2_MendError ?yh3_MendError
    (case a0 => first | k_is | (first | rfl | k_is)); (case l0 => first | k_is | (first | rfl | k_is)); (case c0 => first | k_is | (first | rfl | k_is)); (case k0 => first | k_is | (first | rfl | k_is)); (case a1 => first | k_is | (first | rfl | k_is)); (case l1 => first | k_is | (first | rfl | k_is)); (case c1 => first | k_is | (first | rfl | k_is)); (case k1 => first | k_is | (first | rfl | k_is)); (case a2 => first | k_is | (first | rfl | k_is)); (case l2 => first | k_is | (first | rfl | k_is)); (case c2 => first | k_is | (first | rfl | k_is)); (case k2 => first | k_is | (first | rfl | k_is)); (case a3 => first | k_is | (first | rfl | k_is)); (case l3 => first | k_is | (first | rfl | k_is)); (case c3 => first | k_is | (first | rfl | k_is)); (case k3 => first | k_is | (first | rfl | k_is)); (case a4 => first | k_is | (first | rfl | k_is)); (case l4 => first | k_is | (first | rfl | k_is)); (case c4 => first | k_is | (first | rfl | k_is)); (case k4 => first | k_is | (first | rfl | k_is)); (case a5 => first | k_is | (first | rfl | k_is)); (case l5 => first | k_is | (first | rfl | k_is)); (case c5 => first | k_is | (first | rfl | k_is)); (case k5 => first | k_is | (first | rfl | k_is)); (case a6 => first | k_is | (first | rfl | k_is)); (case l6 => first | k_is | (first | rfl | k_is)); (case c6 => first | k_is | (first | rfl | k_is)); (case k6 => first | k_is | (first | rfl | k_is)); (case a7 => first | k_is | (first | rfl | k_is)); (case l7 => first | k_is | (first | rfl | k_is)); (case c7 => first | k_is | (first | rfl | k_is)); (case k7 => first | k_is | (first | rfl | k_is)); (case a8 => first | k_is | (first | rfl | k_is)); (case l8 => first | k_is | (first | rfl | k_is)); (case c8 => first | k_is | (first | rfl | k_is)); (case k8 => first | k_is | (first | rfl | k_is)); (case a9 => first | k_is | (first | rfl | k_is)); (case l9 => first | k_is | (first | rfl | k_is)); (case c9 => first | k_is | (first | rfl | k_is)); (case k9 => first | k_is | (first | rfl | k_is)); (case a10 => first | k_is | (first | rfl | k_is)); (case l10 => first | k_is | (first | rfl | k_is)); (case c10 => first | k_is | (first | rfl | k_is)); (case k10 => first | k_is | (first | rfl | k_is)); (case a11 => first | k_is | (first | rfl | k_is)); (case l11 => first | k_is | (first | rfl | k_is)); (case c11 => first | k_is | (first | rfl | k_is)); (case k11 => first | k_is | (first | rfl | k_is)); (case a12 => first | k_is | (first | rfl | k_is)); (case l12 => first | k_is | (first | rfl | k_is)); (case c12 => first | k_is | (first | rfl | k_is)); (case k12 => first | k_is | (first | rfl | k_is)); (case a13 => first | k_is | (first | rfl | k_is)); (case l13 => first | k_is | (first | rfl | k_is)); (case c13 => first | k_is | (first | rfl | k_is)); (case k13 => first | k_is | (first | rfl | k_is)); (case a14 => first | k_is | (first | rfl | k_is)); (case l14 => first | k_is | (first | rfl | k_is)); (case c14 => first | k_is | (first | rfl | k_is)); (case k14 => first | k_is | (first | rfl | k_is)); (case a15 => first | k_is | (first | rfl | k_is)); (case l15 => first | k_is | (first | rfl | k_is)); (case c15 => first | k_is | (first | rfl | k_is)); (case k15 => first | k_is | (first | rfl | k_is)); (case tc15 => first | k_is | (first | rfl | k_is)); (case tl15 => first | k_is | (first | rfl | k_is)); (case tp15 => first | k_is | (first | rfl | k_is)); (case tn15 => first | k_is | (first | rfl | k_is)); (case gMendError => first | k_is | (first | rfl | k_is)); (case gNoSet => first | k_is | (first | rfl | k_is)); (case gNoMark => first | k_is | (first | rfl | k_is)); (case gNoInverse => first | k_is | (first | rfl | k_is)); (case gNoCount => first | k_is | (first | rfl | k_is)); (case gNoHand => first | k_is | (first | rfl | k_is)); (case gNoLetter => first | k_is | (first | rfl | k_is)); (case gNoText => first | k_is | (first | rfl | k_is)); (case gHeld => first | k_is | (first | rfl | k_is)); (case gNotHeld => first | k_is | (first | rfl | k_is)); (case gUnlike => first | k_is | (first | rfl | k_is)); (case gLate => first | k_is | (first | rfl | k_is)); (case xNoSet => k_exc); (case kkNoSet => first | k_is | (first | rfl | k_is)); (case bbNoSet => first | k_is | (first | rfl | k_is)); (case ttNoSet => first | k_is | (first | rfl | k_is)); (case xNoInverse => k_exc); (case kkNoInverse => first | k_is | (first | rfl | k_is)); (case bbNoInverse => first | k_is | (first | rfl | k_is)); (case ttNoInverse => first | k_is | (first | rfl | k_is)); (case xNoCount => k_exc); (case kkNoCount => first | k_is | (first | rfl | k_is)); (case bbNoCount => first | k_is | (first | rfl | k_is)); (case ttNoCount => first | k_is | (first | rfl | k_is)); (case vLAST_MARK => first | k_is | (first | rfl | k_is)); (case vWHEEL => first | k_is | (first | rfl | k_is)); (case zValueError => first | k_is | (first | rfl | k_is)); (case zbool => first | k_is | (first | rfl | k_is)); (case zint => first | k_is | (first | rfl | k_is)); (case zisinstance => first | k_is | (first | rfl | k_is)); (case zlen => first | k_is | (first | rfl | k_is)); (case zmin => first | k_is | (first | rfl | k_is)); (case zrange => first | k_is | (first | rfl | k_is)); (case zset => first | k_is | (first | rfl | k_is)); (case zsorted => first | k_is | (first | rfl | k_is)); (case zsum => first | k_is | (first | rfl | k_is)); (case ztuple => first | k_is | (first | rfl | k_is)); (case zzip => first | k_is | (first | rfl | k_is)); (case ykv => first | k_is | (first | rfl | k_is)); (case yko => first | k_is | (first | rfl | k_is)); (case ykt => first | k_is | (first | rfl | k_is)); (case yq1_NoCount => first | k_is | (first | rfl | k_is)); (case yq2_NoCount => first | k_is | (first | rfl | k_is)); (case yq3_NoCount => first | k_is | (first | rfl | k_is)); (case yq4_NoCount => first | k_is | (first | rfl | k_is)); (case yq5_NoCount => first | k_is | (first | rfl | k_is)); (case yq6_NoCount => first | k_is | (first | rfl | k_is)); (case yq7_NoCount => first | k_is | (first | rfl | k_is)); (case yq8_NoCount => first | k_is | (first | rfl | k_is)); (case ys_NoCount_MendError => first | k_is | (first | rfl | k_is)); (case yh1_MendError => first | k_is | (first | rfl | k_is)); (case yh2_MendError => first | k_is | (first | rfl | k_is)); (case yh3_MendError => first | k_is | (first | rfl | k_is))
