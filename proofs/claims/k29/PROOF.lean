import PyProof.Rows.All
import Wide.All
import OpenK.AllK
import Wide.FinOn
import PyProof.EqAt
import PyProof.EqKinds
import PyProof.TupleCall
import HandS.ForMost
import HandS.Wide
import HandS.EndBits
import HandS.IsInst
import HandS.TupAny
import HandS.Exc
import HandS.TryOnly
import HandS.ExcOwn
import HandS.WordsExc
import HandS.Strs
import HandS.SetFor
import HandS.SortInts
import HandS.TupMul
import HandS.More
import HandS.Star
import HandS.Rev
import HandS.Conv
import HandS.Style
import HandS.Evl
import HandS.Walk
import HandS.Zip
import KE.GoesEnum
import HandS.ExcIs
import HandS.FStr
import HandS.Text
import PyProof.StrBlock2
import PySem.Challenge.RW_setmend_k29_texts_that_write_no_letter
set_option Elab.async false
set_option linter.all false
set_option maxRecDepth 100000
set_option maxHeartbeats 4000000
namespace MyS
open PySem PySem.Spec PyProof.Rows L2 Srt
section
variable {prog : Program} {w : World} {A : Around} {E : Value → Shared → Prop} {s : Shared}
/-- sorted(x) where collecting x hands out ints -/
theorem sorted_gen {a : Addr} {J : Shared → Prop} {C : List Value → Prop} {D : List Int → Prop} {Q : Value → Shared → Prop}
    (hcol : ∀ Q' : List Value → Shared → Prop, (∀ s1 vs, J s1 → C vs → Q' vs s1) → wpAny (model prog w) A.in1 (collect (.ref a)) Q' E s)
    (hC : ∀ vs, C vs → ∃ ns, IntsAre vs ns ∧ vs.length ≤ sizeLine ∧ D ns)
    (hQ : ∀ (s1 s' : Shared) (p : Addr) (out : List Value) (c : Nat) (ns ns' : List Int), J s1 → (∀ b o, s1.heap.get? b = some o → s'.heap.get? b = some o) → s'.gens = s1.gens → s'.os = s1.os → s1.heap.objs.size ≤ p → s'.heap.get? p = some (seqObj "list" out.toArray c) →
      IntsAre out ns' → ns'.Perm ns → ns'.Pairwise (· ≤ ·) → D ns → Q (.ref p) s') :
    wpAny (model prog w) A (call (.builtin "sorted") [.ref a]) Q E s := by
  refine Calls.call_function_entry kind_sorted plain_sorted entry_sorted (args_sorted1 _) ?_
  unfold Builtin.«sorted»
  refine wpAny_bind (m := checkCount "sorted" 1 1 _) (wpAny_pure (wpAny_bind (hcol _ fun s1 vs j1 hc => ?_)))
  obtain ⟨ns, hI, hlen, hD⟩ := hC vs hc
  refine wpAny_bind (wpAny_newList ?_ hlen)
  have h0 : (s1.heap.push (seqObj "list" vs.toArray 0)).get? s1.heap.objs.size = some (seqObj "list" vs.toArray 0) := Heap.get?_push_size _ rfl
  refine wpAny_bind (wpAny_holding (wpAny_call_entry slot_list_sort ⟨_, h0, rfl⟩ entry_list_sort (SrtO.list_sort_ord SrtO.swo_int h0 hlen (fun h2 => SrtO.ints_sortable hI h2) fun out hs hb => ⟨_, rfl, ?_⟩) (args_list_sort _)))
  obtain ⟨c, hcell⟩ := sortedHeap_at (vs := vs) (out := out.toArray) h0
  obtain ⟨i1, i2, i3⟩ := SrtO.ints_out hI hs hb
  refine wpAny_pure ⟨_, rfl, hQ s1 _ _ out c ns _ j1 (fun b u e => ?_) rfl rfl (Nat.le_refl _) hcell i1 i2 i3 hD⟩
  have lt1 := Heap.lt_size e
  show (sortedHeap (s1.heap.push (seqObj "list" vs.toArray 0)) s1.heap.objs.size vs out.toArray).get? b = some u
  rw [sortedHeap_old (Nat.ne_of_lt lt1) (by rw [size_push']; exact Nat.lt_succ_of_lt lt1)]
  exact Heap.get?_push_of_some _ e
end
theorem lt_nd : ∀ l : List Int, l.Pairwise (· ≤ ·) → l.Nodup → l.Pairwise (· < ·)
  | [], _, _ => .nil
  | x :: r, h, n => by
    have h' := List.pairwise_cons.mp h
    have n' := List.nodup_cons.mp n
    exact .cons (fun y hy => Int.lt_iff_le_and_ne.mpr ⟨h'.1 y hy, fun e => n'.1 (e ▸ hy)⟩) (lt_nd r h'.2 n'.2)
end MyS
namespace MyS
open PySem PySem.Spec PyProof.Rows L2
section
variable {P : Program} {w : World} {A : Around} {E : Value → Shared → Prop} {s : Shared}
/-- the set that set(..) begins with -/
def set0 (w : World) : Obj := { cls := .type "set", dict := none, data := .set #[] 0 (.fresh 0 0 (!w.params.followText "set-order")) }
set_option maxHeartbeats 3200000 in
theorem set_of_list {l : Addr} {items : Array Value} (ns : List Int) {Q : Value → Shared → Prop} (hh : A.handled = none) (hl : s.heap.IsList l items) (hit : IntsAre items.toList ns) (hb : ns.length + 1 < scanBound)
    (h : ∀ (h' : Heap) (tk c : Nat), SetR w h' s.heap.objs.size (fun j => decide (j ∈ ns)) c → c ≤ ns.length → (∀ b o, s.heap.get? b = some o → h'.get? b = some o) → Q (.ref s.heap.objs.size) { s with heap := h', toks := tk }) :
    wpAny (model P w) A (call (.type "set") [.ref l]) Q E s := by
  have hn : items.size = ns.length := by
    rw [← IntsAre.length hit, Array.length_toList]
  have hval : ∀ (i : Nat) (v : Value), items[i]? = some v → ∃ k t, ns[i]? = some k ∧ v = .int k t := fun i v hv => by
    have hi : i < ns.length := hn ▸ (Array.getElem?_eq_some_iff.mp hv).1
    obtain ⟨t, e⟩ := IntsAre.int_at hit i v (by rw [Array.getElem?_toList]; exact hv)
    have g : ns[i]? = some ns[i] := List.getElem?_eq_getElem hi
    exact ⟨ns[i], t, g, by rw [e, List.getD_eq_getElem?_getD, g]; rfl⟩
  have lt : l < s.heap.objs.size := by
    obtain ⟨o, ho, _⟩ := hl
    exact Heap.lt_size ho
  obtain ⟨c, tl, hmro⟩ := F.called_set.mro
  have f1 := F.called_set.made
  have f2 := F.called_set.sub
  have f3 := F.called_set.notType
  have f4 := F.called_set.canCreate
  have f5 := F.typeCall_set_1 (.ref l)
  refine wpAny_call (codeAny_of_tree ?_)
  show wpAny _ _ (callAny (.type "set") _) _ _ _
  refine wpAny_pure ⟨Code.quiet_builtin _ (by decide +kernel), codeAny_builtin F.entry_type_call ?_⟩
  rw [Around.under_plain (weight_type_call_type "set" [.ref l] []) rfl]
  repeat (any_goals (first | assumption | wp_step))
  refine codeAny_mono (code_set_led1 (.ref l) (E := E) (Q₁ := fun u s₁ => u = .ref s.heap.objs.size ∧ s₁ = { s with heap := s.heap.push (set0 w) }) ⟨rfl, rfl⟩) fun r s₁ hr => ?_
  match r, hr with
  | .error e, hr => exact hr
  | .ok (.ret u), hr =>
    obtain ⟨rfl, rfl⟩ := hr
    have hS : (s.heap.push (set0 w)).get? s.heap.objs.size = some (set0 w) := Heap.get?_push_size _ rfl
    have hT : Shared.TypeIs { s with heap := s.heap.push (set0 w) } (.ref s.heap.objs.size) "set" := ⟨_, hS, rfl⟩
    have i1 := F.called_set.init.lookup
    have i2 := F.called_set.init.bind (.ref s.heap.objs.size)
    repeat (any_goals (first | assumption | wp_step))
    refine codeAny_mono (codeAny_call_builtin (R := wants (fun r s₂ => r = .none ∧ ∃ h' tk c, s₂ = { s with heap := h', toks := tk } ∧ SetR w h' s.heap.objs.size (fun j => decide (j ∈ ns)) c ∧ c ≤ ns.length ∧ (∀ b o, s.heap.get? b = some o → h'.get? b = some o)) E)
      F.called_set.init.plain F.entry_set_init (check_set_init_1 hT ?_)) fun r₂ s₂ hr₂ => ?_
    · obtain ⟨ol, hol, hcl, nl, hdl⟩ := hl
      obtain ⟨ocls, odict, odata, oslots⟩ := ol
      dsimp only at hcl hdl
      subst hcl hdl
      have hol' : (s.heap.push (set0 w)).get? l = some { cls := .type "list", dict := odict, data := .seq items nl, slots := oslots } := Heap.get?_push_of_some _ hol
      have hl1 : (s.heap.push (set0 w)).IsList l items := ⟨_, hol', rfl, nl, rfl⟩
      have n1 := F.sub_list_set
      have n2 := F.sub_list_frozenset
      have n3 : (Value.type "list" == Value.type "dict") = false := by decide
      unfold Builtin.«set.__init__» noKeywords Builtin.Frozenset.updateFrom
      generalize hPI : pyIter = PI
      wp_walk
      subst hPI
      refine wpAny_pyIter_list hl1 (wpAny_bind (wpAny_runValue ?_))
      have sz : (s.heap.push (set0 w)).objs.size = s.heap.objs.size + 1 := Heap.size_push ..
      have a1 : l ≠ (s.heap.push (set0 w)).objs.size := by
        rw [sz]
        exact Nat.ne_of_lt (Nat.lt_succ_of_lt lt)
      have a2 : s.heap.objs.size ∉ [(s.heap.push (set0 w)).objs.size, l] := fun m => by
        rw [sz] at m
        rcases List.mem_cons.mp m with m | m
        · exact absurd m (Nat.ne_of_lt (Nat.lt_succ_self _))
        · exact absurd (List.mem_singleton.mp m) (Nat.ne_of_gt lt)
      have hh3 : A.in1.in1.in1.handled = none := by simp [hh]
      refine set_update_ints ((Walks.list hh3 _ l a1 items).toS) s.heap.objs.size a2 ns hn hb hval (items.size - 0) 0 _ (by omega) (Nat.zero_le _) ⟨⟨_, Heap.get?_push_size _ rfl, rfl, rfl⟩, hl1.push _⟩ ⟨0, Nat.le_refl 0, setR_new_at (Heap.get?_push_of_some _ hS)⟩ ?_
      intro s' c' hm hc' hS'
      obtain ⟨h', g2, d', tk', os'⟩ := s'
      obtain rfl : g2 = s.gens := hm.gens
      obtain rfl : d' = s.drawn := hm.drawn
      obtain rfl : os' = s.os := hm.os
      show wpAny _ _ _ _ _ _
      refine wpAny_pure ?_
      show wpAny _ _ (ret Value.none) _ _ _
      refine wpAny_pure ⟨rfl, h', tk', c', rfl, hS', hn ▸ hc', fun b o e => ?_⟩
      have b0 := Heap.lt_size e
      refine hm.heap b o (fun m => ?_) (Heap.get?_push_of_some _ (Heap.get?_push_of_some _ e))
      rw [sz] at m
      rcases List.mem_cons.mp m with m | m
      · exact absurd m (Nat.ne_of_lt b0)
      · exact absurd (List.mem_singleton.mp m) (Nat.ne_of_lt (Nat.lt_succ_of_lt b0))
    · match r₂, hr₂ with
      | .error e, hr₂ => exact hr₂
      | .ok (.ret r), hr₂ =>
        obtain ⟨rfl, h', tk, c', rfl, hS', hc', hk'⟩ := hr₂
        repeat (any_goals (first | assumption | wp_step))
        exact h _ _ _ hS' hc' hk'
end
end MyS
namespace L2
open PySem PySem.Spec PyProof.Rows
/-- sorted(t), t a list or tuple of ints -/
def rSortedQ (K : PySem.W.Frag) : List V → Hp → VK → Prop := fun vs H Q => ∃ (a : Addr) (ns : List Int), vs = [V.ref a] ∧ (SqL K H a (ns.map V.int) ∨ SqT K H a (ns.map V.int)) ∧
  ∀ (ms : List Int) (p : Addr), ms.Perm ns → ms.Pairwise (· ≤ ·) → H p = none → Q (.ref p) (upd H p (.lst (ms.map V.int)))
/-- sorted(found), any number below 4,000 -/
def rSortedU (w : World) : List V → Hp → VK → Prop := fun vs H Q => ∃ (a : Addr) (S : Int → Bool) (n : Nat), vs = [V.ref a] ∧ H a = some (SetO w a S n) ∧ n ≤ 4000 ∧
  ∀ (ms : List Int) (p : Addr), ms.Pairwise (· < ·) → (∀ k : Int, k ∈ ms ↔ S k = true) → ms.length = n → H p = none → Q (.ref p) (upd H p (.lst (ms.map V.int)))
section
variable {X : Cx}
theorem inv_laid {pins : List (Addr × Obj)} {σ : St} {H : Hp} {s s' : Shared} {p : Addr} {o : HO} (I : Inv X pins σ H s) (k : ∀ b u, s.heap.get? b = some u → s'.heap.get? b = some u) (hp : s.heap.objs.size ≤ p) (g : s'.gens = s.gens) (os : s'.os = s.os)
    (new : ObjOk X.prog X.w (upd H p o) s'.heap p o) : H p = none ∧ Inv X pins σ (upd H p o) s' := by
  have hn : H p = none := I.hok.fresh hp
  exact ⟨hn, I.call' (ch := []) os (Un.laid k hp hn) (I.hok.laid k hp new) (by rw [g]; exact I.bare) fun _ z => nomatch z⟩
theorem call_sortedQ (hc : X.calm = true) : CallR X (.builtin "sorted") (rSortedQ X.K) := by
  intro pins s σ H vs us Q I r h
  obtain ⟨a, ns, rfl, hs, q⟩ := h
  rw [Vals.ref1 r]
  have key : ∀ (T : String) (o : Obj) (its : List Value) (n : Nat), (T = "list" ∨ T = "tuple") → s.heap.get? a = some o → o.cls = .type T → o.data = .seq its.toArray n → IntsAre its ns → its.length ≤ sizeLine →
      wpAny (model X.prog X.w) X.A (call (.builtin "sorted") [.ref a]) (EP X pins σ Q) X.xe s := by
    intro T o its n hT ho hcl hd hi hz
    refine MyS.sorted_gen (J := fun s1 => Inv X pins σ H s1) (C := fun vs => vs = its) (D := fun ms => ms = ns) (fun Q' hq => ?_) (fun vs e => ⟨ns, by rw [e]; exact hi, by rw [e]; exact hz, rfl⟩) fun s1 s' p out c ns1 ms I1 k g os hp hcell i1 i2 i3 e => ?_
    · exact wpAny_collect_seq a hT ho hcl hd (fun h' hk => hq _ _ (I.kept (t' := s.toks) hk) (by simp)) (by rw [List.size_toArray]; exact hz)
    · subst e
      have hlen : (ms.map V.int).length ≤ sizeLine := by
        rw [List.length_map, i2.length_eq, ← IntsAre.length hi]
        exact hz
      obtain ⟨hn, J⟩ := inv_laid I1 k hp g os (o := .lst (ms.map V.int)) ⟨hlen, out, c, vals_of_ints i1, hcell⟩
      exact ⟨.ref p, _, J, rfl, q ms p i2 i3 hn⟩
  rcases hs with hs | hs
  · obtain ⟨its, rv, pl, hz⟩ := I.list hs
    obtain ⟨o, ho, hcl, n, hd⟩ := pl.isList
    exact key "list" o its n (.inl rfl) ho hcl hd rv.ints (by rw [← rv.length]; exact hz)
  · obtain ⟨its, rv, pl, hz⟩ := I.tuple hs
    obtain ⟨o, ho, hcl, n, hd⟩ := pl
    exact key "tuple" o its n (.inr rfl) ho hcl hd rv.ints (by rw [← rv.length]; exact hz)
theorem call_sortedU (hc : X.calm = true) : CallR X (.builtin "sorted") (rSortedU X.w) := by
  intro pins s σ H vs us Q I r h
  obtain ⟨a, S, n, rfl, ha, hsm, q⟩ := h
  obtain ⟨o, es, ep, t, ho, hex, hd, hg, hnd, hmem, hsz, hfit, hn, hris, hled⟩ := setO_get I ha
  rw [Vals.ref1 r]
  refine MyS.sorted_gen (J := fun s1 => Inv X pins σ H s1) (C := fun vs => vs.Perm (es.toList.map (·.2))) (D := fun ms => ms.Perm (es.toList.map keyOf)) (fun Q' hq => ?_) (fun vs e => ?_) fun s1 s' p out c ns1 ms I1 k g os hp hcell i1 i2 i3 e => ?_
  · exact collect_set (A := X.A.in1) (I.ok.hd hc) ⟨o, ho, hex.1, hd⟩ hfit hsz hris hled fun s1 out k _ g os pm => hq s1 out (I.call' (ch := []) os (Un.kept k) (I.hok.kept k) (by rw [g]; exact I.bare) fun _ z => nomatch z) pm
  · have hi : ∀ v ∈ vs, ∃ i t, v = Value.int i t := fun v hv => by
      obtain ⟨x, hx, ex⟩ := List.mem_map.mp (e.mem_iff.mp hv)
      obtain ⟨i, t, h1, _⟩ := hg x hx
      exact ⟨i, t, by rw [← ex]; exact h1⟩
    refine ⟨vs.map SrtO.iv, SrtO.ints_iv hi, ?_, ?_⟩
    · rw [e.length_eq, List.length_map, Array.length_toList, hn]
      exact Nat.le_trans hsm (by decide)
    · have pm := e.map SrtO.iv
      rw [List.map_map] at pm
      have ek : (es.toList.map fun x => SrtO.iv x.2) = es.toList.map keyOf := by
        refine List.map_congr_left fun x hx => ?_
        obtain ⟨i, t, h1, _⟩ := hg x hx
        unfold keyOf
        rw [h1]
        rfl
      rw [← ek]
      exact pm
  · have pm : ms.Perm (es.toList.map keyOf) := i2.trans e
    have hlen0 : ms.length = n := by rw [pm.length_eq, List.length_map, Array.length_toList]; exact hn
    have hlen : (ms.map V.int).length ≤ sizeLine := by
      rw [List.length_map, hlen0]
      exact Nat.le_trans hsm (by decide)
    obtain ⟨hfree, J⟩ := inv_laid I1 k hp g os (o := .lst (ms.map V.int)) ⟨hlen, out, c, vals_of_ints i1, hcell⟩
    exact ⟨.ref p, _, J, rfl, q ms p (MyS.lt_nd ms i3 (pm.nodup_iff.mpr hnd)) (fun z => by rw [pm.mem_iff, ← hmem z]) hlen0 hfree⟩
/-- set(t), t a list or tuple of ints -/
def rSetQ (K : PySem.W.Frag) (w : World) : List V → Hp → VK → Prop := fun vs H Q => ∃ (a : Addr) (ns : List Int), vs = [V.ref a] ∧ (SqL K H a (ns.map V.int) ∨ SqT K H a (ns.map V.int)) ∧ ns.length ≤ 4000 ∧
  ∀ (c : Nat) (p : Addr), c ≤ ns.length → H p = none → Q (.ref p) (upd H p (SetO w p (fun j => decide (j ∈ ns)) c))
theorem call_setQ (hc : X.calm = true) : CallR X (.type "set") (rSetQ X.K X.w) := by
  intro pins s σ H vs us Q I r h
  obtain ⟨a, ns, rfl, hs, hlen, q⟩ := h
  rw [Vals.ref1 r]
  have hb : ns.length + 1 < scanBound := Nat.lt_of_le_of_lt (Nat.succ_le_succ hlen) (by decide)
  have fin : ∀ (h' : Heap) (tk c : Nat), SetR X.w h' s.heap.objs.size (fun j => decide (j ∈ ns)) c → c ≤ ns.length → (∀ b o, s.heap.get? b = some o → h'.get? b = some o) → EP X pins σ Q (.ref s.heap.objs.size) { s with heap := h', toks := tk } := fun h' tk c R lc k => by
    obtain ⟨hn, J⟩ := inv_laid (s' := { s with heap := h', toks := tk }) I k (Nat.le_refl _) rfl rfl (o := SetO X.w s.heap.objs.size (fun j => decide (j ∈ ns)) c) (setO_new R)
    exact ⟨.ref _, _, J, rfl, q c _ lc hn⟩
  rcases hs with hs | hs
  · obtain ⟨its, rv, pl, hz⟩ := I.list hs
    exact MyS.set_of_list ns (I.ok.hd hc) pl.isList rv.ints hb fin
  · obtain ⟨its, rv, pl, hz⟩ := I.tuple hs
    exact call_set_tupI ns (I.ok.hd hc) pl rv.ints hb fin
end
end L2
namespace My
open PySem PySem.Spec PyProof.Rows L2
/-! ### heaps and the drawing state -/
theorem same_upd {H : Hp} {p : Addr} {o : HO} (h : H p = none) : Same H (upd H p o) := fun b x e => by
  rw [upd_ne (ne_of_none e h)]
  exact e
theorem rd_same {H H' : Hp} {a : Addr} {u : HO} (e : Same H H') (h : Rd H a u) : Rd H' a u := by
  rcases h with h | ⟨o, h⟩
  · exact .inl (e a _ h)
  · exact .inr ⟨o, e a _ h⟩
theorem seqT_same {K : PySem.W.Frag} {H H' : Hp} {a : Addr} {xs : List V} (e : Same H H') (h : SqT K H a xs) : SqT K H' a xs := by
  rcases h with h | h
  · exact .inl (rd_same e h)
  · exact .inr h
theorem int_at {ns : List Int} {i : Nat} {y : V} (h : (ns.map V.int)[i]? = some y) : ∃ z, ns[i]? = some z ∧ y = V.int z := by
  rw [List.getElem?_map] at h
  cases e : ns[i]? with
  | none =>
    rw [e] at h
    cases h
  | some z =>
    rw [e] at h
    exact ⟨z, rfl, (Option.some.inj h).symm⟩
/-! rules whose frame is a comprehension's -/
section
variable {X : Cx} {K : PySem.W.Frag}
theorem ix_tupK (h : X.K = K) : IxR X (rIxT K) := h ▸ ix_tup
theorem ix_listK (h : X.K = K) : IxR X (rIxL K) := h ▸ ix_list
theorem op_in_seqK (h : X.K = K) : OpR X (compareOp .In) (rIn K false) := h ▸ op_in_seq
theorem op_notIn_seqK (h : X.K = K) : OpR X (compareOp .NotIn) (rIn K true) := h ▸ op_notIn_seq
theorem call_isiK' (h : X.K = K) : CallR X (.builtin "isinstance") (rIsi K) := h ▸ call_isi
def rLenQ (K : PySem.W.Frag) : List V → Hp → VK → Prop := fun xs H Q => ∃ p ys, xs = [.ref p] ∧ (SqL K H p ys ∨ SqT K H p ys) ∧ Q (.int ys.length) H
theorem call_len_seqK (h : X.K = K) : CallR X (.builtin "len") (rLenQ K) := h ▸ call_len_seq
end
/-- the law's drawing state: a list of the script, how many were taken, a mixed number, a rest -/
structure StAt (K : PySem.W.Frag) (a st : Addr) (H : Hp) : Prop where
  ex : ∃ i m r : Int, 0 ≤ i ∧ H st = some (.lst [.ref a, .int i, .int m, .int r])
  sc : ∃ ns : List Int, SqL K H a (ns.map V.int)
/-- what drawing may do to the heap -/
structure Go (K : PySem.W.Frag) (st : Addr) (H H' : Hp) : Prop where
  keep : ∀ b o, b ≠ st → H b = some o → H' b = some o
  st : ∀ a, StAt K a st H → StAt K a st H'
section
variable {K : PySem.W.Frag} {st a : Addr} {H H1 H2 H' : Hp}
theorem Go.refl (H : Hp) : Go K st H H := ⟨fun _ _ _ e => e, fun _ h => h⟩
theorem Go.trans (x : Go K st H H1) (y : Go K st H1 H2) : Go K st H H2 := ⟨fun b o hb e => y.keep b o hb (x.keep b o hb e), fun a h => y.st a (x.st a h)⟩
theorem StAt.same (e : Same H H') (h : StAt K a st H) : StAt K a st H' := by
  obtain ⟨⟨i, m, r, hi, hs⟩, ns, hn⟩ := h
  exact ⟨⟨i, m, r, hi, e _ _ hs⟩, ns, e.seq hn⟩
theorem Go.of (e : Same H H') : Go K st H H' := ⟨fun b o _ h => e b o h, fun _ h => h.same e⟩
theorem Go.new {p : Addr} {o : HO} (h : H p = none) : Go K st H (upd H p o) := Go.of (same_upd h)
theorem StAt.ne {b : Addr} {o : HO} (h : StAt K a st H) (e : H b = some o) (hb : ∀ xs, o ≠ .lst xs) : b ≠ st := fun z => by
  obtain ⟨⟨i, m, r, _, hs⟩, _⟩ := h
  rw [z, hs] at e
  exact hb _ (Option.some.inj e).symm
/-- a stored state -/
theorem StAt.upd {i m r : Int} (h : StAt K a st H) (hi : 0 ≤ i) : StAt K a st (upd H st (.lst [.ref a, .int i, .int m, .int r])) := by
  obtain ⟨⟨i0, m0, r0, hi0, hs⟩, ns, hn⟩ := h
  refine ⟨⟨i, m, r, hi, upd_same⟩, ns, ?_⟩
  rcases hn with (hn | ⟨o, hn⟩) | hn
  · have hne : a ≠ st := fun z => by
      rw [z, hs] at hn
      have e := HO.lst.inj (Option.some.inj hn)
      cases ns with
      | nil => cases e
      | cons n r => cases e
    exact .inl (.inl (by rw [upd_ne hne]; exact hn))
  · have hne : a ≠ st := fun z => by
      rw [z, hs] at hn
      cases hn
    exact .inl (.inr ⟨o, by rw [upd_ne hne]; exact hn⟩)
  · exact .inr hn
theorem Go.upd {i m r : Int} (h : StAt K a st H) (hi : 0 ≤ i) : Go K st H (L2.upd H st (.lst [.ref a, .int i, .int m, .int r])) := by
  refine ⟨fun b o hb e => by rw [upd_ne hb]; exact e, fun a' h' => ?_⟩
  have e : a' = a := by
    obtain ⟨⟨i0, m0, r0, hi0, hs⟩, _⟩ := h
    obtain ⟨⟨i1, m1, r1, hi1, hs1⟩, _⟩ := h'
    rw [hs] at hs1
    injection hs1 with e1
    injection e1 with e2
    injection e2 with e3
    injection e3 with e4
    exact e4.symm
  subst e
  exact h'.upd hi
theorem Go.seqT {b : Addr} {xs : List V} (g : Go K st H H') (h : StAt K a st H) (hb : SqT K H b xs) : SqT K H' b xs := by
  rcases hb with (e | ⟨o, e⟩) | e
  · exact .inl (.inl (g.keep b _ (h.ne e (fun _ z => nomatch z)) e))
  · exact .inl (.inr ⟨o, g.keep b _ (h.ne e (fun _ z => nomatch z)) e⟩)
  · exact .inr e
theorem Go.free {p : Addr} (g : Go K st H H') (h : StAt K a st H) (hp : H' p = none) : H p = none := by
  cases e : H p with
  | none => rfl
  | some o =>
    by_cases hq : p = st
    · obtain ⟨⟨i, m, r, _, hs⟩, _⟩ := g.st a h
      rw [hq, hs] at hp
      cases hp
    · rw [g.keep p o hq e] at hp
      cases hp
end
theorem StAt.fresh {K : PySem.W.Frag} {a st p : Addr} {H : Hp} (h : StAt K a st H) (hp : H p = none) : p ≠ st := fun z => by
  obtain ⟨⟨i, m, r, _, hs⟩, _⟩ := h
  rw [z, hs] at hp
  cases hp
/-- a new object may change -/
theorem Go.mut {K : PySem.W.Frag} {st a p : Addr} {H H' : Hp} {o : HO} (g : Go K st H H') (h : StAt K a st H) (hp : H p = none) : Go K st H (L2.upd H' p o) := by
  have hne := h.fresh hp
  refine ⟨fun b u hb e => by rw [upd_ne (ne_of_none e hp)]; exact g.keep b u hb e, fun a' h' => ?_⟩
  obtain ⟨⟨i, m, r, hi, hs⟩, _⟩ := g.st a' h'
  obtain ⟨⟨i0, m0, r0, hi0, hs0⟩, ns, hn⟩ := h'
  refine ⟨⟨i, m, r, hi, by rw [upd_ne hne.symm]; exact hs⟩, ns, ?_⟩
  rcases hn with (hn | ⟨o', hn⟩) | hn
  · have hne' : a' ≠ st := fun z => by
      rw [z, hs0] at hn
      have e := HO.lst.inj (Option.some.inj hn)
      cases ns with
      | nil => cases e
      | cons n r => cases e
    exact .inl (.inl (by rw [upd_ne (ne_of_none hn hp)]; exact g.keep _ _ hne' hn))
  · have hne' : a' ≠ st := fun z => by
      rw [z, hs0] at hn
      cases hn
    exact .inl (.inr ⟨o', by rw [upd_ne (ne_of_none hn hp)]; exact g.keep _ _ hne' hn⟩)
  · exact .inr hn
/-- [f(..) for x in range(n)], each an int of which P holds, drawing meanwhile -/
theorem lc_ints {K : PySem.W.Frag} {st a D : Addr} {H : Hp} {te : TE} {σ : L2.St} {vs : List Nat} {j : Nat} {lo : Int} {n : Nat} {Qd : Hp → Prop} (P : Int → Prop) (hS : StAt K a st H) (hD : H D = none) (hn : n ≤ 10000)
    (hw : ∀ x, wipe ((wipe σ vs).set j (some x)) vs = wipe σ vs)
    (ht : ∀ (i : Nat) (H1 : Hp), i < n → Go K st H H1 → ∀ Q : VK, (∀ (v : Int) (H2 : Hp), P v → Go K st H1 H2 → Q (.int v) H2) → te ((wipe σ vs).set j (some (.int (lo + (i : Int))))) H1 Q)
    (q : ∀ (ns : List Int) (H' : Hp), ns.length = n → (∀ z ∈ ns, P z) → Go K st H H' → H' D = some (.lst (ns.map V.int)) → Qd H') :
    ∃ W : Nat → Nat → Hp → Prop, (∃ m, W 0 m (upd H D (.lst []))) ∧ ∀ i m H, W i m H →
      ((Itr lo n).stop i H ∧ Qd H) ∨ ((Itr lo n).go i H ∧ ∃ Nx : Hp → Prop, (∀ H', Nx H' → ∃ m', m' < m ∧ W (i + 1) m' H') ∧ ∀ x H', (Itr lo n).yld i H x H' → (gName j) x (wipe σ vs) H' fun σ2 H2 => wipe σ2 vs = wipe σ vs ∧ tYes σ2 H2 fun b H3 =>
        if b = true then te σ2 H3 fun y H4 => ∃ acc, H4 D = some (.lst acc) ∧ acc.length < sizeLine ∧ Nx (upd H4 D (.lst (acc ++ [y]))) else Nx H3) := by
  refine lc_range (fun i H' => ∃ ns : List Int, ns.length = i ∧ (∀ z ∈ ns, P z) ∧ Go K st H H' ∧ H' D = some (.lst (ns.map V.int))) ⟨[], rfl, (fun _ z => nomatch z), Go.new hD, upd_same⟩ ?_ ?_
  · rintro i H1 hi ⟨ns, hl, hP, g, hd⟩
    refine ⟨hw _, ?_⟩
    show te ((wipe σ vs).set j (some (.int (lo + (i : Int))))) H1 _
    refine ht i H1 hi g _ fun v H2 hv g2 => ?_
    have hd2 : H2 D = some (.lst (ns.map V.int)) := g2.keep _ _ (hS.fresh hD) hd
    refine ⟨_, hd2, ?_, ns ++ [v], ?_, ?_, (g.trans g2).mut hS hD, ?_⟩
    · rw [List.length_map]
      exact Nat.lt_of_lt_of_le (by omega : ns.length < 10000) (by decide)
    · rw [List.length_append, hl]
      rfl
    · intro z hz
      rcases List.mem_append.mp hz with h | h
      · exact hP z h
      · rw [List.mem_singleton.mp h]
        exact hv
    · rw [upd_same, List.map_append]
      rfl
  · rintro H' ⟨ns, hl, hP, g, hd⟩
    exact q ns H' hl hP g hd
theorem _root_.L2.Same.mut {H H' : Hp} {p : Addr} {o : HO} (e : Same H H') (h : H p = none) : Same H (upd H' p o) := fun b u q => by
  rw [upd_ne (ne_of_none q h)]
  exact e b u q
theorem filt_take {xs : List V} {f : V → Bool} {v : V → V} {i : Nat} {x : V} (h : xs[i]? = some x) : ((xs.take (i + 1)).filter f).map v = ((xs.take i).filter f).map v ++ (if f x = true then [v x] else []) := by
  rw [List.take_add_one, h, List.filter_append, List.map_append]
  congr 1
  show ([x].filter f).map v = _
  by_cases c : f x = true
  · rw [if_pos c, List.filter_cons, if_pos c]
    rfl
  · rw [if_neg c, List.filter_cons, if_neg c]
    rfl
/-- what a comprehension without drawing has made behind i turns -/
def Made (H1 : Hp) (D : Addr) (f : V → Bool) (v : V → V) (xs : List V) (i : Nat) (H' : Hp) : Prop := Same H1 H' ∧ H' D = some (.lst (((xs.take i).filter f).map v))
theorem made_turn {H1 H' : Hp} {D : Addr} {f : V → Bool} {v : V → V} {xs : List V} {i : Nat} {x : V} {tt : TT} {te : TE} {σ2 : L2.St} (hD : H1 D = none) (hz : xs.length ≤ 10000) (hx : xs[i]? = some x) (p : Made H1 D f v xs i H')
    (ht : ∀ H2, Same H1 H2 → ∀ Q : Bool → Hp → Prop, (∀ H3, Same H2 H3 → Q (f x) H3) → tt σ2 H2 Q) (he : f x = true → ∀ H2, Same H1 H2 → ∀ Q : VK, (∀ H3, Same H2 H3 → Q (v x) H3) → te σ2 H2 Q) :
    tt σ2 H' fun b H3 => if b = true then te σ2 H3 fun y H4 => ∃ acc, H4 D = some (.lst acc) ∧ acc.length < sizeLine ∧ Made H1 D f v xs (i + 1) (upd H4 D (.lst (acc ++ [y]))) else Made H1 D f v xs (i + 1) H3 := by
  obtain ⟨sm, hd⟩ := p
  refine ht H' sm _ fun H3 s3 => ?_
  have hd3 := s3 _ _ hd
  by_cases c : f x = true
  · rw [if_pos c]
    refine he c H3 (sm.trans s3) _ fun H4 s4 => ?_
    have hd4 := s4 _ _ hd3
    refine ⟨_, hd4, ?_, (sm.trans (s3.trans s4)).mut hD, ?_⟩
    · rw [List.length_map]
      refine Nat.lt_of_le_of_lt (Nat.le_trans (List.length_filter_le _ _) ?_) (show 10000 < sizeLine by decide)
      rw [List.length_take]
      omega
    · rw [upd_same, filt_take hx, if_pos c]
  · rw [if_neg c]
    refine ⟨sm.trans s3, ?_⟩
    rw [hd3, filt_take hx, if_neg c, List.append_nil]
theorem lc_pureT {K : PySem.W.Frag} {D a : Addr} {H1 : Hp} {σ : L2.St} {vs : List Nat} {j : Nat} {tt : TT} {te : TE} {xs : List V} {Qd : Hp → Prop} (f : V → Bool) (v : V → V) (hD : H1 D = none) (ha : SqT K H1 a xs) (hz : xs.length ≤ 10000)
    (hw : ∀ x, wipe ((wipe σ vs).set j (some x)) vs = wipe σ vs)
    (ht : ∀ x ∈ xs, ∀ H2, Same H1 H2 → ∀ Q : Bool → Hp → Prop, (∀ H3, Same H2 H3 → Q (f x) H3) → tt ((wipe σ vs).set j (some x)) H2 Q) (he : ∀ x ∈ xs, f x = true → ∀ H2, Same H1 H2 → ∀ Q : VK, (∀ H3, Same H2 H3 → Q (v x) H3) → te ((wipe σ vs).set j (some x)) H2 Q)
    (q : ∀ H', Same H1 H' → H' D = some (.lst ((xs.filter f).map v)) → Qd H') :
    ∃ W : Nat → Nat → Hp → Prop, (∃ m, W 0 m (upd H1 D (.lst []))) ∧ ∀ i m H, W i m H →
      ((Itt K a).stop i H ∧ Qd H) ∨ ((Itt K a).go i H ∧ ∃ Nx : Hp → Prop, (∀ H', Nx H' → ∃ m', m' < m ∧ W (i + 1) m' H') ∧ ∀ x H', (Itt K a).yld i H x H' → (gName j) x (wipe σ vs) H' fun σ2 H2 => wipe σ2 vs = wipe σ vs ∧ tt σ2 H2 fun b H3 =>
        if b = true then te σ2 H3 fun y H4 => ∃ acc, H4 D = some (.lst acc) ∧ acc.length < sizeLine ∧ Nx (upd H4 D (.lst (acc ++ [y]))) else Nx H3) :=
  lc_tup (xs := xs) (Made H1 D f v xs) ⟨same_upd hD, upd_same⟩ (fun _ _ _ p => seqT_same p.1 ha) (fun i x H' hx p => ⟨hw x, made_turn hD hz hx p (ht x (List.mem_of_getElem? hx)) (he x (List.mem_of_getElem? hx))⟩)
    fun H' p => q H' p.1 (by rw [p.2, List.take_length])
theorem lc_pureL {K : PySem.W.Frag} {D a : Addr} {H1 : Hp} {σ : L2.St} {vs : List Nat} {j : Nat} {tt : TT} {te : TE} {xs : List V} {Qd : Hp → Prop} (f : V → Bool) (v : V → V) (hD : H1 D = none) (ha : SqL K H1 a xs) (hz : xs.length ≤ 10000)
    (hw : ∀ x, wipe ((wipe σ vs).set j (some x)) vs = wipe σ vs)
    (ht : ∀ x ∈ xs, ∀ H2, Same H1 H2 → ∀ Q : Bool → Hp → Prop, (∀ H3, Same H2 H3 → Q (f x) H3) → tt ((wipe σ vs).set j (some x)) H2 Q) (he : ∀ x ∈ xs, f x = true → ∀ H2, Same H1 H2 → ∀ Q : VK, (∀ H3, Same H2 H3 → Q (v x) H3) → te ((wipe σ vs).set j (some x)) H2 Q)
    (q : ∀ H', Same H1 H' → H' D = some (.lst ((xs.filter f).map v)) → Qd H') :
    ∃ W : Nat → Nat → Hp → Prop, (∃ m, W 0 m (upd H1 D (.lst []))) ∧ ∀ i m H, W i m H →
      ((Itl K a).stop i H ∧ Qd H) ∨ ((Itl K a).go i H ∧ ∃ Nx : Hp → Prop, (∀ H', Nx H' → ∃ m', m' < m ∧ W (i + 1) m' H') ∧ ∀ x H', (Itl K a).yld i H x H' → (gName j) x (wipe σ vs) H' fun σ2 H2 => wipe σ2 vs = wipe σ vs ∧ tt σ2 H2 fun b H3 =>
        if b = true then te σ2 H3 fun y H4 => ∃ acc, H4 D = some (.lst acc) ∧ acc.length < sizeLine ∧ Nx (upd H4 D (.lst (acc ++ [y]))) else Nx H3) :=
  lc_list (xs := xs) (Made H1 D f v xs) ⟨same_upd hD, upd_same⟩ (fun _ _ _ p => p.1.seq ha) (fun i x H' hx p => ⟨hw x, made_turn hD hz hx p (ht x (List.mem_of_getElem? hx)) (he x (List.mem_of_getElem? hx))⟩)
    fun H' p => q H' p.1 (by rw [p.2, List.take_length])
def rgL (lo : Int) (n : Nat) : List V := (List.range n).map fun i : Nat => V.int (lo + (i : Int))
theorem rgL_get {lo : Int} {n i : Nat} (h : i < n) : (rgL lo n)[i]? = some (.int (lo + (i : Int))) := by
  unfold rgL
  rw [List.getElem?_map, List.getElem?_range h]
  rfl
theorem rgL_len (lo : Int) (n : Nat) : (rgL lo n).length = n := by
  unfold rgL
  rw [List.length_map, List.length_range]
theorem lc_pureR {D : Addr} {H1 : Hp} {σ : L2.St} {vs : List Nat} {j : Nat} {tt : TT} {te : TE} {lo : Int} {n : Nat} {Qd : Hp → Prop} (f : V → Bool) (v : V → V) (hD : H1 D = none) (hz : n ≤ 10000)
    (hw : ∀ x, wipe ((wipe σ vs).set j (some x)) vs = wipe σ vs)
    (ht : ∀ i : Nat, i < n → ∀ H2, Same H1 H2 → ∀ Q : Bool → Hp → Prop, (∀ H3, Same H2 H3 → Q (f (.int (lo + (i : Int)))) H3) → tt ((wipe σ vs).set j (some (.int (lo + (i : Int))))) H2 Q)
    (he : ∀ i : Nat, i < n → f (.int (lo + (i : Int))) = true → ∀ H2, Same H1 H2 → ∀ Q : VK, (∀ H3, Same H2 H3 → Q (v (.int (lo + (i : Int)))) H3) → te ((wipe σ vs).set j (some (.int (lo + (i : Int))))) H2 Q)
    (q : ∀ H', Same H1 H' → H' D = some (.lst (((rgL lo n).filter f).map v)) → Qd H') :
    ∃ W : Nat → Nat → Hp → Prop, (∃ m, W 0 m (upd H1 D (.lst []))) ∧ ∀ i m H, W i m H →
      ((Itr lo n).stop i H ∧ Qd H) ∨ ((Itr lo n).go i H ∧ ∃ Nx : Hp → Prop, (∀ H', Nx H' → ∃ m', m' < m ∧ W (i + 1) m' H') ∧ ∀ x H', (Itr lo n).yld i H x H' → (gName j) x (wipe σ vs) H' fun σ2 H2 => wipe σ2 vs = wipe σ vs ∧ tt σ2 H2 fun b H3 =>
        if b = true then te σ2 H3 fun y H4 => ∃ acc, H4 D = some (.lst acc) ∧ acc.length < sizeLine ∧ Nx (upd H4 D (.lst (acc ++ [y]))) else Nx H3) :=
  lc_range (Made H1 D f v (rgL lo n)) ⟨same_upd hD, upd_same⟩ (fun i H' hi p => ⟨hw _, made_turn hD (by rw [rgL_len]; exact hz) (rgL_get hi) p (ht i hi) (he i hi)⟩)
    fun H' p => q H' p.1 (by rw [p.2, List.take_of_length_le (by rw [rgL_len]; exact Nat.le_refl _)])
/-- a set of marks as a list -/
structure SetL (ms : List Int) : Prop where
  up : ms.Pairwise (· < ·)
  bd : ∀ z ∈ ms, 1 ≤ z ∧ z ≤ 96
theorem SetL.len {ms : List Int} (h : SetL ms) : ms.length ≤ 96 := by
  have key : ∀ (l : List Int) (lo : Int), l.Pairwise (· < ·) → (∀ z ∈ l, lo ≤ z ∧ z ≤ 96) → (l.length : Int) ≤ 96 - lo + 1 ∨ l = [] := by
    intro l
    induction l with
    | nil => intro _ _ _; exact .inr rfl
    | cons x r ih =>
      intro lo hp hb
      have hp' := List.pairwise_cons.mp hp
      have hx := hb x List.mem_cons_self
      left
      rcases ih (x + 1) hp'.2 (fun z hz => ⟨hp'.1 z hz, (hb z (List.mem_cons_of_mem _ hz)).2⟩) with h | h
      · rw [List.length_cons]
        omega
      · rw [h]
        show ((0 + 1 : Nat) : Int) ≤ _
        omega
  rcases key ms 1 h.up h.bd with h | h
  · omega
  · rw [h]
    exact Nat.zero_le _
theorem SetL.nil : SetL [] := ⟨.nil, fun _ z => nomatch z⟩
def sp__law_set (K : PySem.W.Frag) : Sp := fun vs H Q _ => ∃ (a st : Addr) (most : Int), vs = [.ref st, .int most] ∧ StAt K a st H ∧ 0 ≤ most ∧ most ≤ 96 ∧
  ∀ (t : Addr) (ms : List Int) H', SetL ms → (ms.length : Int) ≤ most → Go K st H H' → H t = none → H' t = some (.tup (ms.map V.int)) → Q (.ref t) H'
theorem pickI {ns : List Int} {v lo hi : Int} (h : ∀ z ∈ ns, lo ≤ z ∧ z ≤ hi) (h0 : 0 ≤ v) (h1 : v < (ns.length : Int)) : ∃ z, atI (ns.map V.int) v = some (.int z) ∧ lo ≤ z ∧ z ≤ hi := by
  have hlt : v.toNat < ns.length := by omega
  refine ⟨ns[v.toNat], at_of (j := v.toNat) (by omega) ?_, h _ (List.getElem_mem hlt)⟩
  rw [List.getElem?_map, List.getElem?_eq_getElem hlt]
  rfl
theorem nat8000 {n : Int} (h0 : 0 ≤ n) (h : n < 10 ^ 70) : n.natAbs < 2 ^ 8000 := Nat.lt_of_lt_of_le (by omega : n.natAbs < 10 ^ 70) (by decide +kernel)
/-! ### the promises of the drawing defs -/
def sp__law_start (K : PySem.W.Frag) : Sp := fun vs H Q _ => ∃ (a : Addr) (ns : List Int), vs = [.ref a] ∧ SqL K H a (ns.map V.int) ∧
  ∀ st H', H st = none → Same H H' → StAt K a st H' → Q (.ref st) H'
def sp__law_drawn (K : PySem.W.Frag) : Sp := fun vs H Q _ => ∃ (a st : Addr) (n : Int), vs = [.ref st, .int n] ∧ StAt K a st H ∧ 0 < n ∧ n.natAbs < 2 ^ 8000 ∧
  ∀ (v : Int) H', 0 ≤ v → v < n → Go K st H H' → Q (.int v) H'
end My
namespace L2
open PySem PySem.Spec PyProof.Rows
/-! ### isinstance of the error that a suite holds -/
def rIsEx (K : PySem.W.Frag) (cls : Value) (d : Option Addr) (a : Addr) : List V → Hp → VK → Prop := fun xs H Q => ∃ (D : Addr), cls = .ref D ∧ d = none ∧ ExcC K D ∧ rIsE K D a xs H Q
theorem call_isEx {X : Cx} {a : Addr} {oe : Obj} {cls : Value} {d : Option Addr} {pn : List (Addr × Obj)} (hz : Zc cls d oe) (hf : ∃ vs, oe.data = .fields vs) : CallR (X.suite a ((a, oe) :: pn)) (.builtin "isinstance") (rIsEx X.K cls d a) := by
  intro pins s σ H xs us Q I r h
  obtain ⟨D, rfl, rfl, C, h⟩ := h
  exact call_isE C hz hf pins s σ H xs us Q I r h
def rIsExT (K : PySem.W.Frag) (cls : Value) (d : Option Addr) (a : Addr) : List V → Hp → VK → Prop := fun xs H Q => ∃ (D tp : Addr) (cs : List V) (ts : List Value) (b : Bool), cls = .ref D ∧ d = none ∧ ExcC K D ∧ xs = [.ref a, .ref tp] ∧ H tp = some (.tup cs) ∧ Paired ClsV cs ts ∧ PySem.W.kitAny K (.ref D) ts = some b ∧ Q (.bl b) H
theorem call_isExT {X : Cx} {a : Addr} {oe : Obj} {cls : Value} {d : Option Addr} {pn : List (Addr × Obj)} (hz : Zc cls d oe) (hf : ∃ vs, oe.data = .fields vs) : CallR (X.suite a ((a, oe) :: pn)) (.builtin "isinstance") (rIsExT X.K cls d a) := by
  intro pins s σ H xs us Q I r h
  obtain ⟨D, tp, cs, ts, b, rfl, rfl, C, rfl, hT, k, e, q⟩ := h
  obtain ⟨u1, u2, rfl, r1, r2⟩ := vals2 r
  cases (show u2 = Value.ref tp from r2)
  cases (show u1 = Value.ref a from r1)
  obtain ⟨hget, _⟩ := I.pin (a, oe) (List.mem_append.mpr (.inl List.mem_cons_self))
  obtain ⟨vs, hv⟩ := hf
  have J : PySem.W.InstAt s.heap a oe D none := by
    obtain ⟨oc, od, oda, osl⟩ := oe
    obtain ⟨h1, h2⟩ := hz
    dsimp only at h1 h2 hv
    subst h1 h2 hv
    exact ⟨hget, rfl, rfl, trivial⟩
  obtain ⟨_, its, rv, o, h1, h2, n, h3⟩ := (show ObjOk X.prog X.w H s.heap tp (.tup cs) from I.hok tp _ hT)
  have e3 := ClsV.all k rv
  subst e3
  obtain ⟨oc, od, dt, sl⟩ := o
  simp only at h2 h3
  subst h2 h3
  exact PySem.W.kia_tup (PySem.W.handS_kitx_exc C.hg C.hk C.hs C.hd C.ha C.hn C.ht C.hm) I.kIn J h1 e (fun z => nomatch z) fun tk => ⟨.bl b, H, I.kept (t' := tk) fun _ _ z => z, rfl, q⟩
end L2
namespace My
open PySem PySem.Spec PyProof.Rows L2
theorem filt_no {α : Type} (xs : List α) : (xs.filter fun _ => false) = [] := List.filter_eq_nil_iff.mpr fun _ _ h => nomatch h
/-! ### == of lists and tuples of ints -/
theorem dpInts {K : PySem.W.Frag} {H : Hp} : ∀ ns : List Int, DpAll K H (ns.map V.int) (ns.map PyData.int)
  | [] => .nil
  | _ :: r => .cons (.int _) (dpInts r)
theorem lay_ints : ∀ ns : List Int, PyData.canLayAll0 (ns.map PyData.int) = true
  | [] => by simp [PyData.canLayAll0]
  | n :: r => by simp [PyData.canLayAll0, PyData.canLay0, lay_ints r]
theorem depth_ints : ∀ ns : List Int, PyData.depthAll (ns.map PyData.int) ≤ 1
  | [] => by simp [PyData.depthAll]
  | n :: r => by
    have h := depth_ints r
    simp only [List.map_cons, PyData.depthAll, PyData.depth]
    omega
theorem shaped_tup (ns : List Int) : SeqAt.shaped (.tuple (ns.map PyData.int)) = true := by
  have h := depth_ints ns
  show (_ && decide (_ ≤ 64)) = true
  rw [Bool.and_eq_true]
  exact ⟨by simp only [PyData.canLay0]; exact lay_ints ns, decide_eq_true (by simp only [PyData.depth]; omega)⟩
theorem shaped_lst (ns : List Int) : SeqAt.shaped (.list (ns.map PyData.int)) = true := by
  have h := depth_ints ns
  show (_ && decide (_ ≤ 64)) = true
  rw [Bool.and_eq_true]
  exact ⟨by simp only [PyData.canLay0]; exact lay_ints ns, decide_eq_true (by simp only [PyData.depth]; omega)⟩
theorem eqv_ints : ∀ ns ms : List Int, PyData.eqvAll (ns.map PyData.int) (ms.map PyData.int) = decide (ns = ms)
  | [], [] => by simp [PyData.eqvAll]
  | [], m :: r => by simp [PyData.eqvAll]
  | n :: r, [] => by simp [PyData.eqvAll]
  | n :: r, m :: t => by
    simp only [List.map_cons, PyData.eqvAll, PyData.eqv, eqv_ints r t, List.cons.injEq, Bool.decide_and]
    rfl
theorem eqv_tup (ns ms : List Int) : PyData.eqv (.tuple (ns.map PyData.int)) (.tuple (ms.map PyData.int)) = decide (ns = ms) := by
  rw [PyData.eqv]
  exact eqv_ints ns ms
theorem eqv_lst (ns ms : List Int) : PyData.eqv (.list (ns.map PyData.int)) (.list (ms.map PyData.int)) = decide (ns = ms) := by
  rw [PyData.eqv]
  exact eqv_ints ns ms
/-- t != u, t == u: tuples, lists of ints -/
theorem neT {K : PySem.W.Frag} {H : Hp} {a b : Addr} {ns ms : List Int} {Q : VK} (ha : SqT K H a (ns.map V.int)) (hb : SqT K H b (ms.map V.int)) (q : Q (.bl (!decide (ns = ms))) H) : rNeD K (.ref a) (.ref b) H Q :=
  ⟨_, _, .tup ha (dpInts ns), .tup hb (dpInts ms), shaped_tup ns, shaped_tup ms, by rw [eqv_tup]; exact q⟩
theorem eqT {K : PySem.W.Frag} {H : Hp} {a b : Addr} {ns ms : List Int} {Q : VK} (ha : SqT K H a (ns.map V.int)) (hb : SqT K H b (ms.map V.int)) (q : Q (.bl (decide (ns = ms))) H) : rEqD K (.ref a) (.ref b) H Q :=
  ⟨_, _, .tup ha (dpInts ns), .tup hb (dpInts ms), shaped_tup ns, shaped_tup ms, by rw [eqv_tup]; exact q⟩
theorem neL {K : PySem.W.Frag} {H : Hp} {a b : Addr} {ns ms : List Int} {Q : VK} (ha : SqL K H a (ns.map V.int)) (hb : SqL K H b (ms.map V.int)) (q : Q (.bl (!decide (ns = ms))) H) : rNeD K (.ref a) (.ref b) H Q :=
  ⟨_, _, .lst ha (dpInts ns), .lst hb (dpInts ms), shaped_lst ns, shaped_lst ms, by rw [eqv_lst]; exact q⟩
theorem eqL {K : PySem.W.Frag} {H : Hp} {a b : Addr} {ns ms : List Int} {Q : VK} (ha : SqL K H a (ns.map V.int)) (hb : SqL K H b (ms.map V.int)) (q : Q (.bl (decide (ns = ms))) H) : rEqD K (.ref a) (.ref b) H Q :=
  ⟨_, _, .lst ha (dpInts ns), .lst hb (dpInts ms), shaped_lst ns, shaped_lst ms, by rw [eqv_lst]; exact q⟩
theorem eq_of_up : ∀ l1 l2 : List Int, l1.Pairwise (· < ·) → l2.Pairwise (· < ·) → (∀ z, z ∈ l1 ↔ z ∈ l2) → l1 = l2
  | [], [], _, _, _ => rfl
  | [], y :: _, _, _, h => nomatch (h y).mpr List.mem_cons_self
  | x :: _, [], _, _, h => nomatch (h x).mp List.mem_cons_self
  | x :: r, y :: s, h1, h2, h => by
    have p1 := List.pairwise_cons.mp h1
    have p2 := List.pairwise_cons.mp h2
    have e : x = y := by
      rcases List.mem_cons.mp ((h x).mp List.mem_cons_self) with e | e
      · exact e
      · rcases List.mem_cons.mp ((h y).mpr List.mem_cons_self) with f | f
        · exact f.symm
        · have := p2.1 x e
          have := p1.1 y f
          omega
    subst e
    congr 1
    refine eq_of_up r s p1.2 p2.2 fun z => ⟨fun hz => ?_, fun hz => ?_⟩
    · rcases List.mem_cons.mp ((h z).mp (List.mem_cons_of_mem _ hz)) with f | f
      · have := p1.1 z hz
        omega
      · exact f
    · rcases List.mem_cons.mp ((h z).mpr (List.mem_cons_of_mem _ hz)) with f | f
      · have := p2.1 z hz
        omega
      · exact f
theorem marks_up : ((List.range 96).map fun i : Nat => 1 + (i : Int)).Pairwise (· < ·) :=
  List.pairwise_map.mpr (List.pairwise_lt_range.imp fun h => by omega)
theorem mem_marks {z : Int} : z ∈ ((List.range 96).map fun i : Nat => 1 + (i : Int)) ↔ 1 ≤ z ∧ z ≤ 96 := by
  rw [List.mem_map]
  constructor
  · rintro ⟨i, hi, rfl⟩
    have := List.mem_range.mp hi
    omega
  · rintro ⟨h0, h1⟩
    exact ⟨(z - 1).toNat, List.mem_range.mpr (by omega), by omega⟩
theorem ne_len {α : Type} {l : List α} {n : Nat} (h : l.length = n + 1) : l ≠ [] := fun e => by
  rw [e] at h
  cases h
/-- t + u, tuples of ints -/
theorem catA_ints {K : PySem.W.Frag} {H : Hp} {z t : Addr} {zs ns : List Int} {Q : VK} (hz : SqT K H z (zs.map V.int)) (ht : SqT K H t (ns.map V.int)) (hl : zs.length + ns.length ≤ 1000)
    (k : ∀ (w : Addr) (H' : Hp), Same H H' → SqT K H' w ((zs ++ ns).map V.int) → Q (.ref w) H') : rCatA K (.ref z) (.ref t) H Q := by
  refine ⟨z, t, zs.map V.int, ns.map V.int, rfl, rfl, hz, ht, ?_, fun e => ?_, fun _ e => ?_, fun _ _ p hp => k p _ (same_upd hp) (SqT.of ?_)⟩
  · rw [List.length_map, List.length_map]
    exact Nat.le_trans hl (by decide)
  · rw [List.map_eq_nil_iff] at e
    refine k t H (Same.refl H) ?_
    rw [e]
    exact ht
  · rw [List.map_eq_nil_iff] at e
    refine k z H (Same.refl H) ?_
    rw [e, List.append_nil]
    exact hz
  · rw [upd_same, List.map_append]
/-! comprehensions over ints -/
theorem int_filter {ns : List Int} {f : V → Bool} {g : Int → Bool} (h : ∀ z ∈ ns, f (.int z) = g z) : ((ns.map V.int).filter f).map (fun x => x) = (ns.filter g).map V.int := by
  rw [List.map_id']
  induction ns with
  | nil => rfl
  | cons x r ih =>
    have ih' := ih fun z hz => h z (List.mem_cons_of_mem _ hz)
    rw [List.map_cons, List.filter_cons, List.filter_cons, h x List.mem_cons_self]
    by_cases c : g x = true
    · rw [if_pos c, if_pos c, List.map_cons, ih']
    · rw [if_neg c, if_neg c, ih']
theorem rgL_ints (lo : Int) (n : Nat) : rgL lo n = ((List.range n).map fun i : Nat => lo + (i : Int)).map V.int := by
  unfold rgL
  rw [List.map_map]
  rfl
end My
namespace My
open PySem PySem.Spec PyProof.Rows L2
/-- x and y are the same data, tuples no deeper than n -/
inductive EqV (H : Hp) : Nat → V → V → Prop
  | non (n : Nat) : EqV H n .non .non
  | bl (n : Nat) (b : Bool) : EqV H n (.bl b) (.bl b)
  | int (n : Nat) (i : Int) : EqV H n (.int i) (.int i)
  | str (n : Nat) (z : Str) : EqV H n (.str z) (.str z)
  | tup {n : Nat} {p q : Addr} {xs ys : List V} (hp : H p = some (.tup xs)) (hq : H q = some (.tup ys)) (hl : xs.length = ys.length) (hl2 : xs.length ≤ 1000) (h : ∀ (k : Nat) (x y : V), xs[k]? = some x → ys[k]? = some y → EqV H n x y) : EqV H (n + 1) (.ref p) (.ref q)
theorem EqV.same {H H' : Hp} (s : Same H H') {n : Nat} {x y : V} (h : EqV H n x y) : EqV H' n x y := by
  induction h with
  | non n => exact .non n
  | bl n b => exact .bl n b
  | int n i => exact .int n i
  | str n z => exact .str n z
  | tup hp hq hl hl2 h ih => exact .tup (s _ _ hp) (s _ _ hq) hl hl2 ih
theorem EqV.ints {H : Hp} {n : Nat} {p q : Addr} {ns : List Int} (hp : H p = some (.tup (ns.map V.int))) (hq : H q = some (.tup (ns.map V.int))) (hl : ns.length ≤ 1000) : EqV H (n + 1) (.ref p) (.ref q) := by
  refine .tup hp hq rfl (by rw [List.length_map]; exact hl) fun k x y hx hy => ?_
  rw [hx] at hy
  obtain ⟨z, _, rfl⟩ := int_at hx
  cases hy
  exact .int n z
theorem EqV.pair {H : Hp} {n : Nat} {p q : Addr} {a b c d : V} (hp : H p = some (.tup [a, b])) (hq : H q = some (.tup [c, d])) (h1 : EqV H n a c) (h2 : EqV H n b d) : EqV H (n + 1) (.ref p) (.ref q) := by
  refine .tup hp hq rfl (by show 2 ≤ 1000; decide) fun k x y hx hy => ?_
  match k, hx, hy with
  | 0, hx, hy =>
    cases hx
    cases hy
    exact h1
  | 1, hx, hy =>
    cases hx
    cases hy
    exact h2
  | k + 2, hx, _ => cases hx
def sp__law_same (K : PySem.W.Frag) (n : Nat) : Sp := fun vs H Q _ => ∃ x y : V, vs = [x, y] ∧ EqV H n x y ∧ ∀ H', Same H H' → Q (.bl true) H'
end My
namespace L2
open PySem PySem.Spec PyProof.Rows
/-! ### tuple * 0, tuple * 1 -/
theorem tmul_one (l : Addr) (items : Array Value) (n : Nat) (dd : Option Addr) (sl : Array (Option Value)) (u : Tok) :
    Meets (Builtin.«tuple.__mul__» ⟨[.ref l, .int 1 u], []⟩) (fun _ R s => s.heap.get? l = some { cls := .type "tuple", dict := dd, data := .seq items n, slots := sl } ∧ R (.ok (.ret (Value.ref l))) s) :=
  .of_wp fun prog w A R s h => by
    obtain ⟨hp, g, d, tk, os⟩ := s
    obtain ⟨hl, h⟩ := h
    have f1 := AutoSeq1.idx_int
    have c1 : (items.isEmpty || (1 : Int) == 1) = true := by simp
    wp_walk using wpAny_loadPart' hl
    repeat (first
      | (refine wpAny_ite_false (by decide) ?_; wp_walk using wpAny_loadPart' hl)
      | (refine wpAny_ite_true (by rw [c1]) ?_; wp_walk using wpAny_loadPart' hl))
    exact ⟨_, rfl, h⟩
theorem tmul_zero (l : Addr) (items : Array Value) (n : Nat) (dd : Option Addr) (sl : Array (Option Value)) (u : Tok) (hne : items.isEmpty = false) :
    Meets (Builtin.«tuple.__mul__» ⟨[.ref l, .int 0 u], []⟩) (fun _ R s => s.heap.get? l = some { cls := .type "tuple", dict := dd, data := .seq items n, slots := sl } ∧
      R (.ok (.ret (Value.ref s.heap.objs.size))) { s with heap := s.heap.push { cls := Value.type "tuple", data := Data.seq #[] }, toks := s.toks }) :=
  .of_wp fun prog w A R s h => by
    obtain ⟨hp, g, d, tk, os⟩ := s
    obtain ⟨hl, h⟩ := h
    have f1 := AutoSeq1.idx_int
    have c1 : ¬ ((items.isEmpty || (0 : Int) == 1) = true) := by rw [hne]; decide
    have c2 : (decide ((0 : Int) ≤ 0) || items.isEmpty) = true := rfl
    wp_walk using wpAny_loadPart' hl
    repeat (first
      | (refine wpAny_ite_false (by decide) ?_; wp_walk using wpAny_loadPart' hl)
      | (refine wpAny_ite_false (decide_eq_false c1) ?_; wp_walk using wpAny_loadPart' hl)
      | (refine wpAny_ite_true (decide_eq_true c2) ?_; wp_walk using wpAny_loadPart' hl))
    exact ⟨_, rfl, h⟩
/-- t * k, k from 0 to 1000, t not empty -/
def rTMul (K : PySem.W.Frag) : R2 := fun x y H Q => ∃ l k xs, x = .ref l ∧ y = .int k ∧ SqT K H l xs ∧ xs ≠ [] ∧ 0 ≤ k ∧ k ≤ 1000 ∧ xs.length ≤ 1000 ∧ (k = 1 → Q (.ref l) H) ∧ (k ≠ 1 → ∀ p, H p = none → Q (.ref p) (upd H p (.tup (List.replicate k.toNat xs).flatten)))
section
variable {X : Cx}
theorem op_tmul : OpR X (binaryOp .Mult) (rTMul X.K) := by
  intro pins s σ H x y v u Q I rx ry h
  obtain ⟨l, k, xs, rfl, rfl, hT, hne, h0, h1, hz, q1, q2⟩ := h
  by_cases c2 : 2 ≤ k
  · exact op_repT pins s σ H _ _ v u Q I rx ry ⟨l, k, xs, rfl, rfl, hT, hne, c2, h1, hz, q2 (by omega)⟩
  cases rx
  obtain ⟨t, rfl⟩ := ry
  obtain ⟨its, r, ⟨⟨cls, dd, data, sl⟩, ho, hc, n, hd⟩, hs⟩ := I.tuple hT
  dsimp only at hc hd
  subst hc hd
  have hi : its.toArray.isEmpty = false := by
    cases its with
    | nil =>
      cases r
      exact absurd rfl hne
    | cons a b => rfl
  refine wpAny_binaryOp_repeat_ref (T := "tuple") (U := "int") (by decide) ⟨_, ho, rfl⟩ (fun s' => typeIs_int s' k t) noFill_tuple_mul F.fills_int_mul F.slot_int_rmul repeat_tuple F.slot_int_index.lookup
    (call_meets F.slot_int_rmul (typeIs_int s k t) F.entry_int_rmul (F.args_int_rmul_2 _ _) (int_rmul_tuple k t l its.toArray n dd sl) ⟨ho, rfl, ⟨_, ho, rfl⟩, ?_⟩)
  rcases (by omega : k = 0 ∨ k = 1) with rfl | rfl
  · refine call_meets F.slot_tuple_mul ⟨_, ho, rfl⟩ F.entry_tuple_mul (F.args_tuple_mul_2 _ _) (tmul_zero l its.toArray n dd sl t hi) ⟨ho, ?_⟩
    refine ⟨.ref s.heap.objs.size, _, I.laid (t' := s.toks) (o := .tup []) (fun b ob q => Heap.get?_push_of_some _ q) (Nat.le_refl _) ?_, rfl, q2 (by decide) _ (I.hok.fresh (Nat.le_refl _))⟩
    exact ⟨Nat.zero_le _, [], .nil, IsTup.new _ _⟩
  · refine call_meets F.slot_tuple_mul ⟨_, ho, rfl⟩ F.entry_tuple_mul (F.args_tuple_mul_2 _ _) (tmul_one l its.toArray n dd sl t) ⟨ho, ?_⟩
    exact ⟨.ref l, H, I.tok _, rfl, q1 rfl⟩
end
end L2
namespace My
open PySem PySem.Spec PyProof.Rows L2
theorem tmulH {K : PySem.W.Frag} {H : Hp} {a : Addr} {ns : List Int} {k : Int} {Q : VK} (ha : H a = some (.tup (ns.map V.int))) (hn : ns ≠ []) (hl : ns.length ≤ 1000) (h0 : 0 ≤ k) (h1 : k ≤ 1000)
    (q : ∀ (w : Addr) (H' : Hp), Same H H' → H' w = some (.tup ((List.replicate k.toNat ns).flatten.map V.int)) → Q (.ref w) H') : rTMul K (.ref a) (.int k) H Q := by
  have e : ∀ n : Nat, (List.replicate n (ns.map V.int)).flatten = (List.replicate n ns).flatten.map V.int := fun n => by
    rw [List.map_flatten, List.map_replicate]
  refine ⟨a, k, _, rfl, rfl, SqT.of ha, fun z => hn (List.map_eq_nil_iff.mp z), h0, h1, by rw [List.length_map]; exact hl, fun c => ?_, fun _ p hp => ?_⟩
  · subst c
    refine q a H (Same.refl _) ?_
    rw [ha]
    show _ = some (HO.tup ((ns ++ []).map V.int))
    rw [List.append_nil]
  · rw [e]
    exact q p _ (same_upd hp) upd_same
end My
namespace My
open PySem PySem.Spec PyProof.Rows L2
theorem Go.tup {K : PySem.W.Frag} {a st p : Addr} {H H' : Hp} {xs : List V} (g : Go K st H H') (h : StAt K a st H) (e : H p = some (.tup xs)) : H' p = some (.tup xs) := g.keep p _ (h.ne e (fun _ z => nomatch z)) e
theorem takeA {K : PySem.W.Frag} {H : Hp} {a : Addr} {ns : List Int} {f : Int} {Q : VK} (hS : H a = some (.tup (ns.map V.int))) (h0 : 0 ≤ f) (h1 : f ≤ (ns.length : Int)) (k : ∀ (w : Addr) (H' : Hp), Same H H' → H' w = some (.tup ((ns.take f.toNat).map V.int)) → Q (.ref w) H') : rSlA K (.ref a) none (some f) H Q := by
  obtain ⟨j, rfl⟩ : ∃ j : Nat, f = (j : Int) := ⟨f.toNat, by omega⟩
  have ej : HT.sIx (ns.map V.int).length (ns.map V.int).length (some (j : Int)) = j := by
    rw [HT.sIx_nat, List.length_map]
    omega
  have e0 : HT.sIx (ns.map V.int).length 0 none = 0 := rfl
  refine ⟨a, _, rfl, SqT.of hS, fun c => ?_, fun c p hp => k p _ (same_upd hp) ?_⟩
  · refine k a H (Same.refl _) ?_
    have c2 := c.2
    rw [ej, List.length_map] at c2
    rw [hS, Int.toNat_natCast, c2, List.take_length]
  · rw [upd_same]
    unfold cutV
    rw [ej, e0, List.drop_zero, Nat.sub_zero, Int.toNat_natCast, List.map_take]
/-- t + u of tuples that stand in the heap -/
theorem catH {K : PySem.W.Frag} {H : Hp} {z t : Addr} {zs ns : List Int} {Q : VK} (hz : H z = some (.tup (zs.map V.int))) (ht : H t = some (.tup (ns.map V.int))) (hl : zs.length + ns.length ≤ 1000)
    (k : ∀ (w : Addr) (H' : Hp), Same H H' → H' w = some (.tup ((zs ++ ns).map V.int)) → Q (.ref w) H') : rCatA K (.ref z) (.ref t) H Q := by
  refine ⟨z, t, zs.map V.int, ns.map V.int, rfl, rfl, SqT.of hz, SqT.of ht, ?_, fun e => ?_, fun _ e => ?_, fun _ _ p hp => k p _ (same_upd hp) ?_⟩
  · rw [List.length_map, List.length_map]
    exact Nat.le_trans hl (by decide)
  · rw [List.map_eq_nil_iff] at e
    refine k t H (Same.refl H) ?_
    rw [e]
    exact ht
  · rw [List.map_eq_nil_iff] at e
    refine k z H (Same.refl H) ?_
    rw [e, List.append_nil]
    exact hz
  · rw [upd_same, List.map_append]
end My
namespace Ms
/-! ### Newton's recurrence, off the wheel -/
def sm (f : Nat → Int) : Nat → Int
  | 0 => 0
  | n + 1 => sm f n + f n
theorem sm_congr {f g : Nat → Int} : ∀ {n : Nat}, (∀ i, i < n → f i = g i) → sm f n = sm g n
  | 0, _ => rfl
  | n + 1, h => by
    show sm f n + f n = sm g n + g n
    rw [sm_congr fun i hi => h i (Nat.lt_succ_of_lt hi), h n (Nat.lt_succ_self n)]
theorem sm_add (f g : Nat → Int) : ∀ n, sm (fun i => f i + g i) n = sm f n + sm g n
  | 0 => rfl
  | n + 1 => by
    show sm (fun i => f i + g i) n + (f n + g n) = sm f n + f n + (sm g n + g n)
    rw [sm_add f g n]
    omega
theorem sm_mul (c : Int) (f : Nat → Int) : ∀ n, sm (fun i => c * f i) n = c * sm f n
  | 0 => (Int.mul_zero c).symm
  | n + 1 => by
    show sm (fun i => c * f i) n + c * f n = c * (sm f n + f n)
    rw [sm_mul c f n, Int.mul_add]
theorem sm_first (f : Nat → Int) : ∀ n, sm f (n + 1) = f 0 + sm (fun i => f (i + 1)) n
  | 0 => by
    show 0 + f 0 = f 0 + 0
    omega
  | n + 1 => by
    show sm f (n + 1) + f (n + 1) = f 0 + (sm (fun i => f (i + 1)) n + f (n + 1))
    rw [sm_first f n]
    omega
theorem sm_zero {f : Nat → Int} : ∀ {n : Nat}, (∀ i, i < n → f i = 0) → sm f n = 0
  | 0, _ => rfl
  | n + 1, h => by
    show sm f n + f n = 0
    rw [sm_zero fun i hi => h i (Nat.lt_succ_of_lt hi), h n (Nat.lt_succ_self n)]
    rfl
theorem sm_mod {f g : Nat → Int} : ∀ {n : Nat}, (∀ i, i < n → f i % 97 = g i % 97) → sm f n % 97 = sm g n % 97
  | 0, _ => rfl
  | n + 1, h => by
    have ih := sm_mod (n := n) fun i hi => h i (Nat.lt_succ_of_lt hi)
    have hn := h n (Nat.lt_succ_self n)
    show (sm f n + f n) % 97 = (sm g n + g n) % 97
    omega
/-- sum of s (j) times f (k - j), j from 1 to k -/
def cv (s f : Nat → Int) (k : Nat) : Int := sm (fun i => s (i + 1) * f (k - 1 - i)) k
def NW (f s : Nat → Int) : Prop := ∀ k : Nat, (k : Int) * f k + cv s f k = 0
def bk (f : Nat → Int) : Nat → Int
  | 0 => 0
  | k + 1 => f k
def st (f : Nat → Int) (z : Int) : Nat → Int := fun k => f k - z * bk f k
theorem NW_st {f s : Nat → Int} (h : NW f s) (z : Int) : NW (st f z) (fun i => s i + z ^ i) := by
  intro k
  cases k with
  | zero =>
    show (0 : Int) * _ + 0 = 0
    rw [Int.zero_mul]
    rfl
  | succ K =>
    have h1 : ((K : Int) + 1) * f (K + 1) + cv s f (K + 1) = 0 := h (K + 1)
    have h2 : (K : Int) * f K + cv s f K = 0 := h K
    have e : cv (fun i => s i + z ^ i) (st f z) (K + 1) = cv s f (K + 1) - z * sm (fun i => s (i + 1) * bk f (K - i)) (K + 1) + (sm (fun i => z ^ (i + 1) * f (K - i)) (K + 1) - z * sm (fun i => z ^ (i + 1) * bk f (K - i)) (K + 1)) := by
      unfold cv
      rw [← sm_mul, ← sm_mul]
      have e1 : ∀ (a b : Nat → Int) n, sm a n - sm b n = sm (fun i => a i - b i) n := by
        intro a b n
        induction n with
        | zero => rfl
        | succ n ih =>
          show sm a n + a n - (sm b n + b n) = sm (fun i => a i - b i) n + (a n - b n)
          rw [← ih]
          omega
      rw [e1, e1, ← sm_add]
      refine sm_congr fun i _ => ?_
      show (s (i + 1) + z ^ (i + 1)) * (f (K + 1 - 1 - i) - z * bk f (K + 1 - 1 - i)) = _
      rw [Nat.add_sub_cancel]
      grind
    have t2 : sm (fun i => s (i + 1) * bk f (K - i)) (K + 1) = cv s f K := by
      show sm (fun i => s (i + 1) * bk f (K - i)) K + s (K + 1) * bk f (K - K) = _
      rw [Nat.sub_self]
      show _ + s (K + 1) * 0 = _
      rw [Int.mul_zero, Int.add_zero]
      refine sm_congr fun i hi => ?_
      show s (i + 1) * bk f (K - i) = s (i + 1) * f (K - 1 - i)
      rw [show K - i = (K - 1 - i) + 1 by omega]
      rfl
    have t4 : sm (fun i => z ^ (i + 1) * bk f (K - i)) (K + 1) = sm (fun i => z ^ (i + 1) * f (K - 1 - i)) K := by
      show sm (fun i => z ^ (i + 1) * bk f (K - i)) K + z ^ (K + 1) * bk f (K - K) = _
      rw [Nat.sub_self]
      show _ + z ^ (K + 1) * 0 = _
      rw [Int.mul_zero, Int.add_zero]
      refine sm_congr fun i hi => ?_
      rw [show K - i = (K - 1 - i) + 1 by omega]
      rfl
    have t3 : sm (fun i => z ^ (i + 1) * f (K - i)) (K + 1) = z * f K + z * sm (fun i => z ^ (i + 1) * f (K - 1 - i)) K := by
      rw [sm_first, ← sm_mul]
      congr 1
      · show z ^ 1 * f K = _
        rw [Int.pow_succ, Int.pow_zero, Int.one_mul]
      · refine sm_congr fun i hi => ?_
        rw [show K - (i + 1) = K - 1 - i by omega, Int.pow_succ]
        grind
    show ((K + 1 : Nat) : Int) * (f (K + 1) - z * f K) + _ = 0
    rw [e, t2, t3, t4]
    have e3 : ((K + 1 : Nat) : Int) = (K : Int) + 1 := by omega
    rw [e3]
    grind
def dl : Nat → Int
  | 0 => 1
  | _ + 1 => 0
theorem NW_dl : NW dl (fun _ => 0) := by
  intro k
  have e : cv (fun _ => 0) dl k = 0 := sm_zero fun i _ => Int.zero_mul _
  rw [e]
  cases k with
  | zero => rfl
  | succ k =>
    show _ * 0 + 0 = (0 : Int)
    rw [Int.mul_zero]
    rfl
/-- the sum of the powers -/
def ps : List Int → Nat → Int
  | [], _ => 0
  | z :: r, i => z ^ i + ps r i
theorem ps_append (a b : List Int) (i : Nat) : ps (a ++ b) i = ps a i + ps b i := by
  induction a with
  | nil => show ps b i = 0 + ps b i; omega
  | cons z r ih =>
    show z ^ i + ps (r ++ b) i = z ^ i + ps r i + ps b i
    rw [ih]
    omega
theorem ps_filter (p : Int → Bool) (l : List Int) (i : Nat) : ps l i = ps (l.filter p) i + ps (l.filter fun z => !p z) i := by
  induction l with
  | nil => rfl
  | cons z r ih =>
    rw [List.filter_cons, List.filter_cons]
    cases c : p z with
    | true =>
      rw [if_pos rfl, if_neg (by decide)]
      show z ^ i + ps r i = z ^ i + ps (r.filter p) i + _
      rw [ih]
      omega
    | false =>
      rw [if_neg (by decide), if_pos (by decide)]
      show z ^ i + ps r i = _ + (z ^ i + ps (r.filter fun z => !p z) i)
      rw [ih]
      omega
/-- the row of a set, off the wheel -/
def EG (f : Nat → Int) (ms : List Int) : Nat → Int := ms.foldl st f
def E (ms : List Int) : Nat → Int := EG dl ms
theorem NW_EG : ∀ (ms : List Int) (f s : Nat → Int), NW f s → NW (EG f ms) (fun i => s i + ps ms i)
  | [], f, s, h => by
    have e : (fun i => s i + ps [] i) = s := funext fun i => Int.add_zero _
    rw [e]
    exact h
  | z :: r, f, s, h => by
    have h' := NW_EG r (st f z) _ (NW_st h z)
    have e : (fun i => s i + ps (z :: r) i) = (fun i => s i + z ^ i + ps r i) := funext fun i => (Int.add_assoc _ _ _).symm
    rw [e]
    exact h'
theorem NW_E (ms : List Int) : NW (E ms) (ps ms) := by
  have h := NW_EG ms dl _ NW_dl
  have e : (fun i => (0 : Int) + ps ms i) = ps ms := funext fun i => Int.zero_add _
  rw [e] at h
  exact h
theorem EG_deg : ∀ (ms : List Int) (f : Nat → Int) (d : Nat), (∀ k, d < k → f k = 0) → ∀ k, d + ms.length < k → EG f ms k = 0
  | [], f, d, h, k, hk => h k hk
  | z :: r, f, d, h, k, hk => by
    refine EG_deg r (st f z) (d + 1) (fun j hj => ?_) k (by rw [List.length_cons] at hk; omega)
    show f j - z * bk f j = 0
    rw [h j (by omega)]
    obtain ⟨i, rfl⟩ : ∃ i, j = i + 1 := ⟨j - 1, by omega⟩
    show 0 - z * f i = 0
    rw [h i (by omega), Int.mul_zero]
    rfl
theorem E_deg {ms : List Int} {k : Nat} (h : ms.length < k) : E ms k = 0 := EG_deg ms dl 0 (fun k hk => by obtain ⟨i, rfl⟩ : ∃ i, k = i + 1 := ⟨k - 1, by omega⟩; rfl) k (by omega)
theorem EG_zero : ∀ (ms : List Int) (f : Nat → Int), EG f ms 0 = f 0
  | [], _ => rfl
  | z :: r, f => by
    show EG (st f z) r 0 = f 0
    rw [EG_zero r]
    show f 0 - z * 0 = f 0
    rw [Int.mul_zero, Int.sub_zero]
theorem E_zero (ms : List Int) : E ms 0 = 1 := EG_zero ms dl
/-- on the wheel the sums tell the row, as far as k has an inverse -/
theorem cancel97 (hp : ∀ a b : Int, a * b % 97 = 0 → a % 97 = 0 ∨ b % 97 = 0) {k : Nat} (h0 : 1 ≤ k) (h1 : k ≤ 96) {a b : Int} (h : (k : Int) * a % 97 = (k : Int) * b % 97) : a % 97 = b % 97 := by
  have e : (k : Int) * (a - b) % 97 = 0 := by
    rw [Int.mul_sub]
    omega
  rcases hp _ _ e with e | e
  · omega
  · omega
theorem uniq (hp : ∀ a b : Int, a * b % 97 = 0 → a % 97 = 0 ∨ b % 97 = 0) {f g s t : Nat → Int} {m : Nat} (hm : m ≤ 96) (hf : ∀ k : Nat, k ≤ m → ((k : Int) * f k + cv s f k) % 97 = 0) (hg : ∀ k : Nat, k ≤ m → ((k : Int) * g k + cv t g k) % 97 = 0)
    (h0 : f 0 % 97 = g 0 % 97) (hs : ∀ i, 1 ≤ i → i ≤ m → s i % 97 = t i % 97) : ∀ k, k ≤ m → f k % 97 = g k % 97 := by
  intro k
  induction k using Nat.strongRecOn with
  | ind k ih =>
    intro hk
    cases k with
    | zero => exact h0
    | succ K =>
      have e : cv s f (K + 1) % 97 = cv t g (K + 1) % 97 := by
        refine sm_mod fun i hi => ?_
        show s (i + 1) * f (K + 1 - 1 - i) % 97 = t (i + 1) * g (K + 1 - 1 - i) % 97
        rw [Int.mul_emod, hs (i + 1) (by omega) (by omega), ih (K + 1 - 1 - i) (by omega) (by omega), ← Int.mul_emod]
      have e1 := hf (K + 1) hk
      have e2 := hg (K + 1) hk
      exact cancel97 hp (k := K + 1) (by omega) (by omega) (by omega)
end Ms
namespace Ms
/-! ### rows multiplied -/
def sh (a : Nat → Int) : Nat → Int := fun i => a (i + 1)
def cvl : (Nat → Int) → (Nat → Int) → Nat → Int
  | a, c, 0 => a 0 * c 0
  | a, c, k + 1 => a 0 * c (k + 1) + cvl (sh a) c k
theorem cvl_sm (a c : Nat → Int) : ∀ k, cvl a c k = sm (fun i => a i * c (k - i)) (k + 1)
  | 0 => (Int.zero_add _).symm
  | k + 1 => by
    rw [sm_first]
    show a 0 * c (k + 1) + cvl (sh a) c k = a 0 * c (k + 1 - 0) + _
    rw [cvl_sm (sh a) c k]
    congr 1
    refine sm_congr fun i _ => ?_
    show a (i + 1) * c (k - i) = a (i + 1) * c (k + 1 - (i + 1))
    rw [Nat.add_sub_add_right]
theorem cvl_congr {a b c d : Nat → Int} (k : Nat) (h1 : ∀ i, i ≤ k → a i = b i) (h2 : ∀ i, i ≤ k → c i = d i) : cvl a c k = cvl b d k := by
  rw [cvl_sm, cvl_sm]
  exact sm_congr fun i hi => by rw [h1 i (by omega), h2 (k - i) (by omega)]
theorem cvl_addL (a b c : Nat → Int) : ∀ k, cvl (fun i => a i + b i) c k = cvl a c k + cvl b c k := fun k => by
  rw [cvl_sm, cvl_sm, cvl_sm, ← sm_add]
  exact sm_congr fun i _ => Int.add_mul _ _ _
theorem cvl_addR (a c d : Nat → Int) : ∀ k, cvl a (fun i => c i + d i) k = cvl a c k + cvl a d k := fun k => by
  rw [cvl_sm, cvl_sm, cvl_sm, ← sm_add]
  exact sm_congr fun i _ => Int.mul_add _ _ _
theorem cvl_mulL (x : Int) (a c : Nat → Int) : ∀ k, cvl (fun i => x * a i) c k = x * cvl a c k := fun k => by
  rw [cvl_sm, cvl_sm, ← sm_mul]
  exact sm_congr fun i _ => Int.mul_assoc _ _ _
theorem cvl_assoc (b c : Nat → Int) : ∀ (k : Nat) (a : Nat → Int), cvl (cvl a b) c k = cvl a (cvl b c) k
  | 0, a => Int.mul_assoc _ _ _
  | k + 1, a => by
    show cvl a b 0 * c (k + 1) + cvl (sh (cvl a b)) c k = a 0 * cvl b c (k + 1) + cvl (sh a) (cvl b c) k
    have e : sh (cvl a b) = fun i => a 0 * sh b i + cvl (sh a) b i := funext fun i => rfl
    rw [e, cvl_addL, cvl_mulL, cvl_assoc b c k (sh a)]
    show a 0 * b 0 * c (k + 1) + (a 0 * cvl (sh b) c k + cvl (sh a) (cvl b c) k) = a 0 * (b 0 * c (k + 1) + cvl (sh b) c k) + cvl (sh a) (cvl b c) k
    grind
theorem cvl_right (c : Nat → Int) : ∀ (k : Nat) (a : Nat → Int), cvl a c (k + 1) = cvl a (sh c) k + a (k + 1) * c 0
  | 0, a => rfl
  | k + 1, a => by
    show a 0 * c (k + 2) + cvl (sh a) c (k + 1) = a 0 * sh c (k + 1) + cvl (sh a) (sh c) k + a (k + 2) * c 0
    rw [cvl_right c k (sh a)]
    show a 0 * c (k + 2) + (cvl (sh a) (sh c) k + a (k + 2) * c 0) = a 0 * c (k + 2) + cvl (sh a) (sh c) k + a (k + 2) * c 0
    omega
theorem cvl_comm : ∀ (k : Nat) (a c : Nat → Int), cvl a c k = cvl c a k
  | 0, a, c => Int.mul_comm _ _
  | k + 1, a, c => by
    rw [cvl_right a k c]
    show a 0 * c (k + 1) + cvl (sh a) c k = cvl c (sh a) k + c (k + 1) * a 0
    rw [cvl_comm k (sh a) c, Int.mul_comm (c (k + 1))]
    omega
def dv (a : Nat → Int) : Nat → Int := fun k => (k : Int) * a k
theorem dv_cvl (c : Nat → Int) : ∀ (k : Nat) (a : Nat → Int), (k : Int) * cvl a c k = cvl (dv a) c k + cvl a (dv c) k
  | 0, a => by
    show (0 : Int) * _ = (0 : Int) * a 0 * c 0 + a 0 * ((0 : Int) * c 0)
    grind
  | k + 1, a => by
    have ih := dv_cvl c k (sh a)
    have e : sh (dv a) = fun i => dv (sh a) i + sh a i := funext fun i => by
      show ((i + 1 : Nat) : Int) * a (i + 1) = (i : Int) * a (i + 1) + a (i + 1)
      have : ((i + 1 : Nat) : Int) = (i : Int) + 1 := by omega
      rw [this]
      grind
    show ((k + 1 : Nat) : Int) * (a 0 * c (k + 1) + cvl (sh a) c k) = ((0 : Nat) : Int) * a 0 * c (k + 1) + cvl (sh (dv a)) c k + (a 0 * (((k + 1 : Nat) : Int) * c (k + 1)) + cvl (sh a) (dv c) k)
    rw [e, cvl_addL]
    have e2 : ((k + 1 : Nat) : Int) = (k : Int) + 1 := by omega
    rw [e2]
    have e3 : ((0 : Nat) : Int) = 0 := rfl
    rw [e3]
    grind
/-- the sums from the first on -/
def zs (s : Nat → Int) : Nat → Int
  | 0 => 0
  | i + 1 => s (i + 1)
theorem cv_cvl (s f : Nat → Int) : ∀ k, cv s f k = cvl (zs s) f k
  | 0 => (Int.zero_mul _).symm
  | k + 1 => by
    show cv s f (k + 1) = 0 * f (k + 1) + cvl (sh (zs s)) f k
    rw [Int.zero_mul, Int.zero_add, cvl_sm]
    refine sm_congr fun i _ => ?_
    show s (i + 1) * f (k + 1 - 1 - i) = s (i + 1) * f (k - i)
    rw [Nat.add_sub_cancel]
/-- how far a row is from keeping Newton's recurrence -/
def rs (f s : Nat → Int) : Nat → Int := fun k => (k : Int) * f k + cv s f k
theorem rs_cvl (a c s t : Nat → Int) (k : Nat) : rs (cvl a c) (fun i => s i + t i) k = cvl (rs a s) c k + cvl a (rs c t) k := by
  have e1 : zs (fun i => s i + t i) = fun i => zs s i + zs t i := funext fun i => by
    cases i with
    | zero => rfl
    | succ i => rfl
  have e2 : rs a s = fun i => dv a i + cvl (zs s) a i := funext fun i => by
    show (i : Int) * a i + cv s a i = _
    rw [cv_cvl]
    rfl
  have e3 : rs c t = fun i => dv c i + cvl (zs t) c i := funext fun i => by
    show (i : Int) * c i + cv t c i = _
    rw [cv_cvl]
    rfl
  show (k : Int) * cvl a c k + cv _ (cvl a c) k = _
  rw [cv_cvl, e1, e2, e3, cvl_addL, cvl_addL, cvl_addR, dv_cvl, cvl_assoc a c k (zs s)]
  have e4 : cvl (zs t) (cvl a c) k = cvl a (cvl (zs t) c) k := by
    rw [← cvl_assoc a c k (zs t), ← cvl_assoc (zs t) c k a]
    exact cvl_congr k (fun i _ => cvl_comm i _ _) fun _ _ => rfl
  rw [e4]
  omega
theorem cvl_mod {a b c d : Nat → Int} (k : Nat) (h1 : ∀ i, i ≤ k → a i % 97 = b i % 97) (h2 : ∀ i, i ≤ k → c i % 97 = d i % 97) : cvl a c k % 97 = cvl b d k % 97 := by
  rw [cvl_sm, cvl_sm]
  exact sm_mod fun i hi => by rw [Int.mul_emod, h1 i (by omega), h2 (k - i) (by omega), ← Int.mul_emod]
theorem cvl_zeroL (c : Nat → Int) (k : Nat) : cvl (fun _ => 0) c k = 0 := by
  rw [cvl_sm]
  exact sm_zero fun _ _ => Int.zero_mul _
theorem cvl_zeroR (a : Nat → Int) (k : Nat) : cvl a (fun _ => 0) k = 0 := by
  rw [cvl_sm]
  exact sm_zero fun _ _ => Int.mul_zero _
/-- the row by the differences of the sums, multiplied by the one's row, begins as the other's -/
theorem quotient (hp : ∀ a b : Int, a * b % 97 = 0 → a % 97 = 0 ∨ b % 97 = 0) {A B : List Int} {c t : Nat → Int} {m : Nat} (hm : m ≤ 96) (h0 : c 0 % 97 = 1) (hc : ∀ k, k ≤ m → rs c t k % 97 = 0) (ht : ∀ i, 1 ≤ i → i ≤ m → (ps A i + t i) % 97 = ps B i % 97) :
    ∀ k, k ≤ m → cvl (E A) c k % 97 = E B k % 97 := by
  refine uniq hp hm (f := cvl (E A) c) (g := E B) (s := fun i => ps A i + t i) (t := ps B) (fun k hk => ?_) (fun k _ => by rw [NW_E B k]; rfl) ?_ ht
  · show rs (cvl (E A) c) (fun i => ps A i + t i) k % 97 = 0
    rw [rs_cvl]
    have e1 : cvl (rs (E A) (ps A)) c k = 0 := by
      rw [show rs (E A) (ps A) = fun _ => 0 from funext fun i => NW_E A i]
      exact cvl_zeroL c k
    have e2 : cvl (E A) (rs c t) k % 97 = cvl (E A) (fun _ => 0) k % 97 := cvl_mod k (fun _ _ => rfl) fun i hi => hc i (by omega)
    rw [cvl_zeroR] at e2
    omega
  · show E A 0 * c 0 % 97 = E B 0 % 97
    rw [E_zero, E_zero, Int.one_mul, h0]
    rfl
end Ms
namespace My
open PySem PySem.Spec PyProof.Rows L2
/-- a comprehension over any walk, without ifs, without drawing: item i is F i -/
theorem lc_F {J : It} {n : Nat} {G : Hp → Prop} {Y : Nat → Hp → V → Hp → Prop} (w : Walk J n G Y) {te : TE} {g : TG} {vs : List Nat} {σ : L2.St} {H1 : Hp} {D : Addr} {Qd : Hp → Prop} (F : Nat → V) (hz : n ≤ 10000) (hD : H1 D = none) (hG : ∀ H, Same H1 H → G H)
    (ht : ∀ i x H H', i < n → Same H1 H → Y i H x H' → ∀ Q : VK, (∀ H3, Same H H3 → Q (F i) H3) → g x (wipe σ vs) H' fun σ2 H2 => wipe σ2 vs = wipe σ vs ∧ te σ2 H2 Q)
    (k : ∀ H', Same H1 H' → H' D = some (.lst ((List.range n).map F)) → Qd H') :
    ∃ W : Nat → Nat → Hp → Prop, (∃ m, W 0 m (upd H1 D (.lst []))) ∧ ∀ i m H, W i m H →
      (J.stop i H ∧ Qd H) ∨ (J.go i H ∧ ∃ Nx : Hp → Prop, (∀ H', Nx H' → ∃ m', m' < m ∧ W (i + 1) m' H') ∧ ∀ x H', J.yld i H x H' → g x (wipe σ vs) H' fun σ2 H2 => wipe σ2 vs = wipe σ vs ∧ tYes σ2 H2 fun b H3 =>
        if b = true then te σ2 H3 fun y H4 => ∃ acc, H4 D = some (.lst acc) ∧ acc.length < sizeLine ∧ Nx (upd H4 D (.lst (acc ++ [y]))) else Nx H3) := by
  refine lc_it w (fun i H' => Same H1 H' ∧ H' D = some (.lst ((List.range i).map F))) ⟨same_upd hD, upd_same⟩ (fun i H _ p => hG H p.1) ?_ ?_
  · rintro i x H H' hi ⟨sm, hd⟩ y
    refine ht i x H H' hi sm y _ fun H3 s3 => ?_
    refine ⟨_, s3 _ _ hd, ?_, (sm.trans s3).mut hD, ?_⟩
    · rw [List.length_map, List.length_range]
      exact Nat.lt_of_lt_of_le (by omega : i < 10001) (by decide)
    · rw [upd_same, List.range_succ, List.map_append]
      rfl
  · rintro H' ⟨sm, hd⟩
    exact k H' sm hd
/-- the same with an if: items i of which f i holds -/
theorem lc_FT {J : It} {n : Nat} {G : Hp → Prop} {Y : Nat → Hp → V → Hp → Prop} (w : Walk J n G Y) {tt : TT} {te : TE} {g : TG} {vs : List Nat} {σ : L2.St} {H1 : Hp} {D : Addr} {Qd : Hp → Prop} (f : Nat → Bool) (F : Nat → V) (hz : n ≤ 10000) (hD : H1 D = none) (hG : ∀ H, Same H1 H → G H)
    (ht : ∀ i x H H', i < n → Same H1 H → Y i H x H' → ∀ Q : L2.St → Bool → Hp → Prop, (∀ σ2 H3, Same H H3 → (f i = true → ∀ Q2 : VK, (∀ H4, Same H3 H4 → Q2 (F i) H4) → te σ2 H3 Q2) → Q σ2 (f i) H3) → g x (wipe σ vs) H' fun σ2 H2 => wipe σ2 vs = wipe σ vs ∧ tt σ2 H2 (Q σ2))
    (k : ∀ H', Same H1 H' → H' D = some (.lst (((List.range n).filter f).map F)) → Qd H') :
    ∃ W : Nat → Nat → Hp → Prop, (∃ m, W 0 m (upd H1 D (.lst []))) ∧ ∀ i m H, W i m H →
      (J.stop i H ∧ Qd H) ∨ (J.go i H ∧ ∃ Nx : Hp → Prop, (∀ H', Nx H' → ∃ m', m' < m ∧ W (i + 1) m' H') ∧ ∀ x H', J.yld i H x H' → g x (wipe σ vs) H' fun σ2 H2 => wipe σ2 vs = wipe σ vs ∧ tt σ2 H2 fun b H3 =>
        if b = true then te σ2 H3 fun y H4 => ∃ acc, H4 D = some (.lst acc) ∧ acc.length < sizeLine ∧ Nx (upd H4 D (.lst (acc ++ [y]))) else Nx H3) := by
  refine lc_it w (fun i H' => Same H1 H' ∧ H' D = some (.lst (((List.range i).filter f).map F))) ⟨same_upd hD, upd_same⟩ (fun i H _ p => hG H p.1) ?_ ?_
  · rintro i x H H' hi ⟨sm, hd⟩ y
    refine ht i x H H' hi sm y _ fun σ2 H3 s3 he => ?_
    have hd3 := s3 _ _ hd
    have er : (List.range (i + 1)).filter f = (List.range i).filter f ++ (if f i = true then [i] else []) := by
      rw [List.range_succ, List.filter_append, List.filter_cons]
      rfl
    by_cases c : f i = true
    · rw [if_pos c] at er ⊢
      refine he c _ fun H4 s4 => ⟨_, s4 _ _ hd3, ?_, (sm.trans (s3.trans s4)).mut hD, ?_⟩
      · rw [List.length_map]
        refine Nat.lt_of_le_of_lt (List.length_filter_le _ _) ?_
        rw [List.length_range]
        exact Nat.lt_of_lt_of_le (by omega : i < 10001) (by decide)
      · rw [upd_same, er, List.map_append]
        rfl
    · rw [if_neg c] at er ⊢
      refine ⟨sm.trans s3, ?_⟩
      rw [hd3, er, List.append_nil]
  · rintro H' ⟨sm, hd⟩
    exact k H' sm hd
end My
namespace Mz
open PySem PySem.Spec PyProof.Rows L2
/-! ### zip of a list or a tuple with a list or a tuple -/
/-- a list (true) or a tuple (false) -/
def Sq (K : PySem.W.Frag) (H : Hp) : Bool → Addr → List V → Prop
  | true => SqL K H
  | false => SqT K H
def Wk (h : Heap) : Bool → Addr → Addr → Nat → Prop
  | true => fun it l i => h.IsListIter it l i
  | false => fun it l i => h.IsTupleIter it l i
def Im (h : Heap) : Bool → Addr → Array Value → Prop
  | true => fun l m => h.IsList l m
  | false => fun l m => h.IsTuple l m
theorem drw {P : Program} {w : World} {A : Around} (hh : A.handled = none) {it l : Addr} (ne : l ≠ it) (m : Array Value) : ∀ p : Bool, Draws P w A it [it, l] m.size (fun i v => m[i]? = some v) (fun i h => Wk h p it l i ∧ Im h p l m)
  | true => Draws.list hh it l ne m
  | false => Draws.tuple hh it l ne m
theorem Wk.live {h : Heap} {p : Bool} {it l : Addr} {i : Nat} (x : Wk h p it l i) : ∃ o, h.get? it = some o ∧ ∀ v, o.data ≠ .cell v := by
  cases p with
  | false =>
    obtain ⟨o, e, _, d⟩ := x
    exact ⟨o, e, fun v z => by rw [d] at z; exact nomatch z⟩
  | true =>
    obtain ⟨o, e, _, d⟩ := x
    exact ⟨o, e, fun v z => by rw [d] at z; exact nomatch z⟩
theorem Wk.on {h h' : Heap} {p : Bool} {it l : Addr} {i : Nat} (x : Wk h p it l i) (k : ∀ o, h.get? it = some o → h'.get? it = some o) : Wk h' p it l i := by
  cases p with
  | false => exact Heap.IsTupleIter.at x k
  | true => exact Heap.IsListIter.at x k
theorem stands {X : Cx} {pins : List (Addr × Obj)} {σ : L2.St} {H : Hp} {s : Shared} {a : Addr} {xs : List V} (I : Inv X pins σ H s) {p : Bool} (h : Sq X.K H p a xs) : ∃ its, Vals xs its ∧ Im s.heap p a its.toArray ∧ a < s.heap.objs.size := by
  cases p with
  | false =>
    obtain ⟨its, rv, q, _⟩ := I.tuple h
    obtain ⟨o, ho, _⟩ := id q
    exact ⟨its, rv, q, Heap.lt_size ho⟩
  | true =>
    obtain ⟨its, rv, q, _⟩ := I.list h
    exact ⟨its, rv, q.isList, q.lt⟩
theorem one {X : Cx} {pins : List (Addr × Obj)} {σ : L2.St} {H : Hp} {s : Shared} {a : Addr} {xs ys : List V} (I : Inv X pins σ H s) {p : Bool} (h : Sq X.K H p a xs) (h' : Sq X.K H p a ys) : xs = ys := by
  cases p with
  | false => exact I.tuple_inj h h'
  | true => exact I.list_inj h h'
/-- both as they stand at each turn, the items in new pairs -/
def It2 (K : PySem.W.Frag) (p q : Bool) (a b : Addr) : It where
  go i H := ∃ (xs ys : List V) (x y : V), (Sq K H p a xs ∧ Sq K H q b ys) ∧ xs[i]? = some x ∧ ys[i]? = some y
  yld i H v H' := ∃ (T : Addr) (x y : V), v = .ref T ∧ H T = none ∧ H' = upd H T (.tup [x, y]) ∧ (∀ xs, Sq K H p a xs → xs[i]? = some x) ∧ ∀ ys, Sq K H q b ys → ys[i]? = some y
  stop i H := ∃ xs ys : List V, (Sq K H p a xs ∧ Sq K H q b ys) ∧ i ≤ xs.length ∧ i ≤ ys.length ∧ (i = xs.length ∨ i = ys.length)
theorem turn2 {P : Program} {w : World} {K : PySem.W.Frag} {es : List Expr} {k : Nat} {tp : Pos} {a b z U O j1 j2 : Addr} {p q : Bool} (S : ZipSep2 z U O j1 j2 [j1, a] [j2, b]) (n1 : a ≠ j1) (n2 : b ≠ j2) :
    Turn P w K (.Tuple es k tp) (It2 K p q a b) [z, U, O, j1, j2] z (fun i h => (IsZip h z U O .none ∧ IsTupOf2 h U (.ref j1) (.ref j2) ∧ ∃ x y, IsTupOf2 h O x y) ∧ Wk h p j1 a i ∧ Wk h q j2 b i) where
  mem := List.mem_cons_self
  obj := by
    rintro i h ⟨⟨f1, f2, x, y, f3⟩, f4, f5⟩ c hc
    rcases (by simpa using hc : c = z ∨ c = U ∨ c = O ∨ c = j1 ∨ c = j2) with e | e | e | e | e <;> subst e
    · exact ⟨_, f1, (fun _ y => nomatch y)⟩
    · exact ⟨_, f2, (fun _ y => nomatch y)⟩
    · exact ⟨_, f3, (fun _ y => nomatch y)⟩
    · exact f4.live
    · exact f5.live
  keep := by
    rintro i h h' ⟨⟨f1, f2, x, y, f3⟩, f4, f5⟩ kk
    exact ⟨⟨kk _ (by simp) _ f1, kk _ (by simp) _ f2, x, y, kk _ (by simp) _ f3⟩, f4.on (kk _ (by simp)), f5.on (kk _ (by simp))⟩
  item := by
    rintro X rfl rfl rfl calm i pins s σ H E I fr ⟨⟨f1, f2, x0, y0, f3⟩, f4, f5⟩ ⟨xs, ys, x, y, ⟨g1, g2⟩, gx, gy⟩
    obtain ⟨m1, r1, p1, _⟩ := stands I g1
    obtain ⟨m2, r2, p2, _⟩ := stands I g2
    obtain ⟨u1, k1, t1⟩ := r1.get gx
    obtain ⟨u2, k2, t2⟩ := r2.get gy
    have c1 : i < m1.toArray.size := by
      rw [List.size_toArray]
      exact (List.getElem?_eq_some_iff.mp k1).1
    have c2 : i < m2.toArray.size := by
      rw [List.size_toArray]
      exact (List.getElem?_eq_some_iff.mp k2).1
    have zl : z < s.heap.objs.size := Heap.lt_size f1
    refine wpAny_pyNext_zipD2_item S (drw (A := X.A.in1) (show X.A.in1.handled = none from I.ok.hd calm) n1 m1.toArray p) (drw (A := X.A.in1) (show X.A.in1.handled = none from I.ok.hd calm) n2 m2.toArray q) f1 f2 f3 ⟨f4, p1⟩ ⟨f5, p2⟩ c1 c2 fun v1 v2 h1 tk w1 w2 z1 O1 s1 s2 T1 _ kk => ?_
    have e1 : v1 = u1 := by
      rw [show m1.toArray[i]? = m1[i]? by simp, k1] at w1
      exact (Option.some.inj w1).symm
    have e2 : v2 = u2 := by
      rw [show m2.toArray[i]? = m2[i]? by simp, k2] at w2
      exact (Option.some.inj w2).symm
    subst e1 e2
    refine ⟨_, rfl, wpAny_letOwnedTupleGo_zip (s := { s with heap := h1, toks := tk }) z1 fun h2 z2 sb => ?_⟩
    have T2 := (sb.2 _ (Nat.ne_of_gt zl)).trans T1
    have nw : ObjOk X.prog X.w (upd H s.heap.objs.size (.tup [x, y])) h2 s.heap.objs.size (.tup [x, y]) := ⟨by show 2 ≤ sizeLine; decide, [v1, v2], .cons t1 (.cons t2 .nil), _, T2, rfl, _, rfl⟩
    have fz : ∀ c ∈ [z, U, O, j1, j2], c < s.heap.objs.size := fun c hc => by
      rcases (by simpa using hc : c = z ∨ c = U ∨ c = O ∨ c = j1 ∨ c = j2) with e | e | e | e | e <;> subst e
      · exact zl
      · exact Heap.lt_size f2
      · exact Heap.lt_size f3
      · exact Heap.lt_size f4.live.choose_spec.1
      · exact Heap.lt_size f5.live.choose_spec.1
    have J := I.turnedNew (t' := tk) (ch := [z, U, O, j1, j2]) (fun c o hc e => (sb.2 c fun ez => hc (by rw [ez]; simp)).trans (kk c o (fun ez => hc (by rw [ez]; simp)) (fun ez => hc (by rw [ez]; simp)) (fun ez => hc (by rw [ez]; simp)) (fun ez => hc (by rw [ez]; simp)) e)) fr (Nat.le_refl _) nw
    refine ⟨.ref s.heap.objs.size, _, J, rfl, ⟨_, x, y, rfl, I.hok.fresh (Nat.le_refl _), rfl, fun l hl => one I hl g1 ▸ gx, fun l hl => one I hl g2 ▸ gy⟩, ⟨⟨z2, ?_, v1, v2, ?_⟩, ?_, ?_⟩, fun c hc => ?_⟩
    · exact (sb.2 _ S.TIz).trans (kk _ _ S.TIz S.TITO S.TIi1 S.TIi2 f2)
    · exact (sb.2 _ S.TOz).trans O1
    · exact s1.1.on fun o e => (sb.2 _ S.zi1.symm).trans e
    · exact s2.1.on fun o e => (sb.2 _ S.zi2.symm).trans e
    · rw [upd_ne (Nat.ne_of_lt (fz c hc))]
      exact (fr c hc).1
  done := by
    rintro X rfl rfl rfl calm i pins s σ H E I fr ⟨⟨f1, f2, x0, y0, f3⟩, f4, f5⟩ ⟨xs, ys, ⟨g1, g2⟩, b1, b2, be⟩
    obtain ⟨m1, r1, p1, _⟩ := stands I g1
    obtain ⟨m2, r2, p2, _⟩ := stands I g2
    have l1 : m1.toArray.size = xs.length := by rw [List.size_toArray, r1.length]
    have l2 : m2.toArray.size = ys.length := by rw [List.size_toArray, r2.length]
    refine wpAny_pyNext_zipD2_end S (drw (A := X.A.in1) (show X.A.in1.handled = none from I.ok.hd calm) n1 m1.toArray p) (drw (A := X.A.in1) (show X.A.in1.handled = none from I.ok.hd calm) n2 m2.toArray q) f1 f2 f3 ⟨f4, p1⟩ ⟨f5, p2⟩ (by rw [l1]; exact b1) (by rw [l2]; exact b2) (by rw [l1, l2]; exact be) fun h1 tk kk => ⟨rfl, ?_⟩
    exact I.turnedL (t' := tk) (ch := [z, U, O, j1, j2]) (fun c o hc e => kk c o (fun ez => hc (by rw [ez]; simp)) (fun ez => hc (by rw [ez]; simp)) (fun ez => hc (by rw [ez]; simp)) (fun ez => hc (by rw [ez]; simp)) e) fr
  self := fun A i s Q E st h => wpAny_pyIter_zip st.1.1 h
theorem walk2 {K : PySem.W.Frag} {p q : Bool} {a b : Addr} {xs ys : List V} {n : Nat} (hn : n = min xs.length ys.length) : Walk (It2 K p q a b) n (fun H => Sq K H p a xs ∧ Sq K H q b ys) (YPair (fun i => xs[i]?) (fun i => ys[i]?)) where
  goes i H hi G := ⟨xs, ys, xs[i]'(by omega), ys[i]'(by omega), G, List.getElem?_eq_getElem _, List.getElem?_eq_getElem _⟩
  stops H G := ⟨xs, ys, G, by omega, by omega, by omega⟩
  yields := by
    rintro i H v H' hi G ⟨T, x, y, rfl, fr, e, g1, g2⟩
    exact ⟨T, x, y, rfl, fr, e, g1 xs G.1, g2 ys G.2⟩
def iZip2 (K : PySem.W.Frag) (p q : Bool) (ta : TA) : TI := fun σ H R => ta σ H fun vs H1 => ∃ a b xs ys, vs = [.ref a, .ref b] ∧ Sq K H1 p a xs ∧ Sq K H1 q b ys ∧ R (It2 K p q a b) H1
theorem begins {s : Shared} : ∀ (p : Bool) (a : Addr) (m : Array Value), ∃ o, Begins (.ref a) o (fun h => Im h p a m) ∧ ∀ h b, h.get? b = some o → Wk h p b a 0
  | true, a, m => ⟨_, begins_list a m, fun h b e => ⟨_, e, rfl, rfl⟩⟩
  | false, a, m => ⟨_, begins_tuple a m, fun h b e => ⟨_, e, rfl, rfl⟩⟩
theorem pi_zip2 {X : Cx} {e e2 : Expr} {ta : TA} {l pos tpos : Pos} {es : List Expr} {k : Nat} {p q : Bool} (hg : Gl X "zip") (hm : X.mg "zip" = none) (ha : PA X [e, e2] ta)
    (hs : starEach [e, e2] X.env = (false, eval e X.env) :: starEach [e2] X.env := by rfl) (hpl : (backTo pos (starEach [e2] X.env)).any (·.1) = false := by rfl) :
    PI X (.Tuple es k tpos) (.Call (.Name "zip" l) [e, e2] [] pos) (iZip2 X.K p q ta) where
  run pins s σ H R I h := by
    refine Call_ (ld_blt I hg hm PyProof.Rows.boot_zip (PyProof.Rows.callWith_type1 (thn (ha.run pos pins s σ H _ I h) ?_) hs hpl))
    rintro us s1 ⟨vs, H1, J, rr, a, b, xs, ys, rfl, g1, g2, R1⟩
    obtain ⟨u1, u2, rfl, c1, c2⟩ := vals2 rr
    cases (show u1 = Value.ref a from c1)
    cases (show u2 = Value.ref b from c2)
    obtain ⟨m1, _, p1, l1⟩ := stands J g1
    obtain ⟨m2, _, p2, l2⟩ := stands J g2
    obtain ⟨o1, B1, w1⟩ := begins (s := s1) p a m1.toArray
    obtain ⟨o2, B2, w2⟩ := begins (s := s1) q b m2.toArray
    refine zip_begins2 B1 B2 p1 p2 fun h' z1 U1 O1 k1 k2 _ kk => wpAny_pyIter_zip z1 ?_
    have J2 : Inv X pins σ H1 { s1 with heap := h' } := J.kept (t' := s1.toks) kk
    refine ⟨s1.heap.objs.size + 4, [s1.heap.objs.size + 4, s1.heap.objs.size + 2, s1.heap.objs.size + 3, s1.heap.objs.size, s1.heap.objs.size + 1], _, _, H1, rfl, J2, turn2 (zip_sep2 (N := s1.heap.objs.size) (fp1 := [a]) (fp2 := [b]) (fun c hc => ?_) fun c hc => ?_) (Nat.ne_of_lt l1) (Nat.ne_of_lt (Nat.lt_succ_of_lt l2)), ⟨⟨z1, U1, _, _, O1⟩, w1 _ _ k1, w2 _ _ k2⟩, fun c hc => ?_, R1⟩
    · rw [List.mem_singleton.mp hc]
      exact l1
    · rw [List.mem_singleton.mp hc]
      exact l2
    · have le : s1.heap.objs.size ≤ c := by
        rcases (by simpa using hc : c = s1.heap.objs.size + 4 ∨ c = s1.heap.objs.size + 2 ∨ c = s1.heap.objs.size + 3 ∨ c = s1.heap.objs.size ∨ c = s1.heap.objs.size + 1) with e | e | e | e | e <;> subst e
        · exact Nat.le_add_right _ 4
        · exact Nat.le_add_right _ 2
        · exact Nat.le_add_right _ 3
        · exact Nat.le_refl _
        · exact Nat.le_add_right _ 1
      exact J.fpOk le (J.hok.fresh le)
end Mz
namespace My
open PySem PySem.Spec PyProof.Rows L2
/-- a comprehension over any walk, without ifs, without drawing: of item i P holds -/
theorem lc_P {J : It} {n : Nat} {G : Hp → Prop} {Y : Nat → Hp → V → Hp → Prop} (w : Walk J n G Y) {te : TE} {g : TG} {vs : List Nat} {σ : L2.St} {H1 : Hp} {D : Addr} {Qd : Hp → Prop} (P : Nat → V → Hp → Prop) (hz : n ≤ 10000) (hD : H1 D = none) (hG : ∀ H, Same H1 H → G H)
    (hP : ∀ i v H H' acc, P i v H → H D = some (.lst acc) → (∀ b o, b ≠ D → H b = some o → H' b = some o) → P i v H')
    (ht : ∀ i x H H', i < n → Same H1 H → Y i H x H' → ∀ Q : VK, (∀ v H3, Same H H3 → P i v H3 → Q v H3) → g x (wipe σ vs) H' fun σ2 H2 => wipe σ2 vs = wipe σ vs ∧ te σ2 H2 Q)
    (k : ∀ ws H', Same H1 H' → H' D = some (.lst ws) → ws.length = n → (∀ i v, ws[i]? = some v → P i v H') → Qd H') :
    ∃ W : Nat → Nat → Hp → Prop, (∃ m, W 0 m (upd H1 D (.lst []))) ∧ ∀ i m H, W i m H →
      (J.stop i H ∧ Qd H) ∨ (J.go i H ∧ ∃ Nx : Hp → Prop, (∀ H', Nx H' → ∃ m', m' < m ∧ W (i + 1) m' H') ∧ ∀ x H', J.yld i H x H' → g x (wipe σ vs) H' fun σ2 H2 => wipe σ2 vs = wipe σ vs ∧ tYes σ2 H2 fun b H3 =>
        if b = true then te σ2 H3 fun y H4 => ∃ acc, H4 D = some (.lst acc) ∧ acc.length < sizeLine ∧ Nx (upd H4 D (.lst (acc ++ [y]))) else Nx H3) := by
  refine lc_it w (fun i H' => ∃ ws, Same H1 H' ∧ H' D = some (.lst ws) ∧ ws.length = i ∧ ∀ j v, ws[j]? = some v → P j v H') ⟨[], same_upd hD, upd_same, rfl, (fun _ _ z => nomatch z)⟩ (fun i H _ ⟨_, p, _⟩ => hG H p) ?_ ?_
  · rintro i x H H' hi ⟨ws, sm, hd, hl, hp⟩ y
    refine ht i x H H' hi sm y _ fun v H3 s3 pv => ?_
    have hd3 := s3 _ _ hd
    refine ⟨_, hd3, Nat.lt_of_lt_of_le (by omega : ws.length < 10001) (by decide), ws ++ [v], (sm.trans s3).mut hD, upd_same, by rw [List.length_append, hl]; rfl, fun j u hj => ?_⟩
    have up : ∀ j u, P j u H3 → P j u (upd H3 D (.lst (ws ++ [v]))) := fun j u hu => hP j u H3 _ _ hu hd3 fun b o hb e => by rw [upd_ne hb]; exact e
    rcases Nat.lt_trichotomy j i with c | c | c
    · rw [List.getElem?_append_left (by omega)] at hj
      exact up j u (hP j u H H3 _ (hp j u hj) hd fun b o _ e => s3 b o e)
    · subst c
      rw [List.getElem?_append_right (by omega), hl, Nat.sub_self] at hj
      cases hj
      exact up j v pv
    · rw [List.getElem?_eq_none (by rw [List.length_append, hl]; exact c)] at hj
      cases hj
  · rintro H' ⟨ws, sm, hd, hl, hp⟩
    exact k ws H' sm hd hl hp
end My
namespace My
open PySem PySem.Spec PyProof.Rows L2
/-! ### rows as functions -/
def gd (l : List Int) : Nat → Int := fun i => l.getD i 0
def sg (l : List Int) : Nat → Int := fun i => l.getD (i - 1) 0
theorem gd_get {l : List Int} {i : Nat} {z : Int} (h : l[i]? = some z) : gd l i = z := by
  unfold gd
  rw [List.getD_eq_getElem?_getD, h]
  rfl
theorem get_gd {l : List Int} {i : Nat} (h : i < l.length) : l[i]? = some (gd l i) := by
  rw [gd_get (List.getElem?_eq_getElem h)]
  exact List.getElem?_eq_getElem h
theorem gd_out {l : List Int} {i : Nat} (h : l.length ≤ i) : gd l i = 0 := by
  unfold gd
  rw [List.getD_eq_getElem?_getD, List.getElem?_eq_none h]
  rfl
theorem gd_app {l r : List Int} {i : Nat} (h : i < l.length) : gd (l ++ r) i = gd l i := by
  unfold gd
  rw [List.getD_eq_getElem?_getD, List.getD_eq_getElem?_getD, List.getElem?_append_left h]
theorem gd_last (l : List Int) (z : Int) : gd (l ++ [z]) l.length = z := gd_get (by
  rw [List.getElem?_append_right (Nat.le_refl _), Nat.sub_self]
  rfl)
theorem gd_rev {l : List Int} {n j : Nat} (h : l.length = n + 1) (hj : j ≤ n) : l.reverse.getD j 0 = gd l (n - j) := by
  unfold gd
  rw [List.getD_eq_getElem?_getD, List.getD_eq_getElem?_getD, List.getElem?_reverse (by omega), h]
  congr 2
theorem sum_range (f : Nat → Int) : ∀ n, ((List.range n).map f).sum = Ms.sm f n
  | 0 => rfl
  | n + 1 => by
    rw [List.range_succ, List.map_append, List.sum_append, sum_range f n]
    show _ + (f n + 0) = Ms.sm f n + f n
    rw [Int.add_zero]
def ofF (n : Nat) (f : Nat → Int) : List Int := (List.range n).map f
theorem ofF_len (n : Nat) (f : Nat → Int) : (ofF n f).length = n := by
  unfold ofF
  rw [List.length_map, List.length_range]
theorem ofF_get {n i : Nat} (f : Nat → Int) (h : i < n) : (ofF n f)[i]? = some (f i) := by
  unfold ofF
  rw [List.getElem?_map, List.getElem?_range h]
  rfl
theorem gd_ofF {n i : Nat} (f : Nat → Int) (h : i < n) : gd (ofF n f) i = f i := gd_get (ofF_get f h)
theorem ofF_gd {l : List Int} {n : Nat} (h : l.length = n) : ofF n (gd l) = l := by
  refine List.ext_getElem? fun k => ?_
  by_cases c : k < n
  · rw [ofF_get _ c, get_gd (by omega)]
  · rw [List.getElem?_eq_none (by rw [ofF_len]; omega), List.getElem?_eq_none (by omega)]
theorem ofF_congr {n : Nat} {f g : Nat → Int} (h : ∀ i, i < n → f i = g i) : ofF n f = ofF n g :=
  List.map_congr_left fun i hi => h i (List.mem_range.mp hi)
theorem ofF_vals (n : Nat) (f : Nat → Int) : (List.range n).map (fun i => V.int (f i)) = (ofF n f).map V.int := by
  unfold ofF
  rw [List.map_map]
  rfl
theorem ofF_set {n i : Nat} (f : Nat → Int) (v : Int) (h : i < n) : (ofF n f).set i v = ofF n fun k => if k = i then v else f k := by
  refine List.ext_getElem? fun k => ?_
  by_cases c : k < n
  · rw [List.getElem?_set, ofF_get (fun k => if k = i then v else f k) c]
    show _ = some (if k = i then v else f k)
    by_cases e : k = i
    · rw [if_pos e.symm, if_pos (by rw [ofF_len]; omega), if_pos e]
    · rw [if_neg (fun z => e z.symm), ofF_get _ c, if_neg e]
  · rw [List.getElem?_eq_none (by rw [List.length_set, ofF_len]; omega), List.getElem?_eq_none (by rw [ofF_len]; omega)]
theorem mem_ofF {n : Nat} {f : Nat → Int} {z : Int} (h : z ∈ ofF n f) : ∃ i, i < n ∧ z = f i := by
  obtain ⟨i, hi, rfl⟩ := List.mem_map.mp h
  exact ⟨i, List.mem_range.mp hi, rfl⟩
/-! rows multiplied, step by step -/
def co (f g : Nat → Int) (j i : Nat) : Int := if j ≤ i then f j * g (i - j) else 0
def part (f g : Nat → Int) (j i : Nat) : Int := Ms.sm (fun j => co f g j i) j
theorem sm_tail {f : Nat → Int} {n : Nat} : ∀ m, (∀ k, n ≤ k → k < n + m → f k = 0) → Ms.sm f (n + m) = Ms.sm f n
  | 0, _ => rfl
  | m + 1, h => by
    show Ms.sm f (n + m) + f (n + m) = _
    rw [sm_tail m fun k h1 h2 => h k h1 (by omega), h (n + m) (by omega) (by omega), Int.add_zero]
theorem part_full {f g : Nat → Int} {J i : Nat} (h : ∀ j, J ≤ j → j ≤ i → f j = 0) : part f g J i = Ms.cvl f g i := by
  rw [Ms.cvl_sm]
  have e : Ms.sm (fun j => f j * g (i - j)) (i + 1) = Ms.sm (fun j => co f g j i) (i + 1) := Ms.sm_congr fun j hj => by
    show _ = if j ≤ i then _ else _
    rw [if_pos (by omega)]
  rw [e]
  unfold part
  by_cases c : J ≤ i + 1
  · have := sm_tail (f := fun j => co f g j i) (n := J) (i + 1 - J) fun k h1 h2 => by
      show (if k ≤ i then f k * g (i - k) else 0) = 0
      rw [if_pos (by omega), h k h1 (by omega), Int.zero_mul]
    rw [show J + (i + 1 - J) = i + 1 by omega] at this
    exact this.symm
  · have := sm_tail (f := fun j => co f g j i) (n := i + 1) (J - (i + 1)) fun k h1 h2 => by
      show (if k ≤ i then f k * g (i - k) else 0) = 0
      rw [if_neg (by omega)]
    rw [show i + 1 + (J - (i + 1)) = J by omega] at this
    exact this
/-- behind j full turns and k steps of the next -/
def stepF (f g : Nat → Int) (j k : Nat) : Nat → Int := fun i => (part f g j i + (if j ≤ i ∧ i < j + k then f j * g (i - j) else 0)) % 97
theorem stepF_next {n j k : Nat} {f g : Nat → Int} : (ofF n fun i => if i = j + k then (stepF f g j k (j + k) + f j * g k) % 97 else stepF f g j k i) = ofF n (stepF f g j (k + 1)) := by
  refine ofF_congr fun i hi => ?_
  by_cases c : i = j + k
  · subst c
    rw [if_pos rfl]
    unfold stepF
    rw [if_neg (by omega), if_pos (by omega), show j + k - j = k by omega]
    omega
  · rw [if_neg c]
    unfold stepF
    congr 2
    by_cases d : j ≤ i ∧ i < j + k
    · rw [if_pos d, if_pos (by omega)]
    · rw [if_neg d, if_neg (by omega)]
theorem stepF_zero {n : Nat} {f g : Nat → Int} {j : Nat} : ofF n (stepF f g j 0) = ofF n fun i => part f g j i % 97 := ofF_congr fun i _ => by
  unfold stepF
  rw [if_neg (by omega), Int.add_zero]
theorem stepF_end {n j k : Nat} {f g : Nat → Int} (h : ∀ i, i < n → j + k ≤ i → g (i - j) = 0) : ofF n (stepF f g j k) = ofF n fun i => part f g (j + 1) i % 97 := ofF_congr fun i hi => by
  unfold stepF
  show _ = (part f g j i + (if j ≤ i then f j * g (i - j) else 0)) % 97
  congr 2
  by_cases c : j ≤ i
  · rw [if_pos c]
    by_cases d : i < j + k
    · rw [if_pos ⟨c, d⟩]
    · rw [if_neg (by omega), h i hi (by omega), Int.mul_zero]
  · rw [if_neg c, if_neg (by omega)]
def timesL (xs ys : List Int) (n : Nat) : List Int := ofF n fun i => Ms.cvl (gd xs) (gd ys) i % 97
/-- a set's row, told on -/
def rowE (ms : List Int) (n : Nat) : List Int := ofF n fun i => Ms.E ms i % 97
theorem gd_rowE {ms : List Int} {n i : Nat} (h : ms.length < n) : gd (rowE ms n) i = Ms.E ms i % 97 := by
  by_cases c : i < n
  · exact gd_ofF _ c
  · rw [gd_out (by unfold rowE; rw [ofF_len]; omega), Ms.E_deg (by omega)]
    rfl
theorem cvl_two (f : Nat → Int) (z : Int) : ∀ k, Ms.cvl f (gd [1, 0 - z]) k = Ms.st f z k
  | 0 => by
    show f 0 * 1 = f 0 - z * 0
    omega
  | k + 1 => by
    rw [Ms.cvl_comm]
    show 1 * f (k + 1) + Ms.cvl (Ms.sh (gd [1, 0 - z])) f k = f (k + 1) - z * f k
    have e : Ms.cvl (Ms.sh (gd [1, 0 - z])) f k = (0 - z) * f k := by
      cases k with
      | zero => rfl
      | succ k =>
        show (0 - z) * f (k + 1) + Ms.cvl (Ms.sh (Ms.sh (gd [1, 0 - z]))) f k = _
        have e0 : Ms.sh (Ms.sh (gd [1, 0 - z])) = fun _ => 0 := funext fun i => show gd [1, 0 - z] (i + 1 + 1) = 0 from gd_out (by show 2 ≤ i + 1 + 1; omega)
        rw [e0, Ms.cvl_zeroL, Int.add_zero]
    rw [e]
    grind
theorem E_snoc (ms : List Int) (z : Int) : Ms.E (ms ++ [z]) = Ms.st (Ms.E ms) z := by
  unfold Ms.E Ms.EG
  rw [List.foldl_append]
  rfl
theorem times_row {ms : List Int} {z : Int} {n m : Nat} (h : ms.length < n) : timesL (rowE ms n) [1, 0 - z] m = rowE (ms ++ [z]) m := by
  refine ofF_congr fun i _ => ?_
  rw [E_snoc, ← cvl_two]
  exact Ms.cvl_mod i (fun j _ => by rw [gd_rowE h, Int.emod_emod]) fun _ _ => rfl
theorem rowE_bd (ms : List Int) (n : Nat) : ∀ z ∈ rowE ms n, 0 ≤ z ∧ z ≤ 96 := by
  intro z hz
  obtain ⟨i, _, rfl⟩ := mem_ofF hz
  have := Int.emod_nonneg (Ms.E ms i) (show (97 : Int) ≠ 0 by decide)
  have := Int.emod_lt_of_pos (Ms.E ms i) (show (0 : Int) < 97 by decide)
  omega
theorem rowE_len (ms : List Int) (n : Nat) : (rowE ms n).length = n := ofF_len _ _
theorem rowE_more {ms : List Int} {n k : Nat} (h : ms.length < n) : rowE ms n ++ List.replicate k 0 = rowE ms (n + k) := by
  refine List.ext_getElem? fun i => ?_
  rcases Nat.lt_or_ge i n with c | c
  · rw [List.getElem?_append_left (by rw [rowE_len]; exact c)]
    unfold rowE
    rw [ofF_get _ c, ofF_get _ (by omega)]
  · rw [List.getElem?_append_right (by rw [rowE_len]; exact c), rowE_len]
    by_cases d : i < n + k
    · unfold rowE
      rw [ofF_get _ d, List.getElem?_replicate, if_pos (by omega), Ms.E_deg (by omega)]
      rfl
    · rw [List.getElem?_eq_none (by rw [List.length_replicate]; omega), List.getElem?_eq_none (by rw [rowE_len]; omega)]
theorem rowE_take {ms : List Int} {n k : Nat} (h : k ≤ n) : (rowE ms n).take k = rowE ms k := by
  unfold rowE ofF
  rw [← List.map_take, List.take_range, Nat.min_eq_left h]
def minI (x y : Int) : Int := if y < x then y else x
theorem minI_eq {x y : Int} : minI x y = x ∧ x ≤ y ∨ minI x y = y ∧ y < x := by
  unfold minI
  by_cases c : y < x
  · exact .inr ⟨if_pos c, c⟩
  · exact .inl ⟨if_neg c, by omega⟩
/-- the row by sums, as far as i -/
structure Rb (ts : List Int) (i : Nat) (row : List Int) : Prop where
  len : row.length = i + 1
  bd : ∀ z ∈ row, 0 ≤ z ∧ z ≤ 96
  hd : gd row 0 = 1
  kp : ∀ k, k ≤ i → Ms.rs (gd row) (sg ts) k % 97 = 0
theorem Rb.one (ts : List Int) : Rb ts 0 [1] := ⟨rfl, fun z hz => by rw [List.mem_singleton.mp hz]; decide, rfl, fun k hk => by
  have e : k = 0 := by omega
  subst e
  show ((0 : Nat) : Int) * gd [1] 0 % 97 = 0
  rfl⟩
theorem rs_congr {f g s : Nat → Int} {k : Nat} (h : ∀ i, i ≤ k → f i = g i) : Ms.rs f s k = Ms.rs g s k := by
  unfold Ms.rs Ms.cv
  rw [h k (Nat.le_refl _)]
  congr 1
  exact Ms.sm_congr fun i hi => by rw [h _ (by omega)]
theorem Rb.next {ts row : List Int} {i : Nat} (h : Rb ts i row) {t g : Int} (ht : t = Ms.cv (sg ts) (gd row) (i + 1)) (hg : (1 + (i : Int)) * g % 97 = 1) : Rb ts (i + 1) (row ++ [-t * g % 97]) := by
  have hl := h.len
  refine ⟨by rw [List.length_append, h.len]; rfl, fun z hz => ?_, ?_, fun k hk => ?_⟩
  · rcases List.mem_append.mp hz with hz | hz
    · exact h.bd z hz
    · rw [List.mem_singleton.mp hz]
      have := Int.emod_nonneg (-t * g) (show (97 : Int) ≠ 0 by decide)
      have := Int.emod_lt_of_pos (-t * g) (show (0 : Int) < 97 by decide)
      omega
  · rw [gd_app (by omega)]
    exact h.hd
  · rcases Nat.lt_or_eq_of_le hk with c | c
    · rw [rs_congr (g := gd row) fun j hj => gd_app (by omega)]
      exact h.kp k (by omega)
    · subst c
      have e1 : gd (row ++ [-t * g % 97]) (i + 1) = -t * g % 97 := by
        have := gd_last row (-t * g % 97)
        rwa [hl] at this
      have e2 : Ms.cv (sg ts) (gd (row ++ [-t * g % 97])) (i + 1) = t := by
        rw [ht]
        unfold Ms.cv
        exact Ms.sm_congr fun j hj => by rw [gd_app (by omega)]
      show (((i + 1 : Nat) : Int) * gd (row ++ [-t * g % 97]) (i + 1) + Ms.cv (sg ts) (gd (row ++ [-t * g % 97])) (i + 1)) % 97 = 0
      rw [e1, e2]
      have e3 : ((i + 1 : Nat) : Int) = 1 + (i : Int) := by omega
      rw [e3]
      obtain ⟨u, hu⟩ : ∃ u, (1 + (i : Int)) * g = 1 + 97 * u := ⟨(1 + (i : Int)) * g / 97, by omega⟩
      obtain ⟨v, hv⟩ : ∃ v, -t * g % 97 = -t * g + 97 * v := ⟨-(-t * g / 97), by omega⟩
      rw [hv]
      have e4 : (1 + (i : Int)) * (-t * g + 97 * v) + t = 97 * ((1 + (i : Int)) * v - t * u) := by
        have : (1 + (i : Int)) * (-t * g) = -t * ((1 + (i : Int)) * g) := by grind
        rw [Int.mul_add, this, hu]
        grind
      rw [e4]
      omega
def RowBy (ts row : List Int) : Prop := Rb ts ts.length row
end My
namespace My
open PySem PySem.Spec PyProof.Rows L2
theorem lc_G {K : PySem.W.Frag} {st a : Addr} {J : It} {n : Nat} {G : Hp → Prop} {Y : Nat → Hp → V → Hp → Prop} (w : Walk J n G Y) {te : TE} {g : TG} {vs : List Nat} {σ : L2.St} {H1 : Hp} {D : Addr} {Qd : Hp → Prop} (P : Nat → V → Hp → Prop) (hS : StAt K a st H1) (hz : n ≤ 10000) (hD : H1 D = none) (hG : ∀ H, Go K st H1 H → G H)
    (hP : ∀ i v H H', P i v H → (∀ b o, b ≠ D → b ≠ st → H b = some o → H' b = some o) → P i v H')
    (ht : ∀ i x H H', i < n → Go K st H1 H → (∃ acc, H D = some (.lst acc)) → Y i H x H' → ∀ Q : VK, (∀ v H3, Go K st H H3 → P i v H3 → Q v H3) → g x (wipe σ vs) H' fun σ2 H2 => wipe σ2 vs = wipe σ vs ∧ te σ2 H2 Q)
    (k : ∀ ws H', Go K st H1 H' → H' D = some (.lst ws) → ws.length = n → (∀ i v, ws[i]? = some v → P i v H') → Qd H') :
    ∃ W : Nat → Nat → Hp → Prop, (∃ m, W 0 m (upd H1 D (.lst []))) ∧ ∀ i m H, W i m H →
      (J.stop i H ∧ Qd H) ∨ (J.go i H ∧ ∃ Nx : Hp → Prop, (∀ H', Nx H' → ∃ m', m' < m ∧ W (i + 1) m' H') ∧ ∀ x H', J.yld i H x H' → g x (wipe σ vs) H' fun σ2 H2 => wipe σ2 vs = wipe σ vs ∧ tYes σ2 H2 fun b H3 =>
        if b = true then te σ2 H3 fun y H4 => ∃ acc, H4 D = some (.lst acc) ∧ acc.length < sizeLine ∧ Nx (upd H4 D (.lst (acc ++ [y]))) else Nx H3) := by
  have hne := hS.fresh hD
  refine lc_it w (fun i H' => ∃ ws, Go K st H1 H' ∧ H' D = some (.lst ws) ∧ ws.length = i ∧ ∀ j v, ws[j]? = some v → P j v H') ⟨[], Go.new hD, upd_same, rfl, (fun _ _ z => nomatch z)⟩ (fun i H _ ⟨_, p, _⟩ => hG H p) ?_ ?_
  · rintro i x H H' hi ⟨ws, gg, hd, hl, hp⟩ y
    refine ht i x H H' hi gg ⟨_, hd⟩ y _ fun v H3 g3 pv => ?_
    have hd3 := g3.keep _ _ hne hd
    refine ⟨_, hd3, Nat.lt_of_lt_of_le (by omega : ws.length < 10001) (by decide), ws ++ [v], (gg.trans g3).mut hS hD, upd_same, by rw [List.length_append, hl]; rfl, fun j u hj => ?_⟩
    have up : ∀ j u, P j u H3 → P j u (upd H3 D (.lst (ws ++ [v]))) := fun j u hu => hP j u H3 _ hu fun b o hb _ e => by rw [upd_ne hb]; exact e
    rcases Nat.lt_trichotomy j i with c | c | c
    · rw [List.getElem?_append_left (by omega)] at hj
      exact up j u (hP j u H H3 (hp j u hj) fun b o _ hs e => g3.keep b o hs e)
    · subst c
      rw [List.getElem?_append_right (by omega), hl, Nat.sub_self] at hj
      cases hj
      exact up j v pv
    · rw [List.getElem?_eq_none (by rw [List.length_append, hl]; exact c)] at hj
      cases hj
  · rintro H' ⟨ws, gg, hd, hl, hp⟩
    exact k ws H' gg hd hl hp
theorem pick_ints : ∀ ws : List V, (∀ (i : Nat) (v : V), ws[i]? = some v → ∃ z : Int, v = .int z) → ∃ ts : List Int, ws = ts.map V.int
  | [], _ => ⟨[], rfl⟩
  | v :: ws, h => by
    obtain ⟨z, rfl⟩ := h 0 v rfl
    obtain ⟨ts, rfl⟩ := pick_ints ws fun i u hu => h (i + 1) u hu
    exact ⟨z :: ts, rfl⟩
end My
namespace My
open PySem PySem.Spec PyProof.Rows L2
/-- a thing whose kind is known -/
inductive Known (H : Hp) : V → Prop where
  | non : Known H .non
  | bl (b : Bool) : Known H (.bl b)
  | int (i : Int) : Known H (.int i)
  | str (z : Str) : Known H (.str z)
  | lst {a : Addr} {xs : List V} (e : H a = some (.lst xs)) : Known H (.ref a)
  | tup {a : Addr} {xs : List V} (e : H a = some (.tup xs)) : Known H (.ref a)
  | dK {a : Addr} {kvs : List (Key × V)} (e : H a = some (.dK kvs)) : Known H (.ref a)
theorem Known.same {H H' : Hp} {v : V} (s : Same H H') (h : Known H v) : Known H' v := by
  cases h with
  | non => exact .non
  | bl b => exact .bl b
  | int i => exact .int i
  | str z => exact .str z
  | lst e => exact .lst (s _ _ e)
  | tup e => exact .tup (s _ _ e)
  | dK e => exact .dK (s _ _ e)
/-- no tuple -/
inductive NoTup (H : Hp) : V → Prop where
  | non : NoTup H .non
  | bl (b : Bool) : NoTup H (.bl b)
  | int (i : Int) : NoTup H (.int i)
  | str (z : Str) : NoTup H (.str z)
  | lst {a : Addr} {xs : List V} (e : H a = some (.lst xs)) : NoTup H (.ref a)
  | dK {a : Addr} {kvs : List (Key × V)} (e : H a = some (.dK kvs)) : NoTup H (.ref a)
theorem NoTup.same {H H' : Hp} {v : V} (s : Same H H') (h : NoTup H v) : NoTup H' v := by
  cases h with
  | non => exact .non
  | bl b => exact .bl b
  | int i => exact .int i
  | str z => exact .str z
  | lst e => exact .lst (s _ _ e)
  | dK e => exact .dK (s _ _ e)
def wholeB : V → Bool
  | .int i => decide (0 ≤ i)
  | _ => false
def restB : V → Bool
  | .int i => decide (0 ≤ i) && decide (i < 97)
  | _ => false
/-- whether a thing is a letter -/
inductive LetK (H : Hp) : V → Bool → Prop where
  | other {v : V} (h : NoTup H v) : LetK H v false
  | len {a : Addr} {xs : List V} (h : H a = some (.tup xs)) (n : xs.length ≠ 4) : LetK H (.ref a) false
  | told {a : Addr} {t d c s : V} (h : H a = some (.tup [t, d, c, s])) (hs : NoTup H s) : LetK H (.ref a) false
  | many {a s : Addr} {t d c : V} {xs : List V} (h : H a = some (.tup [t, d, c, .ref s])) (hs : H s = some (.tup xs)) (n : 96 < xs.length) : LetK H (.ref a) false
  | four {a s : Addr} {t d c : V} {xs : List V} {b : Bool} (h : H a = some (.tup [t, d, c, .ref s])) (hs : H s = some (.tup xs)) (n : xs.length ≤ 96) (kt : Known H t) (kd : Known H d) (kc : Known H c) (kx : ∀ x ∈ xs, Known H x)
      (e : b = (wholeB t && (wholeB d && (c :: xs).all restB))) : LetK H (.ref a) b
theorem LetK.same {H H' : Hp} {v : V} {b : Bool} (s : Same H H') (h : LetK H v b) : LetK H' v b := by
  cases h with
  | other h => exact .other (h.same s)
  | len h n => exact .len (s _ _ h) n
  | told h hs => exact .told (s _ _ h) (hs.same s)
  | many h hs n => exact .many (s _ _ h) (s _ _ hs) n
  | four h hs n kt kd kc kx e => exact .four (s _ _ h) (s _ _ hs) n (kt.same s) (kd.same s) (kc.same s) (fun x hx => (kx x hx).same s) e
def sp_is_whole : Sp := fun vs H Q _ => ∃ v : V, vs = [v] ∧ Known H v ∧ Q (.bl (wholeB v)) H
def sp_is_rest : Sp := fun vs H Q _ => ∃ v : V, vs = [v] ∧ Known H v ∧ Q (.bl (restB v)) H
def sp_is_letter : Sp := fun vs H Q _ => ∃ (v : V) (b : Bool), vs = [v] ∧ LetK H v b ∧ ∀ H', Same H H' → Q (.bl b) H'
def sp_refuse_unless_letter (C : Addr) : Sp := fun vs H Q E => ∃ (v : V) (b : Bool), vs = [v] ∧ LetK H v b ∧ (b = false → ∀ H', Same H H' → E (.ref C) none H') ∧ (b = true → ∀ H', Same H H' → Q .non H')
end My
namespace Lm
open PySem PySem.Spec PyProof.Rows L2
/-- a walk from the second item on -/
theorem walk_next {prog : Program} {w : World} {A : Around} {I : Addr} {fp wr : List Addr} {G : Array GenState → Array GenState → Prop} {n : Nat} {P : Nat → Value → Prop} {St : Nat → Shared → Prop} (W : WalksS prog w A I fp wr G (n + 1) P St) :
    WalksS prog w A I fp wr G n (fun i => P (i + 1)) (fun i => St (i + 1)) where
  sub := W.sub
  grefl := W.grefl
  gtrans := W.gtrans
  frame := fun i s h' tk st ht hk => W.frame (i + 1) s h' tk st ht hk
  item := fun i s Q E hi st hQ => W.item (i + 1) s Q E (by omega) st hQ
  done := fun s Q E st hQ => W.done s Q E st hQ
  self := fun i s Q E st hQ => W.self (i + 1) s Q E st hQ
theorem items_tail {y : Value} {ys : List Value} {acc : Array Value} (h : ItemsOf (fun i v => (y :: ys).toArray[i + 1]? = some v) acc ys.length) : acc.toList = ys := by
  obtain ⟨h1, h2⟩ := h
  refine List.ext_getElem? fun j => ?_
  by_cases c : j < ys.length
  · have hj : acc[j]? = some acc[j] := Array.getElem?_eq_getElem (by omega)
    have := h2 j _ hj
    rw [Array.getElem?_toList, hj, ← this, List.getElem?_toArray, List.getElem?_cons_succ]
  · rw [List.getElem?_eq_none (by rw [Array.length_toList]; omega), List.getElem?_eq_none (by omega)]
/-- a, *b = a list -/
def gTail (K : PySem.W.Frag) (t1 t2 : TG) : TG := fun v σ H Q => ∃ a x rest, v = .ref a ∧ SqL K H a (x :: rest) ∧ ∀ p, H p = none → t1 x σ (upd H p (.lst rest)) fun σ1 H1 => t2 (.ref p) σ1 H1 Q
theorem pg_tail {X : Cx} {e1 e2 : Expr} {p2 pos : Pos} {k : Nat} {t1 t2 : TG} (hc : X.calm = true) (h1 : PG X e1 t1) (h2 : PG X e2 t2)
    (hs : assignEach [e1, .Starred e2 p2] X.env = [(false, assign e1 X.env), (true, assign e2 X.env)] := by rfl) : PG X (.Tuple [e1, .Starred e2 p2] k pos) (gTail X.K t1 t2) := by
  refine ⟨fun pins s σ H v u Q I r hw => ?_⟩
  obtain ⟨a, x, rest, rfl, hq, hw⟩ := hw
  obtain rfl : u = Value.ref a := r
  obtain ⟨its, rv, pl, hz⟩ := I.list hq
  cases rv with
  | @cons _ y _ ys rx rr =>
  have hh := I.ok.hd hc
  have hl := pl.isList
  have hll : rest.length = ys.length := rr.length
  have hlt : a < s.heap.objs.size := by
    obtain ⟨o, ho, _⟩ := hl
    exact Heap.lt_size ho
  have W := (Walks.list (prog := X.prog) (w := X.w) (A := X.A.in1) hh s.heap.objs.size a (Nat.ne_of_lt hlt) (y :: ys).toArray).toS
  rw [assign_Tuple, hs]
  refine wpAny_bind (wpAny_standAt ?_)
  unfold unpack
  refine wpAny_bind (wpAny_holding ?_)
  show wpAny _ _ (unpackItems (.ref a) 2 (some 1)) _ _ s
  unfold unpackItems
  refine wpAny_bind ?_
  unfold notIterableAtAll
  refine wpAny_bind (wpAny_specialOf hl.typeIs PySem.F.slot_list_iter.lookup ?_)
  refine wpAny_pure ?_
  simp only [Bool.false_eq_true, if_false]
  refine wpAny_bind (wpAny_holding (wpAny_pyIter_list hl ?_))
  have hn : (y :: ys).toArray.size = ys.length + 1 := by simp
  rw [hn] at W
  refine wpAny_bind (wpAny_holding ?_)
  show wpAny _ _ (pyNext (.ref s.heap.objs.size) >>= _) _ _ _
  refine wpAny_bind (wpAny_pyNext_list_item (i := 0) ⟨_, Heap.get?_push_size _ rfl, rfl, rfl⟩ (hl.push _) (x := y) rfl fun h' hit' hsb => ?_)
  have hl' : h'.IsList a (y :: ys).toArray := (hl.push _).extBut hsb.extBut (Nat.ne_of_lt hlt)
  have kp' : ∀ b o, s.heap.get? b = some o → h'.get? b = some o := fun b o e => hsb.extBut b o (Nat.ne_of_lt (Heap.lt_size e)) (Heap.get?_push_of_some _ e)
  refine wpAny_bind (wpAny_holding (wpAny_pure ?_))
  refine wpAny_pure ?_
  rw [if_neg (by show ¬ (1 < 1); decide)]
  refine wpAny_bind (wpAny_holding (wpAny_collect_iter (.inr (.inr (.inl rfl))) (walk_next W) (fun i s st => st.1.typeIs) ⟨hit', hl'⟩ ?_ List.mem_cons_self (fun s' acc hm hacc => ?_) (by rw [List.length_cons] at hz; omega)))
  · intro b hb
    have e1 : s.heap.objs.size < h'.objs.size := by
      obtain ⟨o, ho, _⟩ := hit'
      exact Heap.lt_size ho
    rcases List.mem_cons.mp hb with e | e
    · rw [e]
      exact e1
    · rw [List.mem_singleton.mp e]
      exact Nat.lt_trans hlt e1
  · have e := items_tail hacc
    rw [e]
    rw [Moved.eq_with hm]
    have kp2 : ∀ b o, s.heap.get? b = some o → s'.heap.get? b = some o := fun b o q => hm.heap b o (fun z => absurd (Heap.lt_size q) (by rw [List.mem_singleton.mp z]; exact Nat.lt_irrefl _)) (kp' b o q)
    rw [if_neg (by omega), show List.take (ys.length - (2 - 1 - 1)) ys = ys by simp, show List.drop (ys.length - (2 - 1 - 1)) ys = [] by simp]
    rw [List.length_cons] at hz
    refine wpAny_bind (wpAny_newList ?_ (by omega))
    refine wpAny_pure ?_
    have I' : L2.Inv X pins σ H { s with heap := s'.heap, toks := s'.toks } := I.kept (t' := s'.toks) kp2
    have hp := I'.hok.fresh (Nat.le_refl _)
    have I1 : L2.Inv X pins σ (upd H s'.heap.objs.size (.lst rest)) { s with heap := s'.heap.push { cls := .type "list", data := .seq ys.toArray }, toks := s'.toks } :=
      I'.laid (t' := s'.toks) (fun b o q => Heap.get?_push_of_some _ q) (Nat.le_refl _) ⟨by omega, ys, _, rr, Heap.get?_push_size _ rfl⟩
    show wpAny _ _ (assignInOrder [assign e1 X.env, assign e2 X.env] [y, .ref s'.heap.objs.size]) _ _ _
    refine assignInOrder_cons (thn (h1.run pins _ σ _ x y _ I1 rx (hw _ hp)) fun _ s1 ⟨σ1, H2, I2, q2⟩ => ?_)
    exact assignInOrder_cons (thn (h2.run pins s1 σ1 H2 (.ref s'.heap.objs.size) (.ref s'.heap.objs.size) _ I2 rfl q2) fun _ s2 ⟨σ2, H3, I3, q3⟩ => assignInOrder_nil ⟨σ2, H3, I3, q3⟩)
end Lm
namespace Lm
open PySem PySem.Spec PyProof.Rows L2
/-- text * number -/
def rSMul : R2 := fun x y H Q => ∃ (z : Str) (n : Int), x = .str z ∧ y = .int n ∧ PySem.MulOk z n ∧ Q (.str (Txt.mul z n)) H
theorem op_smul {X : Cx} : OpR X (binaryOp .Mult) rSMul := by
  intro pins s σ H x y v u Q I rx ry h
  obtain ⟨z, n, rfl, rfl, ok, q⟩ := h
  obtain ⟨t, rfl⟩ := rx
  obtain ⟨t', rfl⟩ := ry
  exact PySem.SB.mul ok fun t'' tk => ⟨.str _, H, I.tok _, ⟨_, rfl⟩, q⟩
end Lm
namespace My
open PySem PySem.Spec PyProof.Rows L2 TL
/-- how a number is written -/
def decS (n : Int) : Str := Str.ofString (toString n)
theorem tl_dec {n : Int} (h : 0 ≤ n) : tl (decS n) = numL n.toNat := by
  obtain ⟨m, rfl⟩ := Int.eq_ofNat_of_zero_le h
  exact tl_num m
theorem str_ext {x y : Str} (h : tl x = tl y) : x = y := by
  rw [← mk_tl x, ← mk_tl y, h]
/-- the signs of sums, a blank ahead of each -/
def sumsT (xs : List Int) : List Nat := xs.flatMap fun x => 32 :: numL x.toNat
def headL (t d c : Int) : List Nat := numL t.toNat ++ 32 :: (numL d.toNat ++ 32 :: numL c.toNat)
/-- a letter's text -/
def letT (t d c : Int) (xs : List Int) : Str := ⟨(headL t d c ++ 58 :: sumsT xs).toArray⟩
theorem tl_let (t d c : Int) (xs : List Int) : tl (letT t d c xs) = headL t d c ++ 58 :: sumsT xs := rfl
theorem joinL_nil : ∀ ps : List (List Nat), joinL [] ps = ps.flatten
  | [] => rfl
  | [p] => by
    show p = _
    rw [List.flatten_cons, List.flatten_nil, List.append_nil]
  | p :: q :: r => by
    show p ++ ([] ++ joinL [] (q :: r)) = _
    rw [joinL_nil (q :: r), List.nil_append]
    rfl
theorem joinL_cons (p : List Nat) : ∀ xs : List Int, joinL [32] (p :: xs.map fun x => numL x.toNat) = p ++ sumsT xs
  | [] => by
    show p = _
    unfold sumsT
    rw [List.flatMap_nil, List.append_nil]
  | x :: r => by
    show p ++ ([32] ++ joinL [32] (numL x.toNat :: r.map fun x => numL x.toNat)) = _
    rw [joinL_cons (numL x.toNat) r]
    unfold sumsT
    rw [List.flatMap_cons]
    rfl
structure LetOk (t d c : Int) (xs : List Int) : Prop where
  t0 : 0 ≤ t
  t1 : t < 10 ^ 60
  d0 : 0 ≤ d
  d1 : d < 10 ^ 60
  c0 : 0 ≤ c
  c1 : c < 97
  len : xs.length ≤ 96
  ok : ∀ z ∈ xs, 0 ≤ z ∧ z < 97
theorem map_dec {xs : List Int} (h : ∀ z ∈ xs, 0 ≤ z ∧ z < 97) : (xs.map decS).map tl = xs.map fun x => numL x.toNat := by
  rw [List.map_map]
  refine List.map_congr_left fun x hx => ?_
  exact tl_dec (h x hx).1
/-- as the law lays it out -/
theorem let_join {t d c : Int} {xs : List Int} (o : LetOk t d c xs) : Txt.join " " ([decS t, decS d, decS c ++ ":"] ++ xs.map decS) = letT t d c xs := by
  refine str_ext ?_
  rw [join_eq, tl_join, tl_let]
  show joinL [32] (tl (decS t) :: tl (decS d) :: tl (decS c ++ ":") :: (xs.map decS).map tl) = _
  rw [map_dec o.ok, tl_append, tl_dec o.t0, tl_dec o.d0, tl_dec o.c0]
  show numL t.toNat ++ ([32] ++ (numL d.toNat ++ ([32] ++ joinL [32] ((numL c.toNat ++ [58]) :: xs.map fun x => numL x.toNat)))) = _
  rw [joinL_cons]
  unfold headL
  simp [List.append_assoc]
/-- as the program writes it -/
theorem let_written {t d c : Int} {xs : List Int} (o : LetOk t d c xs) : (((((((Str.empty ++ decS t) ++ " ") ++ decS d) ++ " ") ++ decS c) ++ ":") ++ Txt.join "" (xs.map fun x => (Str.empty ++ " ") ++ decS x)) = letT t d c xs := by
  refine str_ext ?_
  rw [tl_append, join_eq, tl_join]
  rw [show tl ("" : Str) = [] from rfl, joinL_nil, tl_let]
  rw [tl_append, tl_append, tl_append, tl_append, tl_append, tl_append, tl_dec o.t0, tl_dec o.d0, tl_dec o.c0]
  have e : (List.map tl (xs.map fun x => (Str.empty ++ " ") ++ decS x)).flatten = sumsT xs := by
    unfold sumsT
    rw [List.map_map, List.flatMap_def]
    congr 1
    refine List.map_congr_left fun x hx => ?_
    show tl ((Str.empty ++ " ") ++ decS x) = _
    rw [tl_append, tl_append, tl_dec (o.ok x hx).1]
    rfl
  rw [e]
  show ((((([] ++ numL t.toNat) ++ [32]) ++ numL d.toNat) ++ [32]) ++ numL c.toNat) ++ [58] ++ sumsT xs = _
  unfold headL
  simp [List.append_assoc]
theorem let_part {t d c : Int} {xs : List Int} (o : LetOk t d c xs) : Txt.partition (letT t d c xs) ":" = ((⟨(headL t d c).toArray⟩ : Str), (":" : Str), (⟨(sumsT xs).toArray⟩ : Str)) := by
  have e : letT t d c xs = (⟨(headL t d c).toArray⟩ : Str) ++ ":" ++ (⟨(sumsT xs).toArray⟩ : Str) := by
    refine str_ext ?_
    rw [tl_append, tl_append, tl_let]
    show _ = (headL t d c ++ [58]) ++ sumsT xs
    simp [List.append_assoc]
  rw [e]
  refine partition_app (s := 58) (S := []) rfl ?_
  show 58 ∉ headL t d c
  unfold headL
  simp only [List.mem_append, List.mem_cons, not_or]
  exact ⟨numL_free (.inr (by decide)), by decide, numL_free (.inr (by decide)), by decide, numL_free (.inr (by decide))⟩
theorem head_split {t d c : Int} {xs : List Int} (o : LetOk t d c xs) : Txt.split ⟨(headL t d c).toArray⟩ " " = [decS t, decS d, decS c] := by
  have e : (⟨(headL t d c).toArray⟩ : Str) = Txt.join " " [decS t, decS d, decS c] := by
    refine str_ext ?_
    rw [join_eq, tl_join]
    show _ = joinL [32] [tl (decS t), tl (decS d), tl (decS c)]
    rw [tl_dec o.t0, tl_dec o.d0, tl_dec o.c0]
    rfl
  rw [e]
  refine split_join (s := 32) (S := []) rfl (by decide +kernel) (by simp) fun p hp => ?_
  simp only [List.mem_cons, List.not_mem_nil, or_false] at hp
  rcases hp with rfl | rfl | rfl
  · rw [tl_dec o.t0]
    exact numL_free (.inl (by decide))
  · rw [tl_dec o.d0]
    exact numL_free (.inl (by decide))
  · rw [tl_dec o.c0]
    exact numL_free (.inl (by decide))
theorem tail_split {t d c : Int} {xs : List Int} (o : LetOk t d c xs) : Txt.split ⟨(sumsT xs).toArray⟩ " " = (("" : Str) :: xs.map decS) := by
  have e : (⟨(sumsT xs).toArray⟩ : Str) = Txt.join " " (("" : Str) :: xs.map decS) := by
    refine str_ext ?_
    rw [join_eq, tl_join]
    show _ = joinL [32] ([] :: (xs.map decS).map tl)
    rw [map_dec o.ok, joinL_cons]
    rfl
  rw [e]
  refine split_join (s := 32) (S := []) rfl (by decide +kernel) (by simp) fun p hp => ?_
  rcases List.mem_cons.mp hp with rfl | hp
  · exact fun z => nomatch z
  · obtain ⟨x, hx, rfl⟩ := List.mem_map.mp hp
    rw [tl_dec (o.ok x hx).1]
    exact numL_free (.inl (by decide))
theorem dec_len {n : Int} (h0 : 0 ≤ n) (h1 : n < 10 ^ 60) : (decS n).length ≤ 60 := by
  rw [len_tl, tl_dec h0]
  exact numL_len (by decide) (by omega)
theorem dec_pos {n : Int} (h0 : 0 ≤ n) : 0 < (decS n).length := by
  rw [len_tl, tl_dec h0]
  exact List.length_pos_iff.mpr (numL_ne _)
end My
namespace My
open PySem PySem.Spec PyProof.Rows L2 TL
theorem log_ok {n : Int} (h0 : 0 ≤ n) (h1 : n < 10 ^ 60) : n.natAbs.log2 < 1920 := by
  by_cases c : n.natAbs = 0
  · rw [c]
    decide +kernel
  · exact (Nat.log2_lt c).mpr (Nat.lt_of_lt_of_le (by omega : n.natAbs < 10 ^ 60) (by decide +kernel))
theorem lenA (x y : Str) : (x ++ y).length = x.length + y.length := by
  rw [len_tl, tl_append, List.length_append, ← len_tl, ← len_tl]
theorem sums_len : ∀ {xs : List Int}, (∀ z ∈ xs, 0 ≤ z ∧ z < 97) → (sumsT xs).length ≤ 61 * xs.length
  | [], _ => Nat.zero_le _
  | x :: r, h => by
    have ih := sums_len (xs := r) fun z hz => h z (List.mem_cons_of_mem _ hz)
    have hx := h x List.mem_cons_self
    have hl := numL_len (k := 60) (n := x.toNat) (by decide) (by omega)
    unfold sumsT at ih ⊢
    rw [List.flatMap_cons, List.length_append, List.length_cons, List.length_cons]
    omega
theorem range_at (xs : List Int) (g : Int → V) : (List.range xs.length).map (fun i => g (xs.getD i 0)) = xs.map g := by
  refine List.ext_getElem (by simp) fun k h1 h2 => ?_
  rw [List.length_map] at h2
  simp [List.getD_eq_getElem?_getD, List.getElem?_eq_getElem h2]
theorem sum_len {n : Nat} : ∀ {ys : List Str}, (∀ y ∈ ys, y.length ≤ n) → (ys.map (·.length)).sum ≤ n * ys.length
  | [], _ => Nat.zero_le _
  | y :: r, h => by
    have ih := sum_len (n := n) (ys := r) fun z hz => h z (List.mem_cons_of_mem _ hz)
    have hy := h y List.mem_cons_self
    rw [List.map_cons, List.sum_cons, List.length_cons, Nat.mul_add, Nat.mul_one]
    omega
end My
namespace My
open PySem PySem.Spec PyProof.Rows L2
/-! ### != of lists of texts -/
theorem dpStrs {K : PySem.W.Frag} {H : Hp} : ∀ ns : List Str, DpAll K H (ns.map V.str) (ns.map PyData.str)
  | [] => .nil
  | _ :: r => .cons (.str _) (dpStrs r)
theorem lay_strs : ∀ ns : List Str, (∀ n ∈ ns, PyData.strOk n = true) → PyData.canLayAll0 (ns.map PyData.str) = true
  | [], _ => by simp [PyData.canLayAll0]
  | n :: r, h => by simp [PyData.canLayAll0, PyData.canLay0, lay_strs r fun m hm => h m (List.mem_cons_of_mem _ hm), h n List.mem_cons_self]
theorem depth_strs : ∀ ns : List Str, PyData.depthAll (ns.map PyData.str) ≤ 1
  | [] => by simp [PyData.depthAll]
  | n :: r => by
    have h := depth_strs r
    simp only [List.map_cons, PyData.depthAll, PyData.depth]
    omega
theorem shaped_lstS (ns : List Str) (ok : ∀ n ∈ ns, PyData.strOk n = true) : SeqAt.shaped (.list (ns.map PyData.str)) = true := by
  have h := depth_strs ns
  show (_ && decide (_ ≤ 64)) = true
  rw [Bool.and_eq_true]
  exact ⟨by simp only [PyData.canLay0]; exact lay_strs ns ok, decide_eq_true (by simp only [PyData.depth]; omega)⟩
theorem neLS {K : PySem.W.Frag} {H : Hp} {a b : Addr} {ns : List Str} {Q : VK} (ha : SqL K H a (ns.map V.str)) (hb : SqL K H b []) (ok : ∀ n ∈ ns, PyData.strOk n = true) (q : Q (.bl (!decide (ns = []))) H) : rNeD K (.ref a) (.ref b) H Q := by
  refine ⟨_, _, .lst ha (dpStrs ns), .lst hb .nil, shaped_lstS ns ok, shaped_lstS [] fun _ z => (nomatch z), ?_⟩
  have e : PyData.eqv (.list (ns.map PyData.str)) (.list []) = decide (ns = []) := by
    rw [PyData.eqv]
    cases ns with
    | nil => simp [PyData.eqvAll]
    | cons n r => simp [PyData.eqvAll]
  rw [e]
  exact q
end My
namespace My
open PySem PySem.Spec PyProof.Rows L2 TL
def figB (c : Nat) : Bool := decide (c ∈ ("0123456789" : Str).cps.toList)
/-- the number that a word writes -/
def numO (w : Str) : Option Int := if w = "" ∨ 60 < w.length then none else if (TL.tl w).any (fun c => !figB c) = true then none else if (TL.tl w)[0]? = some 48 ∧ w ≠ "0" then none else intText? w
def optV : Option Int → V
  | none => .non
  | some n => .int n
theorem fig_digit {c : Nat} (h : figB c = true) : 48 ≤ c ∧ c ≤ 57 := by
  have h := of_decide_eq_true h
  have : ∀ c ∈ ("0123456789" : Str).cps.toList, 48 ≤ c ∧ c ≤ 57 := by decide +kernel
  exact this c h
theorem num_int {w : Str} (h0 : w ≠ "") (h1 : w.length ≤ 60) (h2 : (TL.tl w).any (fun c => !figB c) = false) : ∃ n, intText? w = some n := by
  refine ⟨_, intText_digits (x := w) (fun c hc => ?_) (fun e => h0 ?_) (by omega)⟩
  · have := List.any_eq_false.mp h2 c hc
    refine fig_digit ?_
    cases e : figB c with
    | true => rfl
    | false =>
      rw [e] at this
      exact absurd rfl this
  · exact str_ext e
def sp_number_by : Sp := fun vs H Q _ => ∃ w : Str, vs = [.str w] ∧ w.length ≤ 9000 ∧ ∀ H', Same H H' → Q (optV (numO w)) H'
theorem range_any (w : Str) : (List.range w.cps.size).map (fun i => V.bl (!figB (w.cps.toList.getD i 0))) = ((TL.tl w).map fun c => !figB c).map V.bl := by
  refine List.ext_getElem (by simp [TL.tl]) fun k h1 h2 => ?_
  have h3 : k < w.cps.toList.length := by
    rw [List.length_map, List.length_range] at h1
    rwa [Array.length_toList]
  rw [List.getElem_map, List.getElem_map, List.getElem_map, List.getElem_range, List.getD_eq_getElem?_getD, List.getElem?_eq_getElem h3]
  rfl
end My
namespace My
open PySem PySem.Spec PyProof.Rows L2 TL
theorem spl_ne (S : List Nat) : ∀ (l : List Nat) (k : Nat) (acc : List Nat), spl S k acc l ≠ []
  | [], k, acc => by
    rw [spl_nil]
    exact List.cons_ne_nil _ _
  | c :: r, k + 1, acc => by
    show spl S k acc r ≠ []
    exact spl_ne S r k acc
  | c :: r, 0, acc => by
    by_cases h : pre S (c :: r) = true
    · rw [spl_hit h]
      exact List.cons_ne_nil _ _
    · rw [spl_miss (by simpa using h)]
      exact spl_ne S r 0 _
theorem spl_len (S : List Nat) : ∀ (l : List Nat) (k : Nat) (acc : List Nat), (spl S k acc l).length ≤ l.length + 1
  | [], k, acc => by
    rw [spl_nil]
    exact Nat.le_refl _
  | c :: r, k + 1, acc => Nat.le_trans (spl_len S r k acc) (by rw [List.length_cons]; omega)
  | c :: r, 0, acc => by
    by_cases h : pre S (c :: r) = true
    · rw [spl_hit h, List.length_cons, List.length_cons]
      exact Nat.succ_le_succ (spl_len S r _ _)
    · rw [spl_miss (by simpa using h), List.length_cons]
      exact Nat.le_trans (spl_len S r 0 _) (by omega)
theorem spl_part (S : List Nat) : ∀ (l : List Nat) (k : Nat) (acc p : List Nat), p ∈ spl S k acc l → p.length ≤ acc.length + l.length ∧ ∀ c ∈ p, c ∈ acc ∨ c ∈ l
  | [], k, acc, p, h => by
    rw [spl_nil] at h
    rw [List.mem_singleton.mp h]
    exact ⟨Nat.le_refl _, fun c hc => .inl hc⟩
  | c :: r, k + 1, acc, p, h => by
    obtain ⟨h1, h2⟩ := spl_part S r k acc p h
    exact ⟨by rw [List.length_cons]; omega, fun d hd => (h2 d hd).imp id (List.mem_cons_of_mem _)⟩
  | c :: r, 0, acc, p, h => by
    by_cases e : pre S (c :: r) = true
    · rw [spl_hit e] at h
      rcases List.mem_cons.mp h with rfl | h
      · exact ⟨Nat.le_add_right _ _, fun d hd => .inl hd⟩
      · obtain ⟨h1, h2⟩ := spl_part S r _ _ p h
        exact ⟨by rw [List.length_cons]; simp only [List.length_nil] at h1; omega, fun d hd => (h2 d hd).elim (fun z => nomatch z) fun z => .inr (List.mem_cons_of_mem _ z)⟩
    · rw [spl_miss (by simpa using e)] at h
      obtain ⟨h1, h2⟩ := spl_part S r 0 _ p h
      refine ⟨by rw [List.length_append] at h1; simp only [List.length_cons, List.length_nil] at h1 ⊢; omega, fun d hd => ?_⟩
      rcases h2 d hd with z | z
      · rcases List.mem_append.mp z with z | z
        · exact .inl z
        · exact .inr (by rw [List.mem_singleton.mp z]; exact List.mem_cons_self)
      · exact .inr (List.mem_cons_of_mem _ z)
theorem blank_split (x : Str) : (Txt.split x " ").map TL.tl = spl [32] 0 [] (TL.tl x) := split_spl x " " (fun z => nomatch z) (kind_ok (by decide +kernel))
theorem words_ne (x : Str) : Txt.split x " " ≠ [] := fun e => spl_ne [32] (TL.tl x) 0 [] (by rw [← blank_split, e]; rfl)
theorem words_len (x : Str) : (Txt.split x " ").length ≤ x.length + 1 := by
  have h := spl_len [32] (TL.tl x) 0 []
  rwa [← blank_split, List.length_map, ← len_tl] at h
theorem words_part {x w : Str} (h : w ∈ Txt.split x " ") : w.length ≤ x.length ∧ ∀ c ∈ TL.tl w, c ∈ TL.tl x := by
  have h2 : TL.tl w ∈ spl [32] 0 [] (TL.tl x) := by
    rw [← blank_split]
    exact List.mem_map.mpr ⟨w, h, rfl⟩
  obtain ⟨h3, h4⟩ := spl_part _ _ _ _ _ h2
  simp only [List.length_nil] at h3
  exact ⟨by rw [len_tl, len_tl]; omega, fun c hc => (h4 c hc).elim (fun z => nomatch z) id⟩
theorem pre_58 (c : Nat) (r : List Nat) : pre [58] (c :: r) = decide (c = 58) := by
  show (List.take 1 (c :: r) == [58]) = _
  rw [List.take_succ_cons, List.take_zero]
  by_cases h : c = 58
  · rw [h]
    rfl
  · rw [decide_eq_false h]
    simp [h]
/-- where the first colon stands -/
theorem colon_cut (l : List Nat) : 58 ∉ l ∨ ∃ a b, l = a ++ 58 :: b ∧ 58 ∉ a := by
  induction l with
  | nil => exact .inl fun z => nomatch z
  | cons c r ih =>
    by_cases h : c = 58
    · exact .inr ⟨[], r, by rw [h]; rfl, fun z => nomatch z⟩
    · rcases ih with ih | ⟨a, b, rfl, ih⟩
      · refine .inl fun z => ?_
        rcases List.mem_cons.mp z with e | e
        · exact h e.symm
        · exact ih e
      · refine .inr ⟨c :: a, b, rfl, fun z => ?_⟩
        rcases List.mem_cons.mp z with e | e
        · exact h e.symm
        · exact ih e
theorem part_cut (z : Str) : (58 ∉ TL.tl z ∧ Txt.partition z ":" = (z, Str.empty, Str.empty)) ∨ ∃ a b, TL.tl z = a ++ 58 :: b ∧ 58 ∉ a ∧ Txt.partition z ":" = ((⟨a.toArray⟩ : Str), (":" : Str), (⟨b.toArray⟩ : Str)) := by
  rcases colon_cut (TL.tl z) with h | ⟨a, b, h1, h2⟩
  · exact .inl ⟨h, partition_none (s := 58) (S := []) rfl h⟩
  · refine .inr ⟨a, b, h1, h2, ?_⟩
    have e : z = (⟨a.toArray⟩ : Str) ++ ":" ++ (⟨b.toArray⟩ : Str) := by
      refine str_ext ?_
      rw [tl_append, tl_append, h1]
      show _ = (a ++ [58]) ++ b
      simp [List.append_assoc]
    rw [e]
    exact partition_app (s := 58) (S := []) rfl h2
/-- the words ahead of the colon, and behind it -/
def hdS (z : Str) : List Str := Txt.split (Txt.partition z ":").1 " "
def tlS (z : Str) : List Str := Txt.split (Txt.partition z ":").2.2 " "
theorem part_len (z : Str) : (Txt.partition z ":").1.length ≤ z.length ∧ (Txt.partition z ":").2.2.length ≤ z.length := by
  rcases part_cut z with ⟨_, e⟩ | ⟨a, b, e1, _, e⟩
  · rw [e]
    exact ⟨Nat.le_refl _, Nat.zero_le _⟩
  · rw [e, len_tl z, e1, List.length_append, List.length_cons]
    rw [len_tl, len_tl]
    show a.length ≤ _ ∧ b.length ≤ _
    omega
/-- whether what stands there is a letter -/
def letB (ho wo : List (Option Int)) : Bool := decide (ho.length = 3) && (decide (wo.length ≤ 96) && (wholeB (optV (ho.getD 0 none)) && (wholeB (optV (ho.getD 1 none)) && (optV (ho.getD 2 none) :: wo.map optV).all restB)))
def good (z : Str) : Bool := decide ((Txt.partition z ":").2.1 ≠ "") && (decide ((tlS z).getD 0 "" = "") && letB ((hdS z).map numO) ((tlS z).tail.map numO))
theorem optV_known {H : Hp} : ∀ o : Option Int, Known H (optV o)
  | none => .non
  | some n => .int n
theorem let_B {H : Hp} {r s : Addr} {ho wo : List (Option Int)} (hr : H r = some (.tup (ho.map optV ++ [.ref s]))) (hs : H s = some (.tup (wo.map optV))) : LetK H (.ref r) (letB ho wo) := by
  unfold letB
  by_cases h3 : ho.length = 3
  · rw [decide_eq_true h3, Bool.true_and]
    match ho, h3, hr with
    | [a, b, c], _, hr =>
      by_cases h96 : wo.length ≤ 96
      · rw [decide_eq_true h96, Bool.true_and]
        exact .four hr hs (by rw [List.length_map]; exact h96) (optV_known a) (optV_known b) (optV_known c) (fun x hx => by
          obtain ⟨o, _, rfl⟩ := List.mem_map.mp hx
          exact optV_known o) rfl
      · rw [decide_eq_false h96, Bool.false_and]
        exact .many hr hs (by rw [List.length_map]; omega)
  · rw [decide_eq_false h3, Bool.false_and]
    exact .len hr (by rw [List.length_append, List.length_map]; show _ + 1 ≠ 4; omega)
def sp_read (C : Addr) : Sp := fun vs H Q E => ∃ z : Str, vs = [.str z] ∧ z.length ≤ 9000 ∧ (good z = false → ∀ H', Same H H' → E (.ref C) none H') ∧
  (good z = true → ∀ (r s : Addr) H', Same H H' → H' r = some (.tup ((hdS z).map (fun w => optV (numO w)) ++ [.ref s])) → H' s = some (.tup ((tlS z).tail.map fun w => optV (numO w))) → Q (.ref r) H')
end My
namespace My
open PySem PySem.Spec PyProof.Rows L2 TL
/-- the number that a word writes, none beyond m -/
def numM (w : Str) : Option Int → Option Int
  | none => numO w
  | some k => (numO w).bind fun n => if k < n then none else some n
def sp__law_number : Sp := fun vs H Q _ => ∃ (w : Str) (most : V) (m : Option Int), vs = [.str w, most] ∧ w.length ≤ 9000 ∧ (∀ c ∈ TL.tl w, c < 0x110000) ∧ ((most = .non ∧ m = none) ∨ ∃ k, most = .int k ∧ m = some k) ∧ ∀ H', Same H H' → Q (optV (numM w m)) H'
theorem numM_none {w : Str} {m : Option Int} (h : numO w = none) : numM w m = none := by
  cases m with
  | none => exact h
  | some k =>
    show (numO w).bind _ = none
    rw [h]
    rfl
theorem filt_any (w : Str) (f : Nat → Bool) : (((List.range w.cps.size).filter fun i => f (w.cps.toList.getD i 0)) = []) ↔ (TL.tl w).any f = false := by
  rw [List.filter_eq_nil_iff, List.any_eq_false]
  constructor
  · intro h c hc
    obtain ⟨i, hi⟩ := List.mem_iff_getElem?.mp hc
    have hlt : i < w.cps.toList.length := (List.getElem?_eq_some_iff.mp hi).1
    have z := h i (List.mem_range.mpr (by rwa [Array.length_toList] at hlt))
    rw [List.getD_eq_getElem?_getD, show w.cps.toList[i]? = some c from hi] at z
    exact z
  · intro h i hi
    have hlt : i < w.cps.toList.length := by
      rw [Array.length_toList]
      exact List.mem_range.mp hi
    rw [List.getD_eq_getElem?_getD, List.getElem?_eq_getElem hlt]
    exact h _ (List.getElem_mem hlt)
end My
namespace My
open PySem PySem.Spec PyProof.Rows L2 TL
theorem at_58 (z : Str) (i : Nat) : StrLaws.At z ":" z.length i ↔ (TL.tl z)[i]? = some 58 := StrLaws.subAt_one z 58 i
theorem find_no {z : Str} (h : 58 ∉ TL.tl z) : Txt.find z ":" = -1 := by
  unfold Txt.find
  rcases StrLaws.occ_head z ":" 1 (Nat.le_refl 1) with ⟨h0, _⟩ | ⟨i, r, h0, hi, _⟩
  · rw [h0]
  · exact absurd (List.mem_of_getElem? ((at_58 z i).mp hi)) h
theorem find_yes {z : Str} {a b : List Nat} (e : TL.tl z = a ++ 58 :: b) (h : 58 ∉ a) : Txt.find z ":" = (a.length : Int) := by
  have ha : (TL.tl z)[a.length]? = some 58 := by
    rw [e, List.getElem?_append_right (Nat.le_refl _), Nat.sub_self]
    rfl
  unfold Txt.find
  rcases StrLaws.occ_head z ":" 1 (Nat.le_refl 1) with ⟨_, hn⟩ | ⟨i, r, h0, hi, hn⟩
  · exact absurd ((at_58 z _).mpr ha) (hn _)
  · rw [h0]
    show ((i : Nat) : Int) = _
    have h1 := (at_58 z i).mp hi
    have e2 : i = a.length := by
      rcases Nat.lt_trichotomy i a.length with c | c | c
      · rw [e, List.getElem?_append_left c] at h1
        exact absurd (List.mem_of_getElem? h1) h
      · exact c
      · exact absurd ((at_58 z _).mpr ha) (hn _ c)
    rw [e2]
theorem cut_to {z : Str} {a b : List Nat} (e : TL.tl z = a ++ 58 :: b) : cutS z none (some (a.length : Int)) = (⟨a.toArray⟩ : Str) := by
  have hl : z.length = a.length + (b.length + 1) := by
    rw [len_tl, e, List.length_append, List.length_cons]
  refine str_ext ?_
  have h0 : HT.sIx z.length 0 none = 0 := rfl
  have h1 : HT.sIx z.length z.length (some (a.length : Int)) = a.length := by
    rw [HT.sIx_nat]
    omega
  show ((z.cps.toList.drop (HT.sIx z.length 0 none)).take (HT.sIx z.length z.length (some (a.length : Int)) - HT.sIx z.length 0 none)) = a
  rw [h0, h1, List.drop_zero, Nat.sub_zero, show z.cps.toList = a ++ 58 :: b from e, List.take_left']
  rfl
theorem cut_from {z : Str} {j : Nat} (h : j ≤ z.length) : TL.tl (cutS z (some (j : Int)) none) = (TL.tl z).drop j := by
  have h0 : HT.sIx z.length 0 (some (j : Int)) = j := by
    rw [HT.sIx_nat]
    omega
  have h1 : HT.sIx z.length z.length none = z.length := rfl
  show ((z.cps.toList.drop (HT.sIx z.length 0 (some (j : Int)))).take (HT.sIx z.length z.length none - HT.sIx z.length 0 (some (j : Int)))) = _
  rw [h0, h1]
  exact List.take_of_length_le (by rw [List.length_drop, Array.length_toList]; exact Nat.le_refl _)
end My
namespace My
open PySem PySem.Spec PyProof.Rows L2 TL
theorem numO_nn {w : Str} {n : Int} (h : numO w = some n) : 0 ≤ n := by
  unfold numO at h
  split at h
  · cases h
  · rename_i c1
    split at h
    · cases h
    · rename_i c2
      split at h
      · cases h
      · obtain ⟨c3, c4⟩ := not_or.mp c1
        have e := intText_digits (x := w) (fun c hc => fig_digit (by
          have z := List.any_eq_false.mp (Bool.not_eq_true _ ▸ c2 : (TL.tl w).any (fun c => !figB c) = false) c hc
          cases e : figB c with
          | true => rfl
          | false =>
            rw [e] at z
            exact absurd rfl z)) (fun e => c3 (str_ext e)) (by omega)
        rw [e] at h
        rw [← Option.some.inj h]
        exact Int.natCast_nonneg _
theorem whole_num (w : Str) : wholeB (optV (numO w)) = (numM w none).isSome := by
  show _ = (numO w).isSome
  cases h : numO w with
  | none => rfl
  | some n => exact decide_eq_true (numO_nn h)
theorem rest_num (w : Str) : restB (optV (numO w)) = (numM w (some 96)).isSome := by
  show _ = ((numO w).bind fun n => if (96 : Int) < n then none else some n).isSome
  cases h : numO w with
  | none => rfl
  | some n =>
    show (decide (0 ≤ n) && decide (n < 97)) = (if (96 : Int) < n then none else some n).isSome
    rw [decide_eq_true (numO_nn h), Bool.true_and]
    by_cases c : 96 < n
    · rw [if_pos c, decide_eq_false (by omega)]
      rfl
    · rw [if_neg c, decide_eq_true (by omega)]
      rfl
theorem num_rest {w : Str} (h : (numM w (some 96)).isSome = true) : numM w (some 96) = numO w := by
  cases e : numO w with
  | none =>
    rw [numM_none e] at h
    cases h
  | some n =>
    have z : numM w (some 96) = if (96 : Int) < n then none else some n := by
      show (numO w).bind _ = _
      rw [e]
      rfl
    rw [z] at h ⊢
    by_cases c : 96 < n
    · rw [if_pos c] at h
      cases h
    · rw [if_neg c]
/-- what the law's own reader looks at -/
theorem good_num {z h0 h1 h2 : Str} {ys : List Str} (hp : (Txt.partition z ":").2.1 ≠ "") (eh : hdS z = [h0, h1, h2]) (et : tlS z = ("" : Str) :: ys) :
    good z = (decide (ys.length ≤ 96) && ((numM h0 none).isSome && ((numM h1 none).isSome && ((numM h2 (some 96)).isSome && ys.all fun y => (numM y (some 96)).isSome)))) := by
  unfold good letB
  rw [eh, et, decide_eq_true hp, decide_eq_true (show ((("" : Str) :: ys).getD 0 "" = "") from rfl), Bool.true_and, Bool.true_and]
  show (decide ((3 : Nat) = 3) && (decide ((ys.map numO).length ≤ 96) && (wholeB (optV (numO h0)) && (wholeB (optV (numO h1)) && (optV (numO h2) :: (ys.map numO).map optV).all restB)))) = _
  rw [decide_eq_true rfl, Bool.true_and, List.length_map, whole_num, whole_num, List.all_cons, rest_num, List.all_map, List.all_map]
  congr 4
  refine List.all_congr rfl fun y => ?_
  exact rest_num y
end My
namespace My
open PySem PySem.Spec PyProof.Rows L2 TL
def sp__law_read : Sp := fun vs H Q _ => ∃ z : Str, vs = [.str z] ∧ z.length ≤ 9000 ∧ (∀ c ∈ TL.tl z, c < 0x110000) ∧ (good z = false → ∀ H', Same H H' → Q .non H') ∧
  (good z = true → ∀ (r s : Addr) H', Same H H' → H' r = some (.tup ((hdS z).map (fun w => optV (numO w)) ++ [.ref s])) → H' s = some (.tup ((tlS z).tail.map fun w => optV (numO w))) → Q (.ref r) H')
theorem spl_head (S : List Nat) : ∀ (l acc : List Nat), ∃ q rest, spl S 0 acc l = (acc ++ q) :: rest
  | [], acc => ⟨[], [], by rw [spl_nil, List.append_nil]⟩
  | c :: r, acc => by
    by_cases e : pre S (c :: r) = true
    · exact ⟨[], _, by rw [spl_hit e, List.append_nil]⟩
    · obtain ⟨q, rest, h⟩ := spl_head S r (acc ++ [c])
      exact ⟨c :: q, rest, by rw [spl_miss (by simpa using e), h, List.append_assoc]; rfl⟩
theorem pre_32 (c : Nat) (r : List Nat) : pre [32] (c :: r) = decide (c = 32) := by
  show (List.take 1 (c :: r) == [32]) = _
  rw [List.take_succ_cons, List.take_zero]
  by_cases h : c = 32
  · rw [h]
    rfl
  · rw [decide_eq_false h]
    simp [h]
theorem split_nil : Txt.split (⟨([] : List Nat).toArray⟩ : Str) " " = [("" : Str)] := by
  refine map_tl_inj ?_
  rw [blank_split]
  show spl [32] 0 [] [] = [[]]
  rw [spl_nil]
theorem split_blank (r : List Nat) : Txt.split (⟨(32 :: r).toArray⟩ : Str) " " = ("" : Str) :: Txt.split (⟨r.toArray⟩ : Str) " " := by
  refine map_tl_inj ?_
  rw [blank_split, List.map_cons, blank_split]
  show spl [32] 0 [] (32 :: r) = [] :: spl [32] 0 [] r
  rw [spl_hit (by rw [pre_32]; rfl)]
  rfl
theorem split_other {c : Nat} {r : List Nat} (h : c ≠ 32) : (Txt.split (⟨(c :: r).toArray⟩ : Str) " ").getD 0 "" ≠ "" := by
  have e := blank_split (⟨(c :: r).toArray⟩ : Str)
  have e2 : spl [32] 0 [] (TL.tl (⟨(c :: r).toArray⟩ : Str)) = spl [32] 0 [c] r := by
    show spl [32] 0 [] (c :: r) = _
    rw [spl_miss (by rw [pre_32, decide_eq_false h])]
    rfl
  obtain ⟨q, rest, e3⟩ := spl_head [32] r [c]
  rw [e2, e3] at e
  cases hs : Txt.split (⟨(c :: r).toArray⟩ : Str) " " with
  | nil =>
    rw [hs] at e
    cases e
  | cons x y =>
    rw [hs] at e
    intro z
    have z : x = "" := z
    rw [z] at e
    cases (List.cons.inj e).1
theorem cut_at {z : Str} {j : Nat} {i : Int} (hi : i = (j : Int)) (h : j ≤ z.length) : TL.tl (cutS z (some i) none) = (TL.tl z).drop j := by
  rw [hi]
  exact cut_from h
theorem none_in (os : List (Option Int)) : inV .non (os.map optV) = os.any fun o => !o.isSome := by
  show (os.map optV).any (fun y => eqV y .non) = _
  rw [List.any_map]
  refine List.any_congr rfl fun o => ?_
  cases o <;> rfl
theorem any3 (a b c : Option Int) : ([a, b, c].any fun o => !o.isSome) = !(a.isSome && (b.isSome && c.isSome)) := by
  cases a <;> cases b <;> cases c <;> rfl
theorem anyM (g : Str → Option Int) : ∀ ys : List Str, ((ys.map g).any fun o => !o.isSome) = !(ys.all fun y => (g y).isSome)
  | [] => rfl
  | y :: r => by
    rw [List.map_cons, List.any_cons, List.all_cons, anyM g r, Bool.not_and]
theorem flat_opt (os : List (Option Int)) : (os.map optV).all flatV = true := by
  rw [List.all_eq_true]
  intro x hx
  obtain ⟨o, _, rfl⟩ := List.mem_map.mp hx
  cases o <;> rfl
end My
namespace My
open PySem PySem.Spec PyProof.Rows L2 TL
def okS (z : Str) : Prop := ∀ c ∈ TL.tl z, c < 0x110000
theorem sums_len2 : ∀ {xs : List Int}, (∀ z ∈ xs, 0 ≤ z ∧ z < 97) → (sumsT xs).length ≤ 3 * xs.length
  | [], _ => Nat.zero_le _
  | x :: r, h => by
    have ih := sums_len2 (xs := r) fun z hz => h z (List.mem_cons_of_mem _ hz)
    have hx := h x List.mem_cons_self
    have hl := numL_len (k := 2) (n := x.toNat) (by decide) (by omega)
    unfold sumsT at ih ⊢
    rw [List.flatMap_cons, List.length_append, List.length_cons, List.length_cons]
    omega
theorem let_short {t d c : Int} {xs : List Int} (o : LetOk t d c xs) : (letT t d c xs).length ≤ 500 := by
  rw [len_tl, tl_let]
  have h1 := numL_len (k := 60) (n := t.toNat) (by decide) (by have := o.t0; have := o.t1; omega)
  have h2 := numL_len (k := 60) (n := d.toNat) (by decide) (by have := o.d0; have := o.d1; omega)
  have h3 := numL_len (k := 60) (n := c.toNat) (by decide) (by have := o.c0; have := o.c1; omega)
  have h4 := sums_len2 o.ok
  have h5 := o.len
  unfold headL
  simp only [List.length_append, List.length_cons]
  omega
theorem numL_ok {n c : Nat} (h : c ∈ numL n) : c < 0x110000 := by
  have r := numL_digits n c h
  omega
theorem let_signs (t d c : Int) (xs : List Int) : okS (letT t d c xs) := by
  intro e he
  rw [tl_let] at he
  unfold headL at he
  simp only [List.mem_append, List.mem_cons] at he
  rcases he with (he | he | he | he | he) | he | he
  · exact numL_ok he
  · omega
  · exact numL_ok he
  · omega
  · exact numL_ok he
  · omega
  · obtain ⟨x, _, hx⟩ := List.mem_flatMap.mp he
    rcases List.mem_cons.mp hx with h | h
    · omega
    · exact numL_ok h
theorem joinL_len : ∀ ps : List (List Nat), (joinL [32] ps).length ≤ (ps.map fun p => p.length + 1).sum
  | [] => Nat.le_refl _
  | [p] => by
    show p.length ≤ p.length + 1 + 0
    omega
  | p :: q :: r => by
    have ih := joinL_len (q :: r)
    show (p ++ ([32] ++ joinL [32] (q :: r))).length ≤ _
    rw [List.length_append, List.length_append, List.map_cons, List.sum_cons]
    show p.length + (1 + _) ≤ _
    omega
theorem joinL_mem : ∀ (ps : List (List Nat)) {c : Nat}, c ∈ joinL [32] ps → c = 32 ∨ ∃ p ∈ ps, c ∈ p
  | [], _, h => nomatch h
  | [p], _, h => .inr ⟨p, List.mem_singleton.mpr rfl, h⟩
  | p :: q :: r, c, h => by
    have h : c ∈ p ++ ([32] ++ joinL [32] (q :: r)) := h
    rcases List.mem_append.mp h with h | h
    · exact .inr ⟨p, List.mem_cons_self, h⟩
    · rcases List.mem_append.mp h with h | h
      · exact .inl (List.mem_singleton.mp h)
      · rcases joinL_mem (q :: r) h with h | ⟨p', h1, h2⟩
        · exact .inl h
        · exact .inr ⟨p', List.mem_cons_of_mem _ h1, h2⟩
theorem spl_sum : ∀ (l acc : List Nat), ((spl [32] 0 acc l).map fun p => p.length + 1).sum = acc.length + l.length + 1
  | [], acc => by
    rw [spl_nil]
    rfl
  | c :: r, acc => by
    by_cases h : pre [32] (c :: r) = true
    · rw [spl_hit h, List.map_cons, List.sum_cons]
      have ih := spl_sum r []
      have e : ((spl [32] ([32].length - 1) [] r).map fun p => p.length + 1).sum = _ := ih
      rw [e, List.length_cons, List.length_nil]
      omega
    · rw [spl_miss (by simpa using h), spl_sum r (acc ++ [c]), List.length_append, List.length_cons, List.length_cons, List.length_nil]
      omega
theorem words_sum (x : Str) : ((Txt.split x " ").map fun w => w.length + 1).sum = x.length + 1 := by
  have h := spl_sum (TL.tl x) []
  rw [← blank_split, List.map_map, ← len_tl, List.length_nil, Nat.zero_add] at h
  rw [← h]
  congr 1
theorem sum_cut {α : Type} (f : α → Nat) {ws so : List α} {k : Nat} {w : α} (hw : ws[k]? = some w) : ((ws.take k ++ so ++ ws.drop (k + 1)).map f).sum + f w = (ws.map f).sum + (so.map f).sum := by
  obtain ⟨hk, rfl⟩ := List.getElem?_eq_some_iff.mp hw
  have e : (ws.map f).sum = ((ws.take k ++ ws[k] :: ws.drop (k + 1)).map f).sum := by
    rw [List.getElem_cons_drop, List.take_append_drop]
  rw [e]
  simp only [List.map_append, List.sum_append_nat, List.map_cons, List.sum_cons]
  omega
theorem word_change {z w : Str} {so : List Str} {k : Nat} (hw : (Txt.split z " ")[k]? = some w) (lz : z.length ≤ 9000) (hz : okS z) (hs : (so.map fun w => w.length + 1).sum ≤ w.length + 1 + z.length + 63) (h2 : ∀ w ∈ so, okS w) :
    ((((Txt.split z " ").take k ++ so ++ (Txt.split z " ").drop (k + 1)).map (·.length)).sum + ((Txt.split z " ").take k ++ so ++ (Txt.split z " ").drop (k + 1)).length * 1 ≤ 16777216) ∧
    (Txt.join " " ((Txt.split z " ").take k ++ so ++ (Txt.split z " ").drop (k + 1))).length ≤ 2 * z.length + 100 ∧ okS (Txt.join " " ((Txt.split z " ").take k ++ so ++ (Txt.split z " ").drop (k + 1))) := by
  have h1 := sum_cut (fun w : Str => w.length + 1) (so := so) hw
  rw [words_sum] at h1
  have hm : ∀ y ∈ (Txt.split z " ").take k ++ so ++ (Txt.split z " ").drop (k + 1), okS y := by
    intro y hy
    rcases List.mem_append.mp hy with hy | hy
    · rcases List.mem_append.mp hy with hy | hy
      · exact fun c hc => hz c ((words_part (List.mem_of_mem_take hy)).2 c hc)
      · exact h2 y hy
    · exact fun c hc => hz c ((words_part (List.mem_of_mem_drop hy)).2 c hc)
  generalize (Txt.split z " ").take k ++ so ++ (Txt.split z " ").drop (k + 1) = ys at h1 hm
  have e : ∀ ys : List Str, (ys.map fun w => w.length + 1).sum = (ys.map (·.length)).sum + ys.length * 1 := fun ys => by
    induction ys with
    | nil => rfl
    | cons y r ih =>
      rw [List.map_cons, List.sum_cons, ih, List.map_cons, List.sum_cons, List.length_cons]
      omega
  have h1 : (ys.map fun w => w.length + 1).sum + (w.length + 1) = z.length + 1 + (so.map fun w => w.length + 1).sum := h1
  refine ⟨by rw [← e]; omega, ?_, ?_⟩
  · rw [join_eq, len_tl, tl_join]
    have h3 := joinL_len (ys.map tl)
    rw [List.map_map] at h3
    have e2 : (ys.map ((fun p : List Nat => p.length + 1) ∘ tl)).sum = (ys.map fun w => w.length + 1).sum := by
      congr 1
    rw [e2] at h3
    exact Nat.le_trans h3 (by omega)
  · intro c hc
    rw [join_eq, tl_join] at hc
    rcases joinL_mem _ hc with h | ⟨p, h1, h2⟩
    · omega
    · obtain ⟨y, hy, rfl⟩ := List.mem_map.mp h1
      exact hm y hy c h2
theorem mul_9 {n : Int} (h : n = 61 ∨ n = 60) : PySem.MulOk "9" n := by
  rcases h with rfl | rfl <;> exact ⟨by decide, fun _ _ => by decide +kernel, fun _ _ => by decide +kernel⟩
theorem mul_5 {n : Int} (h : n = 95 ∨ n = 96 ∨ n = 97 ∨ n = 98) : PySem.MulOk " 5" n := by
  rcases h with rfl | rfl | rfl | rfl <;> exact ⟨by decide, fun _ _ => by decide +kernel, fun _ _ => by decide +kernel⟩
def okB (z : Str) : Bool := z.cps.toList.all fun c => decide (c < 0x110000)
theorem okB_ok {z : Str} (h : okB z = true) : okS z := fun c hc => of_decide_eq_true (List.all_eq_true.mp h c hc)
def oddW : List Str := ["", "00", "07", "97", "96", "-1", "+3", "5_0", PySem.Txt.mul "9" 61, PySem.Txt.mul "9" 60, "3:", ":", "~", "3 ", "100"]
theorem oddW_ok : ∀ w ∈ oddW, w.length ≤ 61 ∧ okS w := by
  have h : (oddW.all fun w => decide (w.length ≤ 61) && okB w) = true := by decide +kernel
  intro w hw
  have h2 := List.all_eq_true.mp h w hw
  rw [Bool.and_eq_true] at h2
  exact ⟨of_decide_eq_true h2.1, okB_ok h2.2⟩
def odd12 : List Str := ["", " ", ":", "0 0 0", "0 0:", "0 0 0: ", "0 0 0 :", " 0 0 0:", "0 0 0:5", "0  0 0:", "0 0 0:: 5", "0 0 0:\n"]
theorem odd13_ok {n : Int} (h : n = 95 ∨ n = 96 ∨ n = 97 ∨ n = 98) : ∀ w ∈ odd12 ++ [("0 0 0:" : Str) ++ PySem.Txt.mul " 5" n], w.length ≤ 300 ∧ okS w := by
  have h2 : ((odd12 ++ [("0 0 0:" : Str) ++ PySem.Txt.mul " 5" n]).all fun w => decide (w.length ≤ 300) && okB w) = true := by
    rcases h with rfl | rfl | rfl | rfl <;> decide +kernel
  intro w hw
  have h3 := List.all_eq_true.mp h2 w hw
  rw [Bool.and_eq_true] at h3
  exact ⟨of_decide_eq_true h3.1, okB_ok h3.2⟩
theorem cut_ok {z : Str} (h : okS z) (lo hi : Option Int) : okS (cutS z lo hi) := fun c hc => h c (List.mem_of_mem_drop (List.mem_of_mem_take hc))
theorem app_ok {x y : Str} (h1 : okS x) (h2 : okS y) : okS (x ++ y) := fun c hc => by
  rw [tl_append] at hc
  exact (List.mem_append.mp hc).elim (h1 c) (h2 c)
theorem cutV_take {xs : List V} {k : Nat} : cutV xs none (some (k : Int)) = xs.take k := by
  have h0 : HT.sIx xs.length 0 none = 0 := rfl
  unfold cutV
  rw [h0, HT.sIx_nat, List.drop_zero, Nat.sub_zero]
  by_cases h : k ≤ xs.length
  · rw [Nat.min_eq_left h]
  · rw [Nat.min_eq_right (by omega), List.take_length, List.take_of_length_le (by omega)]
theorem cutV_drop {xs : List V} {k : Nat} : cutV xs (some (k : Int)) none = xs.drop k := by
  have h0 : HT.sIx xs.length xs.length none = xs.length := rfl
  unfold cutV
  rw [h0, HT.sIx_nat, List.take_of_length_le (by rw [List.length_drop]; exact Nat.le_refl _)]
  by_cases h : k ≤ xs.length
  · rw [Nat.min_eq_left h]
  · rw [Nat.min_eq_right (by omega), List.drop_length, List.drop_of_length_le (by omega)]
end My
namespace My
open PySem PySem.Spec PyProof.Rows L2 TL
def sp__law_letter (K : PySem.W.Frag) : Sp := fun vs H Q _ => ∃ (a st : Addr), vs = [.ref st] ∧ StAt K a st H ∧ ∀ (r s : Addr) (t d c : Int) (xs : List Int) H', Go K st H H' → H' r = some (.tup [.int t, .int d, .int c, .ref s]) → H' s = some (.tup (xs.map V.int)) → LetOk t d c xs → Q (.ref r) H'
def sp__law_text : Sp := fun vs H Q _ => ∃ (r s : Addr) (t d c : Int) (xs : List Int), vs = [.ref r] ∧ H r = some (.tup [.int t, .int d, .int c, .ref s]) ∧ H s = some (.tup (xs.map V.int)) ∧ LetOk t d c xs ∧ ∀ H', Same H H' → Q (.str (letT t d c xs)) H'
def sp__law_told : Sp := fun vs H Q _ => ∃ z : Str, vs = [.str z] ∧ z.length ≤ 9000 ∧ (good z = false → ∀ H', Same H H' → Q (.bl true) H') ∧
  (good z = true → ∀ (l r s : Addr) H', Same H H' → H' l = some (.lst [.ref r]) → H' r = some (.tup ((hdS z).map (fun w => optV (numO w)) ++ [.ref s])) → H' s = some (.tup ((tlS z).tail.map fun w => optV (numO w))) → Q (.ref l) H')
def sp__law_good (K : PySem.W.Frag) : Sp := fun vs H Q _ => ∃ z : Str, vs = [.str z] ∧ z.length ≤ 9000 ∧ (∀ c ∈ TL.tl z, c < 0x110000) ∧ ∀ H', Same H H' → Q (.bl true) H'
theorem optV_same {H : Hp} {n : Nat} {x : V} {o : Option Int} (h : optV o = x) : EqV H n x x := by
  subst h
  cases o with
  | none => exact .non n
  | some i => exact .int n i
theorem eq_opts {H : Hp} {n : Nat} {p q : Addr} {ys : List Str} (hp : H p = some (.tup (ys.map fun w => optV (numO w)))) (hq : H q = some (.tup (ys.map fun w => optV (numO w)))) (hl : ys.length ≤ 1000) : EqV H (n + 1) (.ref p) (.ref q) := by
  refine .tup hp hq rfl (by rw [List.length_map]; exact hl) fun k x y hx hy => ?_
  rw [hx] at hy
  cases hy
  rw [List.getElem?_map] at hx
  cases e : ys[k]? with
  | none =>
    rw [e] at hx
    cases hx
  | some w =>
    rw [e] at hx
    exact optV_same (Option.some.inj hx)
theorem eq_let {H : Hp} {r2 u2 r s : Addr} {ws ys : List Str} (hr2 : H r2 = some (.tup (ws.map (fun w => optV (numO w)) ++ [.ref u2]))) (hs2 : H u2 = some (.tup (ys.map fun w => optV (numO w))))
    (hr : H r = some (.tup (ws.map (fun w => optV (numO w)) ++ [.ref s]))) (hs : H s = some (.tup (ys.map fun w => optV (numO w)))) (hl : ws.length ≤ 900) (hl2 : ys.length ≤ 1000) : EqV H 2 (.ref r2) (.ref r) := by
  refine .tup hr2 hr (by rw [List.length_append, List.length_append]; rfl) (by rw [List.length_append, List.length_map]; show _ + 1 ≤ _; omega) fun k x y hx hy => ?_
  by_cases c : k < ws.length
  · rw [List.getElem?_append_left (by rwa [List.length_map])] at hx hy
    rw [hx] at hy
    cases hy
    rw [List.getElem?_map, List.getElem?_eq_getElem c] at hx
    exact optV_same (Option.some.inj hx)
  · rw [List.getElem?_append_right (by rw [List.length_map]; omega), List.length_map] at hx hy
    match k - ws.length, hx, hy with
    | 0, hx, hy =>
      cases hx
      cases hy
      exact eq_opts hs2 hs hl2
    | m + 1, hx, _ => cases hx
theorem good_len {z : Str} (h : good z = true) : (hdS z).length = 3 ∧ (tlS z).tail.length ≤ 96 := by
  unfold good letB at h
  simp only [Bool.and_eq_true, decide_eq_true_eq, List.length_map] at h
  exact ⟨h.2.2.1, h.2.2.2.1⟩
def sp__law_changed (K : PySem.W.Frag) : Sp := fun vs H Q _ => ∃ (a st : Addr) (z : Str), vs = [.ref st, .str z] ∧ StAt K a st H ∧ z.length ≤ 9000 ∧ (∀ c ∈ TL.tl z, c < 0x110000) ∧
  ∀ (y : Str) H', Go K st H H' → y.length ≤ 2 * z.length + 100 → (∀ c ∈ TL.tl y, c < 0x110000) → Q (.str y) H'
def sp_law (K : PySem.W.Frag) : Sp := fun vs H Q _ => ∃ (a : Addr) (ns : List Int), vs = [.ref a] ∧ SqL K H a (ns.map V.int) ∧ ns.length ≤ 63 ∧ ∀ H', Q (.bl true) H'
end My
namespace My
open PySem PySem.Spec PyProof.Rows L2
/-! ### the text -/
def topS (i : Nat) : Stmt := PySem.Challenge.pw_setmend_k29_texts_that_write_no_letter.main.body.getD i (.Pass ⟨0, 0, 0, 0⟩)
abbrev s_is_whole : Stmt := topS 18
theorem sc_is_whole : FnScope ["thing"] ["thing"] (defScope s_is_whole) := ⟨rfl, rfl, rfl, by decide +kernel, rfl, by decide +kernel, by decide +kernel⟩
abbrev s_is_rest : Stmt := topS 19
theorem sc_is_rest : FnScope ["thing"] ["thing"] (defScope s_is_rest) := ⟨rfl, rfl, rfl, by decide +kernel, rfl, by decide +kernel, by decide +kernel⟩
abbrev s_is_letter : Stmt := topS 20
theorem sc_is_letter : FnScope ["thing", "turn", "deeds", "count", "told", "number"] ["thing"] (defScope s_is_letter) := ⟨rfl, rfl, rfl, by decide +kernel, rfl, by decide +kernel, by decide +kernel⟩
abbrev s_number_by : Stmt := topS 21
theorem sc_number_by : FnScope ["word", "sign"] ["word"] (defScope s_number_by) := ⟨rfl, rfl, rfl, by decide +kernel, rfl, by decide +kernel, by decide +kernel⟩
abbrev s_read : Stmt := topS 22
theorem sc_read : FnScope ["text", "head", "colon", "tail", "ahead", "words", "numbers", "told", "letter", "word"] ["text"] (defScope s_read) := ⟨rfl, rfl, rfl, by decide +kernel, rfl, by decide +kernel, by decide +kernel⟩
abbrev s__law_start : Stmt := topS 24
theorem sc__law_start : FnScope ["_law_script", "_law_mixed", "_law_cell"] ["_law_script"] (defScope s__law_start) := ⟨rfl, rfl, rfl, by decide +kernel, rfl, by decide +kernel, by decide +kernel⟩
abbrev s__law_drawn : Stmt := topS 25
theorem sc__law_drawn : FnScope ["_law_state", "_law_many", "_law_found", "_law_cell"] ["_law_state", "_law_many"] (defScope s__law_drawn) := ⟨rfl, rfl, rfl, by decide +kernel, rfl, by decide +kernel, by decide +kernel⟩
abbrev s__law_letter : Stmt := topS 26
theorem sc__law_letter : FnScope ["_law_state", "_law_some", "_law_many", "_law_told_here", "_law_k"] ["_law_state"] (defScope s__law_letter) := ⟨rfl, rfl, rfl, by decide +kernel, rfl, by decide +kernel, by decide +kernel⟩
abbrev s__law_text : Stmt := topS 27
theorem sc__law_text : FnScope ["_law_letter_here", "_law_words", "_law_number_here"] ["_law_letter_here"] (defScope s__law_text) := ⟨rfl, rfl, rfl, by decide +kernel, rfl, by decide +kernel, by decide +kernel⟩
abbrev s__law_same : Stmt := topS 28
theorem sc__law_same : FnScope ["_law_found", "_law_due", "_law_k"] ["_law_found", "_law_due"] (defScope s__law_same) := ⟨rfl, rfl, rfl, by decide +kernel, rfl, by decide +kernel, by decide +kernel⟩
abbrev s__law_number : Stmt := topS 29
theorem sc__law_number : FnScope ["_law_word", "_law_most", "_law_sign"] ["_law_word", "_law_most"] (defScope s__law_number) := ⟨rfl, rfl, rfl, by decide +kernel, rfl, by decide +kernel, by decide +kernel⟩
abbrev s__law_read : Stmt := topS 30
theorem sc__law_read : FnScope ["_law_text_here", "_law_at", "_law_head", "_law_rest", "_law_found", "_law_told_here", "_law_word"] ["_law_text_here"] (defScope s__law_read) := ⟨rfl, rfl, rfl, by decide +kernel, rfl, by decide +kernel, by decide +kernel⟩
abbrev s__law_changed : Stmt := topS 31
theorem sc__law_changed : FnScope ["_law_state", "_law_text_here", "_law_way", "_law_at", "_law_sign", "_law_words", "_law_k", "_law_odd", "_law_some"] ["_law_state", "_law_text_here"] (defScope s__law_changed) := ⟨rfl, rfl, rfl, by decide +kernel, rfl, by decide +kernel, by decide +kernel⟩
abbrev s__law_told : Stmt := topS 32
theorem sc__law_told : FnScope ["_law_text_here", "e", "_law_other"] ["_law_text_here"] (defScope s__law_told) := ⟨rfl, rfl, rfl, by decide +kernel, rfl, by decide +kernel, by decide +kernel⟩
abbrev s__law_good : Stmt := topS 33
theorem sc__law_good : FnScope ["_law_text_here", "_law_due", "_law_found"] ["_law_text_here"] (defScope s__law_good) := ⟨rfl, rfl, rfl, by decide +kernel, rfl, by decide +kernel, by decide +kernel⟩
abbrev s_law : Stmt := topS 34
theorem sc_law : FnScope ["_law_script", "_law_state", "_law_odd", "_law_turn", "_law_text_here", "_law_change"] ["_law_script"] (defScope s_law) := ⟨rfl, rfl, rfl, by decide +kernel, rfl, by decide +kernel, by decide +kernel⟩
structure Ad where
  f_is_whole : Addr
  d_is_whole : FuncData
  f_is_rest : Addr
  d_is_rest : FuncData
  f_is_letter : Addr
  d_is_letter : FuncData
  f_number_by : Addr
  d_number_by : FuncData
  f_read : Addr
  d_read : FuncData
  f__law_start : Addr
  d__law_start : FuncData
  f__law_drawn : Addr
  d__law_drawn : FuncData
  f__law_letter : Addr
  d__law_letter : FuncData
  f__law_text : Addr
  d__law_text : FuncData
  f__law_same : Addr
  d__law_same : FuncData
  f__law_number : Addr
  d__law_number : FuncData
  f__law_read : Addr
  d__law_read : FuncData
  f__law_changed : Addr
  d__law_changed : FuncData
  f__law_told : Addr
  d__law_told : FuncData
  f__law_good : Addr
  d__law_good : FuncData
  f_law : Addr
  d_law : FuncData
  e_MendError : Addr
  e_NoSet : Addr
  e_NoMark : Addr
  e_NoInverse : Addr
  e_NoCount : Addr
  e_NoHand : Addr
  e_NoLetter : Addr
  e_NoText : Addr
  e_Held : Addr
  e_NotHeld : Addr
  e_Unlike : Addr
  e_Late : Addr
  t_WHEEL : Nat
  t_FIGURES : Nat
  t_MOST_FIGURES : Nat
  t_MOST_SUMS : Nat
structure Txt (K : PySem.W.Frag) (mg : Str → Option Value) (A : Ad) : Prop where
  F_is_whole : Fun K "is_whole" "is_whole" s_is_whole A.f_is_whole A.d_is_whole
  k_is_whole : PySem.W.keepIn K (.ref A.f_is_whole) = true
  g_is_whole : mg "is_whole" = some (.ref A.f_is_whole)
  b_is_whole : Binds K A.d_is_whole ["thing"] []
  F_is_rest : Fun K "is_rest" "is_rest" s_is_rest A.f_is_rest A.d_is_rest
  k_is_rest : PySem.W.keepIn K (.ref A.f_is_rest) = true
  g_is_rest : mg "is_rest" = some (.ref A.f_is_rest)
  b_is_rest : Binds K A.d_is_rest ["thing"] []
  F_is_letter : Fun K "is_letter" "is_letter" s_is_letter A.f_is_letter A.d_is_letter
  k_is_letter : PySem.W.keepIn K (.ref A.f_is_letter) = true
  g_is_letter : mg "is_letter" = some (.ref A.f_is_letter)
  b_is_letter : Binds K A.d_is_letter ["thing"] []
  F_number_by : Fun K "number_by" "number_by" s_number_by A.f_number_by A.d_number_by
  k_number_by : PySem.W.keepIn K (.ref A.f_number_by) = true
  g_number_by : mg "number_by" = some (.ref A.f_number_by)
  b_number_by : Binds K A.d_number_by ["word"] []
  F_read : Fun K "read" "read" s_read A.f_read A.d_read
  k_read : PySem.W.keepIn K (.ref A.f_read) = true
  g_read : mg "read" = some (.ref A.f_read)
  b_read : Binds K A.d_read ["text"] []
  F__law_start : Fun K "_law_start" "_law_start" s__law_start A.f__law_start A.d__law_start
  k__law_start : PySem.W.keepIn K (.ref A.f__law_start) = true
  g__law_start : mg "_law_start" = some (.ref A.f__law_start)
  b__law_start : Binds K A.d__law_start ["_law_script"] []
  F__law_drawn : Fun K "_law_drawn" "_law_drawn" s__law_drawn A.f__law_drawn A.d__law_drawn
  k__law_drawn : PySem.W.keepIn K (.ref A.f__law_drawn) = true
  g__law_drawn : mg "_law_drawn" = some (.ref A.f__law_drawn)
  b__law_drawn : Binds K A.d__law_drawn ["_law_state", "_law_many"] []
  F__law_letter : Fun K "_law_letter" "_law_letter" s__law_letter A.f__law_letter A.d__law_letter
  k__law_letter : PySem.W.keepIn K (.ref A.f__law_letter) = true
  g__law_letter : mg "_law_letter" = some (.ref A.f__law_letter)
  b__law_letter : Binds K A.d__law_letter ["_law_state"] []
  F__law_text : Fun K "_law_text" "_law_text" s__law_text A.f__law_text A.d__law_text
  k__law_text : PySem.W.keepIn K (.ref A.f__law_text) = true
  g__law_text : mg "_law_text" = some (.ref A.f__law_text)
  b__law_text : Binds K A.d__law_text ["_law_letter_here"] []
  F__law_same : Fun K "_law_same" "_law_same" s__law_same A.f__law_same A.d__law_same
  k__law_same : PySem.W.keepIn K (.ref A.f__law_same) = true
  g__law_same : mg "_law_same" = some (.ref A.f__law_same)
  b__law_same : Binds K A.d__law_same ["_law_found", "_law_due"] []
  F__law_number : Fun K "_law_number" "_law_number" s__law_number A.f__law_number A.d__law_number
  k__law_number : PySem.W.keepIn K (.ref A.f__law_number) = true
  g__law_number : mg "_law_number" = some (.ref A.f__law_number)
  b__law_number : Binds K A.d__law_number ["_law_word", "_law_most"] []
  F__law_read : Fun K "_law_read" "_law_read" s__law_read A.f__law_read A.d__law_read
  k__law_read : PySem.W.keepIn K (.ref A.f__law_read) = true
  g__law_read : mg "_law_read" = some (.ref A.f__law_read)
  b__law_read : Binds K A.d__law_read ["_law_text_here"] []
  F__law_changed : Fun K "_law_changed" "_law_changed" s__law_changed A.f__law_changed A.d__law_changed
  k__law_changed : PySem.W.keepIn K (.ref A.f__law_changed) = true
  g__law_changed : mg "_law_changed" = some (.ref A.f__law_changed)
  b__law_changed : Binds K A.d__law_changed ["_law_state", "_law_text_here"] []
  F__law_told : Fun K "_law_told" "_law_told" s__law_told A.f__law_told A.d__law_told
  k__law_told : PySem.W.keepIn K (.ref A.f__law_told) = true
  g__law_told : mg "_law_told" = some (.ref A.f__law_told)
  b__law_told : Binds K A.d__law_told ["_law_text_here"] []
  F__law_good : Fun K "_law_good" "_law_good" s__law_good A.f__law_good A.d__law_good
  k__law_good : PySem.W.keepIn K (.ref A.f__law_good) = true
  g__law_good : mg "_law_good" = some (.ref A.f__law_good)
  b__law_good : Binds K A.d__law_good ["_law_text_here"] []
  F_law : Fun K "law" "law" s_law A.f_law A.d_law
  k_law : PySem.W.keepIn K (.ref A.f_law) = true
  g_law : mg "law" = some (.ref A.f_law)
  b_law : Binds K A.d_law ["_law_script"] []
  c_WHEEL : mg "WHEEL" = some (.int 97 A.t_WHEEL)
  c_FIGURES : mg "FIGURES" = some (.str "0123456789" A.t_FIGURES)
  c_MOST_FIGURES : mg "MOST_FIGURES" = some (.int 60 A.t_MOST_FIGURES)
  c_MOST_SUMS : mg "MOST_SUMS" = some (.int 96 A.t_MOST_SUMS)
  z_ValueError : mg "ValueError" = none
  z_all : mg "all" = none
  z_any : mg "any" = none
  z_bool : mg "bool" = none
  z_int : mg "int" = none
  z_isinstance : mg "isinstance" = none
  z_len : mg "len" = none
  z_list : mg "list" = none
  z_range : mg "range" = none
  z_str : mg "str" = none
  z_tuple : mg "tuple" = none
  g_MendError : mg "MendError" = some (.ref A.e_MendError)
  g_NoSet : mg "NoSet" = some (.ref A.e_NoSet)
  g_NoMark : mg "NoMark" = some (.ref A.e_NoMark)
  g_NoInverse : mg "NoInverse" = some (.ref A.e_NoInverse)
  g_NoCount : mg "NoCount" = some (.ref A.e_NoCount)
  g_NoHand : mg "NoHand" = some (.ref A.e_NoHand)
  g_NoLetter : mg "NoLetter" = some (.ref A.e_NoLetter)
  g_NoText : mg "NoText" = some (.ref A.e_NoText)
  g_Held : mg "Held" = some (.ref A.e_Held)
  g_NotHeld : mg "NotHeld" = some (.ref A.e_NotHeld)
  g_Unlike : mg "Unlike" = some (.ref A.e_Unlike)
  g_Late : mg "Late" = some (.ref A.e_Late)
  x_NoText : PySem.W.excIn K A.e_NoText [.type "ValueError", .type "Exception", .type "BaseException", .type "object"] "ValueError.__new__" = true
  k_NoText : PySem.W.keepIn K (.ref A.e_NoText) = true
  bb_NoText : PySem.W.subIn K (.ref A.e_NoText) (.type "BaseException") = some true
  tt_NoText : PySem.W.typeIn K (.ref A.e_NoText) = some (.type "type")
  kv : PySem.W.kitOne K (.ref A.e_NoText) (.type "ValueError") = some true
  ko : PySem.W.kitOne K (.ref A.e_NoText) (.ref A.e_NoText) = some true
  kt : PySem.W.kitAny K (.ref A.e_NoText) [.ref A.e_Held, .ref A.e_Late, .ref A.e_NoCount, .ref A.e_NoHand, .ref A.e_NoInverse, .ref A.e_NoLetter, .ref A.e_NoMark, .ref A.e_NoSet, .ref A.e_NotHeld, .ref A.e_Unlike] = some false
  q1_NoText : PySem.W.findIn K (.ref A.e_NoText) "__getattribute__" = some (some (.builtin "BaseException.__getattribute__"))
  q2_NoText : PySem.W.findIn K (.ref A.e_NoText) "__getattr__" = some none
  q3_NoText : PySem.W.subIn K (.ref A.e_NoText) (.type "BaseException") = some true
  q4_NoText : PySem.W.hasDictIn K A.e_NoText = true
  q5_NoText : PySem.W.findIn K (.ref A.e_NoText) "__class__" = some (some (.builtin "object.__class__"))
  q6_NoText : PySem.W.specialIn K (.builtin "object.__class__") "__get__" = some (some (.builtin "getset_descriptor.__get__"))
  q7_NoText : PySem.W.takesIn K (.builtin "object.__class__") = some true
  q8_NoText : PySem.W.mroIn K A.e_NoText (.type "object") = some true
  s_NoText_MendError : PySem.W.subIn K (.ref A.e_NoText) (.ref A.e_MendError) = some true
  h1_MendError : PySem.W.subIn K (.ref A.e_MendError) (.type "BaseException") = some true
  h2_MendError : PySem.W.hasDictIn K A.e_MendError = true
  h3_MendError : PySem.W.typeIn K (.ref A.e_MendError) = some (.type "type")
theorem Txt.ec_NoText {K : PySem.W.Frag} {mg : Str → Option Value} {A : Ad} (T : Txt K mg A) : ExcC K A.e_NoText := ⟨T.q1_NoText, T.q2_NoText, T.q3_NoText, T.q4_NoText, T.q5_NoText, T.q6_NoText, T.q7_NoText, T.q8_NoText⟩
theorem Txt.ex_NoText_MendError {K : PySem.W.Frag} {mg : Str → Option Value} {A : Ad} (T : Txt K mg A) : PySem.W.exmOne K (.ref A.e_NoText) (.ref A.e_MendError) = some true := PySem.W.exm_ref T.h1_MendError T.h2_MendError T.h3_MendError T.s_NoText_MendError
section
variable {P : Program} {w : World} {K : PySem.W.Frag} {mg : Str → Option Value} {base : Heap} {A : Ad}
/-! ### is_whole: slots 0 thing -/

theorem ok_is_whole (T : Txt K mg A) : FnOk P w K mg base CX0 1 A.f_is_whole A.d_is_whole ["thing"] (sp_is_whole ) := by
  refine T.F_is_whole.ok sc_is_whole (fun vs H Q E h => by first | (obtain ⟨_, rfl, _⟩ := h; rfl) | (obtain ⟨_, _, rfl, _⟩ := h; rfl) | (obtain ⟨_, _, _, rfl, _⟩ := h; rfl) | (obtain ⟨_, _, _, _, rfl, _⟩ := h; rfl) | (obtain ⟨_, _, _, _, _, rfl, _⟩ := h; rfl) | (obtain ⟨_, _, _, _, _, _, rfl, _⟩ := h; rfl) | (obtain ⟨_, _, _, _, _, _, _, rfl, _⟩ := h; rfl) | (obtain ⟨_, _, _, _, _, _, _, _, rfl, _⟩ := h; rfl) | (obtain ⟨_, _, _, _, _, _, _, _, _, rfl, _⟩ := h; rfl)) (fun cdv AA outer s H vs Q E hr h => ?_)
  refine ⟨_, (pss_one (ps_ret (pe_and (pe_callB call_isi (by rfl) T.z_isinstance (show bootBuiltins "isinstance" = some (.builtin "isinstance") by decide +kernel) (pa_cons (pv 0) (pa_cons (pe_bltn (v := .ty "int") (by rfl) T.z_int (by decide +kernel) rfl) pa_nil))) (pe_and (pe_not (pe_callB call_isi (by rfl) T.z_isinstance (show bootBuiltins "isinstance" = some (.builtin "isinstance") by decide +kernel) (pa_cons (pv 0) (pa_cons (pe_bltn (v := .ty "bool") (by rfl) T.z_bool (by decide +kernel) rfl) pa_nil)))) (pe_one (pe_cmpR op_ge (pv 0) pe_int (nomark _))))))), ?_⟩
  obtain ⟨v, rfl, hk, q⟩ := h
  cases hk with
  | non => exact ⟨_, rfl, _, _, _, _, false, rfl, .ty "int", .base .non, kit_ty (by decide +kernel), _, rfl, iteF q⟩
  | str z => exact ⟨_, rfl, _, _, _, _, false, rfl, .ty "int", .base (.str _), kit_ty (by decide +kernel), _, rfl, iteF q⟩
  | lst e => exact ⟨_, rfl, _, _, _, _, false, rfl, .ty "int", .base (.lst e), kit_ty (by decide +kernel), _, rfl, iteF q⟩
  | tup e => exact ⟨_, rfl, _, _, _, _, false, rfl, .ty "int", .base (.tup e), kit_ty (by decide +kernel), _, rfl, iteF q⟩
  | dK e => exact ⟨_, rfl, _, _, _, _, false, rfl, .ty "int", .base (.dK e), kit_ty (by decide +kernel), _, rfl, iteF q⟩
  | bl b =>
    refine ⟨_, rfl, _, _, _, _, true, rfl, .ty "int", .base (.bl _), kit_ty (by decide +kernel), _, rfl, iteT ?_⟩
    refine ⟨_, rfl, _, _, _, _, true, rfl, .ty "bool", .base (.bl _), kit_ty (by decide +kernel), _, rfl, ?_⟩
    exact ⟨_, rfl, iteF q⟩
  | int i =>
    refine ⟨_, rfl, _, _, _, _, true, rfl, .ty "int", .base (.int _), kit_ty (by decide +kernel), _, rfl, iteT ?_⟩
    refine ⟨_, rfl, _, _, _, _, false, rfl, .ty "bool", .base (.int _), kit_ty (by decide +kernel), _, rfl, ?_⟩
    exact ⟨_, rfl, iteT ⟨_, rfl, _, _, rfl, rfl, q⟩⟩
/-! ### is_rest: slots 0 thing -/

theorem ok_is_rest (T : Txt K mg A) : FnOk P w K mg base CX0 2 A.f_is_rest A.d_is_rest ["thing"] (sp_is_rest ) := by
  refine T.F_is_rest.ok sc_is_rest (fun vs H Q E h => by first | (obtain ⟨_, rfl, _⟩ := h; rfl) | (obtain ⟨_, _, rfl, _⟩ := h; rfl) | (obtain ⟨_, _, _, rfl, _⟩ := h; rfl) | (obtain ⟨_, _, _, _, rfl, _⟩ := h; rfl) | (obtain ⟨_, _, _, _, _, rfl, _⟩ := h; rfl) | (obtain ⟨_, _, _, _, _, _, rfl, _⟩ := h; rfl) | (obtain ⟨_, _, _, _, _, _, _, rfl, _⟩ := h; rfl) | (obtain ⟨_, _, _, _, _, _, _, _, rfl, _⟩ := h; rfl) | (obtain ⟨_, _, _, _, _, _, _, _, _, rfl, _⟩ := h; rfl)) (fun cdv AA outer s H vs Q E hr h => ?_)
  refine ⟨_, (pss_one (ps_ret (pe_and (pe_call (ok_is_whole T) (hr.mono (by decide)) (by rfl) T.g_is_whole T.k_is_whole T.b_is_whole .nil pass0 (pa_cons (pv 0) pa_nil)) (pe_one (pe_cmpR op_lt (pv 0) (pe_glob (v := .int 97) rfl T.c_WHEEL ⟨_, rfl⟩) (nomark _)))))), ?_⟩
  obtain ⟨v, rfl, hk, q⟩ := h
  refine ⟨_, rfl, v, rfl, hk, _, rfl, ?_⟩
  cases hk with
  | int i =>
    by_cases c : 0 ≤ i
    · have e : wholeB (.int i) = true := decide_eq_true c
      rw [e]
      have e2 : restB (.int i) = decide (i < 97) := by
        show (decide (0 ≤ i) && decide (i < 97)) = _
        rw [decide_eq_true c, Bool.true_and]
      rw [e2] at q
      exact iteT ⟨_, rfl, _, _, rfl, rfl, q⟩
    · have e : wholeB (.int i) = false := decide_eq_false c
      rw [e]
      have e2 : restB (.int i) = false := by
        show (decide (0 ≤ i) && decide (i < 97)) = _
        rw [decide_eq_false c, Bool.false_and]
      rw [e2] at q
      exact iteF q
  | non => exact iteF q
  | bl b => exact iteF q
  | str z => exact iteF q
  | lst e => exact iteF q
  | tup e => exact iteF q
  | dK e => exact iteF q
/-! ### is_letter: slots 0 thing, 1 turn, 2 deeds, 3 count, 4 told, 5 number -/

theorem ok_is_letter (T : Txt K mg A) : FnOk P w K mg base CX0 3 A.f_is_letter A.d_is_letter ["thing"] (sp_is_letter ) := by
  refine T.F_is_letter.ok sc_is_letter (fun vs H Q E h => by first | (obtain ⟨_, rfl, _⟩ := h; rfl) | (obtain ⟨_, _, rfl, _⟩ := h; rfl) | (obtain ⟨_, _, _, rfl, _⟩ := h; rfl) | (obtain ⟨_, _, _, _, rfl, _⟩ := h; rfl) | (obtain ⟨_, _, _, _, _, rfl, _⟩ := h; rfl) | (obtain ⟨_, _, _, _, _, _, rfl, _⟩ := h; rfl) | (obtain ⟨_, _, _, _, _, _, _, rfl, _⟩ := h; rfl) | (obtain ⟨_, _, _, _, _, _, _, _, rfl, _⟩ := h; rfl) | (obtain ⟨_, _, _, _, _, _, _, _, _, rfl, _⟩ := h; rfl)) (fun cdv AA outer s H vs Q E hr h => ?_)
  refine ⟨_, (pss_cons (ps_if (PW.pt (pw_or (pt_not (pt_val (pe_callB call_isi (by rfl) T.z_isinstance (show bootBuiltins "isinstance" = some (.builtin "isinstance") by decide +kernel) (pa_cons (pv 0) (pa_cons (pe_bltn (v := .ty "tuple") (by rfl) T.z_tuple (by decide +kernel) rfl) pa_nil))))) (pw_or1 (pt_cmpR op_ne (pe_callB call_len_seq (by rfl) T.z_len PySem.boot_len (pa_cons (pv 0) pa_nil)) pe_int (nomark _))))) (pss_one (ps_ret pe_bl)) pss_nil)
      (pss_cons (ps_asg (pv 0) (pg_tup rfl (pgs_cons (pg_name (i := 1) sc_is_letter.nd rfl (.inl rfl)) (pgs_cons (pg_name (i := 2) sc_is_letter.nd rfl (.inl rfl)) (pgs_cons (pg_name (i := 3) sc_is_letter.nd rfl (.inl rfl)) (pgs_cons (pg_name (i := 4) sc_is_letter.nd rfl (.inl rfl)) pgs_nil))))))
      (pss_cons (ps_if (PW.pt (pw_or (pt_not (pt_val (pe_callB call_isi (by rfl) T.z_isinstance (show bootBuiltins "isinstance" = some (.builtin "isinstance") by decide +kernel) (pa_cons (pv 4) (pa_cons (pe_bltn (v := .ty "tuple") (by rfl) T.z_tuple (by decide +kernel) rfl) pa_nil))))) (pw_or1 (pt_cmpR op_gt (pe_callB call_len_seq (by rfl) T.z_len PySem.boot_len (pa_cons (pv 4) pa_nil)) (pe_glob (v := .int 96) rfl T.c_MOST_SUMS ⟨_, rfl⟩) (nomark _))))) (pss_one (ps_ret pe_bl)) pss_nil)
      (pss_one (ps_ret (pe_and (pe_call (ok_is_whole T) (hr.mono (by decide)) (by rfl) T.g_is_whole T.k_is_whole T.b_is_whole .nil pass0 (pa_cons (pv 1) pa_nil)) (pe_and (pe_call (ok_is_whole T) (hr.mono (by decide)) (by rfl) T.g_is_whole T.k_is_whole T.b_is_whole .nil pass0 (pa_cons (pv 2) pa_nil)) (pe_one (pe_callB (cr_all rfl) (by rfl) T.z_all (by decide +kernel) (pa_cons (pe_lc (own := [("number", 5)]) (g := gName 5)  rfl sc_is_letter.nd (pi_list (pe_lst (pa_cons (pv 3) (StX.pa_star (pv 4) pa_nil)))) (blkOk_by (own := [("number", 5)]) (N := ["thing", "turn", "deeds", "count", "told", "number"]) (sc := defScope s_is_letter) (by decide +kernel)) (fun _ _ _ _ _ => pg_name (i := 5) sc_is_letter.nd rfl (Or.inl rfl)) (fun _ _ _ _ _ => pts_nil) (fun _ _ _ _ _ => (pe_call (ok_is_rest T) (hr.mono (by decide)) (by rfl) T.g_is_rest T.k_is_rest T.b_is_rest .nil pass0 (pa_cons (pv 5) pa_nil)))) pa_nil)))))))))), ?_⟩
  obtain ⟨v, b, rfl, hk, q⟩ := h
  cases hk with
  | other hn =>
    cases hn with
    | non => exact ⟨_, rfl, _, _, _, _, false, rfl, .ty "tuple", .base .non, kit_ty (by decide +kernel), _, rfl, iteT (q _ (Same.refl _))⟩
    | bl b => exact ⟨_, rfl, _, _, _, _, false, rfl, .ty "tuple", .base (.bl _), kit_ty (by decide +kernel), _, rfl, iteT (q _ (Same.refl _))⟩
    | int i => exact ⟨_, rfl, _, _, _, _, false, rfl, .ty "tuple", .base (.int _), kit_ty (by decide +kernel), _, rfl, iteT (q _ (Same.refl _))⟩
    | str z => exact ⟨_, rfl, _, _, _, _, false, rfl, .ty "tuple", .base (.str _), kit_ty (by decide +kernel), _, rfl, iteT (q _ (Same.refl _))⟩
    | lst e => exact ⟨_, rfl, _, _, _, _, false, rfl, .ty "tuple", .base (.lst e), kit_ty (by decide +kernel), _, rfl, iteT (q _ (Same.refl _))⟩
    | dK e => exact ⟨_, rfl, _, _, _, _, false, rfl, .ty "tuple", .base (.dK e), kit_ty (by decide +kernel), _, rfl, iteT (q _ (Same.refl _))⟩
  | len h n =>
    refine ⟨_, rfl, _, _, _, _, true, rfl, .ty "tuple", .base (.tup h), kit_ty (by decide +kernel), _, rfl, iteF ?_⟩
    refine ⟨_, rfl, _, _, rfl, .inr (SqT.of h), rfl, _, rfl, ite2 (fun _ => q _ (Same.refl _)) (fun c => ?_)⟩
    refine absurd ?_ c
    rw [Bool.not_eq_true', decide_eq_false_iff_not]
    intro z
    have := V.int.inj z
    omega
  | told h hs =>
    refine ⟨_, rfl, _, _, _, _, true, rfl, .ty "tuple", .base (.tup h), kit_ty (by decide +kernel), _, rfl, iteF ?_⟩
    refine ⟨_, rfl, _, _, rfl, .inr (SqT.of h), rfl, _, rfl, iteNS rfl ?_⟩
    refine ⟨_, rfl, _, _, rfl, SqT.of h, rfl, _, _, rfl, _, _, rfl, _, _, rfl, _, _, rfl, rfl, ?_⟩
    cases hs with
    | non => exact ⟨_, rfl, _, _, _, _, false, rfl, .ty "tuple", .base .non, kit_ty (by decide +kernel), _, rfl, iteT (q _ (Same.refl _))⟩
    | bl b => exact ⟨_, rfl, _, _, _, _, false, rfl, .ty "tuple", .base (.bl _), kit_ty (by decide +kernel), _, rfl, iteT (q _ (Same.refl _))⟩
    | int i => exact ⟨_, rfl, _, _, _, _, false, rfl, .ty "tuple", .base (.int _), kit_ty (by decide +kernel), _, rfl, iteT (q _ (Same.refl _))⟩
    | str z => exact ⟨_, rfl, _, _, _, _, false, rfl, .ty "tuple", .base (.str _), kit_ty (by decide +kernel), _, rfl, iteT (q _ (Same.refl _))⟩
    | lst e => exact ⟨_, rfl, _, _, _, _, false, rfl, .ty "tuple", .base (.lst e), kit_ty (by decide +kernel), _, rfl, iteT (q _ (Same.refl _))⟩
    | dK e => exact ⟨_, rfl, _, _, _, _, false, rfl, .ty "tuple", .base (.dK e), kit_ty (by decide +kernel), _, rfl, iteT (q _ (Same.refl _))⟩
  | many h hs n =>
    refine ⟨_, rfl, _, _, _, _, true, rfl, .ty "tuple", .base (.tup h), kit_ty (by decide +kernel), _, rfl, iteF ?_⟩
    refine ⟨_, rfl, _, _, rfl, .inr (SqT.of h), rfl, _, rfl, iteNS rfl ?_⟩
    refine ⟨_, rfl, _, _, rfl, SqT.of h, rfl, _, _, rfl, _, _, rfl, _, _, rfl, _, _, rfl, rfl, ?_⟩
    refine ⟨_, rfl, _, _, _, _, true, rfl, .ty "tuple", .base (.tup hs), kit_ty (by decide +kernel), _, rfl, iteF ?_⟩
    refine ⟨_, rfl, _, _, rfl, .inr (SqT.of hs), _, _, rfl, rfl, _, rfl, ite2 (fun _ => q _ (Same.refl _)) (fun c => absurd (decide_eq_true (by omega)) c)⟩
  | @four a s t d c xs b h hs n kt kd kc kx e =>
    refine ⟨_, rfl, _, _, _, _, true, rfl, .ty "tuple", .base (.tup h), kit_ty (by decide +kernel), _, rfl, iteF ?_⟩
    refine ⟨_, rfl, _, _, rfl, .inr (SqT.of h), rfl, _, rfl, iteNS rfl ?_⟩
    refine ⟨_, rfl, _, _, rfl, SqT.of h, rfl, _, _, rfl, _, _, rfl, _, _, rfl, _, _, rfl, rfl, ?_⟩
    refine ⟨_, rfl, _, _, _, _, true, rfl, .ty "tuple", .base (.tup hs), kit_ty (by decide +kernel), _, rfl, iteF ?_⟩
    refine ⟨_, rfl, _, _, rfl, .inr (SqT.of hs), _, _, rfl, rfl, _, rfl, ite2 (fun c => absurd (of_decide_eq_true c) (by omega)) (fun _ => ?_)⟩
    refine ⟨_, rfl, t, rfl, kt, _, rfl, ?_⟩
    cases et : wholeB t with
    | false =>
      rw [et, Bool.false_and] at e
      rw [e] at q
      exact iteF (q _ (Same.refl _))
    | true =>
      rw [et, Bool.true_and] at e
      refine iteT ⟨_, rfl, d, rfl, kd, _, rfl, ?_⟩
      cases ed : wholeB d with
      | false =>
        rw [ed, Bool.false_and] at e
        rw [e] at q
        exact iteF (q _ (Same.refl _))
      | true =>
        rw [ed, Bool.true_and] at e
        refine iteT ⟨_, rfl, _, rfl, s, _, rfl, .inl (SqT.of hs), ?_, fun l hl => ?_⟩
        · rw [List.append_nil, List.length_cons]
          exact Nat.le_trans (by omega : _ ≤ 97) (by decide)
        have s1 := same_upd (o := .lst (c :: (xs ++ []))) hl
        have hl1 := upd_same (H := H) (a := l) (o := .lst (c :: (xs ++ [])))
        generalize upd H l (.lst (c :: (xs ++ []))) = H1 at s1 hl1
        rw [List.append_nil] at hl1
        refine ⟨l, rfl, ⟨_, SqL.of hl1⟩, fun D hD => lc_F (walk_list (K := K) (a := l) (xs := c :: xs)) (fun i => V.bl (restB ((c :: xs).getD i .non))) (by rw [List.length_cons]; omega) hD (fun _ s2 => SqL.of (s2 _ _ hl1)) ?_ fun H2 s2 hd => ?_⟩
        · rintro i v H3 H4 hi s3 ⟨rfl, hv⟩ Q' q'
          rw [List.getD_eq_getElem?_getD, hv] at q'
          have kv : Known H4 v := by
            rcases List.mem_cons.mp (List.mem_of_getElem? hv) with e2 | e2
            · rw [e2]
              exact kc.same (s1.trans s3)
            · exact (kx v e2).same (s1.trans s3)
          exact ⟨rfl, _, rfl, v, rfl, kv, q' _ (Same.refl _)⟩
        have eb : (List.range (c :: xs).length).map (fun i => V.bl (restB ((c :: xs).getD i .non))) = ((c :: xs).map restB).map V.bl := by
          refine List.ext_getElem? fun k => ?_
          rw [List.getElem?_map, List.getElem?_map, List.getElem?_map]
          by_cases ck : k < (c :: xs).length
          · rw [List.getElem?_range ck, List.getElem?_eq_getElem ck]
            show some (V.bl (restB ((c :: xs).getD k .non))) = _
            rw [List.getD_eq_getElem?_getD, List.getElem?_eq_getElem ck]
            rfl
          · rw [List.getElem?_eq_none (by rw [List.length_range]; omega), List.getElem?_eq_none (by omega)]
            rfl
        rw [eb] at hd
        refine ⟨D, _, rfl, SqL.of hd, ?_⟩
        have ea : ((c :: xs).map restB).all id = b := by
          rw [e, List.all_map]
          rfl
        rw [ea]
        exact q _ (s1.trans s2)
/-! ### number_by: slots 0 word, 1 sign -/

theorem ok_number_by (T : Txt K mg A) : FnOk P w K mg base CX0 1 A.f_number_by A.d_number_by ["word"] (sp_number_by ) := by
  refine T.F_number_by.ok sc_number_by (fun vs H Q E h => by first | (obtain ⟨_, rfl, _⟩ := h; rfl) | (obtain ⟨_, _, rfl, _⟩ := h; rfl) | (obtain ⟨_, _, _, rfl, _⟩ := h; rfl) | (obtain ⟨_, _, _, _, rfl, _⟩ := h; rfl) | (obtain ⟨_, _, _, _, _, rfl, _⟩ := h; rfl) | (obtain ⟨_, _, _, _, _, _, rfl, _⟩ := h; rfl) | (obtain ⟨_, _, _, _, _, _, _, rfl, _⟩ := h; rfl) | (obtain ⟨_, _, _, _, _, _, _, _, rfl, _⟩ := h; rfl) | (obtain ⟨_, _, _, _, _, _, _, _, _, rfl, _⟩ := h; rfl)) (fun cdv AA outer s H vs Q E hr h => ?_)
  refine ⟨_, (pss_cons (ps_if (PW.pt (pw_or (pt_cmpR op_eq (pv 0) pe_str (nomark _)) (pw_or1 (pt_cmpR op_gt (pe_callB call_len_str (by rfl) T.z_len PySem.boot_len (pa_cons (pv 0) pa_nil)) (pe_glob (v := .int 60) rfl T.c_MOST_FIGURES ⟨_, rfl⟩) (nomark _))))) (pss_one (ps_ret pe_non)) pss_nil)
      (pss_cons (ps_if (pt_val (pe_callB (cr_any rfl) (by rfl) T.z_any (by decide +kernel) (pa_cons (pe_lc (own := [("sign", 1)]) (g := gName 1)  rfl sc_number_by.nd (pi_str (pv 0)) (blkOk_by (own := [("sign", 1)]) (N := ["word", "sign"]) (sc := defScope s_number_by) (by decide +kernel)) (fun _ _ _ _ _ => pg_name (i := 1) sc_number_by.nd rfl (Or.inl rfl)) (fun _ _ _ _ _ => pts_nil) (fun _ _ _ _ _ => (pe_cmpR op_notIn_sign (pv 1) (pe_glob (v := .str "0123456789") rfl T.c_FIGURES ⟨_, rfl⟩) (by rfl)))) pa_nil))) (pss_one (ps_ret pe_non)) pss_nil)
      (pss_cons (ps_if (PW.pt (pw_and (pt_cmpR op_eq (pe_ix ix_str (pv 0) pe_int (fun _ _ => rfl)) pe_str (nomark _)) (pw_and1 (pt_cmpR op_ne (pv 0) pe_str (nomark _))))) (pss_one (ps_ret pe_non)) pss_nil)
      (pss_one (ps_ret (pe_callTy call_int_str (by rfl) T.z_int (by decide +kernel) (pa_cons (pv 0) pa_nil))))))), ?_⟩
  obtain ⟨w, rfl, lw, q⟩ := h
  have sz : 10000 ≤ sizeLine := by decide
  refine ⟨_, rfl, rfl, _, rfl, ?_⟩
  have fin : ∀ {o : Option Int}, numO w = o → ∀ H', Same H H' → Q (optV o) H' := fun e H' s => e ▸ q H' s
  by_cases c0 : w = ""
  · rw [decide_eq_true (congrArg V.str c0)]
    exact iteT (iteT (fin (o := none) (if_pos (.inl c0)) _ (Same.refl _)))
  rw [decide_eq_false (fun z => c0 (V.str.inj z))]
  refine iteF ⟨_, rfl, _, rfl, by omega, _, _, rfl, rfl, _, rfl, ?_⟩
  by_cases c1 : 60 < w.length
  · rw [decide_eq_true (by omega)]
    exact iteT (fin (o := none) (if_pos (.inr c1)) _ (Same.refl _))
  rw [decide_eq_false (by omega)]
  refine iteF ?_
  have e1 : ¬ (w = "" ∨ 60 < w.length) := fun z => z.elim c0 c1
  refine ⟨_, rfl, _, rfl, fun D hD => lc_F (walk_str (z := w)) (fun i => V.bl (!figB (w.cps.toList.getD i 0))) (by show w.length ≤ _; omega) hD (fun _ _ => trivial) ?_ fun H1 s1 hd => ?_⟩
  · rintro i v H3 H4 hi s3 ⟨rfl, c, hc, rfl⟩ Q' q'
    rw [List.getD_eq_getElem?_getD, Array.getElem?_toList, hc] at q'
    exact ⟨rfl, _, rfl, c, _, rfl, rfl, q' _ (Same.refl _)⟩
  rw [range_any] at hd
  refine ⟨D, _, rfl, SqL.of hd, _, rfl, ?_⟩
  rw [List.any_map, show (id ∘ fun c => !figB c) = fun c => !figB c from rfl]
  cases ea : (TL.tl w).any (fun c => !figB c) with
  | true =>
    exact iteT (fin (o := none) ((if_neg e1).trans (if_pos ea)) _ s1)
  | false =>
    refine iteF ?_
    obtain ⟨n, hn⟩ := num_int c0 (by omega) ea
    have l2 : 0 < w.cps.toList.length := by
      cases e : w.cps.toList with
      | nil => exact absurd (str_ext (x := w) (y := "") e) c0
      | cons x r => exact Nat.succ_pos _
    have hc := List.getElem?_eq_getElem l2
    generalize w.cps.toList[0] = c at hc
    have e2 : ¬ (TL.tl w).any (fun c => !figB c) = true := by
      rw [ea]
      exact Bool.false_ne_true
    refine ⟨_, rfl, w, 0, c, rfl, rfl, by omega, atI_nat (j := 0) hc, rfl, _, rfl, ?_⟩
    by_cases e : V.str ⟨#[c]⟩ = V.str "0"
    · rw [decide_eq_true e]
      have e3 : c = 48 := (List.cons.inj (congrArg (fun z : Str => z.cps.toList) (V.str.inj e))).1
      refine iteT ⟨_, rfl, rfl, _, rfl, ?_⟩
      by_cases e4 : w = "0"
      · rw [decide_eq_true (congrArg V.str e4)]
        exact iteF ⟨_, rfl, _, _, rfl, hn, by omega, fin (o := some n) ((if_neg e1).trans ((if_neg e2).trans ((if_neg fun z => z.2 e4).trans hn))) _ s1⟩
      · rw [decide_eq_false (fun z => e4 (V.str.inj z))]
        exact iteT (fin (o := none) ((if_neg e1).trans ((if_neg e2).trans (if_pos ⟨by rw [← e3]; exact hc, e4⟩))) _ s1)
    · rw [decide_eq_false e]
      refine iteF (iteF ?_)
      exact ⟨_, rfl, _, _, rfl, hn, by omega, fin (o := some n) ((if_neg e1).trans ((if_neg e2).trans ((if_neg fun z => e (by
        have e5 : some c = some 48 := hc.symm.trans z.1
        rw [Option.some.inj e5]
        rfl)).trans hn))) _ s1⟩
/-! ### read: slots 0 text, 1 head, 2 colon, 3 tail, 4 ahead, 5 words, 6 numbers, 7 told, 8 letter, 9 word -/

theorem ok_read (T : Txt K mg A) : FnOk P w K mg base (L2.CX P w) 4 A.f_read A.d_read ["text"] (sp_read A.e_NoText) := by
  refine T.F_read.okX sc_read (fun vs H Q E h => by first | (obtain ⟨_, rfl, _⟩ := h; rfl) | (obtain ⟨_, _, rfl, _⟩ := h; rfl) | (obtain ⟨_, _, _, rfl, _⟩ := h; rfl) | (obtain ⟨_, _, _, _, rfl, _⟩ := h; rfl) | (obtain ⟨_, _, _, _, _, rfl, _⟩ := h; rfl) | (obtain ⟨_, _, _, _, _, _, rfl, _⟩ := h; rfl) | (obtain ⟨_, _, _, _, _, _, _, rfl, _⟩ := h; rfl) | (obtain ⟨_, _, _, _, _, _, _, _, rfl, _⟩ := h; rfl) | (obtain ⟨_, _, _, _, _, _, _, _, _, rfl, _⟩ := h; rfl)) (fun cdv AA outer s H vs Q E hr h => ?_)
  refine ⟨_, (pss_cons (ps_asg (pe_partition (pv 0) pe_str) (pg_tup rfl (pgs_cons (pg_name (i := 1) sc_read.nd rfl (.inl rfl)) (pgs_cons (pg_name (i := 2) sc_read.nd rfl (.inl rfl)) (pgs_cons (pg_name (i := 3) sc_read.nd rfl (.inl rfl)) pgs_nil)))))
      (pss_cons (ps_asg (pe_split (pv 3) pe_str) (Lm.pg_tail rfl (pg_name (i := 4) sc_read.nd rfl (.inl rfl)) (pg_name (i := 5) sc_read.nd rfl (.inl rfl))))
      (pss_cons (ps_setLc (i := 6) (own := [("word", 9)]) (g := gName 9)  rfl sc_read.nd rfl rfl (sw_true rfl rfl rfl (by decide +kernel)) (pi_list (pe_split (pv 1) pe_str)) (blkOk_by (own := [("word", 9)]) (N := ["text", "head", "colon", "tail", "ahead", "words", "numbers", "told", "letter", "word"]) (sc := defScope s_read) (by decide +kernel)) (fun _ _ _ _ _ => pg_name (i := 9) sc_read.nd rfl (Or.inl rfl)) (fun _ _ _ _ _ => pts_nil) (fun _ _ _ _ _ => (pe_call (ok_number_by T) (hr.mono (by decide)) (by rfl) T.g_number_by T.k_number_by T.b_number_by .nil pass0 (pa_cons (pv 9) pa_nil))))
      (pss_cons (ps_set (i := 7) sc_read.nd rfl (.inl rfl) (pe_callTy call_tuple_of (by rfl) T.z_tuple (by decide +kernel) (pa_cons (pe_lc (own := [("word", 9)]) (g := gName 9)  rfl sc_read.nd (pi_list (pv 5)) (blkOk_by (own := [("word", 9)]) (N := ["text", "head", "colon", "tail", "ahead", "words", "numbers", "told", "letter", "word"]) (sc := defScope s_read) (by decide +kernel)) (fun _ _ _ _ _ => pg_name (i := 9) sc_read.nd rfl (Or.inl rfl)) (fun _ _ _ _ _ => pts_nil) (fun _ _ _ _ _ => (pe_call (ok_number_by T) (hr.mono (by decide)) (by rfl) T.g_number_by T.k_number_by T.b_number_by .nil pass0 (pa_cons (pv 9) pa_nil)))) pa_nil)))
      (pss_cons (ps_set (i := 8) sc_read.nd rfl (.inl rfl) (pe_tup (StX.pa_star (pv 6) (pa_cons (pv 7) pa_nil))))
      (pss_cons (ps_if (PW.pt (pw_or (pt_cmpR op_eq (pv 2) pe_str (nomark _)) (pw_or (pt_cmpR op_ne (pv 4) pe_str (nomark _)) (pw_or1 (pt_not (pt_val (pe_call (ok_is_letter T) (hr.mono (by decide)) (by rfl) T.g_is_letter T.k_is_letter T.b_is_letter .nil pass0 (pa_cons (pv 8) pa_nil)))))))) (pss_one (ps_raise rfl (takes_of rfl rfl rfl rfl) (pmk_own PySem.F.excBase_ValueError T.x_NoText T.g_NoText T.k_NoText (raises_own T.bb_NoText T.tt_NoText) rfl))) pss_nil)
      (pss_one (ps_ret (pv 8))))))))), ?_⟩
  obtain ⟨z, rfl, lz, qe, q⟩ := h
  have sz : 10000 ≤ sizeLine := by decide
  obtain ⟨lp1, lp2⟩ := part_len z
  have lh : (hdS z).length ≤ 9001 := Nat.le_trans (words_len _) (by omega)
  have lt : (tlS z).length ≤ 9001 := Nat.le_trans (words_len _) (by omega)
  have wh : ∀ w ∈ hdS z, w.length ≤ 9000 := fun w hw => Nat.le_trans (words_part hw).1 (by omega)
  have wt : ∀ w ∈ tlS z, w.length ≤ 9000 := fun w hw => Nat.le_trans (words_part hw).1 (by omega)
  obtain ⟨ah, ws, etl⟩ : ∃ ah ws, tlS z = ah :: ws := by
    cases e : tlS z with
    | nil => exact absurd e (words_ne _)
    | cons x r => exact ⟨x, r, rfl⟩
  have gd : good z = (decide ((Txt.partition z ":").2.1 ≠ "") && (decide (ah = "") && letB ((hdS z).map numO) (ws.map numO))) := by
    unfold good
    rw [etl]
    rfl
  rw [etl] at q lt wt
  rw [List.tail_cons] at q
  rw [List.length_cons] at lt
  refine ⟨_, rfl, ⟨_, rfl⟩, z, ":", rfl, rfl, rfl, by omega, fun p hp => ?_⟩
  have s1 := same_upd (o := .tup [.str (Txt.partition z ":").1, .str (Txt.partition z ":").2.1, .str (Txt.partition z ":").2.2]) hp
  refine ⟨p, _, rfl, SqT.of upd_same, rfl, _, _, rfl, _, _, rfl, _, _, rfl, rfl, ?_⟩
  generalize upd H p (.tup [.str (Txt.partition z ":").1, .str (Txt.partition z ":").2.1, .str (Txt.partition z ":").2.2]) = H1 at s1
  refine ⟨_, rfl, ⟨_, rfl⟩, (Txt.partition z ":").2.2, " ", rfl, rfl, rfl, by omega, fun w hw => ?_⟩
  rw [show Txt.split (Txt.partition z ":").2.2 " " = ah :: ws from etl]
  refine ⟨w, .str ah, ws.map V.str, rfl, SqL.of upd_same, fun u hu => ?_⟩
  have s2 := (same_upd (o := .lst ((ah :: ws).map V.str)) hw).trans (same_upd (o := .lst (ws.map V.str)) hu)
  have hu2 := upd_same (H := upd H1 w (.lst ((ah :: ws).map V.str))) (a := u) (o := .lst (ws.map V.str))
  generalize upd (upd H1 w (.lst ((ah :: ws).map V.str))) u (.lst (ws.map V.str)) = H2 at s2 hu2
  refine ⟨_, rfl, ⟨_, rfl⟩, (Txt.partition z ":").1, " ", rfl, rfl, rfl, by omega, fun w2 hw2 => ?_⟩
  have s3 := same_upd (o := .lst ((Txt.split (Txt.partition z ":").1 " ").map V.str)) hw2
  have hw3 := upd_same (H := H2) (a := w2) (o := .lst ((Txt.split (Txt.partition z ":").1 " ").map V.str))
  generalize upd H2 w2 (.lst ((Txt.split (Txt.partition z ":").1 " ").map V.str)) = H3 at s3 hw3
  have hw3 : H3 w2 = some (.lst ((hdS z).map V.str)) := hw3
  have elt : ∀ {ys : List Str} {i : Nat} {v : V}, (ys.map V.str)[i]? = some v → ∃ y, ys[i]? = some y ∧ v = .str y := fun {ys i v} h => by
    rw [List.getElem?_map] at h
    cases e : ys[i]? with
    | none =>
      rw [e] at h
      cases h
    | some y =>
      rw [e] at h
      exact ⟨y, rfl, (Option.some.inj h).symm⟩
  refine ⟨w2, rfl, ⟨_, SqL.of hw3⟩, fun D hD => lc_F (walk_list (K := K) (a := w2) (xs := (hdS z).map V.str)) (fun i => optV (numO ((hdS z).getD i ""))) (by rw [List.length_map]; omega) hD (fun _ s => SqL.of (s _ _ hw3)) ?_ fun H4 s4 hd4 => ?_⟩
  · rintro i v H5 H6 hi s5 ⟨rfl, hv⟩ Q' q'
    obtain ⟨y, hy, rfl⟩ := elt hv
    rw [List.getD_eq_getElem?_getD, hy] at q'
    exact ⟨rfl, _, rfl, y, rfl, wh y (List.mem_of_getElem? hy), q'⟩
  have ra : ∀ ys : List Str, (List.range ys.length).map (fun i => optV (numO (ys.getD i ""))) = ys.map fun w => optV (numO w) := fun ys => by
    refine List.ext_getElem (by simp) fun k h1 h2 => ?_
    rw [List.length_map] at h2
    simp [List.getD_eq_getElem?_getD, List.getElem?_eq_getElem h2]
  rw [List.length_map, ra] at hd4
  have s14 := s1.trans (s2.trans (s3.trans s4))
  have hu4 := s4 _ _ (s3 _ _ hu2)
  refine ⟨_, rfl, u, rfl, ⟨_, SqL.of hu4⟩, fun D2 hD2 => lc_F (walk_list (K := K) (a := u) (xs := ws.map V.str)) (fun i => optV (numO (ws.getD i ""))) (by rw [List.length_map]; omega) hD2 (fun _ s => SqL.of (s _ _ hu4)) ?_ fun H5 s5 hd5 => ?_⟩
  · rintro i v H5 H6 hi s5 ⟨rfl, hv⟩ Q' q'
    obtain ⟨y, hy, rfl⟩ := elt hv
    rw [List.getD_eq_getElem?_getD, hy] at q'
    exact ⟨rfl, _, rfl, y, rfl, wt y (List.mem_cons_of_mem _ (List.mem_of_getElem? hy)), q'⟩
  rw [List.length_map, ra] at hd5
  refine ⟨D2, _, rfl, .inl ⟨SqL.of hd5, fun v hv => ?_⟩⟩
  have s6 := same_upd (o := .tup (ws.map fun w => optV (numO w))) hv
  have hv6 := upd_same (H := H5) (a := v) (o := .tup (ws.map fun w => optV (numO w)))
  generalize upd H5 v (.tup (ws.map fun w => optV (numO w))) = H6 at s6 hv6
  refine ⟨_, rfl, D, (hdS z).map (fun w => optV (numO w)), rfl, .inr (SqL.of (s6 _ _ (s5 _ _ hd4))), _, rfl, by rw [List.length_append, List.length_map]; show _ + 1 ≤ _; omega, fun r hr => ?_⟩
  have s7 := same_upd (o := .tup ((hdS z).map (fun w => optV (numO w)) ++ [.ref v])) hr
  have hr7 := upd_same (H := H6) (a := r) (o := .tup ((hdS z).map (fun w => optV (numO w)) ++ [.ref v]))
  have hv7 := s7 _ _ hv6
  generalize upd H6 r (.tup ((hdS z).map (fun w => optV (numO w)) ++ [.ref v])) = H7 at s7 hr7 hv7
  have s17 := s14.trans (s5.trans (s6.trans s7))
  refine ⟨_, rfl, rfl, _, rfl, ?_⟩
  by_cases c1 : (Txt.partition z ":").2.1 = ""
  · rw [decide_eq_true (congrArg V.str c1)]
    exact iteT (iteT (qe (by rw [gd, decide_eq_false (fun x => x c1)]; rfl) _ s17))
  rw [decide_eq_false (fun x => c1 (V.str.inj x))]
  refine iteF ⟨_, rfl, rfl, _, rfl, ?_⟩
  by_cases c2 : ah = ""
  · rw [decide_eq_true (congrArg V.str c2)]
    refine iteF ⟨_, rfl, .ref r, letB ((hdS z).map numO) (ws.map numO), rfl, let_B (by rw [hr7, List.map_map]; rfl) (by rw [hv7, List.map_map]; rfl), fun H8 s8 => ⟨_, rfl, ?_⟩⟩
    rw [decide_eq_true c1, decide_eq_true c2, Bool.true_and, Bool.true_and] at gd
    rw [← gd]
    cases eg : good z with
    | false => exact iteT (qe eg _ (s17.trans s8))
    | true => exact iteF ⟨_, rfl, q eg r v H8 (s17.trans s8) (s8 _ _ hr7) (s8 _ _ hv7)⟩
  · rw [decide_eq_false (fun x => c2 (V.str.inj x))]
    exact iteT (iteT (qe (by rw [gd, decide_eq_false c2, Bool.false_and, Bool.and_false]) _ s17))
/-! ### _law_start: slots 0 _law_script, 1 _law_mixed, 2 _law_cell -/

theorem ok__law_start (T : Txt K mg A) : FnOk P w K mg base CX0 1 A.f__law_start A.d__law_start ["_law_script"] (sp__law_start K) := by
  refine T.F__law_start.ok sc__law_start (fun vs H Q E h => by first | (obtain ⟨_, rfl, _⟩ := h; rfl) | (obtain ⟨_, _, rfl, _⟩ := h; rfl) | (obtain ⟨_, _, _, rfl, _⟩ := h; rfl) | (obtain ⟨_, _, _, _, rfl, _⟩ := h; rfl) | (obtain ⟨_, _, _, _, _, rfl, _⟩ := h; rfl) | (obtain ⟨_, _, _, _, _, _, rfl, _⟩ := h; rfl) | (obtain ⟨_, _, _, _, _, _, _, rfl, _⟩ := h; rfl) | (obtain ⟨_, _, _, _, _, _, _, _, rfl, _⟩ := h; rfl) | (obtain ⟨_, _, _, _, _, _, _, _, _, rfl, _⟩ := h; rfl)) (fun cdv AA outer s H vs Q E hr h => ?_)
  refine ⟨_, (pss_cons (ps_set (i := 1) sc__law_start.nd rfl (.inl rfl) pe_int)
      (pss_cons (ps_for PassesOwn.never rfl (pi_list (pv 0)) (pg_name (i := 2) sc__law_start.nd rfl (.inl rfl))
        (pss_one (ps_set (i := 1) sc__law_start.nd rfl (.inl rfl) (pe_op op_mod (pe_op op_add (pe_op op_add (pe_op op_mul (pv 1) pe_int) (pv 2)) pe_int) pe_int))))
      (pss_one (ps_ret (pe_lst (pa_cons (pv 0) (pa_cons pe_int (pa_cons (pv 1) (pa_cons pe_int pa_nil))))))))), ?_⟩
  obtain ⟨a, ns, rfl, hS, q⟩ := h
  refine ⟨_, rfl, a, rfl, ⟨_, hS⟩, for_list (K := K) (a := a) (xs := ns.map V.int) (fun i σ H' => ∃ (m : Int) (v : Option V), σ = [some (.ref a), some (.int m), v] ∧ H' = H) ⟨1, none, rfl, rfl⟩ (fun i σ H' _ ⟨_, _, _, e⟩ => e ▸ hS) ?_ ?_⟩
  · rintro i y σ H' hi ⟨m, v, rfl, rfl⟩
    obtain ⟨z, hz, rfl⟩ := int_at hi
    exact ⟨_, rfl, _, _, rfl, rfl, .inr ⟨by decide, by decide⟩, _, rfl, _, _, rfl, rfl, _, _, rfl, rfl, _, _, rfl, rfl, by show (0:Int) < _; decide, _, _, rfl, rfl⟩
  · rintro σ H' ⟨m, v, rfl, rfl⟩
    refine ⟨_, rfl, _, rfl, by show 4 ≤ sizeLine; decide, fun p hp => ?_⟩
    exact q p _ hp (same_upd hp) ⟨⟨0, m, 0, Int.le_refl 0, upd_same⟩, ns, (same_upd hp).seq hS⟩
/-! ### _law_drawn: slots 0 _law_state, 1 _law_many, 2 _law_found, 3 _law_cell -/

theorem ok__law_drawn (T : Txt K mg A) : FnOk P w K mg base CX0 1 A.f__law_drawn A.d__law_drawn ["_law_state", "_law_many"] (sp__law_drawn K) := by
  refine T.F__law_drawn.ok sc__law_drawn (fun vs H Q E h => by first | (obtain ⟨_, rfl, _⟩ := h; rfl) | (obtain ⟨_, _, rfl, _⟩ := h; rfl) | (obtain ⟨_, _, _, rfl, _⟩ := h; rfl) | (obtain ⟨_, _, _, _, rfl, _⟩ := h; rfl) | (obtain ⟨_, _, _, _, _, rfl, _⟩ := h; rfl) | (obtain ⟨_, _, _, _, _, _, rfl, _⟩ := h; rfl) | (obtain ⟨_, _, _, _, _, _, _, rfl, _⟩ := h; rfl) | (obtain ⟨_, _, _, _, _, _, _, _, rfl, _⟩ := h; rfl) | (obtain ⟨_, _, _, _, _, _, _, _, _, rfl, _⟩ := h; rfl)) (fun cdv AA outer s H vs Q E hr h => ?_)
  refine ⟨_, (pss_cons (ps_if (pt_cmpR op_gt (pe_ix ix_list (pv 0) pe_int (fun _ _ => rfl)) pe_int (nomark _)) (pss_cons (ps_set (i := 2) sc__law_drawn.nd rfl (.inl rfl) (pe_op op_mod (pe_ix ix_list (pv 0) pe_int (fun _ _ => rfl)) (pv 1)))
        (pss_cons (ps_asg (pe_op op_fdivW (pe_ix ix_list (pv 0) pe_int (fun _ _ => rfl)) (pv 1)) (pg_sub (pv 0) pe_int set_list))
        (pss_one (ps_ret (pv 2))))) pss_nil)
      (pss_cons (ps_asg (pe_op op_add (pe_ix ix_list (pv 0) pe_int (fun _ _ => rfl)) pe_int) (pg_sub (pv 0) pe_int set_list))
      (pss_cons (ps_if (pt_cmpR op_le (pe_ix ix_list (pv 0) pe_int (fun _ _ => rfl)) (pe_callB call_len_seq (by rfl) T.z_len PySem.boot_len (pa_cons (pe_ix ix_list (pv 0) pe_int (fun _ _ => rfl)) pa_nil)) (nomark _)) (pss_cons (ps_set (i := 3) sc__law_drawn.nd rfl (.inl rfl) (pe_ix ix_list (pe_ix ix_list (pv 0) pe_int (fun _ _ => rfl)) (pe_op op_sub (pe_ix ix_list (pv 0) pe_int (fun _ _ => rfl)) pe_int) (fun _ _ => rfl)))
        (pss_cons (ps_asg (pe_ifExp (pt_cmpR op_ge (pv 3) (pe_op op_pow pe_int pe_int) (nomark _)) (pe_op op_fdivW (pv 3) (pv 1)) pe_int) (pg_sub (pv 0) pe_int set_list))
        (pss_one (ps_ret (pe_op op_mod (pv 3) (pv 1)))))) pss_nil)
      (pss_cons (ps_asg (pe_op op_mod (pe_op op_add (pe_op op_mul (pe_ix ix_list (pv 0) pe_int (fun _ _ => rfl)) pe_int) pe_int) pe_int) (pg_sub (pv 0) pe_int set_list))
      (pss_one (ps_ret (pe_op op_mod (pe_op op_fdiv (pe_ix ix_list (pv 0) pe_int (fun _ _ => rfl)) pe_int) (pv 1)))))))), ?_⟩
  obtain ⟨a, st, n, rfl, hS, hn, hnb, q⟩ := h
  obtain ⟨⟨i, m, r, hi, hs⟩, ns, hns⟩ := id hS
  -- if state[3] > 0
  refine ⟨_, rfl, st, _, 3, _, rfl, rfl, SqL.of hs, atI_nat (j := 3) rfl, _, _, rfl, rfl, _, rfl, ite2 (fun c => ?_) (fun c => ?_)⟩
  · refine ⟨_, rfl, st, _, 3, _, rfl, rfl, SqL.of hs, atI_nat (j := 3) rfl, _, rfl, _, _, rfl, rfl, hn, ?_⟩
    refine ⟨_, rfl, st, _, 3, _, rfl, rfl, SqL.of hs, atI_nat (j := 3) rfl, _, rfl, _, _, rfl, rfl, wide_div hn hnb (by decide) (by decide), ?_⟩
    refine ⟨_, rfl, st, _, 3, 3, rfl, rfl, hs, rfl, ?_⟩
    exact ⟨_, rfl, q _ _ (Int.emod_nonneg _ (by omega)) (Int.emod_lt_of_pos _ hn) (Go.upd (r := r / n) (m := m) hS hi)⟩
  · -- state[1] = state[1] + 1
    refine ⟨_, rfl, st, _, 1, _, rfl, rfl, SqL.of hs, atI_nat (j := 1) rfl, _, _, rfl, rfl, ?_⟩
    refine ⟨_, rfl, st, _, 1, 1, rfl, rfl, hs, rfl, ?_⟩
    have g1 : Go K st H (upd H st (.lst [.ref a, .int (i + 1), .int m, .int r])) := Go.upd hS (by omega)
    have hS1 := g1.st _ hS
    have hs1 : (upd H st (.lst [.ref a, .int (i + 1), .int m, .int r])) st = some (.lst [.ref a, .int (i + 1), .int m, .int r]) := upd_same
    obtain ⟨_, ns1, hns1⟩ := id hS1
    -- if state[1] <= len(state[0])
    refine ⟨_, rfl, st, _, 1, _, rfl, rfl, SqL.of hs1, atI_nat (j := 1) rfl, _, rfl, st, _, 0, _, rfl, rfl, SqL.of hs1, atI_nat (j := 0) rfl, a, _, rfl, .inl hns1, _, _, rfl, rfl, _, rfl, ite2 (fun c => ?_) (fun c => ?_)⟩
    · have c2 : i + 1 ≤ (ns1.length : Int) := by
        have := of_decide_eq_true c
        rw [List.length_map] at this
        exact this
      have hlt : i.toNat < ns1.length := by omega
      have hat : atI (ns1.map V.int) (i + 1 - 1) = some (.int ns1[i.toNat]) := at_of (j := i.toNat) (by omega) (by rw [List.getElem?_map, List.getElem?_eq_getElem hlt]; rfl)
      -- cell = state[0][state[1] - 1]
      refine ⟨_, rfl, st, _, 0, _, rfl, rfl, SqL.of hs1, atI_nat (j := 0) rfl, _, rfl, st, _, 1, _, rfl, rfl, SqL.of hs1, atI_nat (j := 1) rfl, _, _, rfl, rfl, a, _, _, _, rfl, rfl, hns1, hat, ?_⟩
      -- state[3] = cell // many if cell >= 10 ** 18 else 0
      refine ⟨_, rfl, _, _, rfl, rfl, ⟨by decide, by decide, by decide⟩, _, _, rfl, rfl, _, rfl, ite2 (fun c3 => ?_) (fun c3 => ?_)⟩
      · refine ⟨_, rfl, _, rfl, _, _, rfl, rfl, wide_div hn hnb (by decide) (by decide), _, rfl, st, _, 3, 3, rfl, rfl, hs1, rfl, ?_⟩
        exact ⟨_, rfl, _, rfl, _, _, rfl, rfl, hn, q _ _ (Int.emod_nonneg _ (by omega)) (Int.emod_lt_of_pos _ hn) (g1.trans (Go.upd (m := m) hS1 (by omega)))⟩
      · refine ⟨_, rfl, st, _, 3, 3, rfl, rfl, hs1, rfl, ?_⟩
        exact ⟨_, rfl, _, rfl, _, _, rfl, rfl, hn, q _ _ (Int.emod_nonneg _ (by omega)) (Int.emod_lt_of_pos _ hn) (g1.trans (Go.upd (m := m) hS1 (by omega)))⟩
    · -- state[2] = (state[2] * 48271 + 11) % 2147483647
      refine ⟨_, rfl, st, _, 2, _, rfl, rfl, SqL.of hs1, atI_nat (j := 2) rfl, _, _, rfl, rfl, .inr ⟨by decide, by decide⟩, _, _, rfl, rfl, _, _, rfl, rfl, by show (0:Int) < _; decide, ?_⟩
      refine ⟨_, rfl, st, _, 2, 2, rfl, rfl, hs1, rfl, ?_⟩
      have g2 := g1.trans (Go.upd (m := (m * 48271 + 11) % 2147483647) (r := r) hS1 (by omega : 0 ≤ i + 1))
      refine ⟨_, rfl, st, _, 2, _, rfl, rfl, SqL.of upd_same, atI_nat (j := 2) rfl, _, _, rfl, rfl, ⟨by decide, by decide⟩, _, rfl, _, _, rfl, rfl, hn, ?_⟩
      exact q _ _ (Int.emod_nonneg _ (by omega)) (Int.emod_lt_of_pos _ hn) g2
/-! ### _law_letter: slots 0 _law_state, 1 _law_some, 2 _law_many, 3 _law_told_here, 4 _law_k -/

theorem ok__law_letter (T : Txt K mg A) : FnOk P w K mg base CX0 2 A.f__law_letter A.d__law_letter ["_law_state"] (sp__law_letter K) := by
  refine T.F__law_letter.ok sc__law_letter (fun vs H Q E h => by first | (obtain ⟨_, rfl, _⟩ := h; rfl) | (obtain ⟨_, _, rfl, _⟩ := h; rfl) | (obtain ⟨_, _, _, rfl, _⟩ := h; rfl) | (obtain ⟨_, _, _, _, rfl, _⟩ := h; rfl) | (obtain ⟨_, _, _, _, _, rfl, _⟩ := h; rfl) | (obtain ⟨_, _, _, _, _, _, rfl, _⟩ := h; rfl) | (obtain ⟨_, _, _, _, _, _, _, rfl, _⟩ := h; rfl) | (obtain ⟨_, _, _, _, _, _, _, _, rfl, _⟩ := h; rfl) | (obtain ⟨_, _, _, _, _, _, _, _, _, rfl, _⟩ := h; rfl)) (fun cdv AA outer s H vs Q E hr h => ?_)
  refine ⟨_, (pss_cons (ps_setLc (i := 1) (own := [("_law_k", 4)]) (g := gName 4)  rfl sc__law_letter.nd rfl rfl (sw_true rfl rfl rfl (by decide +kernel)) (pi_range1 (by rfl) T.z_range (pa_cons pe_int pa_nil)) (blkOk_by (own := [("_law_k", 4)]) (N := ["_law_state", "_law_some", "_law_many", "_law_told_here", "_law_k"]) (sc := defScope s__law_letter) (by decide +kernel)) (fun _ _ _ _ _ => pg_name (i := 4) sc__law_letter.nd rfl (Or.inl rfl)) (fun _ _ _ _ _ => pts_nil) (fun _ _ _ _ _ => (pe_call (ok__law_drawn T) (hr.mono (by decide)) (by rfl) T.g__law_drawn T.k__law_drawn T.b__law_drawn .nil pass0 (pa_cons (pv 0) (pa_cons (pe_ix (ix_listK (K := K) rfl) (pe_lst (pa_cons pe_int (pa_cons pe_int (pa_cons (pe_op op_pow pe_int pe_int) pa_nil)))) (pe_call (ok__law_drawn T) (hr.mono (by decide)) (by rfl) T.g__law_drawn T.k__law_drawn T.b__law_drawn .nil pass0 (pa_cons (pv 0) (pa_cons pe_int pa_nil))) (fun _ _ => rfl)) pa_nil)))))
      (pss_cons (ps_set (i := 2) sc__law_letter.nd rfl (.inl rfl) (pe_ix ix_list (pe_lst (pa_cons (pe_call (ok__law_drawn T) (hr.mono (by decide)) (by rfl) T.g__law_drawn T.k__law_drawn T.b__law_drawn .nil pass0 (pa_cons (pv 0) (pa_cons pe_int pa_nil))) (pa_cons (pe_op op_sub pe_int (pe_call (ok__law_drawn T) (hr.mono (by decide)) (by rfl) T.g__law_drawn T.k__law_drawn T.b__law_drawn .nil pass0 (pa_cons (pv 0) (pa_cons pe_int pa_nil)))) pa_nil))) (pe_callTy call_int1 (by rfl) T.z_int (by decide +kernel) (pa_cons (pe_cmpR op_eq (pe_call (ok__law_drawn T) (hr.mono (by decide)) (by rfl) T.g__law_drawn T.k__law_drawn T.b__law_drawn .nil pass0 (pa_cons (pv 0) (pa_cons pe_int pa_nil))) pe_int (nomark _)) pa_nil)) (fun _ _ => rfl)))
      (pss_cons (ps_set (i := 3) sc__law_letter.nd rfl (.inl rfl) (pe_callTy call_tuple_of (by rfl) T.z_tuple (by decide +kernel) (pa_cons (pe_lc (own := [("_law_k", 4)]) (g := gName 4)  rfl sc__law_letter.nd (pi_range1 (by rfl) T.z_range (pa_cons (pv 2) pa_nil)) (blkOk_by (own := [("_law_k", 4)]) (N := ["_law_state", "_law_some", "_law_many", "_law_told_here", "_law_k"]) (sc := defScope s__law_letter) (by decide +kernel)) (fun _ _ _ _ _ => pg_name (i := 4) sc__law_letter.nd rfl (Or.inl rfl)) (fun _ _ _ _ _ => pts_nil) (fun _ _ _ _ _ => (pe_ix (ix_listK (K := K) rfl) (pe_lst (pa_cons (pe_call (ok__law_drawn T) (hr.mono (by decide)) (by rfl) T.g__law_drawn T.k__law_drawn T.b__law_drawn .nil pass0 (pa_cons (pv 0) (pa_cons pe_int pa_nil))) (pa_cons (pe_call (ok__law_drawn T) (hr.mono (by decide)) (by rfl) T.g__law_drawn T.k__law_drawn T.b__law_drawn .nil pass0 (pa_cons (pv 0) (pa_cons pe_int pa_nil))) (pa_cons pe_int pa_nil)))) (pe_call (ok__law_drawn T) (hr.mono (by decide)) (by rfl) T.g__law_drawn T.k__law_drawn T.b__law_drawn .nil pass0 (pa_cons (pv 0) (pa_cons pe_int pa_nil))) (fun _ _ => rfl)))) pa_nil)))
      (pss_one (ps_ret (pe_tup (pa_cons (pe_ix ix_list (pv 1) pe_int (fun _ _ => rfl)) (pa_cons (pe_ix ix_list (pv 1) pe_int (fun _ _ => rfl)) (pa_cons (pe_call (ok__law_drawn T) (hr.mono (by decide)) (by rfl) T.g__law_drawn T.k__law_drawn T.b__law_drawn .nil pass0 (pa_cons (pv 0) (pa_cons pe_int pa_nil))) (pa_cons (pv 3) pa_nil)))))))))), ?_⟩
  obtain ⟨a, st, rfl, hS, q⟩ := h
  refine ⟨2, rfl, by decide, by decide, fun D hD => lc_G (K := K) (st := st) (a := a) (walk_range (lo := 0) (n := 2)) (fun _ v _ => ∃ z : Int, v = .int z ∧ 0 ≤ z ∧ z < 10 ^ 60) hS (by decide) hD (fun _ _ => trivial) (fun _ _ _ _ h _ => h) ?_ fun ws H1 g1 hd hwl hws => ?_⟩
  · rintro i x H2 H3 hi g2 _ ⟨rfl, rfl⟩ Q' q'
    have S2 := g2.st _ hS
    refine ⟨rfl, _, rfl, _, _, rfl, rfl, ⟨by decide, by decide, by decide⟩, by show 3 ≤ sizeLine; decide, fun l hl => ?_⟩
    have gl := Go.new (K := K) (st := st) (o := .lst [.int 10, .int 1000, .int (10 ^ Int.toNat 60)]) hl
    have S3 := gl.st _ S2
    refine ⟨_, rfl, a, st, 3, rfl, S3, by decide, nat8000 (by decide) (by decide +kernel), fun v H4 v0 v1 g4 => ?_⟩
    obtain ⟨n, hat, n1, n2⟩ := pickI (ns := [10, 1000, 10 ^ Int.toNat 60]) (lo := 10) (hi := 10 ^ 60) (by decide +kernel) v0 v1
    have S4 := g4.st _ S3
    exact ⟨l, _, _, _, rfl, rfl, SqL.of (g4.keep _ _ (S2.fresh hl) upd_same), hat, a, st, n, rfl, S4, by omega, nat8000 (by omega) (by omega), fun z H5 z0 z1 g5 => q' _ _ (gl.trans (g4.trans g5)) ⟨z, rfl, z0, by omega⟩⟩
  obtain ⟨w0, w1, rfl⟩ : ∃ w0 w1, ws = [w0, w1] := by
    match ws, hwl with
    | [w0, w1], _ => exact ⟨_, _, rfl⟩
  obtain ⟨t, rfl, t0, t1⟩ := hws 0 w0 rfl
  obtain ⟨d, rfl, d0, d1⟩ := hws 1 w1 rfl
  have S1 := g1.st _ hS
  have nD := hS.fresh hD
  -- many
  refine ⟨_, rfl, a, st, 9, rfl, S1, by decide, nat8000 (by decide) (by decide +kernel), fun x H9 x1 x2 g9 => ?_⟩
  have S9 := g9.st _ S1
  refine ⟨_, rfl, a, st, 60, rfl, S9, by decide, nat8000 (by decide) (by decide +kernel), fun y H10 y0 y1 g10 => ?_⟩
  have S10 := g10.st _ S9
  refine ⟨_, _, rfl, rfl, by show 2 ≤ sizeLine; decide, fun l3 hl3 => ?_⟩
  have gl3 := Go.new (K := K) (st := st) (o := .lst [.int x, .int (96 - y)]) hl3
  refine ⟨_, rfl, a, st, 8, rfl, gl3.st _ S10, by decide, nat8000 (by decide) (by decide +kernel), fun u H11 _ _ g11 => ?_⟩
  have S11 := (gl3.trans g11).st _ S10
  refine ⟨rfl, .inr ⟨_, rfl, ?_⟩⟩
  obtain ⟨m, hat2, m0, m1⟩ := pickI (ns := [x, 96 - y]) (lo := 0) (hi := 96) (v := if decide (V.int u = V.int 7) then 1 else 0) (by simp only [List.mem_cons, List.not_mem_nil, or_false]; rintro z (rfl | rfl) <;> omega) (by split <;> decide) (by show _ < (2 : Int); split <;> decide)
  refine ⟨l3, _, _, _, rfl, rfl, SqL.of (g11.keep _ _ (S10.fresh hl3) upd_same), hat2, ?_⟩
  have gA := g9.trans (g10.trans (gl3.trans g11))
  have hd11 := gA.keep _ _ nD hd
  -- told
  refine ⟨_, rfl, m, rfl, by omega, by omega, fun D2 hD2 => lc_G (K := K) (st := st) (a := a) (walk_range (lo := 0) (n := m.toNat)) (fun _ v _ => ∃ z : Int, v = .int z ∧ 0 ≤ z ∧ z < 97) S11 (by omega) hD2 (fun _ _ => trivial) (fun _ _ _ _ h _ => h) ?_ fun ws2 H12 g12 hd2 hwl2 hws2 => ?_⟩
  · rintro i x H2 H3 hi g2 _ ⟨rfl, rfl⟩ Q' q'
    have S2 := g2.st _ S11
    refine ⟨rfl, _, rfl, a, st, 97, rfl, S2, by decide, nat8000 (by decide) (by decide +kernel), fun x H4 x0 x1 g4 => ?_⟩
    have S4 := g4.st _ S2
    refine ⟨_, rfl, a, st, 3, rfl, S4, by decide, nat8000 (by decide) (by decide +kernel), fun y H5 y0 y1 g5 => ?_⟩
    have S5 := g5.st _ S4
    refine ⟨by show 3 ≤ sizeLine; decide, fun l hl => ?_⟩
    have gl := Go.new (K := K) (st := st) (o := .lst [.int x, .int y, .int 96]) hl
    refine ⟨_, rfl, a, st, 3, rfl, gl.st _ S5, by decide, nat8000 (by decide) (by decide +kernel), fun v H6 v0 v1 g6 => ?_⟩
    obtain ⟨n, hat, n1, n2⟩ := pickI (ns := [x, y, 96]) (lo := 0) (hi := 96) (by simp only [List.mem_cons, List.not_mem_nil, or_false]; rintro z (rfl | rfl | rfl) <;> omega) v0 v1
    exact ⟨l, _, _, _, rfl, rfl, SqL.of (g6.keep _ _ (S5.fresh hl) upd_same), hat, q' _ _ (g4.trans (g5.trans (gl.trans g6))) ⟨n, rfl, n1, by omega⟩⟩
  obtain ⟨xs, rfl, hxs⟩ : ∃ xs : List Int, ws2 = xs.map V.int ∧ ∀ z ∈ xs, 0 ≤ z ∧ z < 97 := by
    obtain ⟨xs, e⟩ := pick_ints ws2 fun i v hv => by
      obtain ⟨z, hz, _⟩ := hws2 i v hv
      exact ⟨z, hz⟩
    refine ⟨xs, e, fun z hz => ?_⟩
    obtain ⟨i, hi⟩ := List.mem_iff_getElem?.mp hz
    obtain ⟨z2, hz2, h3⟩ := hws2 i (.int z) (by rw [e, List.getElem?_map, hi]; rfl)
    cases hz2
    exact h3
  rw [List.length_map] at hwl2
  refine ⟨D2, _, rfl, .inl ⟨SqL.of hd2, fun p hp => ?_⟩⟩
  have gp := Go.new (K := K) (st := st) (o := .tup (xs.map V.int)) hp
  have hd13 := gp.keep _ _ nD (g12.keep _ _ nD hd11)
  have hp13 := upd_same (H := H12) (a := p) (o := .tup (xs.map V.int))
  have S12 := g12.st _ S11
  have S13 := gp.st _ S12
  refine ⟨_, rfl, D, _, 0, _, rfl, rfl, SqL.of hd13, atI_nat (j := 0) rfl, _, rfl, D, _, 1, _, rfl, rfl, SqL.of hd13, atI_nat (j := 1) rfl, _, rfl, a, st, 97, rfl, S13, by decide, nat8000 (by decide) (by decide +kernel), fun c H14 c0 c1 g14 => ?_⟩
  refine ⟨_, rfl, by show 4 ≤ sizeLine; decide, fun r hr => ?_⟩
  have sr := same_upd (o := .tup [.int t, .int d, .int c, .ref p]) hr
  have hp14 := g14.keep _ _ (S12.fresh hp) hp13
  exact q r p t d c xs _ (g1.trans (gA.trans (g12.trans (gp.trans (g14.trans (Go.of sr)))))) upd_same (sr _ _ hp14) ⟨t0, t1, d0, d1, c0, c1, by omega, hxs⟩
/-! ### _law_text: slots 0 _law_letter_here, 1 _law_words, 2 _law_number_here -/

theorem ok__law_text (T : Txt K mg A) : FnOk P w K mg base CX0 1 A.f__law_text A.d__law_text ["_law_letter_here"] (sp__law_text ) := by
  refine T.F__law_text.ok sc__law_text (fun vs H Q E h => by first | (obtain ⟨_, rfl, _⟩ := h; rfl) | (obtain ⟨_, _, rfl, _⟩ := h; rfl) | (obtain ⟨_, _, _, rfl, _⟩ := h; rfl) | (obtain ⟨_, _, _, _, rfl, _⟩ := h; rfl) | (obtain ⟨_, _, _, _, _, rfl, _⟩ := h; rfl) | (obtain ⟨_, _, _, _, _, _, rfl, _⟩ := h; rfl) | (obtain ⟨_, _, _, _, _, _, _, rfl, _⟩ := h; rfl) | (obtain ⟨_, _, _, _, _, _, _, _, rfl, _⟩ := h; rfl) | (obtain ⟨_, _, _, _, _, _, _, _, _, rfl, _⟩ := h; rfl)) (fun cdv AA outer s H vs Q E hr h => ?_)
  refine ⟨_, (pss_cons (ps_set (i := 1) sc__law_text.nd rfl (.inl rfl) (pe_lst (pa_cons (pe_callTy call_str_int (by rfl) T.z_str (by decide +kernel) (pa_cons (pe_ix ix_tup (pv 0) pe_int (fun _ _ => rfl)) pa_nil)) (pa_cons (pe_callTy call_str_int (by rfl) T.z_str (by decide +kernel) (pa_cons (pe_ix ix_tup (pv 0) pe_int (fun _ _ => rfl)) pa_nil)) (pa_cons (pe_op op_add_str (pe_callTy call_str_int (by rfl) T.z_str (by decide +kernel) (pa_cons (pe_ix ix_tup (pv 0) pe_int (fun _ _ => rfl)) pa_nil)) pe_str) pa_nil)))))
      (pss_one (ps_ret (pe_join pe_str (pe_op op_cat (pv 1) (pe_lc (own := [("_law_number_here", 2)]) (g := gName 2)  rfl sc__law_text.nd (pi_tup (pe_ix ix_tup (pv 0) pe_int (fun _ _ => rfl))) (blkOk_by (own := [("_law_number_here", 2)]) (N := ["_law_letter_here", "_law_words", "_law_number_here"]) (sc := defScope s__law_text) (by decide +kernel)) (fun _ _ _ _ _ => pg_name (i := 2) sc__law_text.nd rfl (Or.inl rfl)) (fun _ _ _ _ _ => pts_nil) (fun _ _ _ _ _ => (pe_callTy call_str_int (by rfl) T.z_str (by decide +kernel) (pa_cons (pv 2) pa_nil))))))))), ?_⟩
  obtain ⟨r, s, t, d, c, xs, rfl, hr, hs, o, q⟩ := h
  have lt := dec_len o.t0 o.t1
  have ld := dec_len o.d0 o.d1
  have lc := dec_len o.c0 (Int.lt_of_lt_of_le o.c1 (by decide))
  have sz : 10000 ≤ sizeLine := by decide
  have hx96 := o.len
  have lk : (":" : Str).length = 1 := rfl
  refine ⟨_, rfl, r, _, 0, _, rfl, rfl, SqT.of hr, atI_nat (j := 0) rfl, t, rfl, log_ok o.t0 o.t1, ?_⟩
  refine ⟨_, rfl, r, _, 1, _, rfl, rfl, SqT.of hr, atI_nat (j := 1) rfl, d, rfl, log_ok o.d0 o.d1, ?_⟩
  refine ⟨_, rfl, r, _, 2, _, rfl, rfl, SqT.of hr, atI_nat (j := 2) rfl, c, rfl, log_ok o.c0 (Int.lt_of_lt_of_le o.c1 (by decide)), decS c, ":", rfl, rfl, by omega, by show 3 ≤ sizeLine; decide, fun w hw => ?_⟩
  have s1 := same_upd (o := .lst [.str (decS t), .str (decS d), .str (decS c ++ ":")]) hw
  have hw1 := upd_same (H := H) (a := w) (o := .lst [.str (decS t), .str (decS d), .str (decS c ++ ":")])
  refine ⟨⟨_, rfl⟩, _, rfl, _, rfl, r, _, 3, _, rfl, rfl, SqT.of (s1 _ _ hr), atI_nat (j := 3) rfl, s, rfl, ⟨_, SqT.of (s1 _ _ hs)⟩, fun D hD => lc_F (walk_tup (K := K) (a := s) (xs := xs.map V.int)) (fun i => V.str (decS (xs.getD i 0))) (by rw [List.length_map]; omega) hD (fun _ s2 => SqT.of (s2 _ _ (s1 _ _ hs))) ?_ fun H2 s2 hd => ?_⟩
  · rintro i v H3 H4 hi s3 ⟨rfl, hv⟩ Q' q'
    rw [List.getElem?_map] at hv
    cases hx : xs[i]? with
    | none =>
      rw [hx] at hv
      cases hv
    | some x =>
      rw [hx] at hv
      cases hv
      rw [List.getD_eq_getElem?_getD, hx] at q'
      have ox := o.ok x (List.mem_of_getElem? hx)
      exact ⟨rfl, _, rfl, x, rfl, log_ok ox.1 (Int.lt_of_lt_of_le ox.2 (by decide)), q' _ (Same.refl _)⟩
  · rw [List.length_map, range_at xs fun x => V.str (decS x)] at hd
    have hys : ∀ y ∈ [decS t, decS d, decS c ++ ":"] ++ xs.map decS, y.length ≤ 61 := by
      intro y hy
      rcases List.mem_append.mp hy with hy | hy
      · simp only [List.mem_cons, List.not_mem_nil, or_false] at hy
        rcases hy with rfl | rfl | rfl
        · omega
        · omega
        · rw [lenA]
          omega
      · obtain ⟨x, hx, rfl⟩ := List.mem_map.mp hy
        have ox := o.ok x hx
        have := dec_len ox.1 (Int.lt_of_lt_of_le ox.2 (by decide))
        omega
    have hsum := sum_len hys
    have hl2 : ([decS t, decS d, decS c ++ ":"] ++ xs.map decS).length = 3 + xs.length := by
      rw [List.length_append, List.length_map]
      rfl
    rw [hl2] at hsum
    refine ⟨w, D, _, _, rfl, rfl, s2 _ _ hw1, hd, by rw [List.length_map]; show 3 + xs.length ≤ _; omega, fun p hp => ?_⟩
    refine ⟨" ", p, [decS t, decS d, decS c ++ ":"] ++ xs.map decS, rfl, rfl, .inl (SqL.of (by rw [upd_same, List.map_append, List.map_map]; rfl)), ?_, ?_⟩
    · rw [hl2, show (" " : Str).length = 1 from rfl]
      omega
    · rw [let_join o]
      exact q _ (s1.trans (s2.trans (same_upd hp)))
/-! ### _law_same: slots 0 _law_found, 1 _law_due, 2 _law_k -/

theorem ok__law_same (T : Txt K mg A) : ∀ n : Nat, FnOk P w K mg base CX0 (n + 1) A.f__law_same A.d__law_same ["_law_found", "_law_due"] (sp__law_same K n)
  | 0 => by
    refine T.F__law_same.ok sc__law_same (fun vs H Q E h => by first | (obtain ⟨_, rfl, _⟩ := h; rfl) | (obtain ⟨_, _, rfl, _⟩ := h; rfl) | (obtain ⟨_, _, _, rfl, _⟩ := h; rfl) | (obtain ⟨_, _, _, _, rfl, _⟩ := h; rfl) | (obtain ⟨_, _, _, _, _, rfl, _⟩ := h; rfl) | (obtain ⟨_, _, _, _, _, _, rfl, _⟩ := h; rfl) | (obtain ⟨_, _, _, _, _, _, _, rfl, _⟩ := h; rfl) | (obtain ⟨_, _, _, _, _, _, _, _, rfl, _⟩ := h; rfl) | (obtain ⟨_, _, _, _, _, _, _, _, _, rfl, _⟩ := h; rfl)) (fun cdv AA outer s H vs Q E hr h => ?_)
    refine ⟨_, (pss_cons (ps_if (pt_val (pe_callB call_isi (by rfl) T.z_isinstance (show bootBuiltins "isinstance" = some (.builtin "isinstance") by decide +kernel) (pa_cons (pv 1) (pa_cons (pe_bltn (v := .ty "tuple") (by rfl) T.z_tuple (by decide +kernel) rfl) pa_nil)))) (pss_cons ps_never (pss_one ps_never)) pss_nil)
      (pss_cons (ps_if (pt_cmpR op_isN (pv 1) pe_non (nomark _)) (pss_one (ps_ret (pe_cmpR op_isN (pv 0) pe_non (nomark _)))) pss_nil)
      (pss_cons (ps_if (pt_val (pe_callB call_isi (by rfl) T.z_isinstance (show bootBuiltins "isinstance" = some (.builtin "isinstance") by decide +kernel) (pa_cons (pv 1) (pa_cons (pe_bltn (v := .ty "str") (by rfl) T.z_str (by decide +kernel) rfl) pa_nil)))) (pss_one (ps_ret (pe_and (pe_callB call_isi (by rfl) T.z_isinstance (show bootBuiltins "isinstance" = some (.builtin "isinstance") by decide +kernel) (pa_cons (pv 0) (pa_cons (pe_bltn (v := .ty "str") (by rfl) T.z_str (by decide +kernel) rfl) pa_nil))) (pe_one (pe_cmpR op_eq (pv 0) (pv 1) (nomark _)))))) pss_nil)
      (pss_cons (ps_if (PW.pt (pw_or (pt_val (pe_callB call_isi (by rfl) T.z_isinstance (show bootBuiltins "isinstance" = some (.builtin "isinstance") by decide +kernel) (pa_cons (pv 1) (pa_cons (pe_bltn (v := .ty "bool") (by rfl) T.z_bool (by decide +kernel) rfl) pa_nil)))) (pw_or1 (pt_val (pe_callB call_isi (by rfl) T.z_isinstance (show bootBuiltins "isinstance" = some (.builtin "isinstance") by decide +kernel) (pa_cons (pv 0) (pa_cons (pe_bltn (v := .ty "bool") (by rfl) T.z_bool (by decide +kernel) rfl) pa_nil))))))) (pss_one (ps_ret (pe_and (pe_callB call_isi (by rfl) T.z_isinstance (show bootBuiltins "isinstance" = some (.builtin "isinstance") by decide +kernel) (pa_cons (pv 1) (pa_cons (pe_bltn (v := .ty "bool") (by rfl) T.z_bool (by decide +kernel) rfl) pa_nil))) (pe_and (pe_callB call_isi (by rfl) T.z_isinstance (show bootBuiltins "isinstance" = some (.builtin "isinstance") by decide +kernel) (pa_cons (pv 0) (pa_cons (pe_bltn (v := .ty "bool") (by rfl) T.z_bool (by decide +kernel) rfl) pa_nil))) (pe_one (pe_cmpR op_eq (pv 0) (pv 1) (nomark _))))))) pss_nil)
      (pss_one (ps_ret (pe_and (pe_callB call_isi (by rfl) T.z_isinstance (show bootBuiltins "isinstance" = some (.builtin "isinstance") by decide +kernel) (pa_cons (pv 0) (pa_cons (pe_bltn (v := .ty "int") (by rfl) T.z_int (by decide +kernel) rfl) pa_nil))) (pe_one (pe_cmpR op_eq (pv 0) (pv 1) (nomark _)))))))))), ?_⟩
    obtain ⟨x, y, rfl, e, q⟩ := h
    cases e with
    | non =>
      refine ⟨_, rfl, _, _, _, _, false, rfl, .ty "tuple", .base .non, kit_ty (by decide +kernel), _, rfl, iteF ?_⟩
      refine ⟨_, rfl, rfl, _, rfl, iteT ?_⟩
      exact ⟨_, rfl, rfl, q H (Same.refl _)⟩
    | bl b =>
      refine ⟨_, rfl, _, _, _, _, false, rfl, .ty "tuple", .base (.bl _), kit_ty (by decide +kernel), _, rfl, iteF ?_⟩
      refine ⟨_, rfl, rfl, _, rfl, iteF ?_⟩
      refine ⟨_, rfl, _, _, _, _, false, rfl, .ty "str", .base (.bl _), kit_ty (by decide +kernel), _, rfl, iteF ?_⟩
      refine ⟨_, rfl, _, _, _, _, true, rfl, .ty "bool", .base (.bl _), kit_ty (by decide +kernel), _, rfl, iteT ?_⟩
      refine iteT ?_
      refine ⟨_, rfl, _, _, _, _, true, rfl, .ty "bool", .base (.bl _), kit_ty (by decide +kernel), _, rfl, iteT ?_⟩
      refine ⟨_, rfl, _, _, _, _, true, rfl, .ty "bool", .base (.bl _), kit_ty (by decide +kernel), _, rfl, iteT ?_⟩
      refine ⟨_, rfl, _, rfl, rfl, ?_⟩
      rw [decide_eq_true rfl]
      exact q H (Same.refl _)
    | int i =>
      refine ⟨_, rfl, _, _, _, _, false, rfl, .ty "tuple", .base (.int _), kit_ty (by decide +kernel), _, rfl, iteF ?_⟩
      refine ⟨_, rfl, rfl, _, rfl, iteF ?_⟩
      refine ⟨_, rfl, _, _, _, _, false, rfl, .ty "str", .base (.int _), kit_ty (by decide +kernel), _, rfl, iteF ?_⟩
      refine ⟨_, rfl, _, _, _, _, false, rfl, .ty "bool", .base (.int _), kit_ty (by decide +kernel), _, rfl, iteF ?_⟩
      refine ⟨_, rfl, _, _, _, _, false, rfl, .ty "bool", .base (.int _), kit_ty (by decide +kernel), _, rfl, iteF ?_⟩
      refine ⟨_, rfl, _, _, _, _, true, rfl, .ty "int", .base (.int _), kit_ty (by decide +kernel), _, rfl, iteT ?_⟩
      refine ⟨_, rfl, _, rfl, rfl, ?_⟩
      rw [decide_eq_true rfl]
      exact q H (Same.refl _)
    | str z =>
      refine ⟨_, rfl, _, _, _, _, false, rfl, .ty "tuple", .base (.str _), kit_ty (by decide +kernel), _, rfl, iteF ?_⟩
      refine ⟨_, rfl, rfl, _, rfl, iteF ?_⟩
      refine ⟨_, rfl, _, _, _, _, true, rfl, .ty "str", .base (.str _), kit_ty (by decide +kernel), _, rfl, iteT ?_⟩
      refine ⟨_, rfl, _, _, _, _, true, rfl, .ty "str", .base (.str _), kit_ty (by decide +kernel), _, rfl, iteT ?_⟩
      refine ⟨_, rfl, _, rfl, rfl, ?_⟩
      rw [decide_eq_true rfl]
      exact q H (Same.refl _)
  | n + 1 => by
    have IH := ok__law_same T n
    refine T.F__law_same.ok sc__law_same (fun vs H Q E h => by first | (obtain ⟨_, rfl, _⟩ := h; rfl) | (obtain ⟨_, _, rfl, _⟩ := h; rfl) | (obtain ⟨_, _, _, rfl, _⟩ := h; rfl) | (obtain ⟨_, _, _, _, rfl, _⟩ := h; rfl) | (obtain ⟨_, _, _, _, _, rfl, _⟩ := h; rfl) | (obtain ⟨_, _, _, _, _, _, rfl, _⟩ := h; rfl) | (obtain ⟨_, _, _, _, _, _, _, rfl, _⟩ := h; rfl) | (obtain ⟨_, _, _, _, _, _, _, _, rfl, _⟩ := h; rfl) | (obtain ⟨_, _, _, _, _, _, _, _, _, rfl, _⟩ := h; rfl)) (fun cdv AA outer s H vs Q E hr h => ?_)
    refine ⟨_, (pss_cons (ps_if (pt_val (pe_callB call_isi (by rfl) T.z_isinstance (show bootBuiltins "isinstance" = some (.builtin "isinstance") by decide +kernel) (pa_cons (pv 1) (pa_cons (pe_bltn (v := .ty "tuple") (by rfl) T.z_tuple (by decide +kernel) rfl) pa_nil)))) (pss_cons (ps_if (PW.pt (pw_or (pt_not (pt_val (pe_callB call_isi (by rfl) T.z_isinstance (show bootBuiltins "isinstance" = some (.builtin "isinstance") by decide +kernel) (pa_cons (pv 0) (pa_cons (pe_bltn (v := .ty "tuple") (by rfl) T.z_tuple (by decide +kernel) rfl) pa_nil))))) (pw_or1 (pt_cmpR op_ne (pe_callB call_len_seq (by rfl) T.z_len PySem.boot_len (pa_cons (pv 0) pa_nil)) (pe_callB call_len_seq (by rfl) T.z_len PySem.boot_len (pa_cons (pv 1) pa_nil)) (nomark _))))) (pss_one (ps_ret pe_bl)) pss_nil)
        (pss_one (ps_ret (pe_cmpR (op_eqD hr.units) (pe_lc (own := [("_law_k", 2)]) (g := gName 2)  rfl sc__law_same.nd (pi_range1 (by rfl) T.z_range (pa_cons (pe_callB call_len_seq (by rfl) T.z_len PySem.boot_len (pa_cons (pv 1) pa_nil)) pa_nil)) (blkOk_by (own := [("_law_k", 2)]) (N := ["_law_found", "_law_due", "_law_k"]) (sc := defScope s__law_same) (by decide +kernel)) (fun _ _ _ _ _ => pg_name (i := 2) sc__law_same.nd rfl (Or.inl rfl)) (fun _ _ _ _ _ => (pts_one (pt_not (pt_val (pe_call IH hr (by rfl) T.g__law_same T.k__law_same T.b__law_same .nil pass0 (pa_cons (pe_ix (ix_tupK (K := K) rfl) (pv 0) (pv 2) (fun _ _ => rfl)) (pa_cons (pe_ix (ix_tupK (K := K) rfl) (pv 1) (pv 2) (fun _ _ => rfl)) pa_nil))))))) (fun _ _ _ _ _ => (pv 2))) (pe_lst pa_nil) (nomark _))))) pss_nil)
      (pss_cons (ps_if (pt_cmpR op_isN (pv 1) pe_non (nomark _)) (pss_one (ps_ret (pe_cmpR op_isN (pv 0) pe_non (nomark _)))) pss_nil)
      (pss_cons (ps_if (pt_val (pe_callB call_isi (by rfl) T.z_isinstance (show bootBuiltins "isinstance" = some (.builtin "isinstance") by decide +kernel) (pa_cons (pv 1) (pa_cons (pe_bltn (v := .ty "str") (by rfl) T.z_str (by decide +kernel) rfl) pa_nil)))) (pss_one (ps_ret (pe_and (pe_callB call_isi (by rfl) T.z_isinstance (show bootBuiltins "isinstance" = some (.builtin "isinstance") by decide +kernel) (pa_cons (pv 0) (pa_cons (pe_bltn (v := .ty "str") (by rfl) T.z_str (by decide +kernel) rfl) pa_nil))) (pe_one (pe_cmpR op_eq (pv 0) (pv 1) (nomark _)))))) pss_nil)
      (pss_cons (ps_if (PW.pt (pw_or (pt_val (pe_callB call_isi (by rfl) T.z_isinstance (show bootBuiltins "isinstance" = some (.builtin "isinstance") by decide +kernel) (pa_cons (pv 1) (pa_cons (pe_bltn (v := .ty "bool") (by rfl) T.z_bool (by decide +kernel) rfl) pa_nil)))) (pw_or1 (pt_val (pe_callB call_isi (by rfl) T.z_isinstance (show bootBuiltins "isinstance" = some (.builtin "isinstance") by decide +kernel) (pa_cons (pv 0) (pa_cons (pe_bltn (v := .ty "bool") (by rfl) T.z_bool (by decide +kernel) rfl) pa_nil))))))) (pss_one (ps_ret (pe_and (pe_callB call_isi (by rfl) T.z_isinstance (show bootBuiltins "isinstance" = some (.builtin "isinstance") by decide +kernel) (pa_cons (pv 1) (pa_cons (pe_bltn (v := .ty "bool") (by rfl) T.z_bool (by decide +kernel) rfl) pa_nil))) (pe_and (pe_callB call_isi (by rfl) T.z_isinstance (show bootBuiltins "isinstance" = some (.builtin "isinstance") by decide +kernel) (pa_cons (pv 0) (pa_cons (pe_bltn (v := .ty "bool") (by rfl) T.z_bool (by decide +kernel) rfl) pa_nil))) (pe_one (pe_cmpR op_eq (pv 0) (pv 1) (nomark _))))))) pss_nil)
      (pss_one (ps_ret (pe_and (pe_callB call_isi (by rfl) T.z_isinstance (show bootBuiltins "isinstance" = some (.builtin "isinstance") by decide +kernel) (pa_cons (pv 0) (pa_cons (pe_bltn (v := .ty "int") (by rfl) T.z_int (by decide +kernel) rfl) pa_nil))) (pe_one (pe_cmpR op_eq (pv 0) (pv 1) (nomark _)))))))))), ?_⟩
    obtain ⟨x, y, rfl, e, q⟩ := h
    cases e with
    | non =>
      refine ⟨_, rfl, _, _, _, _, false, rfl, .ty "tuple", .base .non, kit_ty (by decide +kernel), _, rfl, iteF ?_⟩
      refine ⟨_, rfl, rfl, _, rfl, iteT ?_⟩
      exact ⟨_, rfl, rfl, q H (Same.refl _)⟩
    | bl _ b =>
      refine ⟨_, rfl, _, _, _, _, false, rfl, .ty "tuple", .base (.bl _), kit_ty (by decide +kernel), _, rfl, iteF ?_⟩
      refine ⟨_, rfl, rfl, _, rfl, iteF ?_⟩
      refine ⟨_, rfl, _, _, _, _, false, rfl, .ty "str", .base (.bl _), kit_ty (by decide +kernel), _, rfl, iteF ?_⟩
      refine ⟨_, rfl, _, _, _, _, true, rfl, .ty "bool", .base (.bl _), kit_ty (by decide +kernel), _, rfl, iteT ?_⟩
      refine iteT ?_
      refine ⟨_, rfl, _, _, _, _, true, rfl, .ty "bool", .base (.bl _), kit_ty (by decide +kernel), _, rfl, iteT ?_⟩
      refine ⟨_, rfl, _, _, _, _, true, rfl, .ty "bool", .base (.bl _), kit_ty (by decide +kernel), _, rfl, iteT ?_⟩
      refine ⟨_, rfl, _, rfl, rfl, ?_⟩
      rw [decide_eq_true rfl]
      exact q H (Same.refl _)
    | int _ i =>
      refine ⟨_, rfl, _, _, _, _, false, rfl, .ty "tuple", .base (.int _), kit_ty (by decide +kernel), _, rfl, iteF ?_⟩
      refine ⟨_, rfl, rfl, _, rfl, iteF ?_⟩
      refine ⟨_, rfl, _, _, _, _, false, rfl, .ty "str", .base (.int _), kit_ty (by decide +kernel), _, rfl, iteF ?_⟩
      refine ⟨_, rfl, _, _, _, _, false, rfl, .ty "bool", .base (.int _), kit_ty (by decide +kernel), _, rfl, iteF ?_⟩
      refine ⟨_, rfl, _, _, _, _, false, rfl, .ty "bool", .base (.int _), kit_ty (by decide +kernel), _, rfl, iteF ?_⟩
      refine ⟨_, rfl, _, _, _, _, true, rfl, .ty "int", .base (.int _), kit_ty (by decide +kernel), _, rfl, iteT ?_⟩
      refine ⟨_, rfl, _, rfl, rfl, ?_⟩
      rw [decide_eq_true rfl]
      exact q H (Same.refl _)
    | str _ z =>
      refine ⟨_, rfl, _, _, _, _, false, rfl, .ty "tuple", .base (.str _), kit_ty (by decide +kernel), _, rfl, iteF ?_⟩
      refine ⟨_, rfl, rfl, _, rfl, iteF ?_⟩
      refine ⟨_, rfl, _, _, _, _, true, rfl, .ty "str", .base (.str _), kit_ty (by decide +kernel), _, rfl, iteT ?_⟩
      refine ⟨_, rfl, _, _, _, _, true, rfl, .ty "str", .base (.str _), kit_ty (by decide +kernel), _, rfl, iteT ?_⟩
      refine ⟨_, rfl, _, rfl, rfl, ?_⟩
      rw [decide_eq_true rfl]
      exact q H (Same.refl _)
    | @tup _ p r xs ys hp hq hl hl2 hE =>
      refine ⟨_, rfl, _, _, _, _, true, rfl, .ty "tuple", .base (.tup hq), kit_ty (by decide +kernel), _, rfl, iteT ?_⟩
      refine ⟨_, rfl, _, _, _, _, true, rfl, .ty "tuple", .base (.tup hp), kit_ty (by decide +kernel), _, rfl, iteF ?_⟩
      refine ⟨_, rfl, p, _, rfl, .inr (SqT.of hp), _, rfl, r, _, rfl, .inr (SqT.of hq), rfl, _, rfl, iteNS (by rw [hl]) ?_⟩
      refine ⟨_, rfl, r, _, rfl, .inr (SqT.of hq), _, rfl, by omega, by omega, fun D hD => lc_pureR (lo := 0) (n := ((ys.length : Nat) : Int).toNat) (fun _ => false) (fun v => v) hD (by omega) (fun _ => rfl) ?_ (fun _ _ z => nomatch z) fun H2 s2 hd => ?_⟩
      · intro k hk H2 s2 Q' q'
        have k1 : k < ys.length := by omega
        have k2 : k < xs.length := by omega
        have gx : xs[k]? = some xs[k] := List.getElem?_eq_getElem k2
        have gy : ys[k]? = some ys[k] := List.getElem?_eq_getElem k1
        refine ⟨_, rfl, _, rfl, p, _, _, _, rfl, rfl, SqT.of (s2 _ _ hp), at_of (j := k) (by omega) gx, _, rfl, _, rfl, r, _, _, _, rfl, rfl, SqT.of (s2 _ _ hq), at_of (j := k) (by omega) gy, ?_⟩
        exact ⟨_, _, rfl, (hE k _ _ gx gy).same s2, fun H3 s3 => ⟨true, rfl, q' H3 s3⟩⟩
      · refine ⟨by show 0 ≤ sizeLine; decide, fun l hl => eqL (ns := []) (ms := []) (SqL.of (by rw [upd_ne (ne_of_none hd hl), hd, filt_no]; rfl)) (SqL.of upd_same) ?_⟩
        exact q _ (s2.trans (same_upd hl))
/-! ### _law_number: slots 0 _law_word, 1 _law_most, 2 _law_sign -/

theorem ok__law_number (T : Txt K mg A) : FnOk P w K mg base CX0 1 A.f__law_number A.d__law_number ["_law_word", "_law_most"] (sp__law_number ) := by
  refine T.F__law_number.ok sc__law_number (fun vs H Q E h => by first | (obtain ⟨_, rfl, _⟩ := h; rfl) | (obtain ⟨_, _, rfl, _⟩ := h; rfl) | (obtain ⟨_, _, _, rfl, _⟩ := h; rfl) | (obtain ⟨_, _, _, _, rfl, _⟩ := h; rfl) | (obtain ⟨_, _, _, _, _, rfl, _⟩ := h; rfl) | (obtain ⟨_, _, _, _, _, _, rfl, _⟩ := h; rfl) | (obtain ⟨_, _, _, _, _, _, _, rfl, _⟩ := h; rfl) | (obtain ⟨_, _, _, _, _, _, _, _, rfl, _⟩ := h; rfl) | (obtain ⟨_, _, _, _, _, _, _, _, _, rfl, _⟩ := h; rfl)) (fun cdv AA outer s H vs Q E hr h => ?_)
  refine ⟨_, (pss_cons (ps_if (PW.pt (pw_or (pt_cmpR op_eq (pv 0) pe_str (nomark _)) (pw_or (pt_cmpR op_gt (pe_callB call_len_str (by rfl) T.z_len PySem.boot_len (pa_cons (pv 0) pa_nil)) pe_int (nomark _)) (pw_or1 (pt_cmpR (op_neD hr.units) (pe_lc (own := [("_law_sign", 2)]) (g := gName 2)  rfl sc__law_number.nd (pi_str (pv 0)) (blkOk_by (own := [("_law_sign", 2)]) (N := ["_law_word", "_law_most", "_law_sign"]) (sc := defScope s__law_number) (by decide +kernel)) (fun _ _ _ _ _ => pg_name (i := 2) sc__law_number.nd rfl (Or.inl rfl)) (fun _ _ _ _ _ => (pts_one (pt_cmpR op_notIn_sign (pv 2) pe_str (by rfl)))) (fun _ _ _ _ _ => (pv 2))) (pe_lst pa_nil) (nomark _)))))) (pss_one (ps_ret pe_non)) pss_nil)
      (pss_cons (ps_if (PW.pt (pw_or (PW.pt (pw_and (pt_cmpR op_eq (pe_ix ix_str (pv 0) pe_int (fun _ _ => rfl)) pe_str (nomark _)) (pw_and1 (pt_cmpR op_gt (pe_callB call_len_str (by rfl) T.z_len PySem.boot_len (pa_cons (pv 0) pa_nil)) pe_int (nomark _))))) (pw_or1 (PW.pt (pw_and (pt_cmpR op_notN (pv 1) pe_non (nomark _)) (pw_and1 (pt_cmpR op_gt (pe_callTy call_int_str (by rfl) T.z_int (by decide +kernel) (pa_cons (pv 0) pa_nil)) (pv 1) (nomark _)))))))) (pss_one (ps_ret pe_non)) pss_nil)
      (pss_one (ps_ret (pe_callTy call_int_str (by rfl) T.z_int (by decide +kernel) (pa_cons (pv 0) pa_nil)))))), ?_⟩
  obtain ⟨w, most, m, rfl, lw, hok, hm, q⟩ := h
  have sz : 10000 ≤ sizeLine := by decide
  have fin : ∀ {o : Option Int}, numM w m = o → ∀ H', Same H H' → Q (optV o) H' := fun e H' s => e ▸ q H' s
  refine ⟨_, rfl, rfl, _, rfl, ?_⟩
  by_cases c0 : w = ""
  · rw [decide_eq_true (congrArg V.str c0)]
    exact iteT (iteT (fin (o := none) (numM_none (if_pos (.inl c0))) _ (Same.refl _)))
  rw [decide_eq_false (fun z => c0 (V.str.inj z))]
  refine iteF ⟨_, rfl, _, rfl, by omega, _, _, rfl, rfl, _, rfl, ?_⟩
  by_cases c1 : 60 < w.length
  · rw [decide_eq_true (by omega)]
    exact iteT (iteT (fin (o := none) (numM_none (if_pos (.inr c1))) _ (Same.refl _)))
  rw [decide_eq_false (by omega)]
  refine iteF ?_
  have e1 : ¬ (w = "" ∨ 60 < w.length) := fun z => z.elim c0 c1
  refine ⟨_, rfl, _, rfl, fun D hD => lc_FT (walk_str (z := w)) (fun i => !figB (w.cps.toList.getD i 0)) (fun i => V.str ⟨#[w.cps.toList.getD i 0]⟩) (by show w.length ≤ _; omega) hD (fun _ _ => trivial) ?_ fun H1 s1 hd => ?_⟩
  · rintro i v H3 H4 hi s3 ⟨rfl, c, hc, rfl⟩ Q' q'
    have e : w.cps.toList.getD i 0 = c := by
      rw [List.getD_eq_getElem?_getD, Array.getElem?_toList, hc]
      rfl
    rw [e] at q'
    exact ⟨rfl, _, rfl, c, _, rfl, rfl, _, rfl, q' _ _ (Same.refl _) fun _ Q2 k2 => ⟨_, rfl, k2 _ (Same.refl _)⟩⟩
  refine ⟨by show 0 ≤ sizeLine; decide, fun l hl => ?_⟩
  have s2 := same_upd (o := .lst []) hl
  refine neLS (ns := ((List.range w.cps.size).filter fun i => !figB (w.cps.toList.getD i 0)).map fun i => (⟨#[w.cps.toList.getD i 0]⟩ : Str)) (SqL.of (by rw [s2 _ _ hd, List.map_map]; rfl)) (SqL.of upd_same) (fun n hn => ?_) ⟨_, rfl, ?_⟩
  · obtain ⟨i, hi, rfl⟩ := List.mem_map.mp hn
    have hlt : i < w.cps.toList.length := by
      rw [Array.length_toList]
      exact List.mem_range.mp (List.mem_filter.mp hi).1
    have h := hok _ (List.getElem_mem hlt)
    rw [List.getD_eq_getElem?_getD, List.getElem?_eq_getElem hlt]
    show (#[w.cps.toList[i]]).all (· < 0x110000) = true
    simp only [List.all_toArray, List.all_cons, List.all_nil, Bool.and_true]
    exact decide_eq_true h
  have s12 := s1.trans s2
  cases ea : (TL.tl w).any (fun c => !figB c) with
  | true =>
    rw [decide_eq_false (fun z => by
      have := (filt_any w fun c => !figB c).mp (List.map_eq_nil_iff.mp z)
      rw [ea] at this
      cases this)]
    exact iteT (fin (o := none) (numM_none ((if_neg e1).trans (if_pos ea))) _ s12)
  | false =>
    rw [decide_eq_true (List.map_eq_nil_iff.mpr ((filt_any w fun c => !figB c).mpr ea))]
    refine iteF ?_
    obtain ⟨n, hn⟩ := num_int c0 (by omega) ea
    have l2 : 0 < w.cps.toList.length := by
      cases e : w.cps.toList with
      | nil => exact absurd (str_ext (x := w) (y := "") e) c0
      | cons x r => exact Nat.succ_pos _
    have hc := List.getElem?_eq_getElem l2
    generalize w.cps.toList[0] = c at hc
    have e2 : ¬ (TL.tl w).any (fun c => !figB c) = true := by
      rw [ea]
      exact Bool.false_ne_true
    have lit : w.length = w.cps.toList.length := Array.length_toList.symm
    refine ⟨_, rfl, w, 0, c, rfl, rfl, by omega, atI_nat (j := 0) hc, rfl, _, rfl, ?_⟩
    by_cases e : V.str ⟨#[c]⟩ = V.str "0"
    · rw [decide_eq_true e]
      have e3 : c = 48 := (List.cons.inj (congrArg (fun z : Str => z.cps.toList) (V.str.inj e))).1
      refine iteT ⟨_, rfl, _, rfl, by omega, _, _, rfl, rfl, _, rfl, ?_⟩
      by_cases e4 : w = "0"
      · have en : numO w = some n := (if_neg e1).trans ((if_neg e2).trans ((if_neg fun z => z.2 e4).trans hn))
        have l1 : w.length = 1 := by
          rw [e4]
          rfl
        rw [decide_eq_false (by omega)]
        refine iteF ?_
        refine ⟨_, rfl, rfl, _, rfl, ?_⟩
        rcases hm with ⟨rfl, rfl⟩ | ⟨k, rfl, rfl⟩
        · rw [decide_eq_true rfl]
          exact iteF (iteF ⟨_, rfl, _, _, rfl, hn, by omega, fin (o := some n) en _ s12⟩)
        · rw [decide_eq_false (fun z => nomatch z)]
          refine iteT ⟨_, rfl, _, _, rfl, hn, by omega, _, rfl, _, _, rfl, rfl, _, rfl, ?_⟩
          have en2 : numM w (some k) = if k < n then none else some n := by
            show (numO w).bind _ = _
            rw [en]
            rfl
          by_cases c9 : k < n
          · rw [decide_eq_true c9]
            rw [if_pos c9] at en2
            exact iteT (fin (o := none) en2 _ s12)
          · rw [decide_eq_false c9]
            rw [if_neg c9] at en2
            exact iteF ⟨_, rfl, _, _, rfl, hn, by omega, fin (o := some n) en2 _ s12⟩
      · have l1 : 1 < w.length := by
          rw [lit]
          match hw : w.cps.toList, l2, hc with
          | [x], _, hc =>
            have : x = c := Option.some.inj hc
            exact absurd (str_ext (x := w) (y := "0") (by show w.cps.toList = _; rw [hw, this, e3]; rfl)) e4
          | x :: y :: r, _, _ => exact Nat.succ_lt_succ (Nat.succ_pos _)
        rw [decide_eq_true (by omega)]
        exact iteT (iteT (fin (o := none) (numM_none ((if_neg e1).trans ((if_neg e2).trans (if_pos ⟨by rw [← e3]; exact hc, e4⟩)))) _ s12))
    · rw [decide_eq_false e]
      have en : numO w = some n := (if_neg e1).trans ((if_neg e2).trans ((if_neg fun z => e (by
        have e5 : some c = some 48 := hc.symm.trans z.1
        rw [Option.some.inj e5]
        rfl)).trans hn))
      refine iteF (iteF ?_)
      refine ⟨_, rfl, rfl, _, rfl, ?_⟩
      rcases hm with ⟨rfl, rfl⟩ | ⟨k, rfl, rfl⟩
      · rw [decide_eq_true rfl]
        exact iteF (iteF ⟨_, rfl, _, _, rfl, hn, by omega, fin (o := some n) en _ s12⟩)
      · rw [decide_eq_false (fun z => nomatch z)]
        refine iteT ⟨_, rfl, _, _, rfl, hn, by omega, _, rfl, _, _, rfl, rfl, _, rfl, ?_⟩
        have en2 : numM w (some k) = if k < n then none else some n := by
          show (numO w).bind _ = _
          rw [en]
          rfl
        by_cases c9 : k < n
        · rw [decide_eq_true c9]
          rw [if_pos c9] at en2
          exact iteT (fin (o := none) en2 _ s12)
        · rw [decide_eq_false c9]
          rw [if_neg c9] at en2
          exact iteF ⟨_, rfl, _, _, rfl, hn, by omega, fin (o := some n) en2 _ s12⟩
/-! ### _law_read: slots 0 _law_text_here, 1 _law_at, 2 _law_head, 3 _law_rest, 4 _law_found, 5 _law_told_here, 6 _law_word -/

theorem ok__law_read (T : Txt K mg A) : FnOk P w K mg base CX0 2 A.f__law_read A.d__law_read ["_law_text_here"] (sp__law_read ) := by
  refine T.F__law_read.ok sc__law_read (fun vs H Q E h => by first | (obtain ⟨_, rfl, _⟩ := h; rfl) | (obtain ⟨_, _, rfl, _⟩ := h; rfl) | (obtain ⟨_, _, _, rfl, _⟩ := h; rfl) | (obtain ⟨_, _, _, _, rfl, _⟩ := h; rfl) | (obtain ⟨_, _, _, _, _, rfl, _⟩ := h; rfl) | (obtain ⟨_, _, _, _, _, _, rfl, _⟩ := h; rfl) | (obtain ⟨_, _, _, _, _, _, _, rfl, _⟩ := h; rfl) | (obtain ⟨_, _, _, _, _, _, _, _, rfl, _⟩ := h; rfl) | (obtain ⟨_, _, _, _, _, _, _, _, _, rfl, _⟩ := h; rfl)) (fun cdv AA outer s H vs Q E hr h => ?_)
  refine ⟨_, (pss_cons (ps_set (i := 1) sc__law_read.nd rfl (.inl rfl) (pe_m1 PySem.F.slot_str_find PySem.F.type_str_find mt_find (pv 0) pe_str))
      (pss_cons (ps_set (i := 2) sc__law_read.nd rfl (.inl rfl) (pe_split (pe_slice sl_str (pv 0) po_none (po_some (pv 1))) pe_str))
      (pss_cons (ps_if (PW.pt (pw_or (pt_cmpR op_lt (pv 1) pe_int (nomark _)) (pw_or1 (pt_cmpR op_ne (pe_callB call_len_seq (by rfl) T.z_len PySem.boot_len (pa_cons (pv 2) pa_nil)) pe_int (nomark _))))) (pss_one (ps_ret pe_non)) pss_nil)
      (pss_cons (ps_set (i := 3) sc__law_read.nd rfl (.inl rfl) (pe_lst pa_nil))
      (Evl.pss_cut (ps_if (pt_cmpR op_ne (pe_slice sl_str (pv 0) (po_some (pe_op op_add (pv 1) pe_int)) po_none) pe_str (nomark _)) (pss_cons (ps_if (pt_cmpR op_ne (pe_ix ix_str (pv 0) (pe_op op_add (pv 1) pe_int) (fun _ _ => rfl)) pe_str (nomark _)) (pss_one (ps_ret pe_non)) pss_nil)
        (pss_one (ps_set (i := 3) sc__law_read.nd rfl (.inl rfl) (pe_split (pe_slice sl_str (pv 0) (po_some (pe_op op_add (pv 1) pe_int)) po_none) pe_str)))) pss_nil)
      (pss_cons (ps_set (i := 4) sc__law_read.nd rfl (.inl rfl) (pe_lst (pa_cons (pe_call (ok__law_number T) (hr.mono (by decide)) (by rfl) T.g__law_number T.k__law_number T.b__law_number .nil pass0 (pa_cons (pe_ix ix_list (pv 2) pe_int (fun _ _ => rfl)) (pa_cons pe_non pa_nil))) (pa_cons (pe_call (ok__law_number T) (hr.mono (by decide)) (by rfl) T.g__law_number T.k__law_number T.b__law_number .nil pass0 (pa_cons (pe_ix ix_list (pv 2) pe_int (fun _ _ => rfl)) (pa_cons pe_non pa_nil))) (pa_cons (pe_call (ok__law_number T) (hr.mono (by decide)) (by rfl) T.g__law_number T.k__law_number T.b__law_number .nil pass0 (pa_cons (pe_ix ix_list (pv 2) pe_int (fun _ _ => rfl)) (pa_cons pe_int pa_nil))) pa_nil)))))
      (pss_cons (ps_setLc (i := 5) (own := [("_law_word", 6)]) (g := gName 6)  rfl sc__law_read.nd rfl rfl (sw_true rfl rfl rfl (by decide +kernel)) (pi_list (pv 3)) (blkOk_by (own := [("_law_word", 6)]) (N := ["_law_text_here", "_law_at", "_law_head", "_law_rest", "_law_found", "_law_told_here", "_law_word"]) (sc := defScope s__law_read) (by decide +kernel)) (fun _ _ _ _ _ => pg_name (i := 6) sc__law_read.nd rfl (Or.inl rfl)) (fun _ _ _ _ _ => pts_nil) (fun _ _ _ _ _ => (pe_call (ok__law_number T) (hr.mono (by decide)) (by rfl) T.g__law_number T.k__law_number T.b__law_number .nil pass0 (pa_cons (pv 6) (pa_cons pe_int pa_nil)))))
      (pss_cons (ps_if (PW.pt (pw_or (pt_cmpR op_in_seq pe_non (pv 4) (by rfl)) (pw_or (pt_cmpR op_in_seq pe_non (pv 5) (by rfl)) (pw_or1 (pt_cmpR op_gt (pe_callB call_len_seq (by rfl) T.z_len PySem.boot_len (pa_cons (pv 5) pa_nil)) pe_int (nomark _)))))) (pss_one (ps_ret pe_non)) pss_nil)
      (pss_one (ps_ret (pe_tup (pa_cons (pe_ix ix_list (pv 4) pe_int (fun _ _ => rfl)) (pa_cons (pe_ix ix_list (pv 4) pe_int (fun _ _ => rfl)) (pa_cons (pe_ix ix_list (pv 4) pe_int (fun _ _ => rfl)) (pa_cons (pe_callTy call_tuple_of (by rfl) T.z_tuple (by decide +kernel) (pa_cons (pv 5) pa_nil)) pa_nil))))))))))))))), ?_⟩
  obtain ⟨z, rfl, lz, hok, qn, q⟩ := h
  have sz : 10000 ≤ sizeLine := by decide
  have gfn : (Txt.partition z ":").2.1 = "" → good z = false := fun e => by
    unfold good
    rw [decide_eq_false (fun x => x e)]
    rfl
  refine ⟨_, rfl, ⟨_, rfl⟩, z, ":", rfl, rfl, ?_⟩
  rcases part_cut z with ⟨hno, ep⟩ | ⟨a, b, ez, hna, ep⟩
  · rw [find_no hno]
    have hc := cutS_length z none (some (-1))
    refine ⟨_, rfl, _, rfl, _, rfl, z, rfl, by omega, ⟨_, rfl⟩, _, " ", rfl, rfl, rfl, by omega, fun w hw => ?_⟩
    refine ⟨_, rfl, _, _, rfl, rfl, _, rfl, ?_⟩
    exact iteT (iteT (qn (gfn (by rw [ep]; rfl)) _ (same_upd hw)))
  rw [find_yes ez hna]
  have hl : z.length = a.length + (b.length + 1) := by
    rw [TL.len_tl, ez, List.length_append, List.length_cons]
  refine ⟨_, rfl, _, rfl, _, rfl, z, rfl, by omega, ⟨_, rfl⟩, _, " ", rfl, rfl, rfl, ?_, fun w hw => ?_⟩
  · have hc := cutS_length z none (some (a.length : Int))
    omega
  rw [cut_to ez]
  have ehd : hdS z = Txt.split (⟨a.toArray⟩ : Str) " " := by
    unfold hdS
    rw [ep]
  have etl : tlS z = Txt.split (⟨b.toArray⟩ : Str) " " := by
    unfold tlS
    rw [ep]
  rw [← ehd]
  have s1 := same_upd (o := .lst ((hdS z).map V.str)) hw
  have hw1 := upd_same (H := H) (a := w) (o := .lst ((hdS z).map V.str))
  generalize upd H w (.lst ((hdS z).map V.str)) = H1 at s1 hw1
  refine ⟨_, rfl, _, _, rfl, rfl, _, rfl, ?_⟩
  rw [decide_eq_false (by omega)]
  refine iteF ⟨_, rfl, w, _, rfl, .inl (SqL.of hw1), rfl, _, rfl, ?_⟩
  rw [List.length_map]
  by_cases h3 : (hdS z).length = 3
  · rw [decide_eq_true (by rw [h3]; rfl)]
    refine iteF ⟨by show 0 ≤ sizeLine; decide, fun l hl => ?_⟩
    have s2 := same_upd (o := .lst []) hl
    have hl2 := upd_same (H := H1) (a := l) (o := .lst [])
    have hw2 := s2 _ _ hw1
    generalize upd H1 l (.lst []) = H2 at s2 hl2 hw2
    have d1 : (TL.tl z).drop (a.length + 1) = b := by
      rw [ez, List.drop_append]
      simp
    refine ⟨fun σ H' => ∃ (rs : Addr) (ys : List Str), σ = [some (.str z), some (.int (a.length : Int)), some (.ref w), some (.ref rs), none, none, none] ∧ Same H2 H' ∧ H' rs = some (.lst (ys.map V.str)) ∧ tlS z = ("" : Str) :: ys, ?_, ?_⟩
    · refine ⟨_, rfl, _, rfl, _, _, rfl, rfl, _, rfl, z, rfl, by omega, rfl, _, rfl, ?_⟩
      have ec := cut_at (z := z) (j := a.length + 1) (i := (a.length : Int) + 1) (by omega) (by omega)
      rw [d1] at ec
      cases b with
      | nil =>
        rw [decide_eq_true (congrArg V.str (str_ext (x := cutS z (some ((a.length : Int) + 1)) none) (y := "") ec))]
        exact iteF ⟨l, [], rfl, Same.refl _, hl2, by rw [etl, split_nil]⟩
      | cons c r =>
        rw [decide_eq_false (fun x => by
          rw [V.str.inj x] at ec
          cases ec)]
        have hat : atI z.cps.toList ((a.length : Int) + 1) = some c := by
          rw [show (a.length : Int) + 1 = ((a.length + 1 : Nat) : Int) by omega]
          refine atI_nat (j := a.length + 1) ?_
          show (TL.tl z)[a.length + 1]? = _
          rw [ez, List.getElem?_append_right (by omega)]
          simp
        refine iteT ⟨_, rfl, _, rfl, _, _, rfl, rfl, z, (a.length : Int) + 1, c, rfl, rfl, by omega, hat, rfl, _, rfl, ?_⟩
        by_cases h32 : c = 32
        · subst h32
          rw [decide_eq_true (show V.str ⟨#[32]⟩ = V.str " " from rfl)]
          have e2 : cutS z (some ((a.length : Int) + 2)) none = (⟨r.toArray⟩ : Str) := by
            refine str_ext ?_
            rw [List.length_cons] at hl
            rw [cut_at (j := a.length + 2) (by omega) (by omega), ez, List.drop_append]
            simp
          have hc := cutS_length z (some ((a.length : Int) + 2)) none
          refine iteF ⟨_, rfl, _, rfl, _, _, rfl, rfl, _, rfl, z, rfl, by omega, ⟨_, rfl⟩, _, " ", rfl, rfl, rfl, by omega, fun w5 hw5 => ?_⟩
          rw [e2]
          exact ⟨w5, Txt.split (⟨r.toArray⟩ : Str) " ", rfl, same_upd hw5, upd_same, by rw [etl, split_blank]⟩
        · rw [decide_eq_false (fun x => h32 (List.cons.inj (congrArg (fun z : Str => z.cps.toList) (V.str.inj x))).1)]
          refine iteT (qn ?_ _ (s1.trans s2))
          unfold good
          rw [decide_eq_false (show ¬ (tlS z).getD 0 "" = "" by rw [etl]; exact split_other h32), Bool.false_and, Bool.and_false]
    · rintro σ H3 ⟨rs, ys, rfl, s3, hrs, ety⟩
      obtain ⟨h0, h1, h2, eh⟩ : ∃ h0 h1 h2, hdS z = [h0, h1, h2] := by
        match hdS z, h3 with
        | [x, y, v], _ => exact ⟨_, _, _, rfl⟩
      have hw3 := s3 _ _ hw2
      rw [eh] at hw3
      obtain ⟨lp1, lp2⟩ := part_len z
      have pok1 : ∀ c ∈ TL.tl (Txt.partition z ":").1, c < 0x110000 := fun c hc => hok c (by
        rw [ep] at hc
        rw [ez]
        exact List.mem_append_left _ hc)
      have pok2 : ∀ c ∈ TL.tl (Txt.partition z ":").2.2, c < 0x110000 := fun c hc => hok c (by
        rw [ep] at hc
        rw [ez]
        exact List.mem_append_right _ (List.mem_cons_of_mem _ hc))
      have wh : ∀ x ∈ hdS z, x.length ≤ 9000 ∧ ∀ c ∈ TL.tl x, c < 0x110000 := fun x hx => ⟨Nat.le_trans (words_part hx).1 (by omega), fun c hc => pok1 c ((words_part hx).2 c hc)⟩
      have wt : ∀ x ∈ tlS z, x.length ≤ 9000 ∧ ∀ c ∈ TL.tl x, c < 0x110000 := fun x hx => ⟨Nat.le_trans (words_part hx).1 (by omega), fun c hc => pok2 c ((words_part hx).2 c hc)⟩
      have lt : (tlS z).length ≤ 9001 := Nat.le_trans (words_len _) (by omega)
      rw [eh] at wh
      rw [ety] at wt lt
      rw [List.length_cons] at lt
      have w0 := wh h0 (by simp)
      have w1 := wh h1 (by simp)
      have w2 := wh h2 (by simp)
      refine ⟨_, rfl, w, _, 0, _, rfl, rfl, SqL.of hw3, atI_nat (j := 0) rfl, h0, .non, none, rfl, w0.1, w0.2, .inl ⟨rfl, rfl⟩, fun H4 s4 => ?_⟩
      have hw4 := s4 _ _ hw3
      refine ⟨_, rfl, w, _, 1, _, rfl, rfl, SqL.of hw4, atI_nat (j := 1) rfl, h1, .non, none, rfl, w1.1, w1.2, .inl ⟨rfl, rfl⟩, fun H5 s5 => ?_⟩
      have hw5 := s5 _ _ hw4
      refine ⟨_, rfl, w, _, 2, _, rfl, rfl, SqL.of hw5, atI_nat (j := 2) rfl, h2, .int 96, some 96, rfl, w2.1, w2.2, .inr ⟨96, rfl, rfl⟩, fun H6 s6 => ⟨by show 3 ≤ sizeLine; decide, fun f hf => ?_⟩⟩
      have s7 := same_upd (o := .lst [optV (numM h0 none), optV (numM h1 none), optV (numM h2 (some 96))]) hf
      have hf7 := upd_same (H := H6) (a := f) (o := .lst [optV (numM h0 none), optV (numM h1 none), optV (numM h2 (some 96))])
      have s37 := s4.trans (s5.trans (s6.trans s7))
      have hrs7 := s37 _ _ hrs
      generalize upd H6 f (.lst [optV (numM h0 none), optV (numM h1 none), optV (numM h2 (some 96))]) = H7 at s7 hf7 s37 hrs7
      refine ⟨_, rfl, rs, rfl, ⟨_, SqL.of hrs7⟩, fun D hD => lc_F (walk_list (K := K) (a := rs) (xs := ys.map V.str)) (fun i => optV (numM (ys.getD i "") (some 96))) (by rw [List.length_map]; omega) hD (fun _ s => SqL.of (s _ _ hrs7)) ?_ fun H8 s8 hd8 => ?_⟩
      · rintro i v H5 H6 hi s5 ⟨rfl, hv⟩ Q' q'
        rw [List.getElem?_map] at hv
        cases e : ys[i]? with
        | none =>
          rw [e] at hv
          cases hv
        | some y =>
          rw [e] at hv
          cases hv
          rw [List.getD_eq_getElem?_getD, e] at q'
          have wy := wt y (List.mem_cons_of_mem _ (List.mem_of_getElem? e))
          exact ⟨rfl, _, rfl, y, .int 96, some 96, rfl, wy.1, wy.2, .inr ⟨96, rfl, rfl⟩, q'⟩
      have ra : (List.range ys.length).map (fun i => optV (numM (ys.getD i "") (some 96))) = (ys.map fun y => numM y (some 96)).map optV := by
        refine List.ext_getElem (by simp) fun k h1 h2 => ?_
        rw [List.length_map, List.length_map] at h2
        simp [List.getD_eq_getElem?_getD, List.getElem?_eq_getElem h2]
      rw [List.length_map, ra] at hd8
      have hf8 : H8 f = some (.lst ([numM h0 none, numM h1 none, numM h2 (some 96)].map optV)) := s8 _ _ hf7
      have gn := good_num (by rw [ep]; exact fun x => absurd (show (":" : Str) = "" from x) (by decide +kernel)) eh ety
      have s08 := s1.trans (s2.trans (s3.trans (s37.trans s8)))
      refine ⟨_, rfl, f, _, rfl, .inl (SqL.of hf8), rfl, flat_opt _, _, rfl, ?_⟩
      rw [none_in, any3]
      cases hA : ((numM h0 none).isSome && ((numM h1 none).isSome && (numM h2 (some 96)).isSome)) with
      | false =>
        refine iteT (iteT (qn ?_ _ s08))
        rw [gn, ← Bool.and_assoc (numM h1 none).isSome, ← Bool.and_assoc (numM h0 none).isSome, hA, Bool.false_and, Bool.and_false]
      | true =>
        refine iteF ⟨_, rfl, D, _, rfl, .inl (SqL.of hd8), rfl, flat_opt _, _, rfl, ?_⟩
        rw [← Bool.and_assoc (numM h1 none).isSome, ← Bool.and_assoc (numM h0 none).isSome, hA, Bool.true_and] at gn
        rw [none_in, anyM fun y => numM y (some 96)]
        cases hB : (ys.all fun y => (numM y (some 96)).isSome) with
        | false =>
          refine iteT (iteT (qn ?_ _ s08))
          rw [gn, hB, Bool.and_false]
        | true =>
          rw [hB, Bool.and_true] at gn
          refine iteF ⟨_, rfl, D, _, rfl, .inl (SqL.of hd8), _, _, rfl, rfl, _, rfl, ?_⟩
          rw [List.length_map, List.length_map]
          by_cases h96 : ys.length ≤ 96
          · rw [decide_eq_false (by omega)]
            rw [decide_eq_true h96] at gn
            refine iteF ⟨_, rfl, f, _, 0, _, rfl, rfl, SqL.of hf8, atI_nat (j := 0) rfl, _, rfl, f, _, 1, _, rfl, rfl, SqL.of hf8, atI_nat (j := 1) rfl, _, rfl, f, _, 2, _, rfl, rfl, SqL.of hf8, atI_nat (j := 2) rfl, _, rfl, D, _, rfl, .inl ⟨SqL.of hd8, fun u hu => ⟨by show 4 ≤ sizeLine; decide, fun r hr => ?_⟩⟩⟩
            have i2 : (numM h2 (some 96)).isSome = true := by
              cases e : (numM h2 (some 96)).isSome with
              | true => rfl
              | false =>
                rw [e, Bool.and_false, Bool.and_false] at hA
                cases hA
            refine q gn r u _ (s08.trans ((same_upd hu).trans (same_upd hr))) ?_ ?_
            · rw [upd_same, eh, num_rest i2]
              rfl
            · rw [upd_ne (ne_of_none upd_same hr), upd_same, ety, List.tail_cons, List.map_map]
              congr 2
              refine List.map_congr_left fun y hy => ?_
              exact congrArg optV (num_rest (List.all_eq_true.mp hB y hy))
          · rw [decide_eq_true (by omega)]
            refine iteT (qn ?_ _ s08)
            rw [gn, decide_eq_false h96]
  · rw [decide_eq_false (fun x => h3 (by have := V.int.inj x; omega))]
    refine iteT (qn ?_ _ s1)
    unfold good letB
    rw [List.length_map, decide_eq_false h3, Bool.false_and, Bool.and_false, Bool.and_false]
/-! ### _law_changed: slots 0 _law_state, 1 _law_text_here, 2 _law_way, 3 _law_at, 4 _law_sign, 5 _law_words, 6 _law_k, 7 _law_odd, 8 _law_some -/

theorem ok__law_changed (T : Txt K mg A) : FnOk P w K mg base CX0 2 A.f__law_changed A.d__law_changed ["_law_state", "_law_text_here"] (sp__law_changed K) := by
  refine T.F__law_changed.ok sc__law_changed (fun vs H Q E h => by first | (obtain ⟨_, rfl, _⟩ := h; rfl) | (obtain ⟨_, _, rfl, _⟩ := h; rfl) | (obtain ⟨_, _, _, rfl, _⟩ := h; rfl) | (obtain ⟨_, _, _, _, rfl, _⟩ := h; rfl) | (obtain ⟨_, _, _, _, _, rfl, _⟩ := h; rfl) | (obtain ⟨_, _, _, _, _, _, rfl, _⟩ := h; rfl) | (obtain ⟨_, _, _, _, _, _, _, rfl, _⟩ := h; rfl) | (obtain ⟨_, _, _, _, _, _, _, _, rfl, _⟩ := h; rfl) | (obtain ⟨_, _, _, _, _, _, _, _, _, rfl, _⟩ := h; rfl)) (fun cdv AA outer s H vs Q E hr h => ?_)
  refine ⟨_, (pss_cons (ps_set (i := 2) sc__law_changed.nd rfl (.inl rfl) (pe_call (ok__law_drawn T) (hr.mono (by decide)) (by rfl) T.g__law_drawn T.k__law_drawn T.b__law_drawn .nil pass0 (pa_cons (pv 0) (pa_cons pe_int pa_nil))))
      (pss_cons (ps_set (i := 3) sc__law_changed.nd rfl (.inl rfl) (pe_call (ok__law_drawn T) (hr.mono (by decide)) (by rfl) T.g__law_drawn T.k__law_drawn T.b__law_drawn .nil pass0 (pa_cons (pv 0) (pa_cons (pe_op op_add (pe_callB call_len_str (by rfl) T.z_len PySem.boot_len (pa_cons (pv 1) pa_nil)) pe_int) pa_nil))))
      (pss_cons (ps_set (i := 4) sc__law_changed.nd rfl (.inl rfl) (pe_ix ix_str pe_str (pe_call (ok__law_drawn T) (hr.mono (by decide)) (by rfl) T.g__law_drawn T.k__law_drawn T.b__law_drawn .nil pass0 (pa_cons (pv 0) (pa_cons pe_int pa_nil))) (fun _ _ => rfl)))
      (pss_cons (ps_if (pt_cmpR op_lt (pv 2) pe_int (nomark _)) (pss_one (ps_ret (pe_op op_add_str (pe_op op_add_str (pe_slice sl_str (pv 1) po_none (po_some (pv 3))) (pe_ix ix_list (pe_lst (pa_cons (pv 4) (pa_cons pe_str (pa_cons (pv 4) pa_nil)))) (pv 2) (fun _ _ => rfl))) (pe_slice sl_str (pv 1) (po_some (pe_op op_add (pv 3) (pe_callTy call_int1 (by rfl) T.z_int (by decide +kernel) (pa_cons (pe_cmpR op_gt (pv 2) pe_int (nomark _)) pa_nil)))) po_none)))) pss_nil)
      (pss_cons (ps_set (i := 5) sc__law_changed.nd rfl (.inl rfl) (pe_split (pv 1) pe_str))
      (pss_cons (ps_set (i := 6) sc__law_changed.nd rfl (.inl rfl) (pe_call (ok__law_drawn T) (hr.mono (by decide)) (by rfl) T.g__law_drawn T.k__law_drawn T.b__law_drawn .nil pass0 (pa_cons (pv 0) (pa_cons (pe_callB call_len_seq (by rfl) T.z_len PySem.boot_len (pa_cons (pv 5) pa_nil)) pa_nil))))
      (pss_cons (ps_set (i := 7) sc__law_changed.nd rfl (.inl rfl) (pe_lst (pa_cons pe_str (pa_cons pe_str (pa_cons pe_str (pa_cons pe_str (pa_cons pe_str (pa_cons pe_str (pa_cons pe_str (pa_cons pe_str (pa_cons (pe_op Lm.op_smul pe_str pe_int) (pa_cons (pe_op Lm.op_smul pe_str pe_int) (pa_cons pe_str (pa_cons pe_str (pa_cons pe_str (pa_cons pe_str (pa_cons pe_str pa_nil)))))))))))))))))
      (pss_cons (ps_set (i := 8) sc__law_changed.nd rfl (.inl rfl) (pe_ix ix_list (pe_lst (pa_cons (pe_lst pa_nil) (pa_cons (pe_lst (pa_cons (pe_ix ix_list (pv 5) (pv 6) (fun _ _ => rfl)) (pa_cons (pe_ix ix_list (pv 5) (pv 6) (fun _ _ => rfl)) pa_nil))) (pa_cons (pe_lst (pa_cons (pe_ix ix_list (pv 7) (pe_call (ok__law_drawn T) (hr.mono (by decide)) (by rfl) T.g__law_drawn T.k__law_drawn T.b__law_drawn .nil pass0 (pa_cons (pv 0) (pa_cons pe_int pa_nil))) (fun _ _ => rfl)) pa_nil)) pa_nil)))) (pe_op op_sub (pv 2) pe_int) (fun _ _ => rfl)))
      (pss_one (ps_ret (pe_join pe_str (pe_op op_cat (pe_op op_cat (pe_slice sl_list (pv 5) po_none (po_some (pv 6))) (pv 8)) (pe_slice sl_list (pv 5) (po_some (pe_op op_add (pv 6) pe_int)) po_none))))))))))))), ?_⟩
  obtain ⟨a, st, z, rfl, hS, lz, hok, q⟩ := h
  have sz : 100000 ≤ sizeLine := by decide
  refine ⟨_, rfl, a, st, 6, rfl, hS, by decide, nat8000 (by decide) (by decide +kernel), fun w H1 w0 w1 g1 => ?_⟩
  have S1 := g1.st _ hS
  refine ⟨_, rfl, _, rfl, z, rfl, by omega, _, _, rfl, rfl, a, st, (z.length : Int) + 1, rfl, S1, by omega, nat8000 (by omega) (by omega), fun p H2 p0 p1 g2 => ?_⟩
  have S2 := g2.st _ S1
  refine ⟨_, rfl, a, st, 23, rfl, S2, by decide, nat8000 (by decide) (by decide +kernel), fun v H3 v0 v1 g3 => ?_⟩
  have S3 := g3.st _ S2
  obtain ⟨sg, hsg, osg⟩ : ∃ c : Nat, atI ("0123456789  ::-+_.,;aZ\n" : Str).cps.toList v = some c ∧ c < 0x110000 := by
    obtain ⟨k, rfl⟩ := Int.eq_ofNat_of_zero_le v0
    have hk : k < ("0123456789  ::-+_.,;aZ\n" : Str).cps.toList.length := Nat.lt_of_lt_of_le (by omega : k < 23) (by decide +kernel)
    refine ⟨_, atI_nat (List.getElem?_eq_getElem hk), ?_⟩
    have hall : ∀ c ∈ ("0123456789  ::-+_.,;aZ\n" : Str).cps.toList, c < 0x110000 := by decide +kernel
    exact hall _ (List.getElem_mem hk)
  refine ⟨_, v, sg, rfl, rfl, by decide +kernel, hsg, ?_⟩
  refine ⟨_, rfl, _, _, rfl, rfl, _, rfl, ?_⟩
  have g13 := g1.trans (g2.trans g3)
  by_cases c3 : w < 3
  · rw [decide_eq_true c3]
    refine iteT ?_
    obtain ⟨y, hy, ly, oy⟩ : ∃ y : Str, atI [V.str ⟨#[sg]⟩, V.str "", V.str ⟨#[sg]⟩] w = some (V.str y) ∧ y.length ≤ 1 ∧ okS y := by
      have h1 : okS (⟨#[sg]⟩ : Str) := fun c hc => by
        rw [show TL.tl (⟨#[sg]⟩ : Str) = [sg] from rfl] at hc
        rw [List.mem_singleton.mp hc]
        exact osg
      obtain rfl | rfl | rfl : w = 0 ∨ w = 1 ∨ w = 2 := by omega
      · exact ⟨_, rfl, Nat.le_refl _, h1⟩
      · exact ⟨_, rfl, Nat.zero_le _, fun _ hc => nomatch hc⟩
      · exact ⟨_, rfl, Nat.le_refl _, h1⟩
    have lc1 := cutS_length z none (some p)
    have lc2 := fun i => cutS_length z (some i) none
    refine ⟨_, rfl, _, rfl, _, rfl, z, rfl, by omega, _, rfl, _, rfl, by show 3 ≤ sizeLine; decide, fun l hl => ?_⟩
    refine ⟨_, rfl, l, _, w, _, rfl, rfl, SqL.of upd_same, hy, _, _, rfl, rfl, by omega, ?_⟩
    refine ⟨_, rfl, _, rfl, _, rfl, _, _, rfl, rfl, .inr ⟨_, rfl, _, _, rfl, rfl, _, rfl, z, rfl, by omega, _, _, rfl, rfl, ?_, ?_⟩⟩
    · have := lc2 (p + if decide (0 < w) = true then 1 else 0)
      rw [lenA]
      omega
    · refine q _ _ (g13.trans (Go.new hl)) ?_ (app_ok (app_ok (cut_ok hok _ _) oy) (cut_ok hok _ _))
      have := lc2 (p + if decide (0 < w) = true then 1 else 0)
      rw [lenA, lenA]
      omega
  · rw [decide_eq_false c3]
    refine iteF ?_
    have wlen := words_len z
    have wne : 0 < (Txt.split z " ").length := List.length_pos_iff.mpr (words_ne z)
    refine ⟨_, rfl, ⟨_, rfl⟩, z, " ", rfl, rfl, rfl, by omega, fun wd hwd => ?_⟩
    have gw := Go.new (K := K) (st := st) (o := .lst ((Txt.split z " ").map V.str)) hwd
    have S4 := gw.st _ S3
    have nw := S3.fresh hwd
    have hw4 := upd_same (H := H3) (a := wd) (o := .lst ((Txt.split z " ").map V.str))
    generalize upd H3 wd (.lst ((Txt.split z " ").map V.str)) = H4 at gw S4 hw4
    refine ⟨_, rfl, _, rfl, wd, _, rfl, .inl (SqL.of hw4), a, st, _, rfl, S4, by rw [List.length_map]; omega, nat8000 (by omega) (by rw [List.length_map]; omega), fun k H5 k0 k1 g5 => ?_⟩
    rw [List.length_map] at k1
    have S5 := g5.st _ S4
    have hw5 := g5.keep _ _ nw hw4
    obtain ⟨j, rfl⟩ := Int.eq_ofNat_of_zero_le k0
    have hj : j < (Txt.split z " ").length := by omega
    have hwj := List.getElem?_eq_getElem hj
    generalize (Txt.split z " ")[j] = x at hwj
    have hx := words_part (List.mem_of_getElem? hwj)
    have hat : atI ((Txt.split z " ").map V.str) (j : Int) = some (.str x) := atI_nat (by rw [List.getElem?_map, hwj]; rfl)
    refine ⟨_, _, rfl, rfl, mul_9 (.inl rfl), _, _, rfl, rfl, mul_9 (.inr rfl), by show 15 ≤ sizeLine; decide, fun lo hlo => ?_⟩
    rw [show ([V.str "", V.str "00", V.str "07", V.str "97", V.str "96", V.str "-1", V.str "+3", V.str "5_0", V.str (PySem.Txt.mul "9" 61), V.str (PySem.Txt.mul "9" 60), V.str "3:", V.str ":", V.str "~", V.str "3 ", V.str "100"] : List V) = oddW.map V.str from rfl]
    have go := Go.new (K := K) (st := st) (o := .lst (oddW.map V.str)) hlo
    have no := S5.fresh hlo
    have S6 := go.st _ S5
    have hw6 := go.keep _ _ nw hw5
    have ho6 := upd_same (H := H5) (a := lo) (o := .lst (oddW.map V.str))
    generalize upd H5 lo (.lst (oddW.map V.str)) = H6 at go S6 hw6 ho6
    refine ⟨by show 0 ≤ sizeLine; decide, fun l0 hl0 => ?_⟩
    have n0 := S6.fresh hl0
    have g0 := Go.new (K := K) (st := st) (o := .lst []) hl0
    have S7 := g0.st _ S6
    have hw7 := g0.keep _ _ nw hw6
    have ho7 := g0.keep _ _ no ho6
    have h07 := upd_same (H := H6) (a := l0) (o := .lst [])
    generalize upd H6 l0 (.lst []) = H7 at g0 S7 hw7 ho7 h07
    refine ⟨_, rfl, _, rfl, wd, _, _, _, rfl, rfl, SqL.of hw7, hat, _, rfl, _, rfl, wd, _, _, _, rfl, rfl, SqL.of hw7, hat, by show 2 ≤ sizeLine; decide, fun l1 hl1 => ?_⟩
    have n1 := S7.fresh hl1
    have gl1 := Go.new (K := K) (st := st) (o := .lst [.str x, .str x]) hl1
    have S8 := gl1.st _ S7
    have hw8 := gl1.keep _ _ nw hw7
    have ho8 := gl1.keep _ _ no ho7
    have h08 := gl1.keep _ _ n0 h07
    have h18 := upd_same (H := H7) (a := l1) (o := .lst [.str x, .str x])
    generalize upd H7 l1 (.lst [.str x, .str x]) = H8 at gl1 S8 hw8 ho8 h08 h18
    refine ⟨_, rfl, _, rfl, a, st, 15, rfl, S8, by decide, nat8000 (by decide) (by decide +kernel), fun u H9 u0 u1 g9 => ?_⟩
    have S9 := g9.st _ S8
    have hw9 := g9.keep _ _ nw hw8
    have ho9 := g9.keep _ _ no ho8
    have h09 := g9.keep _ _ n0 h08
    have h19 := g9.keep _ _ n1 h18
    obtain ⟨od, hod, mod⟩ : ∃ y : Str, atI (oddW.map V.str) u = some (.str y) ∧ y ∈ oddW := by
      obtain ⟨k, rfl⟩ := Int.eq_ofNat_of_zero_le u0
      have hk : k < oddW.length := Nat.lt_of_lt_of_le (by omega : k < 15) (by decide +kernel)
      exact ⟨oddW[k], atI_nat (by rw [List.getElem?_map, List.getElem?_eq_getElem hk]; rfl), List.getElem_mem hk⟩
    refine ⟨lo, _, _, _, rfl, rfl, SqL.of ho9, hod, by show 1 ≤ sizeLine; decide, fun l2 hl2 => ?_⟩
    have n2 := S9.fresh hl2
    have gl2 := Go.new (K := K) (st := st) (o := .lst [.str od]) hl2
    have S10 := gl2.st _ S9
    have hw10 := gl2.keep _ _ nw hw9
    have h010 := gl2.keep _ _ n0 h09
    have h110 := gl2.keep _ _ n1 h19
    have h210 := upd_same (H := H9) (a := l2) (o := .lst [.str od])
    generalize upd H9 l2 (.lst [.str od]) = H10 at gl2 S10 hw10 h010 h110 h210
    refine ⟨by show 3 ≤ sizeLine; decide, fun l3 hl3 => ?_⟩
    have gl3 := Go.new (K := K) (st := st) (o := .lst [.ref l0, .ref l1, .ref l2]) hl3
    have hw11 := gl3.keep _ _ nw hw10
    have h011 := gl3.keep _ _ n0 h010
    have h111 := gl3.keep _ _ n1 h110
    have h211 := gl3.keep _ _ n2 h210
    have h311 := upd_same (H := H10) (a := l3) (o := .lst [.ref l0, .ref l1, .ref l2])
    generalize upd H10 l3 (.lst [.ref l0, .ref l1, .ref l2]) = H11 at gl3 hw11 h011 h111 h211 h311
    obtain ⟨li, so, hi, hso, hs1, hs2⟩ : ∃ (li : Addr) (so : List Str), atI [V.ref l0, V.ref l1, V.ref l2] (w - 3) = some (.ref li) ∧ H11 li = some (.lst (so.map V.str)) ∧ (so.map fun w => w.length + 1).sum ≤ x.length + 1 + z.length + 63 ∧ (∀ w ∈ so, okS w) ∧ so.length ≤ 2 := by
      obtain rfl | rfl | rfl : w = 3 ∨ w = 4 ∨ w = 5 := by omega
      · exact ⟨l0, [], rfl, h011, Nat.zero_le _, (fun _ hc => nomatch hc), by decide⟩
      · refine ⟨l1, [x, x], rfl, h111, ?_, fun y hy => ?_, by show 2 ≤ 2; decide⟩
        · show x.length + 1 + (x.length + 1 + 0) ≤ _
          omega
        · have e : y = x := by
            rcases List.mem_cons.mp hy with e | e
            · exact e
            · exact List.mem_singleton.mp e
          subst e
          exact fun c hc => hok c (hx.2 c hc)
      · have ho := oddW_ok od mod
        refine ⟨l2, [od], rfl, h211, ?_, fun y hy => by rw [List.mem_singleton.mp hy]; exact ho.2, by show 1 ≤ 2; decide⟩
        show od.length + 1 + 0 ≤ _
        have := ho.1
        omega
    have wc := word_change (so := so) hwj lz hok hs1 hs2.1
    refine ⟨_, rfl, _, _, rfl, rfl, l3, _, _, _, rfl, rfl, SqL.of h311, hi, ?_⟩
    have gA := g13.trans (gw.trans (g5.trans (go.trans (g0.trans (gl1.trans (g9.trans (gl2.trans gl3)))))))
    refine ⟨⟨_, rfl⟩, _, rfl, _, rfl, _, rfl, wd, _, rfl, SqL.of hw11, fun p1 hp1 => ?_⟩
    have s1 := same_upd (o := .lst (cutV ((Txt.split z " ").map V.str) none (some (j : Int)))) hp1
    refine ⟨_, rfl, p1, li, _, _, rfl, rfl, upd_same, s1 _ _ hso, ?_, fun p2 hp2 => ?_⟩
    · rw [cutV_take, List.length_take, List.length_map, List.length_map]
      omega
    rw [cutV_take, ← List.map_take, ← List.map_append]
    have s2 := same_upd (o := .lst (((Txt.split z " ").take j ++ so).map V.str)) hp2
    have e2 := upd_same (H := upd H11 p1 (.lst (cutV ((Txt.split z " ").map V.str) none (some (j : Int))))) (a := p2) (o := .lst (((Txt.split z " ").take j ++ so).map V.str))
    rw [cutV_take, ← List.map_take] at e2 s1 s2
    refine ⟨_, rfl, _, rfl, _, _, rfl, rfl, _, rfl, wd, _, rfl, SqL.of (s2 _ _ (s1 _ _ hw11)), fun p3 hp3 => ?_⟩
    rw [show (j : Int) + 1 = ((j + 1 : Nat) : Int) by omega, cutV_drop, ← List.map_drop]
    have s3 := same_upd (o := .lst (((Txt.split z " ").drop (j + 1)).map V.str)) hp3
    refine ⟨p2, p3, _, _, rfl, rfl, s3 _ _ e2, upd_same, ?_, fun p4 hp4 => ?_⟩
    · have := hs2.2
      rw [List.length_map, List.length_map, List.length_append, List.length_take, List.length_drop]
      omega
    rw [← List.map_append]
    exact ⟨" ", p4, _, rfl, rfl, .inl (SqL.of upd_same), wc.1, q _ _ (gA.trans (Go.of (s1.trans (s2.trans (s3.trans (same_upd hp4)))))) wc.2.1 wc.2.2⟩
/-! ### _law_told: slots 0 _law_text_here, 1 e, 2 _law_other -/

theorem ok__law_told (T : Txt K mg A) : FnOk P w K mg base CX0 5 A.f__law_told A.d__law_told ["_law_text_here"] (sp__law_told ) := by
  refine T.F__law_told.ok sc__law_told (fun vs H Q E h => by first | (obtain ⟨_, rfl, _⟩ := h; rfl) | (obtain ⟨_, _, rfl, _⟩ := h; rfl) | (obtain ⟨_, _, _, rfl, _⟩ := h; rfl) | (obtain ⟨_, _, _, _, rfl, _⟩ := h; rfl) | (obtain ⟨_, _, _, _, _, rfl, _⟩ := h; rfl) | (obtain ⟨_, _, _, _, _, _, rfl, _⟩ := h; rfl) | (obtain ⟨_, _, _, _, _, _, _, rfl, _⟩ := h; rfl) | (obtain ⟨_, _, _, _, _, _, _, _, rfl, _⟩ := h; rfl) | (obtain ⟨_, _, _, _, _, _, _, _, _, rfl, _⟩ := h; rfl)) (fun cdv AA outer s H vs Q E hr h => ?_)
  refine ⟨_, (pss_one (ps_try_as (i := 1) rfl rfl sc__law_told.nd rfl rfl ⟨rfl, by decide, .inl T.g_MendError⟩ takes0
        (fun W pn xe tk _ => (pss_one (ps_ret (pe_lst (pa_cons (pe_callS (ok_read T) (hr.mono (by decide)) (by rfl) T.g_read T.k_read T.b_read (fun σ => passAt tk σ) (by exact (pa_cons (pv 0) pa_nil))) pa_nil)))))
        (fun a oe cls d pn hz hf => (pss_cons (ps_set (i := 2) sc__law_told.nd rfl (.inl rfl) (pe_callB (call_isExT hz hf) (by rfl) T.z_isinstance (show bootBuiltins "isinstance" = some (.builtin "isinstance") by decide +kernel) (pa_cons (pv 1) (pa_cons (pe_tup (pa_cons (pe_glob (v := .ref A.e_Held) rfl T.g_Held rfl) (pa_cons (pe_glob (v := .ref A.e_Late) rfl T.g_Late rfl) (pa_cons (pe_glob (v := .ref A.e_NoCount) rfl T.g_NoCount rfl) (pa_cons (pe_glob (v := .ref A.e_NoHand) rfl T.g_NoHand rfl) (pa_cons (pe_glob (v := .ref A.e_NoInverse) rfl T.g_NoInverse rfl) (pa_cons (pe_glob (v := .ref A.e_NoLetter) rfl T.g_NoLetter rfl) (pa_cons (pe_glob (v := .ref A.e_NoMark) rfl T.g_NoMark rfl) (pa_cons (pe_glob (v := .ref A.e_NoSet) rfl T.g_NoSet rfl) (pa_cons (pe_glob (v := .ref A.e_NotHeld) rfl T.g_NotHeld rfl) (pa_cons (pe_glob (v := .ref A.e_Unlike) rfl T.g_Unlike rfl) pa_nil))))))))))) pa_nil))))
        (pss_one (ps_ret (pe_and (pe_callB (call_isEx hz hf) (by rfl) T.z_isinstance (show bootBuiltins "isinstance" = some (.builtin "isinstance") by decide +kernel) (pa_cons (pv 1) (pa_cons (pe_glob (v := .ref A.e_NoText) rfl T.g_NoText rfl) pa_nil))) (pe_and (pe_callB (call_isEx hz hf) (by rfl) T.z_isinstance (show bootBuiltins "isinstance" = some (.builtin "isinstance") by decide +kernel) (pa_cons (pv 1) (pa_cons (pe_bltn (v := .ty "ValueError") (by rfl) T.z_ValueError (by decide +kernel) rfl) pa_nil))) (pe_one (pe_not (pv 2))))))))))), ?_⟩
  obtain ⟨z, rfl, lz, qt, q⟩ := h
  refine ⟨_, rfl, z, rfl, lz, fun hb H1 s1 => ?_, fun hg r s H1 s1 hr hs => ⟨by show 1 ≤ sizeLine; decide, fun l hl => ?_⟩⟩
  · refine ⟨true, T.ex_NoText_MendError, fun _ x hx => ?_, fun z => Bool.noConfusion z⟩
    refine ⟨_, rfl, by show 10 ≤ sizeLine; decide, fun tp htp => ?_⟩
    refine ⟨_, tp, _, _, false, rfl, rfl, T.ec_NoText, rfl, upd_same, .cons (.own _) (.cons (.own _) (.cons (.own _) (.cons (.own _) (.cons (.own _) (.cons (.own _) (.cons (.own _) (.cons (.own _) (.cons (.own _) (.cons (.own _) .nil))))))))), T.kt, ?_⟩
    refine ⟨_, rfl, _, rfl, rfl, T.ec_NoText, _, _, true, rfl, fun _ r => r, T.ko, _, rfl, iteT ?_⟩
    refine ⟨_, rfl, _, rfl, rfl, T.ec_NoText, _, _, true, rfl, fun _ r => r, T.kv, _, rfl, iteT ?_⟩
    refine ⟨_, rfl, _, rfl, ?_⟩
    exact qt hb _ (s1.trans (same_upd htp))
  · have s2 := same_upd (o := .lst [.ref r]) hl
    exact q hg l r s _ (s1.trans s2) upd_same (s2 _ _ hr) (s2 _ _ hs)
/-! ### _law_good: slots 0 _law_text_here, 1 _law_due, 2 _law_found -/

theorem ok__law_good (T : Txt K mg A) : FnOk P w K mg base CX0 6 A.f__law_good A.d__law_good ["_law_text_here"] (sp__law_good K) := by
  refine T.F__law_good.ok sc__law_good (fun vs H Q E h => by first | (obtain ⟨_, rfl, _⟩ := h; rfl) | (obtain ⟨_, _, rfl, _⟩ := h; rfl) | (obtain ⟨_, _, _, rfl, _⟩ := h; rfl) | (obtain ⟨_, _, _, _, rfl, _⟩ := h; rfl) | (obtain ⟨_, _, _, _, _, rfl, _⟩ := h; rfl) | (obtain ⟨_, _, _, _, _, _, rfl, _⟩ := h; rfl) | (obtain ⟨_, _, _, _, _, _, _, rfl, _⟩ := h; rfl) | (obtain ⟨_, _, _, _, _, _, _, _, rfl, _⟩ := h; rfl) | (obtain ⟨_, _, _, _, _, _, _, _, _, rfl, _⟩ := h; rfl)) (fun cdv AA outer s H vs Q E hr h => ?_)
  refine ⟨_, (pss_cons (ps_set (i := 1) sc__law_good.nd rfl (.inl rfl) (pe_call (ok__law_read T) (hr.mono (by decide)) (by rfl) T.g__law_read T.k__law_read T.b__law_read .nil pass0 (pa_cons (pv 0) pa_nil)))
      (pss_cons (ps_set (i := 2) sc__law_good.nd rfl (.inl rfl) (pe_call (ok__law_told T) (hr.mono (by decide)) (by rfl) T.g__law_told T.k__law_told T.b__law_told .nil pass0 (pa_cons (pv 0) pa_nil)))
      (pss_cons (ps_if (pt_cmpR op_isN (pv 1) pe_non (nomark _)) (pss_one (ps_ret (pe_cmpR op_isBl (pv 2) pe_bl (nomark _)))) pss_nil)
      (pss_one (ps_ret (pe_and (pe_callB (call_isi) (by rfl) T.z_isinstance (show bootBuiltins "isinstance" = some (.builtin "isinstance") by decide +kernel) (pa_cons (pv 2) (pa_cons (pe_bltn (v := .ty "list") (by rfl) T.z_list (by decide +kernel) rfl) pa_nil))) (pe_one (pe_call (ok__law_same T 2) (hr.mono (by decide)) (by rfl) T.g__law_same T.k__law_same T.b__law_same .nil pass0 (pa_cons (pe_ix ix_list (pv 2) pe_int (fun _ _ => rfl)) (pa_cons (pv 1) pa_nil)))))))))), ?_⟩
  obtain ⟨z, rfl, lz, hok, q⟩ := h
  cases g : good z with
  | false =>
    refine ⟨_, rfl, z, rfl, lz, hok, fun _ H1 s1 => ?_, fun x => absurd (g.symm.trans x) Bool.noConfusion⟩
    refine ⟨_, rfl, z, rfl, lz, fun _ H2 s2 => ?_, fun x => absurd (g.symm.trans x) Bool.noConfusion⟩
    refine ⟨_, rfl, rfl, _, rfl, iteT ?_⟩
    exact ⟨_, rfl, _, _, rfl, rfl, q _ (s1.trans s2)⟩
  | true =>
    refine ⟨_, rfl, z, rfl, lz, hok, fun x => absurd (g.symm.trans x) Bool.noConfusion, fun _ r s H1 s1 hr hs => ?_⟩
    refine ⟨_, rfl, z, rfl, lz, fun x => absurd (g.symm.trans x) Bool.noConfusion, fun _ l r2 u2 H2 s2 hl hr2 hs2 => ?_⟩
    refine ⟨_, rfl, rfl, _, rfl, iteF ?_⟩
    obtain ⟨g1, g2⟩ := good_len g
    refine ⟨_, rfl, _, _, _, _, true, rfl, .ty "list", .base (.lst hl), kit_ty (by decide +kernel), _, rfl, iteT ?_⟩
    exact ⟨_, rfl, l, _, 0, _, rfl, rfl, SqL.of hl, atI_nat (j := 0) rfl, _, rfl, _, _, rfl, eq_let hr2 hs2 (s2 _ _ hr) (s2 _ _ hs) (by omega) (by omega), fun H3 s3 => q _ (s1.trans (s2.trans s3))⟩
/-! ### law: slots 0 _law_script, 1 _law_state, 2 _law_odd, 3 _law_turn, 4 _law_text_here, 5 _law_change -/

theorem ok_law (T : Txt K mg A) : FnOk P w K mg base CX0 7 A.f_law A.d_law ["_law_script"] (sp_law K) := by
  refine T.F_law.ok sc_law (fun vs H Q E h => by first | (obtain ⟨_, rfl, _⟩ := h; rfl) | (obtain ⟨_, _, rfl, _⟩ := h; rfl) | (obtain ⟨_, _, _, rfl, _⟩ := h; rfl) | (obtain ⟨_, _, _, _, rfl, _⟩ := h; rfl) | (obtain ⟨_, _, _, _, _, rfl, _⟩ := h; rfl) | (obtain ⟨_, _, _, _, _, _, rfl, _⟩ := h; rfl) | (obtain ⟨_, _, _, _, _, _, _, rfl, _⟩ := h; rfl) | (obtain ⟨_, _, _, _, _, _, _, _, rfl, _⟩ := h; rfl) | (obtain ⟨_, _, _, _, _, _, _, _, _, rfl, _⟩ := h; rfl)) (fun cdv AA outer s H vs Q E hr h => ?_)
  refine ⟨_, (pss_cons (ps_set (i := 1) sc_law.nd rfl (.inl rfl) (pe_call (ok__law_start T) (hr.mono (by decide)) (by rfl) T.g__law_start T.k__law_start T.b__law_start .nil pass0 (pa_cons (pv 0) pa_nil)))
      (pss_cons (ps_set (i := 2) sc_law.nd rfl (.inl rfl) (pe_lst (pa_cons pe_str (pa_cons pe_str (pa_cons pe_str (pa_cons pe_str (pa_cons pe_str (pa_cons pe_str (pa_cons pe_str (pa_cons pe_str (pa_cons pe_str (pa_cons pe_str (pa_cons pe_str pa_nil)))))))))))))
      (pss_cons (ps_expr (pe_bm PySem.F.plainAttrs_list PySem.F.slot_list_append PySem.F.type_list_append mt_append (pv 2) (pa_cons pe_str pa_nil)))
      (pss_cons (ps_expr (pe_bm PySem.F.plainAttrs_list PySem.F.slot_list_append PySem.F.type_list_append mt_append (pv 2) (pa_cons (pe_op op_add_str pe_str (pe_op Lm.op_smul pe_str (pe_op op_add pe_int (pe_call (ok__law_drawn T) (hr.mono (by decide)) (by rfl) T.g__law_drawn T.k__law_drawn T.b__law_drawn .nil pass0 (pa_cons (pv 1) (pa_cons pe_int pa_nil)))))) pa_nil)))
      (pss_cons (ps_for PassesOwn.never rfl (pi_range1 (by rfl) T.z_range (pa_cons pe_int pa_nil)) (pg_name (i := 3) sc_law.nd rfl (.inl rfl))
        (pss_cons (ps_set (i := 4) sc_law.nd rfl (.inl rfl) (pe_call (ok__law_text T) (hr.mono (by decide)) (by rfl) T.g__law_text T.k__law_text T.b__law_text .nil pass0 (pa_cons (pe_call (ok__law_letter T) (hr.mono (by decide)) (by rfl) T.g__law_letter T.k__law_letter T.b__law_letter .nil pass0 (pa_cons (pv 1) pa_nil)) pa_nil)))
        (pss_cons (ps_for PassesOwn.never rfl (pi_range1 (by rfl) T.z_range (pa_cons (pe_call (ok__law_drawn T) (hr.mono (by decide)) (by rfl) T.g__law_drawn T.k__law_drawn T.b__law_drawn .nil pass0 (pa_cons (pv 1) (pa_cons pe_int pa_nil))) pa_nil)) (pg_name (i := 5) sc_law.nd rfl (.inl rfl))
          (pss_one (ps_set (i := 4) sc_law.nd rfl (.inl rfl) (pe_call (ok__law_changed T) (hr.mono (by decide)) (by rfl) T.g__law_changed T.k__law_changed T.b__law_changed .nil pass0 (pa_cons (pv 1) (pa_cons (pv 4) pa_nil))))))
        (pss_one (ps_if (PW.pt (pw_or (pt_not (pt_val (pe_call (ok__law_good T) (hr.mono (by decide)) (by rfl) T.g__law_good T.k__law_good T.b__law_good .nil pass0 (pa_cons (pv 4) pa_nil)))) (pw_or1 (pt_not (pt_val (pe_call (ok__law_good T) (hr.mono (by decide)) (by rfl) T.g__law_good T.k__law_good T.b__law_good .nil pass0 (pa_cons (pe_ix ix_list (pv 2) (pe_call (ok__law_drawn T) (hr.mono (by decide)) (by rfl) T.g__law_drawn T.k__law_drawn T.b__law_drawn .nil pass0 (pa_cons (pv 1) (pa_cons pe_int pa_nil))) (fun _ _ => rfl)) pa_nil))))))) (pss_one (ps_ret pe_bl)) pss_nil)))))
      (pss_one (ps_ret pe_bl))))))), ?_⟩
  obtain ⟨a, ns, rfl, hS, hl, q⟩ := h
  refine ⟨_, rfl, a, ns, rfl, hS, fun st H1 nst sm hSt => ?_⟩
  refine ⟨by show 11 ≤ sizeLine; decide, fun lo hlo => ?_⟩
  have go := Go.new (K := K) (st := st) (o := .lst [.str "", .str " ", .str ":", .str "0 0 0", .str "0 0:", .str "0 0 0: ", .str "0 0 0 :", .str " 0 0 0:", .str "0 0 0:5", .str "0  0 0:", .str "0 0 0:: 5"]) hlo
  have S2 := go.st _ hSt
  have nlo := hSt.fresh hlo
  refine ⟨_, rfl, .inl ⟨rfl, _, SqL.of upd_same⟩, lo, _, _, rfl, rfl, upd_same, by show 11 < sizeLine; decide, ?_⟩
  rw [upd_upd]
  have g3 := Go.new (K := K) (st := st) (o := .lst (odd12.map V.str)) hlo
  have S3 := g3.st _ hSt
  have ho3 := upd_same (H := H1) (a := lo) (o := .lst (odd12.map V.str))
  rw [show ([V.str "", .str " ", .str ":", .str "0 0 0", .str "0 0:", .str "0 0 0: ", .str "0 0 0 :", .str " 0 0 0:", .str "0 0 0:5", .str "0  0 0:", .str "0 0 0:: 5"] ++ [V.str "0 0 0:\n"] : List V) = odd12.map V.str from rfl]
  refine ⟨_, rfl, .inl ⟨rfl, _, SqL.of ho3⟩, _, rfl, a, st, 4, rfl, S3, by decide, nat8000 (by decide) (by decide +kernel), fun k H4 k0 k1 g4 => ?_⟩
  have S4 := g4.st _ S3
  have ho4 := g4.keep _ _ nlo ho3
  have hk : (95 : Int) + k = 95 ∨ (95 : Int) + k = 96 ∨ (95 : Int) + k = 97 ∨ (95 : Int) + k = 98 := by omega
  have h13 := odd13_ok hk
  refine ⟨_, _, rfl, rfl, _, _, rfl, rfl, mul_5 hk, _, _, rfl, rfl, ?_, lo, _, _, rfl, rfl, ho4, by show 12 < sizeLine; decide, ?_⟩
  · have e6 : ("0 0 0:" : Str).length = 6 := rfl
    have := (h13 _ (List.mem_append_right _ (List.mem_singleton.mpr rfl))).1
    rw [lenA, e6] at this
    have sz : 10000 ≤ sizeLine := by decide
    omega
  have g5 := (g3.trans g4).mut (o := .lst (odd12.map V.str ++ [.str ("0 0 0:" ++ PySem.Txt.mul " 5" (95 + k))])) hSt hlo
  have S5 := g5.st _ hSt
  have ho5 := upd_same (H := H4) (a := lo) (o := .lst (odd12.map V.str ++ [.str ("0 0 0:" ++ PySem.Txt.mul " 5" (95 + k))]))
  generalize hz : ("0 0 0:" : Str) ++ PySem.Txt.mul " 5" (95 + k) = zo at h13 g5 S5 ho5 ⊢
  generalize upd H4 lo (.lst (odd12.map V.str ++ [.str zo])) = H5 at g5 S5 ho5
  have ho5 : H5 lo = some (.lst ((odd12 ++ [zo]).map V.str)) := by
    rw [ho5, List.map_append]
    rfl
  have l13 : (odd12 ++ [zo]).length = 13 := rfl
  generalize odd12 ++ [zo] = os at h13 ho5 l13
  refine ⟨8, rfl, by decide, by decide, for_range (n := 8) (fun i σ H2 => ∃ v3 v4 v5, σ = [some (.ref a), some (.ref st), some (.ref lo), v3, v4, v5] ∧ Go K st H5 H2) ⟨none, none, none, rfl, Go.refl _⟩ ?_ ?_⟩
  · rintro i σ H6 hi ⟨v3, v4, v5, rfl, g6⟩
    have S6 := g6.st _ S5
    refine ⟨_, rfl, a, st, rfl, S6, fun r s t d c xs H7 g7 hr hs o => ⟨r, s, t, d, c, xs, rfl, hr, hs, o, fun H8 s8 => ?_⟩⟩
    have g8 := g7.trans (Go.of (K := K) (st := st) s8)
    have S8 := g8.st _ S6
    refine ⟨_, rfl, a, st, 4, rfl, S8, by decide, nat8000 (by decide) (by decide +kernel), fun m H9 m0 m1 g9 => ?_⟩
    have S9 := g9.st _ S8
    refine ⟨m, rfl, by omega, by omega, for_range (n := m.toNat) (fun j σ H2 => ∃ (y : Str) (v5 : Option V), σ = [some (.ref a), some (.ref st), some (.ref lo), some (.int (0 + (i : Int))), some (.str y), v5] ∧ Go K st H9 H2 ∧ y.length + 100 ≤ 600 * 2 ^ j ∧ okS y) ⟨_, _, rfl, Go.refl _, ?_, let_signs _ _ _ _⟩ ?_ ?_⟩
    · have := let_short o
      omega
    · rintro j σ H10 hj ⟨y, v, rfl, g10, ly, oy⟩
      have S10 := g10.st _ S9
      have pj : 2 ^ j ≤ 2 ^ 2 := Nat.pow_le_pow_right (by decide) (by omega)
      refine ⟨_, rfl, _, rfl, a, st, y, rfl, S10, by omega, oy, fun y2 H11 g11 ly2 oy2 => ⟨_, _, rfl, g10.trans g11, ?_, oy2⟩⟩
      rw [Nat.pow_succ]
      omega
    · rintro σ H10 ⟨y, v, rfl, g10, ly, oy⟩
      have pj : 2 ^ m.toNat ≤ 2 ^ 3 := Nat.pow_le_pow_right (by decide) (by omega)
      have S10 := g10.st _ S9
      refine ⟨_, rfl, y, rfl, by omega, oy, fun H11 s11 => ⟨true, rfl, iteF ?_⟩⟩
      have g11 := g10.trans (Go.of (K := K) (st := st) s11)
      have S11 := g11.st _ S9
      refine ⟨_, rfl, _, rfl, a, st, 13, rfl, S11, by decide, nat8000 (by decide) (by decide +kernel), fun u H12 u0 u1 g12 => ?_⟩
      have gA := g6.trans (g8.trans (g9.trans (g11.trans g12)))
      have ho12 := gA.keep _ _ nlo ho5
      obtain ⟨y2, hy2, my2⟩ : ∃ y : Str, atI (os.map V.str) u = some (.str y) ∧ y ∈ os := by
        obtain ⟨k, rfl⟩ := Int.eq_ofNat_of_zero_le u0
        have hk : k < os.length := by omega
        exact ⟨os[k], atI_nat (by rw [List.getElem?_map, List.getElem?_eq_getElem hk]; rfl), List.getElem_mem hk⟩
      have o2 := h13 y2 my2
      exact ⟨lo, _, _, _, rfl, rfl, SqL.of ho12, hy2, y2, rfl, Nat.le_trans o2.1 (by decide), o2.2, fun H13 s13 => ⟨true, rfl, iteF ⟨_, _, _, rfl, gA.trans (Go.of s13)⟩⟩⟩
  · rintro σ H2 ⟨v3, v4, v5, rfl, g⟩
    exact q _
end
theorem all_mk {l : PySem.W.OpenLaw} {w : World} {K : PySem.W.Frag} {h : Heap} {mg : Str → Option Value} {fa : Addr} (X : K.In h) (G : h.Ns mainGlobals mg) (hfa : mg "law" = some (.ref fa))
    {f0 : Addr} {od0 an0 : Option Addr} {sl0 : Array (Option Value)} {oc0 kV0 dc0 pm0 cd0 ct0 : Value} {f1 : Addr} {od1 an1 : Option Addr} {sl1 : Array (Option Value)} {oc1 kV1 dc1 pm1 cd1 ct1 : Value} {f2 : Addr} {od2 an2 : Option Addr} {sl2 : Array (Option Value)} {oc2 kV2 dc2 pm2 cd2 ct2 : Value} {f3 : Addr} {od3 an3 : Option Addr} {sl3 : Array (Option Value)} {oc3 kV3 dc3 pm3 cd3 ct3 : Value} {f4 : Addr} {od4 an4 : Option Addr} {sl4 : Array (Option Value)} {oc4 kV4 dc4 pm4 cd4 ct4 : Value} {f5 : Addr} {od5 an5 : Option Addr} {sl5 : Array (Option Value)} {oc5 kV5 dc5 pm5 cd5 ct5 : Value} {f6 : Addr} {od6 an6 : Option Addr} {sl6 : Array (Option Value)} {oc6 kV6 dc6 pm6 cd6 ct6 : Value} {f7 : Addr} {od7 an7 : Option Addr} {sl7 : Array (Option Value)} {oc7 kV7 dc7 pm7 cd7 ct7 : Value} {f8 : Addr} {od8 an8 : Option Addr} {sl8 : Array (Option Value)} {oc8 kV8 dc8 pm8 cd8 ct8 : Value} {f9 : Addr} {od9 an9 : Option Addr} {sl9 : Array (Option Value)} {oc9 kV9 dc9 pm9 cd9 ct9 : Value} {f10 : Addr} {od10 an10 : Option Addr} {sl10 : Array (Option Value)} {oc10 kV10 dc10 pm10 cd10 ct10 : Value} {f11 : Addr} {od11 an11 : Option Addr} {sl11 : Array (Option Value)} {oc11 kV11 dc11 pm11 cd11 ct11 : Value} {f12 : Addr} {od12 an12 : Option Addr} {sl12 : Array (Option Value)} {oc12 kV12 dc12 pm12 cd12 ct12 : Value} {f13 : Addr} {od13 an13 : Option Addr} {sl13 : Array (Option Value)} {oc13 kV13 dc13 pm13 cd13 ct13 : Value} {f14 : Addr} {od14 an14 : Option Addr} {sl14 : Array (Option Value)} {oc14 kV14 dc14 pm14 cd14 ct14 : Value} {f15 : Addr} {od15 an15 : Option Addr} {sl15 : Array (Option Value)} {oc15 kV15 dc15 pm15 cd15 ct15 : Value} {eMendError : Addr} {eNoSet : Addr} {eNoMark : Addr} {eNoInverse : Addr} {eNoCount : Addr} {eNoHand : Addr} {eNoLetter : Addr} {eNoText : Addr} {eHeld : Addr} {eNotHeld : Addr} {eUnlike : Addr} {eLate : Addr} {tWHEEL : Nat} {tFIGURES : Nat} {tMOST_FIGURES : Nat} {tMOST_SUMS : Nat}
    (a0 : PySem.W.nsIn K mainGlobals "is_whole" = some (some (.ref f0)))
    (l0 : K.lookup f0 = some ⟨oc0, od0, .func (PySem.W.fnOf "is_whole" "is_whole" (defArgs s_is_whole) (defBody s_is_whole) (defScope s_is_whole) .none kV0 dc0 pm0 an0 cd0 ct0), sl0⟩)
    (c0 : PySem.W.codeIn K cd0 "is_whole" = true)
    (k0 : PySem.W.keepIn K (.ref f0) = true)
    (a1 : PySem.W.nsIn K mainGlobals "is_rest" = some (some (.ref f1)))
    (l1 : K.lookup f1 = some ⟨oc1, od1, .func (PySem.W.fnOf "is_rest" "is_rest" (defArgs s_is_rest) (defBody s_is_rest) (defScope s_is_rest) .none kV1 dc1 pm1 an1 cd1 ct1), sl1⟩)
    (c1 : PySem.W.codeIn K cd1 "is_rest" = true)
    (k1 : PySem.W.keepIn K (.ref f1) = true)
    (a2 : PySem.W.nsIn K mainGlobals "is_letter" = some (some (.ref f2)))
    (l2 : K.lookup f2 = some ⟨oc2, od2, .func (PySem.W.fnOf "is_letter" "is_letter" (defArgs s_is_letter) (defBody s_is_letter) (defScope s_is_letter) .none kV2 dc2 pm2 an2 cd2 ct2), sl2⟩)
    (c2 : PySem.W.codeIn K cd2 "is_letter" = true)
    (k2 : PySem.W.keepIn K (.ref f2) = true)
    (a3 : PySem.W.nsIn K mainGlobals "number_by" = some (some (.ref f3)))
    (l3 : K.lookup f3 = some ⟨oc3, od3, .func (PySem.W.fnOf "number_by" "number_by" (defArgs s_number_by) (defBody s_number_by) (defScope s_number_by) .none kV3 dc3 pm3 an3 cd3 ct3), sl3⟩)
    (c3 : PySem.W.codeIn K cd3 "number_by" = true)
    (k3 : PySem.W.keepIn K (.ref f3) = true)
    (a4 : PySem.W.nsIn K mainGlobals "read" = some (some (.ref f4)))
    (l4 : K.lookup f4 = some ⟨oc4, od4, .func (PySem.W.fnOf "read" "read" (defArgs s_read) (defBody s_read) (defScope s_read) .none kV4 dc4 pm4 an4 cd4 ct4), sl4⟩)
    (c4 : PySem.W.codeIn K cd4 "read" = true)
    (k4 : PySem.W.keepIn K (.ref f4) = true)
    (a5 : PySem.W.nsIn K mainGlobals "_law_start" = some (some (.ref f5)))
    (l5 : K.lookup f5 = some ⟨oc5, od5, .func (PySem.W.fnOf "_law_start" "_law_start" (defArgs s__law_start) (defBody s__law_start) (defScope s__law_start) .none kV5 dc5 pm5 an5 cd5 ct5), sl5⟩)
    (c5 : PySem.W.codeIn K cd5 "_law_start" = true)
    (k5 : PySem.W.keepIn K (.ref f5) = true)
    (a6 : PySem.W.nsIn K mainGlobals "_law_drawn" = some (some (.ref f6)))
    (l6 : K.lookup f6 = some ⟨oc6, od6, .func (PySem.W.fnOf "_law_drawn" "_law_drawn" (defArgs s__law_drawn) (defBody s__law_drawn) (defScope s__law_drawn) .none kV6 dc6 pm6 an6 cd6 ct6), sl6⟩)
    (c6 : PySem.W.codeIn K cd6 "_law_drawn" = true)
    (k6 : PySem.W.keepIn K (.ref f6) = true)
    (a7 : PySem.W.nsIn K mainGlobals "_law_letter" = some (some (.ref f7)))
    (l7 : K.lookup f7 = some ⟨oc7, od7, .func (PySem.W.fnOf "_law_letter" "_law_letter" (defArgs s__law_letter) (defBody s__law_letter) (defScope s__law_letter) .none kV7 dc7 pm7 an7 cd7 ct7), sl7⟩)
    (c7 : PySem.W.codeIn K cd7 "_law_letter" = true)
    (k7 : PySem.W.keepIn K (.ref f7) = true)
    (a8 : PySem.W.nsIn K mainGlobals "_law_text" = some (some (.ref f8)))
    (l8 : K.lookup f8 = some ⟨oc8, od8, .func (PySem.W.fnOf "_law_text" "_law_text" (defArgs s__law_text) (defBody s__law_text) (defScope s__law_text) .none kV8 dc8 pm8 an8 cd8 ct8), sl8⟩)
    (c8 : PySem.W.codeIn K cd8 "_law_text" = true)
    (k8 : PySem.W.keepIn K (.ref f8) = true)
    (a9 : PySem.W.nsIn K mainGlobals "_law_same" = some (some (.ref f9)))
    (l9 : K.lookup f9 = some ⟨oc9, od9, .func (PySem.W.fnOf "_law_same" "_law_same" (defArgs s__law_same) (defBody s__law_same) (defScope s__law_same) .none kV9 dc9 pm9 an9 cd9 ct9), sl9⟩)
    (c9 : PySem.W.codeIn K cd9 "_law_same" = true)
    (k9 : PySem.W.keepIn K (.ref f9) = true)
    (a10 : PySem.W.nsIn K mainGlobals "_law_number" = some (some (.ref f10)))
    (l10 : K.lookup f10 = some ⟨oc10, od10, .func (PySem.W.fnOf "_law_number" "_law_number" (defArgs s__law_number) (defBody s__law_number) (defScope s__law_number) .none kV10 dc10 pm10 an10 cd10 ct10), sl10⟩)
    (c10 : PySem.W.codeIn K cd10 "_law_number" = true)
    (k10 : PySem.W.keepIn K (.ref f10) = true)
    (a11 : PySem.W.nsIn K mainGlobals "_law_read" = some (some (.ref f11)))
    (l11 : K.lookup f11 = some ⟨oc11, od11, .func (PySem.W.fnOf "_law_read" "_law_read" (defArgs s__law_read) (defBody s__law_read) (defScope s__law_read) .none kV11 dc11 pm11 an11 cd11 ct11), sl11⟩)
    (c11 : PySem.W.codeIn K cd11 "_law_read" = true)
    (k11 : PySem.W.keepIn K (.ref f11) = true)
    (a12 : PySem.W.nsIn K mainGlobals "_law_changed" = some (some (.ref f12)))
    (l12 : K.lookup f12 = some ⟨oc12, od12, .func (PySem.W.fnOf "_law_changed" "_law_changed" (defArgs s__law_changed) (defBody s__law_changed) (defScope s__law_changed) .none kV12 dc12 pm12 an12 cd12 ct12), sl12⟩)
    (c12 : PySem.W.codeIn K cd12 "_law_changed" = true)
    (k12 : PySem.W.keepIn K (.ref f12) = true)
    (a13 : PySem.W.nsIn K mainGlobals "_law_told" = some (some (.ref f13)))
    (l13 : K.lookup f13 = some ⟨oc13, od13, .func (PySem.W.fnOf "_law_told" "_law_told" (defArgs s__law_told) (defBody s__law_told) (defScope s__law_told) .none kV13 dc13 pm13 an13 cd13 ct13), sl13⟩)
    (c13 : PySem.W.codeIn K cd13 "_law_told" = true)
    (k13 : PySem.W.keepIn K (.ref f13) = true)
    (a14 : PySem.W.nsIn K mainGlobals "_law_good" = some (some (.ref f14)))
    (l14 : K.lookup f14 = some ⟨oc14, od14, .func (PySem.W.fnOf "_law_good" "_law_good" (defArgs s__law_good) (defBody s__law_good) (defScope s__law_good) .none kV14 dc14 pm14 an14 cd14 ct14), sl14⟩)
    (c14 : PySem.W.codeIn K cd14 "_law_good" = true)
    (k14 : PySem.W.keepIn K (.ref f14) = true)
    (a15 : PySem.W.nsIn K mainGlobals "law" = some (some (.ref f15)))
    (l15 : K.lookup f15 = some ⟨oc15, od15, .func (PySem.W.fnOf "law" "law" (defArgs s_law) (defBody s_law) (defScope s_law) .none kV15 dc15 pm15 an15 cd15 ct15), sl15⟩)
    (c15 : PySem.W.codeIn K cd15 "law" = true)
    (k15 : PySem.W.keepIn K (.ref f15) = true)
    (gMendError : PySem.W.nsIn K mainGlobals "MendError" = some (some (.ref eMendError)))
    (gNoSet : PySem.W.nsIn K mainGlobals "NoSet" = some (some (.ref eNoSet)))
    (gNoMark : PySem.W.nsIn K mainGlobals "NoMark" = some (some (.ref eNoMark)))
    (gNoInverse : PySem.W.nsIn K mainGlobals "NoInverse" = some (some (.ref eNoInverse)))
    (gNoCount : PySem.W.nsIn K mainGlobals "NoCount" = some (some (.ref eNoCount)))
    (gNoHand : PySem.W.nsIn K mainGlobals "NoHand" = some (some (.ref eNoHand)))
    (gNoLetter : PySem.W.nsIn K mainGlobals "NoLetter" = some (some (.ref eNoLetter)))
    (gNoText : PySem.W.nsIn K mainGlobals "NoText" = some (some (.ref eNoText)))
    (gHeld : PySem.W.nsIn K mainGlobals "Held" = some (some (.ref eHeld)))
    (gNotHeld : PySem.W.nsIn K mainGlobals "NotHeld" = some (some (.ref eNotHeld)))
    (gUnlike : PySem.W.nsIn K mainGlobals "Unlike" = some (some (.ref eUnlike)))
    (gLate : PySem.W.nsIn K mainGlobals "Late" = some (some (.ref eLate)))
    (xNoText : PySem.W.excIn K eNoText [.type "ValueError", .type "Exception", .type "BaseException", .type "object"] "ValueError.__new__" = true)
    (kkNoText : PySem.W.keepIn K (.ref eNoText) = true)
    (bbNoText : PySem.W.subIn K (.ref eNoText) (.type "BaseException") = some true)
    (ttNoText : PySem.W.typeIn K (.ref eNoText) = some (.type "type"))
    (vWHEEL : PySem.W.nsIn K mainGlobals "WHEEL" = some (some (.int 97 tWHEEL)))
    (vFIGURES : PySem.W.nsIn K mainGlobals "FIGURES" = some (some (.str "0123456789" tFIGURES)))
    (vMOST_FIGURES : PySem.W.nsIn K mainGlobals "MOST_FIGURES" = some (some (.int 60 tMOST_FIGURES)))
    (vMOST_SUMS : PySem.W.nsIn K mainGlobals "MOST_SUMS" = some (some (.int 96 tMOST_SUMS)))
    (zValueError : PySem.W.nsIn K mainGlobals "ValueError" = some none)
    (zall : PySem.W.nsIn K mainGlobals "all" = some none)
    (zany : PySem.W.nsIn K mainGlobals "any" = some none)
    (zbool : PySem.W.nsIn K mainGlobals "bool" = some none)
    (zint : PySem.W.nsIn K mainGlobals "int" = some none)
    (zisinstance : PySem.W.nsIn K mainGlobals "isinstance" = some none)
    (zlen : PySem.W.nsIn K mainGlobals "len" = some none)
    (zlist : PySem.W.nsIn K mainGlobals "list" = some none)
    (zrange : PySem.W.nsIn K mainGlobals "range" = some none)
    (zstr : PySem.W.nsIn K mainGlobals "str" = some none)
    (ztuple : PySem.W.nsIn K mainGlobals "tuple" = some none)
    (ykv : PySem.W.kitOne K (.ref eNoText) (.type "ValueError") = some true)
    (yko : PySem.W.kitOne K (.ref eNoText) (.ref eNoText) = some true)
    (ykt : PySem.W.kitAny K (.ref eNoText) [.ref eHeld, .ref eLate, .ref eNoCount, .ref eNoHand, .ref eNoInverse, .ref eNoLetter, .ref eNoMark, .ref eNoSet, .ref eNotHeld, .ref eUnlike] = some false)
    (yq1_NoText : PySem.W.findIn K (.ref eNoText) "__getattribute__" = some (some (.builtin "BaseException.__getattribute__")))
    (yq2_NoText : PySem.W.findIn K (.ref eNoText) "__getattr__" = some none)
    (yq3_NoText : PySem.W.subIn K (.ref eNoText) (.type "BaseException") = some true)
    (yq4_NoText : PySem.W.hasDictIn K eNoText = true)
    (yq5_NoText : PySem.W.findIn K (.ref eNoText) "__class__" = some (some (.builtin "object.__class__")))
    (yq6_NoText : PySem.W.specialIn K (.builtin "object.__class__") "__get__" = some (some (.builtin "getset_descriptor.__get__")))
    (yq7_NoText : PySem.W.takesIn K (.builtin "object.__class__") = some true)
    (yq8_NoText : PySem.W.mroIn K eNoText (.type "object") = some true)
    (ys_NoText_MendError : PySem.W.subIn K (.ref eNoText) (.ref eMendError) = some true)
    (yh1_MendError : PySem.W.subIn K (.ref eMendError) (.type "BaseException") = some true)
    (yh2_MendError : PySem.W.hasDictIn K eMendError = true)
    (yh3_MendError : PySem.W.typeIn K (.ref eMendError) = some (.type "type")) :
    ∃ fd : FuncData, (∀ (s : Shared) (v : Value), BindsTo s fd ⟨[v], []⟩ [("_law_script", v)]) ∧ ∀ base : Heap, K.In base → base.Ns mainGlobals mg → FnOk l.prog w K mg base CX0 7 fa fd ["_law_script"] (sp_law K) := by
  have e := hfa.symm.trans (PySem.W.mg_of X G a15)
  cases e
  have F0 := fun_mk (st := s_is_whole) l0 c0 k0
  have b0 := F0.binds (ps := ["thing"]) fun _ _ _ _ _ _ us hl => match us, hl with | [_], _ => rfl
  have F1 := fun_mk (st := s_is_rest) l1 c1 k1
  have b1 := F1.binds (ps := ["thing"]) fun _ _ _ _ _ _ us hl => match us, hl with | [_], _ => rfl
  have F2 := fun_mk (st := s_is_letter) l2 c2 k2
  have b2 := F2.binds (ps := ["thing"]) fun _ _ _ _ _ _ us hl => match us, hl with | [_], _ => rfl
  have F3 := fun_mk (st := s_number_by) l3 c3 k3
  have b3 := F3.binds (ps := ["word"]) fun _ _ _ _ _ _ us hl => match us, hl with | [_], _ => rfl
  have F4 := fun_mk (st := s_read) l4 c4 k4
  have b4 := F4.binds (ps := ["text"]) fun _ _ _ _ _ _ us hl => match us, hl with | [_], _ => rfl
  have F5 := fun_mk (st := s__law_start) l5 c5 k5
  have b5 := F5.binds (ps := ["_law_script"]) fun _ _ _ _ _ _ us hl => match us, hl with | [_], _ => rfl
  have F6 := fun_mk (st := s__law_drawn) l6 c6 k6
  have b6 := F6.binds (ps := ["_law_state", "_law_many"]) fun _ _ _ _ _ _ us hl => match us, hl with | [_, _], _ => rfl
  have F7 := fun_mk (st := s__law_letter) l7 c7 k7
  have b7 := F7.binds (ps := ["_law_state"]) fun _ _ _ _ _ _ us hl => match us, hl with | [_], _ => rfl
  have F8 := fun_mk (st := s__law_text) l8 c8 k8
  have b8 := F8.binds (ps := ["_law_letter_here"]) fun _ _ _ _ _ _ us hl => match us, hl with | [_], _ => rfl
  have F9 := fun_mk (st := s__law_same) l9 c9 k9
  have b9 := F9.binds (ps := ["_law_found", "_law_due"]) fun _ _ _ _ _ _ us hl => match us, hl with | [_, _], _ => rfl
  have F10 := fun_mk (st := s__law_number) l10 c10 k10
  have b10 := F10.binds (ps := ["_law_word", "_law_most"]) fun _ _ _ _ _ _ us hl => match us, hl with | [_, _], _ => rfl
  have F11 := fun_mk (st := s__law_read) l11 c11 k11
  have b11 := F11.binds (ps := ["_law_text_here"]) fun _ _ _ _ _ _ us hl => match us, hl with | [_], _ => rfl
  have F12 := fun_mk (st := s__law_changed) l12 c12 k12
  have b12 := F12.binds (ps := ["_law_state", "_law_text_here"]) fun _ _ _ _ _ _ us hl => match us, hl with | [_, _], _ => rfl
  have F13 := fun_mk (st := s__law_told) l13 c13 k13
  have b13 := F13.binds (ps := ["_law_text_here"]) fun _ _ _ _ _ _ us hl => match us, hl with | [_], _ => rfl
  have F14 := fun_mk (st := s__law_good) l14 c14 k14
  have b14 := F14.binds (ps := ["_law_text_here"]) fun _ _ _ _ _ _ us hl => match us, hl with | [_], _ => rfl
  have F15 := fun_mk (st := s_law) l15 c15 k15
  have b15 := F15.binds (ps := ["_law_script"]) fun _ _ _ _ _ _ us hl => match us, hl with | [_], _ => rfl
  have T : Txt K mg (⟨f0, _, f1, _, f2, _, f3, _, f4, _, f5, _, f6, _, f7, _, f8, _, f9, _, f10, _, f11, _, f12, _, f13, _, f14, _, fa, _, eMendError, eNoSet, eNoMark, eNoInverse, eNoCount, eNoHand, eNoLetter, eNoText, eHeld, eNotHeld, eUnlike, eLate, tWHEEL, tFIGURES, tMOST_FIGURES, tMOST_SUMS⟩ : Ad) := ⟨F0, k0, PySem.W.mg_of X G a0, b0, F1, k1, PySem.W.mg_of X G a1, b1, F2, k2, PySem.W.mg_of X G a2, b2, F3, k3, PySem.W.mg_of X G a3, b3, F4, k4, PySem.W.mg_of X G a4, b4, F5, k5, PySem.W.mg_of X G a5, b5, F6, k6, PySem.W.mg_of X G a6, b6, F7, k7, PySem.W.mg_of X G a7, b7, F8, k8, PySem.W.mg_of X G a8, b8, F9, k9, PySem.W.mg_of X G a9, b9, F10, k10, PySem.W.mg_of X G a10, b10, F11, k11, PySem.W.mg_of X G a11, b11, F12, k12, PySem.W.mg_of X G a12, b12, F13, k13, PySem.W.mg_of X G a13, b13, F14, k14, PySem.W.mg_of X G a14, b14, F15, k15, PySem.W.mg_of X G a15, b15, PySem.W.mg_of X G vWHEEL, PySem.W.mg_of X G vFIGURES, PySem.W.mg_of X G vMOST_FIGURES, PySem.W.mg_of X G vMOST_SUMS, PySem.W.mg_none_of X G zValueError, PySem.W.mg_none_of X G zall, PySem.W.mg_none_of X G zany, PySem.W.mg_none_of X G zbool, PySem.W.mg_none_of X G zint, PySem.W.mg_none_of X G zisinstance, PySem.W.mg_none_of X G zlen, PySem.W.mg_none_of X G zlist, PySem.W.mg_none_of X G zrange, PySem.W.mg_none_of X G zstr, PySem.W.mg_none_of X G ztuple, PySem.W.mg_of X G gMendError, PySem.W.mg_of X G gNoSet, PySem.W.mg_of X G gNoMark, PySem.W.mg_of X G gNoInverse, PySem.W.mg_of X G gNoCount, PySem.W.mg_of X G gNoHand, PySem.W.mg_of X G gNoLetter, PySem.W.mg_of X G gNoText, PySem.W.mg_of X G gHeld, PySem.W.mg_of X G gNotHeld, PySem.W.mg_of X G gUnlike, PySem.W.mg_of X G gLate, xNoText, kkNoText, bbNoText, ttNoText, ykv, yko, ykt, yq1_NoText, yq2_NoText, yq3_NoText, yq4_NoText, yq5_NoText, yq6_NoText, yq7_NoText, yq8_NoText, ys_NoText_MendError, yh1_MendError, yh2_MendError, yh3_MendError⟩
  exact ⟨PySem.W.fnOf "law" "law" (defArgs s_law) (defBody s_law) (defScope s_law) .none kV15 dc15 pm15 an15 cd15 ct15, fun s v => .of_eq rfl, fun base _ _ => ok_law T⟩
end My
open PySem PySem.W PyProof.Rows
set_option maxHeartbeats 0 in
theorem PySem.Challenge.cw_setmend_k29_texts_that_write_no_letter_holds : PySem.Challenge.rw_setmend_k29_texts_that_write_no_letter.Holds := by
  w_on; o_law; k_head; (case hw => w_witness2)
  k_fill
  refine L2.walk_ofB (l := PySem.Challenge.rw_setmend_k29_texts_that_write_no_letter) (n := 63) (k := 7) (x := "_law_script") (CX := fun _ => L2.CX0) (sp := fun w => My.sp_law _) rfl (by decide) rfl ⟨rfl, by decide, by decide⟩ (fun w h Y => PySem.W.kIn_of Y) ?F (fun _ H a ns hl hb hO hS => ⟨a, ns, rfl, hS, hl, fun _ => rfl⟩) (fun _ _ _ _ _ h => h)
  case F =>
    intro w mg fa h KX G hmg
    refine' My.all_mk KX G hmg ?a0 ?l0 ?c0 ?k0 ?a1 ?l1 ?c1 ?k1 ?a2 ?l2 ?c2 ?k2 ?a3 ?l3 ?c3 ?k3 ?a4 ?l4 ?c4 ?k4 ?a5 ?l5 ?c5 ?k5 ?a6 ?l6 ?c6 ?k6 ?a7 ?l7 ?c7 ?k7 ?a8 ?l8 ?c8 ?k8 ?a9 ?l9 ?c9 ?k9 ?a10 ?l10 ?c10 ?k10 ?a11 ?l11 ?c11 ?k11 ?a12 ?l12 ?c12 ?k12 ?a13 ?l13 ?c13 ?k13 ?a14 ?l14 ?c14 ?k14 ?a15 ?l15 ?c15 ?k15 ?gMendError ?gNoSet ?gNoMark ?gNoInverse ?gNoCount ?gNoHand ?gNoLetter ?gNoText ?gHeld ?gNotHeld ?gUnlike ?gLate ?xNoText ?kkNoText ?bbNoText ?ttNoText ?vWHEEL ?vFIGURES ?vMOST_FIGURES ?vMOST_SUMS ?zValueError ?zall ?zany ?zbool ?zint ?zisinstance ?zlen ?zlist ?zrange ?zstr ?ztuple ?ykv ?yko ?ykt ?yq1_NoText ?yq2_NoText ?yq3_NoText ?yq4_NoText ?yq5_NoText ?yq6_NoText ?yq7_NoText ?yq8_NoText ?ys_NoText_MendError ?yh1_MendError ?yh2_MendError ?yh3_MendError
    (case a0 => first | k_is | (first | rfl | k_is)); (case l0 => first | k_is | (first | rfl | k_is)); (case c0 => first | k_is | (first | rfl | k_is)); (case k0 => first | k_is | (first | rfl | k_is)); (case a1 => first | k_is | (first | rfl | k_is)); (case l1 => first | k_is | (first | rfl | k_is)); (case c1 => first | k_is | (first | rfl | k_is)); (case k1 => first | k_is | (first | rfl | k_is)); (case a2 => first | k_is | (first | rfl | k_is)); (case l2 => first | k_is | (first | rfl | k_is)); (case c2 => first | k_is | (first | rfl | k_is)); (case k2 => first | k_is | (first | rfl | k_is)); (case a3 => first | k_is | (first | rfl | k_is)); (case l3 => first | k_is | (first | rfl | k_is)); (case c3 => first | k_is | (first | rfl | k_is)); (case k3 => first | k_is | (first | rfl | k_is)); (case a4 => first | k_is | (first | rfl | k_is)); (case l4 => first | k_is | (first | rfl | k_is)); (case c4 => first | k_is | (first | rfl | k_is)); (case k4 => first | k_is | (first | rfl | k_is)); (case a5 => first | k_is | (first | rfl | k_is)); (case l5 => first | k_is | (first | rfl | k_is)); (case c5 => first | k_is | (first | rfl | k_is)); (case k5 => first | k_is | (first | rfl | k_is)); (case a6 => first | k_is | (first | rfl | k_is)); (case l6 => first | k_is | (first | rfl | k_is)); (case c6 => first | k_is | (first | rfl | k_is)); (case k6 => first | k_is | (first | rfl | k_is)); (case a7 => first | k_is | (first | rfl | k_is)); (case l7 => first | k_is | (first | rfl | k_is)); (case c7 => first | k_is | (first | rfl | k_is)); (case k7 => first | k_is | (first | rfl | k_is)); (case a8 => first | k_is | (first | rfl | k_is)); (case l8 => first | k_is | (first | rfl | k_is)); (case c8 => first | k_is | (first | rfl | k_is)); (case k8 => first | k_is | (first | rfl | k_is)); (case a9 => first | k_is | (first | rfl | k_is)); (case l9 => first | k_is | (first | rfl | k_is)); (case c9 => first | k_is | (first | rfl | k_is)); (case k9 => first | k_is | (first | rfl | k_is)); (case a10 => first | k_is | (first | rfl | k_is)); (case l10 => first | k_is | (first | rfl | k_is)); (case c10 => first | k_is | (first | rfl | k_is)); (case k10 => first | k_is | (first | rfl | k_is)); (case a11 => first | k_is | (first | rfl | k_is)); (case l11 => first | k_is | (first | rfl | k_is)); (case c11 => first | k_is | (first | rfl | k_is)); (case k11 => first | k_is | (first | rfl | k_is)); (case a12 => first | k_is | (first | rfl | k_is)); (case l12 => first | k_is | (first | rfl | k_is)); (case c12 => first | k_is | (first | rfl | k_is)); (case k12 => first | k_is | (first | rfl | k_is)); (case a13 => first | k_is | (first | rfl | k_is)); (case l13 => first | k_is | (first | rfl | k_is)); (case c13 => first | k_is | (first | rfl | k_is)); (case k13 => first | k_is | (first | rfl | k_is)); (case a14 => first | k_is | (first | rfl | k_is)); (case l14 => first | k_is | (first | rfl | k_is)); (case c14 => first | k_is | (first | rfl | k_is)); (case k14 => first | k_is | (first | rfl | k_is)); (case a15 => first | k_is | (first | rfl | k_is)); (case l15 => first | k_is | (first | rfl | k_is)); (case c15 => first | k_is | (first | rfl | k_is)); (case k15 => first | k_is | (first | rfl | k_is)); (case gMendError => first | k_is | (first | rfl | k_is)); (case gNoSet => first | k_is | (first | rfl | k_is)); (case gNoMark => first | k_is | (first | rfl | k_is)); (case gNoInverse => first | k_is | (first | rfl | k_is)); (case gNoCount => first | k_is | (first | rfl | k_is)); (case gNoHand => first | k_is | (first | rfl | k_is)); (case gNoLetter => first | k_is | (first | rfl | k_is)); (case gNoText => first | k_is | (first | rfl | k_is)); (case gHeld => first | k_is | (first | rfl | k_is)); (case gNotHeld => first | k_is | (first | rfl | k_is)); (case gUnlike => first | k_is | (first | rfl | k_is)); (case gLate => first | k_is | (first | rfl | k_is)); (case xNoText => k_exc); (case kkNoText => first | k_is | (first | rfl | k_is)); (case bbNoText => first | k_is | (first | rfl | k_is)); (case ttNoText => first | k_is | (first | rfl | k_is)); (case vWHEEL => first | k_is | (first | rfl | k_is)); (case vFIGURES => first | k_is | (first | rfl | k_is)); (case vMOST_FIGURES => first | k_is | (first | rfl | k_is)); (case vMOST_SUMS => first | k_is | (first | rfl | k_is)); (case zValueError => first | k_is | (first | rfl | k_is)); (case zall => first | k_is | (first | rfl | k_is)); (case zany => first | k_is | (first | rfl | k_is)); (case zbool => first | k_is | (first | rfl | k_is)); (case zint => first | k_is | (first | rfl | k_is)); (case zisinstance => first | k_is | (first | rfl | k_is)); (case zlen => first | k_is | (first | rfl | k_is)); (case zlist => first | k_is | (first | rfl | k_is)); (case zrange => first | k_is | (first | rfl | k_is)); (case zstr => first | k_is | (first | rfl | k_is)); (case ztuple => first | k_is | (first | rfl | k_is)); (case ykv => first | k_is | (first | rfl | k_is)); (case yko => first | k_is | (first | rfl | k_is)); (case ykt => first | k_is | (first | rfl | k_is)); (case yq1_NoText => first | k_is | (first | rfl | k_is)); (case yq2_NoText => first | k_is | (first | rfl | k_is)); (case yq3_NoText => first | k_is | (first | rfl | k_is)); (case yq4_NoText => first | k_is | (first | rfl | k_is)); (case yq5_NoText => first | k_is | (first | rfl | k_is)); (case yq6_NoText => first | k_is | (first | rfl | k_is)); (case yq7_NoText => first | k_is | (first | rfl | k_is)); (case yq8_NoText => first | k_is | (first | rfl | k_is)); (case ys_NoText_MendError => first | k_is | (first | rfl | k_is)); (case yh1_MendError => first | k_is | (first | rfl | k_is)); (case yh2_MendError => first | k_is | (first | rfl | k_is)); (case yh3_MendError => first | k_is | (first | rfl | k_is))
