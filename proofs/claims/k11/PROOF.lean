import PyProof.Rows.All
import Wide.All
import OpenK.AllK
import Wide.FinOn
import HandS.ForMost
import HandS.Strs
import HandS.Zip
import KE.SortData
import HandS.Codes
import HandS.Defaults
import HandS.IsInst
import HandS.Deep
import HandS.Style
import HandS.TupAny
import HandS.RaiseMore
import HandS.HeadHook1
import HandS.HeadHook2
import HandS.Walk
import KE.SortLaws
import HandS.Head0
import Wide.Once
import HandS.Head1
import HandS.Head2
import HandS.HeadEnd
import HandS.HeadHook3
import HandS.HeadHook4
import PySem.Challenge.RW_hushsteps_k11_whole_noises_that_are_made
set_option Elab.async false
set_option linter.all false
set_option maxRecDepth 100000
set_option maxHeartbeats 4000000
/-! Sets of unlike texts told by their length; sorted lists of pairs of texts. -/
namespace Hb
open PySem PySem.Spec PyProof.Rows L2

theorem grown_text (xs : List Str) (nd : xs.Nodup) {i : Nat} (hi : i < xs.length) : ((xs.take i).any (· == xs.getD i Str.empty)) = false := by
  have e1 : xs.getD i Str.empty = xs[i] := by rw [List.getD_eq_getElem?_getD, List.getElem?_eq_getElem hi] <;> rfl
  rw [e1, Bool.eq_false_iff]
  intro hb
  obtain ⟨y, hy, ey⟩ := List.any_eq_true.mp hb
  rw [eq_of_beq ey] at hy
  obtain ⟨j, hj, ej⟩ := List.mem_iff_getElem.mp hy
  rw [List.length_take] at hj
  rw [List.getElem_take] at ej
  exact absurd ej (List.pairwise_iff_getElem.mp nd j i (by omega) hi (by omega))
theorem more_text (xs : List Str) {i : Nat} (hi : i < xs.length) : xs.take (i + 1) = xs.take i ++ [xs.getD i Str.empty] := by
  have e1 : xs.getD i Str.empty = xs[i] := by rw [List.getD_eq_getElem?_getD, List.getElem?_eq_getElem hi] <;> rfl
  rw [e1, List.take_add_one, List.getElem?_eq_getElem hi] <;> rfl

section
variable {prog : Program} {w : World} {A : Around} {R : Result → Shared → Prop} {I : Addr} {fp wr : List Addr} {G : Array GenState → Array GenState → Prop} {n : Nat} {P : Nat → Value → Prop} {Z : Nat → Shared → Prop}
/-- the turns of set.update over unlike texts -/
theorem turns_text (W : WalksS prog w A.in1 I fp wr G n P Z) (S : Addr) (apart : S ∉ fp) (xs : List Str) (len : xs.length = n) (nd : xs.Nodup) (few : n + 1 < scanBound)
    (told : ∀ i v, P i v → ∃ t, v = .str (xs.getD i Str.empty) t) : ∀ (left i : Nat) (s : Shared), n - i = left → i ≤ n → Z i s →
      s.heap.SetOf (PySem.strKind prog w) S (fun z => (xs.take i).any (· == z)) i →
      (∀ s', Moved (S :: wr) G s s' → s'.heap.SetOf (PySem.strKind prog w) S (fun z => (xs.take n).any (· == z)) n → R (.ok (.ret .none)) s') →
      codeAny (model prog w) A (.builtin "set.update.loop" ⟨[.ref S, .ref I], []⟩) R s := by
  have nwr : S ∉ wr := fun h => apart (W.sub _ h)
  have up : ∀ b ∈ wr, b ∈ S :: wr := fun b hb => List.mem_cons_of_mem _ hb
  intro left
  induction left with
  | zero =>
    intro i s hk hi hst hS hR
    obtain rfl : i = n := by omega
    refine codeAny_builtin PyProof.Rows.F.entry_set_update_loop (by
      rw [Around.under_plainId PyProof.Rows.F.plain_set_update_loop _]; show wpAny _ A.in1 (pyNext (.ref I) >>= _) _ _ s
      refine wpAny_bind (W.done s _ _ hst fun s' hm => ?_); show wpAny _ A.in1 (ret Value.none) _ _ s'
      refine wpAny_pure (hR s' (hm.mono up) ?_); obtain ⟨o, es, ep, t, ho, rest⟩ := hS; exact ⟨o, es, ep, t, hm.heap S _ nwr ho, rest⟩)
  | succ left ih =>
    intro i s hk hi hst hS hR
    have lt : i < n := by omega
    have lt2 : i < xs.length := by omega
    refine codeAny_builtin PyProof.Rows.F.entry_set_update_loop (by
      rw [Around.under_plainId PyProof.Rows.F.plain_set_update_loop _]; show wpAny _ A.in1 (pyNext (.ref I) >>= _) _ _ s
      refine wpAny_bind (W.item i s _ _ lt hst fun v s' hP hst' hm => ?_)
      obtain ⟨t, rfl⟩ := told i v hP
      have hS' : s'.heap.SetOf (PySem.strKind prog w) S (fun z => (xs.take i).any (· == z)) i := by
        obtain ⟨o, es, ep, tb, ho, rest⟩ := hS; exact ⟨o, es, ep, tb, hm.heap S _ nwr ho, rest⟩
      show wpAny _ A.in1 (holding [Value.str (xs.getD i Str.empty) t] (setAdd S (.str (xs.getD i Str.empty) t)) >>= _) _ _ s'
      refine wpAny_bind (wpAny_holding ?_); unfold setAdd
      refine wpAny_holding (wpAny_bind ((PySem.strKind prog w).pyHash (k := xs.getD i Str.empty) (strKind_is _ _ _ _) ?_))
      refine wpAny_setAddHashed_of (knd := PySem.strKind prog w) (s := { s' with toks := s'.toks + 1 }) (strKind_is prog w _ _) rfl hS' (by omega) fun h' same hS2 => ?_
      have hS3 : h'.SetOf (PySem.strKind prog w) S (fun z => (xs.take (i + 1)).any (· == z)) (i + 1) := PyProof.Rows.SetOf_congr hS2 (fun z => by
        rw [more_text xs lt2, List.any_append]
        by_cases e : z = xs.getD i Str.empty
        · subst e; simp
        · have q : (xs.getD i Str.empty == z) = false := beq_eq_false_iff_ne.mpr fun h => e h.symm
          simp only [List.any_cons, List.any_nil, q, Bool.or_false, e, decide_false]) (by rw [if_neg (by rw [grown_text xs nd lt2]; decide)])
      refine wpAny_pure ⟨plainId_quiet PyProof.Rows.F.plain_set_update_loop _, ih (i + 1) _ (by omega) lt (W.frame _ s' _ _ hst' (Nat.le_succ _) fun b hb o e => ?_) hS3 fun s'' hm2 hS4 => ?_⟩
      · rw [same.2 b (fun h : b = S => apart (h ▸ hb))]; exact e
      · refine hR s'' (Moved.trans W.gtrans ((hm.mono up).then_heap (Nat.le_succ _) fun b o hb e => ?_) hm2) hS4
        rw [same.2 b (fun h : b = S => hb (by rw [h]; exact List.mem_cons_self))]; exact e)
end
end Hb
set_option Elab.async false
set_option linter.all false
set_option maxRecDepth 100000
set_option maxHeartbeats 8000000
namespace Hb
open PySem PySem.Spec PyProof.Rows L2
section
variable {prog : Program} {w : World} {A : Around} {E : Value → Shared → Prop} {s : Shared}
/-- the new empty set, as the model makes it -/
abbrev bareSet (led : Bool) : Obj := { cls := .type "set", dict := none, data := .set #[] 0 (.fresh 0 0 led) }
/-- set(xs) of a list of unlike texts -/
theorem set_texts {l : Addr} {its : Array Value} {xs : List Str} {Q : Value → Shared → Prop} (calm : A.handled = none) (at_ : s.heap.IsList l its) (are : StrsAre its.toList xs) (nd : xs.Nodup) (few : xs.length + 1 < scanBound)
    (k : ∀ (h' : Heap) (tk : Nat), h'.SetOf (PySem.strKind prog w) s.heap.objs.size (fun z => (xs.take xs.length).any (· == z)) xs.length → (∀ b o, s.heap.get? b = some o → h'.get? b = some o) → Q (.ref s.heap.objs.size) { s with heap := h', toks := tk }) :
    wpAny (model prog w) A (call (.type "set") [.ref l]) Q E s := by
  have size : its.size = xs.length := by have q := are.length; rw [Array.length_toList] at q; exact q
  obtain ⟨c, tl, mro⟩ := F.called_set.mro
  have f1 := F.called_set.made; have f2 := F.called_set.sub; have f3 := F.called_set.notType; have f4 := F.called_set.canCreate; have f5 := F.typeCall_set_1 (.ref l)
  refine wpAny_call (codeAny_of_tree (by
    show wpAny _ _ (callAny (.type "set") _) _ _ _
    refine wpAny_pure ⟨Code.quiet_builtin _ (by decide +kernel), codeAny_builtin F.entry_type_call ?_⟩
    rw [Around.under_plain (weight_type_call_type "set" [.ref l] []) rfl]
    repeat (any_goals (first | assumption | wp_step))
    refine codeAny_mono (code_set_new_1 (.ref l) (E := E) (Q₁ := fun v z => ∃ led : Bool, v = .ref s.heap.objs.size ∧ z = { s with heap := s.heap.push (bareSet led) }) fun led => ⟨led, rfl, rfl⟩) fun r z hr => ?_
    match r, hr with
    | .error e, hr => exact hr
    | .ok .next, hr => exact hr.elim
    | .ok .brk, hr => exact hr.elim
    | .ok .cont, hr => exact hr.elim
    | .ok (.ret v), ⟨led, e1, e2⟩ =>
      subst e1 e2
      have mine : (s.heap.push (bareSet led)).get? s.heap.objs.size = some (bareSet led) := Heap.get?_push_size _ rfl
      have kind : Shared.TypeIs { s with heap := s.heap.push (bareSet led) } (.ref s.heap.objs.size) "set" := ⟨_, mine, rfl⟩
      have f6 := F.called_set.init.lookup; have f7 := F.called_set.init.bind (.ref s.heap.objs.size)
      repeat (any_goals (first | assumption | wp_step))
      refine codeAny_mono (codeAny_call_builtin (R := wants (fun r z => r = .none ∧ ∃ h' tk, z = { s with heap := h', toks := tk } ∧
        h'.SetOf (PySem.strKind prog w) s.heap.objs.size (fun z => (xs.take xs.length).any (· == z)) xs.length ∧ ∀ b o, s.heap.get? b = some o → h'.get? b = some o) E) F.called_set.init.plain F.entry_set_init (check_set_init_1 kind ?_)) fun r2 z2 hr2 => ?_
      · obtain ⟨⟨ocls, odict, odata, oslots⟩, ho, hc, nl, hd⟩ := at_
        simp only at hc hd; subst hc hd
        have ho2 : (s.heap.push (bareSet led)).get? l = some { cls := .type "list", dict := odict, data := .seq its nl, slots := oslots } := Heap.get?_push_of_some _ ho
        have g1 := F.sub_list_set; have g2 := F.sub_list_frozenset; have g3 : (Value.type "list" == Value.type "dict") = false := by decide
        have ml : (s.heap.push (bareSet led)).IsList l its := ⟨_, ho2, rfl, nl, rfl⟩
        unfold Builtin.«set.__init__» noKeywords Builtin.Frozenset.updateFrom
        generalize hI : pyIter = It
        wp_walk
        subst hI
        have lo : l < s.heap.objs.size := Heap.lt_size ho
        have far : l ≠ (s.heap.push (bareSet led)).objs.size := by rw [Heap.size_push]; exact Nat.ne_of_lt (Nat.lt_succ_of_lt lo)
        refine wpAny_pyIter_list ml (wpAny_bind (wpAny_runValue (turns_text ((Walks.list (by simp [calm]) _ l far its).toS) s.heap.objs.size (by
            rw [Heap.size_push]; simp only [List.mem_cons, List.not_mem_nil, or_false, not_or]
            exact ⟨Nat.ne_of_lt (Nat.lt_succ_self _), Nat.ne_of_gt lo⟩) xs size.symm nd (by omega) (fun i v hv => SS.strs_at are i v (by rw [Array.getElem?_toList]; exact hv)) (its.size - 0) 0 _ (by omega) (Nat.zero_le _)
          ⟨⟨_, Heap.get?_push_size _ rfl, rfl, rfl⟩, (ml.push _)⟩ ?zer ?fin1)))
        case zer =>
          have e0 : ((s.heap.push (bareSet led)).push { cls := .type "list_iterator", data := .fields #[.ref l, .int 0 0] }).get? s.heap.objs.size = some (bareSet led) := Heap.get?_push_of_some _ mine
          exact SetOf_congr ((setObjOf_fresh (knd := PySem.strKind prog w) led).setOf e0 (by unfold scanBound; omega)) (fun _ => rfl) rfl
        case fin1 =>
          rintro ⟨h', g', d', tk', os'⟩ hm hS
          obtain rfl : g' = s.gens := hm.gens
          obtain rfl : d' = s.drawn := hm.drawn
          obtain rfl : os' = s.os := hm.os
          show wpAny _ _ _ _ _ _
          refine wpAny_pure (by
            show wpAny _ _ (ret Value.none) _ _ _
            rw [size] at hS
            refine wpAny_pure ⟨rfl, h', tk', rfl, hS, fun b o e => hm.heap b o ?_ (Heap.get?_push_of_some _ (Heap.get?_push_of_some _ e))⟩
            have lb := Heap.lt_size e
            rw [Heap.size_push]; simp only [List.mem_cons, List.not_mem_nil, or_false, not_or]
            exact ⟨Nat.ne_of_lt lb, Nat.ne_of_lt (Nat.lt_succ_of_lt lb)⟩)
      · match r2, hr2 with
        | .error e, h => exact h
        | .ok .next, h => exact h.elim
        | .ok .brk, h => exact h.elim
        | .ok .cont, h => exact h.elim
        | .ok (.ret v), ⟨e1, h', tk, e2, hS, hk⟩ =>
          subst e1 e2
          repeat (any_goals (first | assumption | wp_step))
          exact k _ _ hS hk))
end
end Hb
namespace Hb
open PySem PySem.Spec PyProof.Rows L2
/-- len(set(xs)), xs a list of unlike texts, or of unlike ints -/
def tLenSet2 (K : PySem.W.Frag) (ta : TE) : TE := fun σ H Q => ta σ H fun x H1 => ∃ l : Addr, x = .ref l ∧
  ((∃ xs : List Str, SqL K H1 l (xs.map V.str) ∧ xs.Nodup ∧ xs.length ≤ 4000 ∧ Q (.int xs.length) H1) ∨ ∃ ns : List Int, SqL K H1 l (ns.map V.int) ∧ ns.Nodup ∧ ns.length ≤ 4000 ∧ Q (.int ns.length) H1)
theorem pe_lenSet2 {X : Cx} {a : Expr} {ta : TE} {p p2 q pos : Pos} (hg : Gl X "len") (hm : X.mg "len" = none) (hg2 : Gl X "set") (hm2 : X.mg "set" = none) (ha : PE X a ta) (calm : X.calm = true := by rfl)
    (na : starEach [a] X.env = (false, eval a X.env) :: starEach [] X.env := by rfl) : PE X (.Call (.Name "len" p) [.Call (.Name "set" p2) [a] [] q] [] pos) (tLenSet2 X.K ta) := by
  refine ⟨fun pins s σ H Q I h => Call_ (ld_blt I hg hm boot_len (callWith_builtin1 (args_cons (Call_ (ld_blt I hg2 hm2 boot_set
    (callWith_type1 (args_cons (thn (ha.run pins s σ H _ I h) fun v z ⟨x, H1, J, r, q⟩ => args_nil ?_) na) na rfl))) rfl) rfl rfl))⟩
  obtain ⟨l, rfl, q⟩ := q
  cases r
  have fin : ∀ (n : Nat) (h' : Heap) (tk : Nat) (κ : Type) (i1 : DecidableEq κ) (i2 : BEq κ) (i3 : LawfulBEq κ) (kd : KeyKind X.prog X.w κ) (S : κ → Bool), n ≤ 4000 → h'.SetOf kd z.heap.objs.size S n → (∀ b o, z.heap.get? b = some o → h'.get? b = some o) → Q (.int n) H1 →
      wpAny (model X.prog X.w) X.A (spliced (backTo pos (starEach [] X.env))) (fun vs y => wpAny (model X.prog X.w) X.A (call (.builtin "len") (Value.ref z.heap.objs.size :: vs)) (EP X pins σ Q) X.xe y) X.xe { z with heap := h', toks := tk } := by
    intro n h' tk κ i1 i2 i3 kd S hn hS hk q
    refine args_nil ?_
    obtain ⟨o, es, ep, t, ho, hex, hd, _, _, _, hf, e⟩ := hS
    have J2 : Inv X pins σ H1 { z with heap := h', toks := tk } := J.kept hk
    exact call_len_set ho hex hd hf (by rw [e] <;> omega) ⟨.int n, H1, J2.tok _, ⟨_, by rw [e]⟩, q⟩
  rcases q with ⟨xs, hq, nd, few, q⟩ | ⟨ns, hq, nd, few, q⟩
  · obtain ⟨its, r, pl, hz⟩ := J.list hq
    exact set_texts (J.ok.hd calm) pl.isList (by simpa using strsAre_of r) nd (by unfold scanBound; omega) fun h' tk hS hk => fin _ h' tk _ inferInstance inferInstance inferInstance _ _ few hS hk q
  · obtain ⟨its, r, pl, hz⟩ := J.list hq
    have size : its.toArray.size = ns.length := by rw [List.size_toArray, ← r.length, List.length_map]
    refine call_set_list (J.ok.hd calm) pl.isList (by simpa using RZ.intsAre_vals r) (by rw [size]; unfold scanBound; omega) fun h' tk hS hk => ?_
    rw [size, RZ.firstMet_nodup nd ns.length (Nat.le_refl _)] at hS
    rw [List.take_length] at hS
    exact fin _ h' tk _ inferInstance inferInstance inferInstance _ _ few hS (fun b o e => hk b o (Heap.lt_size e) e) q
end Hb
set_option Elab.async false
set_option linter.all false
set_option maxRecDepth 100000
set_option maxHeartbeats 8000000
namespace Hb
open PySem PySem.Spec PyProof.Rows L2
section
variable {prog : Program} {w : World} {A : Around} {E : Value → Shared → Prop} {s : Shared}
/-- what it holds, taken into a list that nobody keeps: the heap behind it, exactly -/
theorem taken {Q : List Value → Shared → Prop} (it : Addr) {T : String} {o : Obj} {vs : List Value} {n : Nat} (hT : T = "list" ∨ T = "tuple") (ho : s.heap.get? it = some o) (hc : o.cls = .type T) (hd : o.data = .seq vs.toArray n) (hL : vs.length ≤ sizeLine)
    (k : Q vs { s with heap := (s.heap.push (seqObj "list" #[] 0)).update s.heap.objs.size (Obj.mapSeq (· ++ vs.toArray)) }) : wpAny (model prog w) A (collect (.ref it)) Q E s := by
  have e1 : (s.heap.push (seqObj "list" #[] 0)).get? s.heap.objs.size = some { cls := .type "list", data := .seq #[] 0 } := Heap.get?_push_size _ rfl
  have e2 := Heap.get?_update_self (Obj.mapSeq (· ++ vs.toArray)) e1 rfl
  have last : wpAny (model prog w) A (match Value.ref s.heap.objs.size with
      | Value.ref a => (do match (← load a).data with
          | Data.seq xs _ => pure xs.toList
          | _ => unsupported "internal:collect")
      | _ => unsupported "internal:collect") Q E { s with heap := (s.heap.push (seqObj "list" #[] 0)).update s.heap.objs.size (Obj.mapSeq (· ++ vs.toArray)) } := by
    show wpAny _ A (load s.heap.objs.size >>= _) _ _ _
    refine wpAny_bind (wpAny_load e2 (wpAny_pure ?_)); show Q ((#[] : Array Value) ++ vs.toArray).toList _
    rw [show ((#[] : Array Value) ++ vs.toArray).toList = vs by simp]; exact k
  unfold collect
  refine wpAny_bind (wpAny_runValue (codeAny_builtin F.entry_proto_collect (by
    rw [Around.under_plainId F.plain_proto_collect _]; show wpAny _ A.in1 (newList [] >>= fun l => again (.builtin "list.__iadd__" ⟨[l, .ref it], []⟩)) _ _ s
    refine wpAny_bind (wpAny_newObj_type (wpAny_pure ⟨plainId_quiet F.plain_list_iadd _, codeAny_builtin F.entry_list_iadd (by
      rw [Around.under_plainId F.plain_list_iadd _]; show wpAny _ A.in1 (Builtin.List.listExtendWith (.ref s.heap.objs.size) (.ref it) (.ref s.heap.objs.size)) _ _ _
      refine wpAny_mono (wpAny_extend_seq (hsz := by rw [List.size_toArray]; exact hL) (A := A) (R := fun r z => r = .ok (.ret (.ref s.heap.objs.size)) ∧ z = { s with heap := (s.heap.push (seqObj "list" #[] 0)).update s.heap.objs.size (Obj.mapSeq (· ++ vs.toArray)) })
        (s := { s with heap := s.heap.push (seqObj "list" #[] 0) }) _ it _ 0 hT e1 (Heap.get?_push_of_some _ ho) hc hd ⟨rfl, rfl⟩) (fun f z h => ?_) (fun e z h => absurd h.1 (by simp))
      cases f with
      | done f => obtain ⟨e, rfl⟩ := h; cases e; exact last
      | again c => exact ⟨h.1, codeAny_mono h.2 fun r z2 hr => by obtain ⟨rfl, rfl⟩ := hr; exact last⟩)⟩)))))
/-- sorted(it) of a list or a tuple whose items read as data -/
theorem sorted_any {β : Type} {it : Addr} {T : String} {o : Obj} {vs : List Value} {n : Nat} {bs : List β} {enc : β → PyData} {R : Value → β → Prop} {Q : Value → Shared → Prop} (hT : T = "list" ∨ T = "tuple")
    (ho : s.heap.get? it = some o) (hc : o.cls = .type T) (hd : o.data = .seq vs.toArray n) (e : PySem.W.EachIs R vs bs) (er : PySem.W.EachIs (fun v b => ∃ as, Reads s.heap v (enc b) as) vs bs)
    (hal : PySem.W.AllAlike (bs.map enc)) (hk : PySem.W.Sortable (bs.map enc)) (hL : bs.length ≤ sizeLine) (hu : ∀ b, b ∈ bs → A.units + 2 + (enc b).depth < cLine)
    (k : ∀ (h' : Heap) (p : Addr) (out : List Value) (c : Nat), s.heap.objs.size ≤ p → (∀ b u, s.heap.get? b = some u → h'.get? b = some u) → h'.get? p = some (seqObj "list" out.toArray c) →
      PySem.W.EachIs R out (bs.mergeSort (PySem.W.dataLe false enc)) → Q (.ref p) { s with heap := h' }) :
    wpAny (model prog w) A (call (.builtin "sorted") [.ref it]) Q E s := by
  have len : vs.length = bs.length := e.length
  refine Calls.call_function_entry kind_sorted plain_sorted entry_sorted (args_sorted1 _) (by
    unfold Builtin.«sorted»
    refine wpAny_bind (m := checkCount "sorted" 1 1 _) (wpAny_pure (wpAny_bind (taken it hT ho hc hd (by rw [len]; exact hL) (wpAny_bind (wpAny_newList ?_ (by rw [len]; exact hL))))))
    have h1s : ((s.heap.push (seqObj "list" #[] 0)).update s.heap.objs.size (Obj.mapSeq (· ++ vs.toArray))).objs.size = s.heap.objs.size + 1 := by rw [Heap.size_update, size_push']
    have k1 : ∀ b u, s.heap.get? b = some u → ((s.heap.push (seqObj "list" #[] 0)).update s.heap.objs.size (Obj.mapSeq (· ++ vs.toArray))).get? b = some u := fun b u q =>
      (Heap.get?_update_other _ _ (Nat.ne_of_gt (Heap.lt_size q))).trans (Heap.get?_push_of_some _ q)
    show wpAny _ _ _ _ _ { s with heap := ((s.heap.push (seqObj "list" #[] 0)).update s.heap.objs.size (Obj.mapSeq (· ++ vs.toArray))).push (seqObj "list" vs.toArray 0) }
    generalize ((s.heap.push (seqObj "list" #[] 0)).update s.heap.objs.size (Obj.mapSeq (· ++ vs.toArray))) = h1 at h1s k1 ⊢
    have le1 : s.heap.objs.size ≤ h1.objs.size := by omega
    have at2 : (h1.push (seqObj "list" vs.toArray 0)).get? h1.objs.size = some (seqObj "list" vs.toArray 0) := Heap.get?_push_size _ rfl
    have k2 : ∀ b u, s.heap.get? b = some u → (PySem.W.sortingHeap (h1.push (seqObj "list" vs.toArray 0)) h1.objs.size vs).get? b = some u := fun b u q =>
      PySem.W.sortingHeap_old (Nat.ne_of_lt (Heap.lt_size (k1 b u q))) (Heap.get?_push_of_some _ (k1 b u q))
    have er2 : PySem.W.EachIs (fun v b => ∃ as, Reads (PySem.W.sortingHeap (h1.push (seqObj "list" vs.toArray 0)) h1.objs.size vs) v (enc b) as) vs bs := er.mono fun _ _ ⟨as, r⟩ => ⟨as, PyProof.Rows.Reads.keeps k2 r⟩
    obtain ⟨c, e2⟩ := sortedHeap_at (vs := vs) (out := (PySem.W.sortVals (PySem.W.dataKind (PySem.W.sortingHeap (h1.push (seqObj "list" vs.toArray 0)) h1.objs.size vs) (bs.map enc)) false vs vs).toArray) at2
    have k3 : ∀ b u, s.heap.get? b = some u → (sortedHeap (h1.push (seqObj "list" vs.toArray 0)) h1.objs.size vs (PySem.W.sortVals (PySem.W.dataKind (PySem.W.sortingHeap (h1.push (seqObj "list" vs.toArray 0)) h1.objs.size vs) (bs.map enc)) false vs vs).toArray).get? b = some u := fun b u q => by
      have q1 := k1 b u q
      have lt := Heap.lt_size q1
      rw [sortedHeap_old (Nat.ne_of_lt lt) (by rw [size_push']; exact Nat.lt_succ_of_lt lt)]
      exact Heap.get?_push_of_some _ q1
    refine wpAny_bind (wpAny_holding (wpAny_call_entry slot_list_sort ⟨_, at2, rfl⟩ entry_list_sort (PySem.W.list_sort_vals (s := { s with heap := h1.push (seqObj "list" vs.toArray 0) }) at2
      (PySem.W.SortsAt.data (s := { s with heap := PySem.W.sortingHeap (h1.push (seqObj "list" vs.toArray 0)) h1.objs.size vs }) (PySem.W.each_map (R := fun v d => ∃ as, Reads (PySem.W.sortingHeap (h1.push (seqObj "list" vs.toArray 0)) h1.objs.size vs) v d as) enc er2) hal hk (PySem.W.bound_map hu)) (by rw [len]; exact hL) ?_) (args_list_sort _)))
    refine ⟨_, rfl, wpAny_pure ⟨_, rfl, k _ h1.objs.size _ c le1 k3 e2 (PySem.W.sortVals_data false e er2 hal)⟩⟩)
end
end Hb
set_option Elab.async false
set_option linter.all false
set_option maxRecDepth 100000
set_option maxHeartbeats 8000000
namespace Hb
open PySem PySem.Spec PyProof.Rows L2
section
variable {X : Cx} {β : Type}
theorem each_of {R : Value → V × β → Prop} : ∀ {zs : List (V × β)} {us : List Value}, Vals (zs.map (·.1)) us → (∀ u z, z ∈ zs → RelV z.1 u → R u z) → PySem.W.EachIs R us zs
  | [], _, r, _ => by cases r; exact .nil
  | z :: zs, _, r, h => by
    cases r with
    | cons r1 r2 => exact .cons (h _ _ List.mem_cons_self r1) (each_of r2 fun u y m q => h u y (List.mem_cons_of_mem _ m) q)
theorem each_back : ∀ {us : List Value} {zs : List (V × β)}, PySem.W.EachIs (fun u (z : V × β) => RelV z.1 u) us zs → Vals (zs.map (·.1)) us
  | _, _, .nil => .nil
  | _, _, .cons h t => .cons h (each_back t)
/-- sorted(it), it a list or a tuple of data of one kind -/
def rSortedAny (K : PySem.W.Frag) (enc : β → PyData) : List V → Hp → VK → Prop := fun vs H Q => ∃ (a : Addr) (zs : List (V × β)), vs = [.ref a] ∧ (SqL K H a (zs.map (·.1)) ∨ SqT K H a (zs.map (·.1))) ∧
  (∀ z ∈ zs, Dp K H z.1 (enc z.2)) ∧ PySem.W.AllAlike (zs.map fun z => enc z.2) ∧ PySem.W.Sortable (zs.map fun z => enc z.2) ∧ (∀ z ∈ zs, (enc z.2).depth ≤ 60) ∧
  ∀ p, H p = none → Q (.ref p) (upd H p (.lst ((zs.mergeSort (PySem.W.dataLe false fun z => enc z.2)).map (·.1))))
theorem cr_sortedAny (enc : β → PyData) (hu : X.A.units + 64 < cLine) : CallR X (.builtin "sorted") (rSortedAny X.K enc) := by
  intro pins s σ H vs us Q I r h
  obtain ⟨a, zs, rfl, hq, hd, hal, hk, hz, q⟩ := h
  rw [Vals.ref1 r]
  have main : ∀ (T : String) (o : Obj) (its : List Value) (n : Nat), (T = "list" ∨ T = "tuple") → s.heap.get? a = some o → o.cls = .type T → o.data = .seq its.toArray n → Vals (zs.map (·.1)) its → (zs.map (·.1)).length ≤ sizeLine →
      wpAny (model X.prog X.w) X.A (call (.builtin "sorted") [.ref a]) (EP X pins σ Q) X.xe s := by
    intro T o its n hT ho hc hdt rv hL
    rw [List.length_map] at hL
    refine sorted_any (R := fun u (z : V × β) => RelV z.1 u) (enc := fun z => enc z.2) hT ho hc hdt (each_of rv fun u z _ q => q) (each_of rv fun u z m q => Dp.reads I _ _ _ (hd z m) q) hal hk hL (fun z m => by have := hz z m; omega) fun h' p out c hp kp at_ eo => ?_
    have lenO : (zs.mergeSort (PySem.W.dataLe false fun z => enc z.2)).length = zs.length := (List.mergeSort_perm _ _).length_eq
    exact ⟨.ref p, _, I.laid (t' := s.toks) kp hp (show ObjOk X.prog X.w _ h' p (.lst _) from ⟨by rw [List.length_map, lenO]; exact hL, out, c, each_back eo, at_⟩), rfl, q p (I.hok.fresh hp)⟩
  rcases hq with hq | hq
  · obtain ⟨its, rv, ⟨o, n, ho, hc, _, hdt⟩, hL⟩ := I.list hq
    exact main _ o its n (.inl rfl) ho hc hdt rv hL
  · obtain ⟨its, rv, ⟨o, ho, hc, n, hdt⟩, hL⟩ := I.tuple hq
    exact main _ o its n (.inr rfl) ho hc hdt rv hL
end
/-! ### pairs of texts -/
def encP (p : Str × Str) : PyData := .tuple [.str p.1, .str p.2]
theorem alike_P (p q : Str × Str) : PySem.W.alike (encP p) (encP q) = true := by simp [encP, PySem.W.alike, PySem.W.alikeAll]
theorem depth_P (p : Str × Str) : (encP p).depth ≤ 60 := by simp [encP, PyData.depth, PyData.depthAll]
end Hb
set_option Elab.async false
set_option linter.all false
set_option maxRecDepth 100000
set_option maxHeartbeats 4000000
namespace Hb
open PySem PySem.Spec PyProof.Rows L2
/-! ### what stays -/
/-- tuples, and what is locked, stay -/
structure TK (H H' : Hp) : Prop where
  t : ∀ b xs, H b = some (.tup xs) → H' b = some (.tup xs)
  z : ∀ b o u, H b = some (.frz o u) → H' b = some (.frz o u)
theorem TK.refl (H : Hp) : TK H H := ⟨fun _ _ h => h, fun _ _ _ h => h⟩
theorem TK.trans {H H1 H2 : Hp} (a : TK H H1) (b : TK H1 H2) : TK H H2 := ⟨fun c xs h => b.t c xs (a.t c xs h), fun c o u h => b.z c o u (a.z c o u h)⟩
theorem Same.tk {H H' : Hp} (s : Same H H') : TK H H' := ⟨fun b xs h => s b _ h, fun b o u h => s b _ h⟩
theorem Same.new {H : Hp} {p : Addr} {o : HO} (h : H p = none) : Same H (upd H p o) := fun b u e => by
  rw [upd_ne (ne_of_none e h)]
  exact e
theorem TK.put {H : Hp} {p : Addr} {o o' : HO} (h : H p = some o') (h1 : ∀ xs, o' ≠ .tup xs) (h2 : ∀ q u, o' ≠ .frz q u) : TK H (upd H p o) := by
  refine ⟨fun b xs e => ?_, fun b q u e => ?_⟩
  · rw [upd_ne (fun z => by rw [z, h] at e; exact h1 xs (Option.some.inj e))]
    exact e
  · rw [upd_ne (fun z => by rw [z, h] at e; exact h2 q u (Option.some.inj e))]
    exact e
section
variable {K : PySem.W.Frag} {H H' : Hp}
theorem SqT.keep (k : TK H H') {a : Addr} {xs : List V} (h : SqT K H a xs) : SqT K H' a xs := by
  rcases h with (h | ⟨o, h⟩) | h
  · exact .inl (.inl (k.t _ _ h))
  · exact .inl (.inr ⟨o, k.z _ _ _ h⟩)
  · exact .inr h
theorem SqL.keep (k : TK H H') {a : Addr} {xs : List V} (h : SqL K H a xs) (hl : H a = some (.lst xs) → H' a = some (.lst xs)) : SqL K H' a xs := by
  rcases h with (h | ⟨o, h⟩) | h
  · exact .inl (.inl (hl h))
  · exact .inl (.inr ⟨o, k.z _ _ _ h⟩)
  · exact .inr h
end
/-! ### data of tuples alone -/
mutual
inductive TD (K : PySem.W.Frag) (H : Hp) : V → PyData → Prop
  | non : TD K H .non .none
  | bl (b : Bool) : TD K H (.bl b) (.bool b)
  | int (i : Int) : TD K H (.int i) (.int i)
  | str (x : Str) : TD K H (.str x) (.str x)
  | tup {a : Addr} {xs : List V} {ds : List PyData} : SqT K H a xs → TDs K H xs ds → TD K H (.ref a) (.tuple ds)
inductive TDs (K : PySem.W.Frag) (H : Hp) : List V → List PyData → Prop
  | nil : TDs K H [] []
  | cons {v : V} {vs : List V} {d : PyData} {ds : List PyData} : TD K H v d → TDs K H vs ds → TDs K H (v :: vs) (d :: ds)
end
section
variable {K : PySem.W.Frag} {H H' : Hp}
mutual
theorem TD.keep (k : TK H H') : ∀ {v : V} {d : PyData}, TD K H v d → TD K H' v d
  | _, _, .non => .non
  | _, _, .bl b => .bl b
  | _, _, .int i => .int i
  | _, _, .str x => .str x
  | _, _, .tup h hs => .tup (SqT.keep k h) (TDs.keep k hs)
theorem TDs.keep (k : TK H H') : ∀ {vs : List V} {ds : List PyData}, TDs K H vs ds → TDs K H' vs ds
  | _, _, .nil => .nil
  | _, _, .cons h hs => .cons (TD.keep k h) (TDs.keep k hs)
end
mutual
theorem TD.dp : ∀ {v : V} {d : PyData}, TD K H v d → Dp K H v d
  | _, _, .non => .non
  | _, _, .bl b => .bl b
  | _, _, .int i => .int i
  | _, _, .str x => .str x
  | _, _, .tup h hs => .tup h (TDs.dp hs)
theorem TDs.dp : ∀ {vs : List V} {ds : List PyData}, TDs K H vs ds → DpAll K H vs ds
  | _, _, .nil => .nil
  | _, _, .cons h hs => .cons (TD.dp h) (TDs.dp hs)
end
theorem TDs.length : ∀ {vs : List V} {ds : List PyData}, TDs K H vs ds → vs.length = ds.length
  | _, _, .nil => rfl
  | _, _, .cons h hs => congrArg Nat.succ (TDs.length hs)
theorem TDs.app : ∀ {vs ws : List V} {ds es : List PyData}, TDs K H vs ds → TDs K H ws es → TDs K H (vs ++ ws) (ds ++ es)
  | _, _, _, _, .nil, h => h
  | _, _, _, _, .cons h hs, h2 => .cons h (TDs.app hs h2)
theorem TDs.at : ∀ {vs : List V} {ds : List PyData} {i : Nat} {v : V}, TDs K H vs ds → vs[i]? = some v → ∃ d, ds[i]? = some d ∧ TD K H v d
  | _, _, _, _, .nil, e => by simp at e
  | _, _, 0, _, .cons h hs, e => by simp at e; subst e; exact ⟨_, rfl, h⟩
  | _, _, i + 1, _, .cons h hs, e => by
    obtain ⟨d, h1, h2⟩ := TDs.at hs (i := i) (by simpa using e)
    exact ⟨d, by simpa using h1, h2⟩
theorem tds_strs : ∀ xs : List Str, TDs K H (xs.map V.str) (xs.map PyData.str)
  | [] => .nil
  | x :: xs => .cons (.str x) (tds_strs xs)
theorem tds_ints : ∀ xs : List Int, TDs K H (xs.map V.int) (xs.map PyData.int)
  | [] => .nil
  | x :: xs => .cons (.int x) (tds_ints xs)
end
/-! ### a deal: the dict at d, its list at g -/
def dealKV (g : Addr) (now mixed turn : Int) : List (Key × V) := [(.inr "great", .ref g), (.inr "now", .int now), (.inr "mixed", .int mixed), (.inr "turn", .int turn)]
theorem deal_great (g : Addr) (now mixed turn : Int) : valV (dealKV g now mixed turn) (Sum.inr "great") = some (.ref g) := rfl
theorem deal_now (g : Addr) (now mixed turn : Int) : valV (dealKV g now mixed turn) (Sum.inr "now") = some (.int now) := rfl
theorem deal_mixed (g : Addr) (now mixed turn : Int) : valV (dealKV g now mixed turn) (Sum.inr "mixed") = some (.int mixed) := rfl
theorem deal_turn (g : Addr) (now mixed turn : Int) : valV (dealKV g now mixed turn) (Sum.inr "turn") = some (.int turn) := rfl
theorem put_now (g : Addr) (now mixed turn z : Int) : putK (dealKV g now mixed turn) (Sum.inr "now") (.int z) = dealKV g z mixed turn := rfl
theorem put_mixed (g : Addr) (now mixed turn z : Int) : putK (dealKV g now mixed turn) (Sum.inr "mixed") (.int z) = dealKV g now z turn := rfl
theorem put_turn (g : Addr) (now mixed turn z : Int) : putK (dealKV g now mixed turn) (Sum.inr "turn") (.int z) = dealKV g now mixed z := rfl
structure Dl (d g : Addr) (H : Hp) (ns : List Int) (now mixed turn : Int) : Prop where
  d : H d = some (.dK (dealKV g now mixed turn))
  g : H g = some (.lst (ns.map V.int))
  few : ns.length ≤ 63
  pos : ∀ n ∈ ns, 0 ≤ n
  now : 0 ≤ now
def Deal (d g : Addr) (H : Hp) : Prop := ∃ ns now mixed turn, Dl d g H ns now mixed turn
theorem Dl.ne {d g : Addr} {H : Hp} {ns : List Int} {now mixed turn : Int} (x : Dl d g H ns now mixed turn) : d ≠ g := ne_of x.d x.g (by intro e; cases e)
/-- all but the deal stays -/
def Kp (d g : Addr) (H H' : Hp) : Prop := ∀ b o, b ≠ d → b ≠ g → H b = some o → H' b = some o
theorem Kp.refl (d g : Addr) (H : Hp) : Kp d g H H := fun _ _ _ _ h => h
theorem Kp.trans {d g : Addr} {H H1 H2 : Hp} (a : Kp d g H H1) (b : Kp d g H1 H2) : Kp d g H H2 := fun c o n m h => b c o n m (a c o n m h)
theorem Same.kp {d g : Addr} {H H' : Hp} (s : Same H H') : Kp d g H H' := fun b o _ _ h => s b o h
theorem Kp.put_d {d g : Addr} {H : Hp} {o : HO} : Kp d g H (upd H d o) := fun b u n _ h => by rw [upd_ne n]; exact h
theorem Kp.put_g {d g : Addr} {H : Hp} {o : HO} : Kp d g H (upd H g o) := fun b u _ n h => by rw [upd_ne n]; exact h
theorem Deal.tk {d g : Addr} {H H' : Hp} (x : Deal d g H) (k : Kp d g H H') : TK H H' := by
  obtain ⟨ns, now, mixed, turn, x⟩ := x
  exact ⟨fun b xs e => k b _ (ne_of e x.d (by intro q; cases q)) (ne_of e x.g (by intro q; cases q)) e, fun b o u e => k b _ (ne_of e x.d (by intro q; cases q)) (ne_of e x.g (by intro q; cases q)) e⟩
/-- a deal stands behind what leaves all as it is -/
theorem Deal.same {d g : Addr} {H H' : Hp} (x : Deal d g H) (s : Same H H') : Deal d g H' := by
  obtain ⟨ns, now, mixed, turn, x⟩ := x
  exact ⟨ns, now, mixed, turn, s _ _ x.d, s _ _ x.g, x.few, x.pos, x.now⟩
theorem Deal.set {d g p : Addr} {H : Hp} {o : HO} (x : Deal d g H) (n : p ≠ d) (m : p ≠ g) : Deal d g (L2.upd H p o) := by
  obtain ⟨ns, now, mixed, turn, x⟩ := x
  exact ⟨ns, now, mixed, turn, by rw [upd_ne n.symm]; exact x.d, by rw [upd_ne m.symm]; exact x.g, x.few, x.pos, x.now⟩
theorem Deal.new {d g p : Addr} {H : Hp} {o : HO} (x : Deal d g H) (h : H p = none) : Deal d g (L2.upd H p o) := x.same (Same.new h)
theorem Deal.ne_d {d g p : Addr} {H : Hp} {o : HO} (x : Deal d g H) (h : H p = some o) (hk : ∀ kvs, o ≠ .dK kvs) : p ≠ d := by
  obtain ⟨ns, now, mixed, turn, x⟩ := x
  exact ne_of h x.d (hk _)
theorem Deal.ne_g {d g p : Addr} {H : Hp} {o : HO} (x : Deal d g H) (h : H p = some o) (hk : ∀ xs, o ≠ .lst xs) : p ≠ g := by
  obtain ⟨ns, now, mixed, turn, x⟩ := x
  exact ne_of h x.g (hk _)
theorem Deal.free {d g p : Addr} {H : Hp} (x : Deal d g H) (h : H p = none) : p ≠ d ∧ p ≠ g := by
  obtain ⟨ns, now, mixed, turn, x⟩ := x
  exact ⟨(ne_of_none x.d h).symm, (ne_of_none x.g h).symm⟩
/-- what is not there now was not there ahead -/
theorem Kp.free {d g : Addr} {H H' : Hp} (k : Kp d g H H') (x : Deal d g H') {b : Addr} (h : H' b = none) : H b = none := by
  obtain ⟨n, m⟩ := x.free h
  cases e : H b with
  | none => rfl
  | some o =>
    rw [k b o n m e] at h
    cases h
end Hb
set_option Elab.async false
set_option linter.all false
set_option maxRecDepth 100000
set_option maxHeartbeats 4000000
namespace Hb
open PySem PySem.Spec PyProof.Rows L2
section
variable {P : Program} {w : World} {K : PySem.W.Frag} {mg : Str → Option Value} {base : Heap}
/-- a def of the module without defaults, under its name -/
def Df (K : PySem.W.Frag) (mg : Str → Option Value) (x : Str) (st : Stmt) : Prop := ∃ fd, FunD K x x (defArgs st) (defBody st) (defScope st) [] [] (He.ga K x) fd ∧ mg x = some (.ref (He.ga K x))
theorem fn_mk {x : Str} {st : Stmt} {f : Addr} {fd : FuncData} {N ps : List Str} {k : Nat} {sp : Sp} (F : FunD K x x (defArgs st) (defBody st) (defScope st) [] [] f fd) (S : FnScope N ps (defScope st))
    (len : ∀ vs H Q E, sp vs H Q E → vs.length = ps.length)
    (hbody : ∀ (f : Addr) (cdv : Value) (A : Around) (outer : List Env) (s : Shared) (H : Hp) (vs : List V) (Q : VK) (E : XK), Room k (A.deeper (envOfC x (defScope st) s.heap.objs.size f cdv)) → sp vs H Q E →
      ∃ t, PSs (cxOf CX0 P w K mg base N x (defScope st) f cdv A outer s H E).nox (defBody st) t ∧ t { nx := fun _ H' => Q .non H', rt := Q } (start N vs) H) : FnOk P w K mg base CX0 (k + 1) f fd ps sp :=
  F.ok S len fun cdv A outer s H vs Q E hr h => by
    obtain ⟨t, h1, h2⟩ := hbody _ cdv A outer s H vs Q E hr h
    exact ⟨t, h1.nox, h2⟩
theorem cal_mk {x : Str} {st : Stmt} {N ps : List Str} {k : Nat} {sp : Sp} (D : Df K mg x st) (S : FnScope N ps (defScope st))
    (bd : ∀ (kV doc pm : Value) (an : Option Addr) (cdv ct : Value) (us : List Value), us.length = ps.length → bindArgs (PySem.W.fnOf x x (defArgs st) (defBody st) (defScope st) .none kV doc pm an cdv ct) ⟨us, []⟩ = pure (ps.zip us))
    (len : ∀ vs H Q E, sp vs H Q E → vs.length = ps.length)
    (hbody : ∀ (f : Addr) (cdv : Value) (A : Around) (outer : List Env) (s : Shared) (H : Hp) (vs : List V) (Q : VK) (E : XK), Room k (A.deeper (envOfC x (defScope st) s.heap.objs.size f cdv)) → sp vs H Q E →
      ∃ t, PSs (cxOf CX0 P w K mg base N x (defScope st) f cdv A outer s H E).nox (defBody st) t ∧ t { nx := fun _ H' => Q .non H', rt := Q } (start N vs) H) : C8.Cal P w K mg base (k + 1) x sp [] := by
  obtain ⟨fd, F, hm⟩ := D
  exact ⟨⟨_, fd, ps, [], F.ok S len fun cdv A outer s H vs Q E hr h => by
    obtain ⟨t, h1, h2⟩ := hbody _ cdv A outer s H vs Q E hr h
    exact ⟨t, h1.nox, h2⟩, hm, F.kp, F.bindsN bd, .nil⟩⟩
/-- a class with an __init__ of its own -/
def Df1 (K : PySem.W.Frag) (mg : Str → Option Value) (C qual : Str) (st : Stmt) : Prop := Mk K (He.ga K C) (He.ma K (He.ga K C) "__init__") ∧ mg C = some (.ref (He.ga K C)) ∧ ∃ fd, FunD K "__init__" qual (defArgs st) (defBody st) (defScope st) [] [] (He.ma K (He.ga K C) "__init__") fd
theorem mak_mk {C qual : Str} {st : Stmt} {N ps : List Str} {k : Nat} {sp : Sp} (D : Df1 K mg C qual st) (S : FnScope N ps (defScope st))
    (bd : ∀ (kV doc pm : Value) (an : Option Addr) (cdv ct : Value) (us : List Value), us.length = ps.length → bindArgs (PySem.W.fnOf "__init__" qual (defArgs st) (defBody st) (defScope st) .none kV doc pm an cdv ct) ⟨us, []⟩ = pure (ps.zip us))
    (len : ∀ vs H Q E, sp vs H Q E → vs.length = ps.length)
    (hbody : ∀ (f : Addr) (cdv : Value) (A : Around) (outer : List Env) (s : Shared) (H : Hp) (vs : List V) (Q : VK) (E : XK), Room k (A.deeper (envOfC qual (defScope st) s.heap.objs.size f cdv)) → sp vs H Q E →
      ∃ t, PSs (cxOf CX0 P w K mg base N qual (defScope st) f cdv A outer s H E).nox (defBody st) t ∧ t { nx := fun _ H' => Q .non H', rt := Q } (start N vs) H) : C8.Mak P w K mg base (k + 1) C (He.ga K C) sp [] := by
  obtain ⟨M, hm, fd, F⟩ := D
  exact ⟨⟨_, fd, ps, [], M, F.ok S len fun cdv A outer s H vs Q E hr h => by
    obtain ⟨t, h1, h2⟩ := hbody _ cdv A outer s H vs Q E hr h
    exact ⟨t, h1.nox, h2⟩, hm, F.bindsN bd, .nil⟩⟩
end
/-- a word between two statements: the rest is read once -/
theorem cut_seq {t u : TS} {D : Ends} {σ : L2.St} {H : Hp} (R : L2.St → Hp → Prop) (h2 : ∀ σ H, R σ H → u D σ H) (h1 : (∀ σ H, R σ H → u D σ H) → t { D with nx := u D } σ H) : tSeq t u D σ H := h1 h2
end Hb
set_option Elab.async false
set_option linter.all false
set_option maxRecDepth 100000
set_option maxHeartbeats 4000000
namespace Hb
open PySem PySem.Spec PyProof.Rows L2
/-- data that may be compared -/
def Shp (d : PyData) : Prop := d.canLay0 = true ∧ d.depth ≤ 60
theorem Shp.shaped {d : PyData} (h : Shp d) : SeqAt.shaped d = true := Bool.and_eq_true_iff.mpr ⟨h.1, decide_eq_true (by have := h.2; omega)⟩
theorem shps_all : ∀ {ds : List PyData}, (∀ d ∈ ds, Shp d) → PyData.canLayAll0 ds = true ∧ PyData.depthAll ds ≤ 60
  | [], _ => ⟨by simp [PyData.canLayAll0], by simp [PyData.depthAll]⟩
  | d :: ds, h => by
    obtain ⟨h1, h2⟩ := shps_all (ds := ds) fun e he => h e (List.mem_cons_of_mem _ he)
    obtain ⟨h3, h4⟩ := h d List.mem_cons_self
    exact ⟨by simp [PyData.canLayAll0, h1, h3], by simp only [PyData.depthAll]; omega⟩
theorem shaped_list {ds : List PyData} (h : ∀ d ∈ ds, Shp d) : SeqAt.shaped (.list ds) = true := by
  obtain ⟨h1, h2⟩ := shps_all h
  exact Bool.and_eq_true_iff.mpr ⟨by simp only [PyData.canLay0]; exact h1, decide_eq_true (by simp only [PyData.depth]; omega)⟩
theorem shaped_tup {ds : List PyData} (h : ∀ d ∈ ds, Shp d) : SeqAt.shaped (.tuple ds) = true := by
  obtain ⟨h1, h2⟩ := shps_all h
  exact Bool.and_eq_true_iff.mpr ⟨by simp only [PyData.canLay0]; exact h1, decide_eq_true (by simp only [PyData.depth]; omega)⟩
/-- flat things, and tuples of such -/
theorem shp_tup {ds : List PyData} (h : ∀ d ∈ ds, d.canLay0 = true ∧ d.depth ≤ 50) : Shp (.tuple ds) := by
  have g : PyData.canLayAll0 ds = true ∧ PyData.depthAll ds ≤ 50 := by
    induction ds with
    | nil => exact ⟨by simp [PyData.canLayAll0], by simp [PyData.depthAll]⟩
    | cons d ds ih =>
      obtain ⟨h1, h2⟩ := ih fun e he => h e (List.mem_cons_of_mem _ he)
      obtain ⟨h3, h4⟩ := h d List.mem_cons_self
      exact ⟨by simp [PyData.canLayAll0, h1, h3], by simp only [PyData.depthAll]; omega⟩
  exact ⟨by simp only [PyData.canLay0]; exact g.1, by simp only [PyData.depth]; have := g.2; omega⟩
theorem eqv_nil (ds : List PyData) : PyData.eqv (.list ds) (.list []) = ds.isEmpty := by
  cases ds <;> simp [PyData.eqv, PyData.eqvAll]
/-- data of tuples, small enough -/
def Good (K : PySem.W.Frag) (H : Hp) (v : V) : Prop := ∃ d, TD K H v d ∧ Shp d
theorem Good.keep {K : PySem.W.Frag} {H H' : Hp} {v : V} (k : TK H H') (h : Good K H v) : Good K H' v := by
  obtain ⟨d, h1, h2⟩ := h
  exact ⟨d, TD.keep k h1, h2⟩
theorem goods {K : PySem.W.Frag} {H : Hp} : ∀ {xs : List V}, (∀ v ∈ xs, Good K H v) → ∃ ds, TDs K H xs ds ∧ ∀ d ∈ ds, Shp d
  | [], _ => ⟨[], .nil, fun d h => by cases h⟩
  | v :: xs, h => by
    obtain ⟨ds, h1, h2⟩ := goods (xs := xs) fun u hu => h u (List.mem_cons_of_mem _ hu)
    obtain ⟨d, h3, h4⟩ := h v List.mem_cons_self
    exact ⟨d :: ds, .cons h3 h1, fun e he => (List.mem_cons.mp he).elim (fun q => by rw [q]; exact h4) (h2 e)⟩
theorem seqIx {r : Int} {n : Nat} (h0 : 0 ≤ r) (h1 : r < n) : seqIndex? r n = some r.toNat := by
  have a : ¬ r < 0 := by omega
  simp [seqIndex?, a, h0, h1]
theorem perm_erase {α : Type} : ∀ {xs : List α} {k : Nat} {y : α}, xs[k]? = some y → (y :: xs.eraseIdx k).Perm xs
  | [], k, y, h => by simp at h
  | x :: xs, 0, y, h => by
    simp at h
    subst h
    simp
  | x :: xs, k + 1, y, h => by
    have ih := perm_erase (xs := xs) (k := k) (y := y) (by simpa using h)
    show (y :: x :: xs.eraseIdx k).Perm (x :: xs)
    exact (List.Perm.swap x y _).trans (ih.cons x)
end Hb
set_option Elab.async false
set_option linter.all false
set_option maxRecDepth 100000
set_option maxHeartbeats 4000000
namespace Hb
open PySem PySem.Spec PyProof.Rows L2
theorem take_next {α β : Type} (f : α → Option β) {xs : List α} {i : Nat} {x : α} (h : xs[i]? = some x) : (xs.take (i + 1)).filterMap f = (xs.take i).filterMap f ++ (f x).toList := by
  rw [List.take_add_one, h, List.filterMap_append]
  cases q : f x <;> simp [q]
theorem take_len {α β : Type} (f : α → Option β) (xs : List α) (i : Nat) : ((xs.take i).filterMap f).length ≤ xs.length :=
  Nat.le_trans (List.length_filterMap_le _ _) (by rw [List.length_take]; exact Nat.min_le_right _ _)
section
variable {K : PySem.W.Frag} {a : Addr} {xs : List V} {g : TG} {tt : TT} {te : TE} {vs : List Nat} {σ : L2.St} {H1 : Hp} {D : Addr} {Qd : Hp → Prop}
/-- one turn of a comprehension whose parts leave the heap as it is -/
def Turn (f : V → Option V) (x : V) (g : TG) (tt : TT) (te : TE) (vs : List Nat) (σ : L2.St) (H1 : Hp) (D : Addr) : Prop :=
  ∀ (acc : List V) (N : Hp → Prop), acc.length < sizeLine → (∀ y, f x = some y → N (upd H1 D (.lst (acc ++ [y])))) → (f x = none → N (upd H1 D (.lst acc))) →
    g x (wipe σ vs) (upd H1 D (.lst acc)) fun σ2 H2 => wipe σ2 vs = wipe σ vs ∧ tt σ2 H2 fun b H3 => if b = true then te σ2 H3 fun y H4 => ∃ acc', H4 D = some (.lst acc') ∧ acc'.length < sizeLine ∧ N (upd H4 D (.lst (acc' ++ [y]))) else N H3
theorem turn_at {f : V → Option V} {i : Nat} {x : V} {H : Hp} (hx : xs[i]? = some x) (e : H = upd H1 D (.lst ((xs.take i).filterMap f))) (few : xs.length < sizeLine) (h : Turn f x g tt te vs σ H1 D) :
    g x (wipe σ vs) H fun σ2 H2 => wipe σ2 vs = wipe σ vs ∧ tt σ2 H2 fun b H3 => if b = true then te σ2 H3 fun y H4 => ∃ acc', H4 D = some (.lst acc') ∧ acc'.length < sizeLine ∧ (fun z => z = upd H1 D (.lst ((xs.take (i + 1)).filterMap f))) (upd H4 D (.lst (acc' ++ [y]))) else (fun z => z = upd H1 D (.lst ((xs.take (i + 1)).filterMap f))) H3 := by
  subst e
  refine h _ _ (Nat.lt_of_le_of_lt (take_len f xs i) few) (fun y hy => ?_) (fun hn => ?_)
  · show upd H1 D _ = upd H1 D _
    rw [take_next f hx, hy]
    rfl
  · show upd H1 D _ = upd H1 D _
    rw [take_next f hx, hn]
    simp
theorem lc_listP (f : V → Option V) (few : xs.length < sizeLine) (hl : ∀ acc, SqL K (upd H1 D (.lst acc)) a xs) (hs : ∀ x ∈ xs, Turn f x g tt te vs σ H1 D) (hd : Qd (upd H1 D (.lst (xs.filterMap f)))) :
    ∃ W : Nat → Nat → Hp → Prop, (∃ m, W 0 m (upd H1 D (.lst []))) ∧ ∀ i m H, W i m H →
      ((Itl K a).stop i H ∧ Qd H) ∨ ((Itl K a).go i H ∧ ∃ Nx : Hp → Prop, (∀ H', Nx H' → ∃ m', m' < m ∧ W (i + 1) m' H') ∧ ∀ x H', (Itl K a).yld i H x H' → g x (wipe σ vs) H' fun σ2 H2 => wipe σ2 vs = wipe σ vs ∧ tt σ2 H2 fun b H3 =>
        if b = true then te σ2 H3 fun y H4 => ∃ acc, H4 D = some (.lst acc) ∧ acc.length < sizeLine ∧ Nx (upd H4 D (.lst (acc ++ [y]))) else Nx H3) :=
  lc_list (xs := xs) (fun i H => H = upd H1 D (.lst ((xs.take i).filterMap f))) rfl (fun i H _ e => by rw [e]; exact hl _) (fun i x H hx e => turn_at hx e few (hs x (List.mem_of_getElem? hx)))
    (fun H e => by rw [e, List.take_length]; exact hd)
theorem lc_tupP (f : V → Option V) (few : xs.length < sizeLine) (hl : ∀ acc, SqT K (upd H1 D (.lst acc)) a xs) (hs : ∀ x ∈ xs, Turn f x g tt te vs σ H1 D) (hd : Qd (upd H1 D (.lst (xs.filterMap f)))) :
    ∃ W : Nat → Nat → Hp → Prop, (∃ m, W 0 m (upd H1 D (.lst []))) ∧ ∀ i m H, W i m H →
      ((Itt K a).stop i H ∧ Qd H) ∨ ((Itt K a).go i H ∧ ∃ Nx : Hp → Prop, (∀ H', Nx H' → ∃ m', m' < m ∧ W (i + 1) m' H') ∧ ∀ x H', (Itt K a).yld i H x H' → g x (wipe σ vs) H' fun σ2 H2 => wipe σ2 vs = wipe σ vs ∧ tt σ2 H2 fun b H3 =>
        if b = true then te σ2 H3 fun y H4 => ∃ acc, H4 D = some (.lst acc) ∧ acc.length < sizeLine ∧ Nx (upd H4 D (.lst (acc ++ [y]))) else Nx H3) :=
  lc_tup (xs := xs) (fun i H => H = upd H1 D (.lst ((xs.take i).filterMap f))) rfl (fun i H _ e => by rw [e]; exact hl _) (fun i x H hx e => turn_at hx e few (hs x (List.mem_of_getElem? hx)))
    (fun H e => by rw [e, List.take_length]; exact hd)
theorem SqL.laid {H : Hp} {p : Addr} {o : HO} (h : SqL K H a xs) (n : H p = none) : SqL K (upd H p o) a xs := Same.seq (Same.new n) h
theorem SqT.laid {H : Hp} {p : Addr} {o : HO} (h : SqT K H a xs) (n : H p = none) : SqT K (upd H p o) a xs := SqT.keep (Same.tk (Same.new n)) h
end
theorem yes_ {σ : L2.St} {H : Hp} {f g : Hp → Prop} (h : f H) : tYes σ H fun b H3 => if b = true then f H3 else g H3 := (if_pos rfl : (if true = true then f H else g H) = f H).mpr h
theorem filterMap_ints (f : Int → Option Int) (ns : List Int) (h : V → Option V) (e : ∀ n, h (.int n) = (f n).map V.int) : (ns.map V.int).filterMap h = (ns.filterMap f).map V.int := by
  rw [List.filterMap_map]
  induction ns with
  | nil => rfl
  | cons n ns ih =>
    simp only [List.filterMap_cons, Function.comp, e]
    cases q : f n <;> simp [ih]
theorem filterMap_strs (f : Str → Option Str) (ns : List Str) (h : V → Option V) (e : ∀ n, h (.str n) = (f n).map V.str) : (ns.map V.str).filterMap h = (ns.filterMap f).map V.str := by
  rw [List.filterMap_map]
  induction ns with
  | nil => rfl
  | cons n ns ih =>
    simp only [List.filterMap_cons, Function.comp, e]
    cases q : f n <;> simp [ih]
end Hb
set_option Elab.async false
set_option linter.all false
set_option maxRecDepth 100000
set_option maxHeartbeats 4000000
namespace Hb
open PySem PySem.Spec PyProof.Rows L2
section
variable {K : PySem.W.Frag} {H : Hp}
theorem TD.tup_inv {v : V} {ds : List PyData} (h : TD K H v (.tuple ds)) : ∃ a xs, v = .ref a ∧ SqT K H a xs ∧ TDs K H xs ds := by
  cases h with
  | tup h1 h2 => exact ⟨_, _, rfl, h1, h2⟩
theorem TD.int_inv {v : V} {i : Int} (h : TD K H v (.int i)) : v = .int i := by cases h; rfl
theorem TD.str_inv {v : V} {x : Str} (h : TD K H v (.str x)) : v = .str x := by cases h; rfl
theorem TDs.nil_inv {vs : List V} (h : TDs K H vs []) : vs = [] := by cases h; rfl
theorem TDs.cons_inv {vs : List V} {d : PyData} {ds : List PyData} (h : TDs K H vs (d :: ds)) : ∃ v ws, vs = v :: ws ∧ TD K H v d ∧ TDs K H ws ds := by
  cases h with
  | cons h1 h2 => exact ⟨_, _, rfl, h1, h2⟩
theorem TDs.strs_inv : ∀ {vs : List V} {xs : List Str}, TDs K H vs (xs.map PyData.str) → vs = xs.map V.str
  | _, [], h => TDs.nil_inv h
  | _, x :: xs, h => by
    obtain ⟨v, ws, rfl, h1, h2⟩ := TDs.cons_inv h
    rw [TD.str_inv h1, TDs.strs_inv h2]
    rfl
theorem TDs.ints_inv : ∀ {vs : List V} {xs : List Int}, TDs K H vs (xs.map PyData.int) → vs = xs.map V.int
  | _, [], h => TDs.nil_inv h
  | _, x :: xs, h => by
    obtain ⟨v, ws, rfl, h1, h2⟩ := TDs.cons_inv h
    rw [TD.int_inv h1, TDs.ints_inv h2]
    rfl
end
/-! ### names -/
def isLetter (c : Nat) : Bool := decide (c ∈ ("abcdefghijklmnopqrstuvwxyz" : Str).cps.toList)
def nameB (x : Str) : Bool := decide (1 ≤ x.length ∧ x.length ≤ 4) && x.cps.toList.all isLetter
/-! ### a sleeper, told as data -/
structure Zz where
  sorts : List (Str × Str)
  stir : Int
  doze : Int
  near : Int
  loud : Str
def encZ (z : Zz) : PyData := .tuple [.tuple (z.sorts.map encP), .int z.stir, .int z.doze, .int z.near, .str z.loud]
def fourS : List Str := ["faint", "loud", "soft", "sudden"]
def threeS : List Str := ["again", "nothing", "wake"]
def OneAt (K : PySem.W.Frag) (H : Hp) (p : Addr) (z : Zz) : Prop := TD K H (.ref p) (encZ z)
/-- what stands in it -/
structure OneIs (K : PySem.W.Frag) (H : Hp) (p : Addr) (z : Zz) (t : Addr) (xs : List V) : Prop where
  all : SqT K H p [.ref t, .int z.stir, .int z.doze, .int z.near, .str z.loud]
  srt : SqT K H t xs
  its : TDs K H xs (z.sorts.map encP)
theorem OneAt.inv {K : PySem.W.Frag} {H : Hp} {p : Addr} {z : Zz} (h : OneAt K H p z) : ∃ t xs, OneIs K H p z t xs := by
  obtain ⟨a, xs, e, h1, h2⟩ := TD.tup_inv h
  cases e
  obtain ⟨v1, w1, rfl, a1, h2⟩ := TDs.cons_inv h2
  obtain ⟨v2, w2, rfl, a2, h2⟩ := TDs.cons_inv h2
  obtain ⟨v3, w3, rfl, a3, h2⟩ := TDs.cons_inv h2
  obtain ⟨v4, w4, rfl, a4, h2⟩ := TDs.cons_inv h2
  obtain ⟨v5, w5, rfl, a5, h2⟩ := TDs.cons_inv h2
  obtain rfl := TDs.nil_inv h2
  obtain rfl := TD.int_inv a2
  obtain rfl := TD.int_inv a3
  obtain rfl := TD.int_inv a4
  obtain rfl := TD.str_inv a5
  obtain ⟨t, ys, rfl, h3, h4⟩ := TD.tup_inv a1
  exact ⟨t, ys, h1, h3, h4⟩
theorem OneIs.one {K : PySem.W.Frag} {H : Hp} {p : Addr} {z : Zz} {t : Addr} {xs : List V} (h : OneIs K H p z t xs) : OneAt K H p z :=
  .tup h.all (.cons (.tup h.srt h.its) (.cons (.int _) (.cons (.int _) (.cons (.int _) (.cons (.str _) .nil)))))
/-- a sleeper that is drawn, its words among ws -/
structure Zok (z : Zz) (ws : List Str) : Prop where
  nd : (z.sorts.map Prod.fst).Nodup
  inw : ∀ p ∈ z.sorts, p.1 ∈ ws
  ok : ∀ p ∈ z.sorts, PyData.strOk p.1 = true ∧ nameB p.1 = true
  srt : ∀ p ∈ z.sorts, p.2 ∈ fourS
  few : z.sorts.length ≤ 8
  s1 : 1 ≤ z.stir
  s5 : z.stir ≤ 5
  d1 : 1 ≤ z.doze
  d5 : z.doze ≤ 5
  n1 : 1 ≤ z.near
  n2 : z.near ≤ 2
  lo : z.loud ∈ threeS
end Hb
set_option Elab.async false
set_option linter.all false
set_option maxRecDepth 100000
set_option maxHeartbeats 4000000
namespace Hb
open PySem PySem.Spec PyProof.Rows L2
section
variable {K : PySem.W.Frag} {H : Hp} {a : Addr} {xs : List V}
theorem ty_tup (h : SqT K H a xs) : TyX K H (.ref a) (.type "tuple") := by
  rcases h with (h | ⟨o, h⟩) | ⟨o, its, n, h, hc, _⟩
  · exact .base (.tup h)
  · exact .fTuple h
  · exact .kTuple h hc
theorem ty_lst (h : SqL K H a xs) : TyX K H (.ref a) (.type "list") := by
  rcases h with (h | ⟨o, h⟩) | ⟨o, its, n, h, hc, _⟩
  · exact .base (.lst h)
  · exact .base (.frz h)
  · exact .kList h hc
end
theorem inV_strs (y : Str) : ∀ xs : List Str, inV (.str y) (xs.map V.str) = decide (y ∈ xs)
  | [] => by simp [inV]
  | x :: xs => by
    have ih := inV_strs y xs
    unfold inV at ih ⊢
    rw [List.map_cons, List.any_cons, ih]
    by_cases e : x = y
    · subst e
      simp [eqV]
    · have e2 : ¬ y = x := fun z => e z.symm
      simp [eqV, e, e2]
/-- a list or a tuple, walked: whatever walks so -/
def iSeq (K : PySem.W.Frag) (tl : TE) : TI := fun σ H R => tl σ H fun x H1 => ∃ a xs, x = .ref a ∧ (SqL K H1 a xs ∨ SqT K H1 a xs) ∧ ∀ (J : It) (G : Hp → Prop), (∀ H', Same H1 H' → G H') → Walk J xs.length G (YAt xs) → R J H1
theorem pi_seq {X : Cx} {tg l : Expr} {tl : TE} (hl : PE X l tl) : PI X tg l (iSeq X.K tl) := by
  refine ⟨fun pins s σ H R I h => thn (hl.run pins s σ H _ I h) fun v z ⟨x, H1, J, r, a, xs, e, hq, q⟩ => ?_⟩
  subst e
  cases r
  have far : ∀ b ∈ [z.heap.objs.size], FpOk X pins H1 b := fun b hb => by
    rw [List.mem_singleton.mp hb]; exact J.fpOk (Nat.le_refl _) (J.hok.fresh (Nat.le_refl _))
  rcases hq with hq | hq
  · have q2 := q _ _ (fun H' s => Same.seq s hq) walk_list
    obtain ⟨its, rv, p, hz⟩ := J.list hq
    exact wpAny_pyIter_list p.isList ⟨_, [z.heap.objs.size], _, _, H1, rfl, J.kept (t' := z.toks) (fun b o e => Heap.get?_push_of_some _ e), turn_list a _, ⟨_, Heap.get?_push_size _ rfl, rfl, rfl⟩, (by exact far), q2⟩
  · have q2 := q _ _ (fun H' s => SqT.keep (Same.tk s) hq) walk_tup
    obtain ⟨its, rv, p, hz⟩ := J.tuple hq
    exact wpAny_pyIter_tuple (show z.heap.IsTuple a its.toArray from p) ⟨_, [z.heap.objs.size], _, _, H1, rfl, J.kept (t' := z.toks) (fun b o e => Heap.get?_push_of_some _ e), turn_tuple a _, ⟨_, Heap.get?_push_size _ rfl, rfl, rfl⟩, (by exact far), q2⟩
/-- a comprehension's list, put anew -/
theorem Same.acc {H H' : Hp} {D : Addr} {o : HO} (s : Same H H') (n : H D = none) : Same H (upd H' D o) := fun b u e => by
  rw [upd_ne (ne_of_none e n)]
  exact s b u e
end Hb
set_option Elab.async false
set_option linter.all false
set_option maxRecDepth 100000
set_option maxHeartbeats 4000000
namespace Hb
open PySem PySem.Spec PyProof.Rows L2
/-- pairs of texts in Python's order -/
def sortP (ps : List (Str × Str)) : List (Str × Str) := ps.mergeSort (PySem.W.dataLe false encP)
theorem sortP_perm (ps : List (Str × Str)) : (sortP ps).Perm ps := List.mergeSort_perm _ _
theorem zip_fst {α β : Type} : ∀ {xs : List α} {ys : List β}, xs.length = ys.length → (xs.zip ys).map (·.1) = xs
  | [], [], _ => rfl
  | x :: xs, y :: ys, h => congrArg (x :: ·) (zip_fst (xs := xs) (ys := ys) (by simpa using h))
theorem zip_snd {α β : Type} : ∀ {xs : List α} {ys : List β}, xs.length = ys.length → (xs.zip ys).map (·.2) = ys
  | [], [], _ => rfl
  | x :: xs, y :: ys, h => congrArg (y :: ·) (zip_snd (xs := xs) (ys := ys) (by simpa using h))
section
variable {K : PySem.W.Frag} {H : Hp}
theorem zip_td : ∀ {xs : List V} {ps : List (Str × Str)}, TDs K H xs (ps.map encP) → ∀ z ∈ xs.zip ps, TD K H z.1 (encP z.2)
  | [], [], _, z, h => by cases h
  | _ :: _, [], t, _, _ => by cases t
  | [], _ :: _, t, _, _ => by cases t
  | x :: xs, p :: ps, t, z, h => by
    obtain ⟨v, ws, e, h1, h2⟩ := TDs.cons_inv t
    cases e
    rcases List.mem_cons.mp h with h | h
    · rw [h]; exact h1
    · exact zip_td h2 z h
theorem td_zip : ∀ {zs : List (V × (Str × Str))}, (∀ z ∈ zs, TD K H z.1 (encP z.2)) → TDs K H (zs.map (·.1)) ((zs.map (·.2)).map encP)
  | [], _ => .nil
  | z :: zs, h => .cons (h z List.mem_cons_self) (td_zip fun y hy => h y (List.mem_cons_of_mem _ hy))
end
theorem sort_zip (zs : List (V × (Str × Str))) : (zs.mergeSort (PySem.W.dataLe false fun z => encP z.2)).map (·.2) = sortP (zs.map (·.2)) :=
  PySem.W.sort_maps (fun z : V × (Str × Str) => z.2) fun _ _ _ _ => rfl
/-! ### a Sleeper -/
def slpFs (t : Addr) (z : Zz) : List (Str × V) := [("sorts", .ref t), ("stir", .int z.stir), ("doze", .int z.doze), ("near", .int z.near), ("loud", .str z.loud)]
/-- a Sleeper of the class at C -/
def SlpAt (K : PySem.W.Frag) (C : Addr) (H : Hp) (p : Addr) (z : Zz) : Prop := ∃ dx t xs, H p = some (.ins C dx (slpFs t z)) ∧ SqT K H t xs ∧ TDs K H xs ((sortP z.sorts).map encP)
theorem SlpAt.keep {K : PySem.W.Frag} {C : Addr} {H H' : Hp} {p : Addr} {z : Zz} (h : SlpAt K C H p z) (k : TK H H') (e : ∀ o, H p = some o → H' p = some o) : SlpAt K C H' p z := by
  obtain ⟨dx, t, xs, h1, h2, h3⟩ := h
  exact ⟨dx, t, xs, e _ h1, SqT.keep k h2, TDs.keep k h3⟩
theorem SlpAt.same {K : PySem.W.Frag} {C : Addr} {H H' : Hp} {p : Addr} {z : Zz} (h : SlpAt K C H p z) (s : Same H H') : SlpAt K C H' p z := h.keep (Same.tk s) fun o e => s _ _ e
theorem SlpAt.kp {K : PySem.W.Frag} {C d g : Addr} {H H' : Hp} {p : Addr} {z : Zz} (h : SlpAt K C H p z) (dl : Deal d g H) (k : Kp d g H H') : SlpAt K C H' p z :=
  h.keep (dl.tk k) fun o e => by
    obtain ⟨dx, t, xs, h1, h2, h3⟩ := h
    exact k _ _ (dl.ne_d h1 (by intro kvs q; cases q)) (dl.ne_g h1 (by intro kvs q; cases q)) e
end Hb
set_option Elab.async false
set_option linter.all false
set_option maxRecDepth 100000
set_option maxHeartbeats 4000000
namespace Hb
open PySem PySem.Spec PyProof.Rows L2
/-! ### states -/
inductive S0 where
  | up | doz (t : Int) | asl | kept (n : Str) (a : Int) | stir (t : Int) | wok
  deriving DecidableEq
def S0.vals : S0 → List V
  | .up => [.str "up"]
  | .doz t => [.str "dozing", .int t]
  | .asl => [.str "asleep"]
  | .kept n a => [.str "asleep", .str n, .int a]
  | .stir t => [.str "stirring", .int t]
  | .wok => [.str "woken"]
def S0.ds : S0 → List PyData
  | .up => [.str "up"]
  | .doz t => [.str "dozing", .int t]
  | .asl => [.str "asleep"]
  | .kept n a => [.str "asleep", .str n, .int a]
  | .stir t => [.str "stirring", .int t]
  | .wok => [.str "woken"]
def S0.word : S0 → Str
  | .up => "up"
  | .doz _ => "dozing"
  | .asl => "asleep"
  | .kept _ _ => "asleep"
  | .stir _ => "stirring"
  | .wok => "woken"
theorem S0.head (s : S0) : atI s.vals 0 = some (.str s.word) := by cases s <;> rfl
def StAt (K : PySem.W.Frag) (H : Hp) (v : V) (s : S0) : Prop := ∃ a, v = .ref a ∧ SqT K H a s.vals
theorem StAt.keep {K : PySem.W.Frag} {H H' : Hp} {v : V} {s : S0} (k : TK H H') (h : StAt K H v s) : StAt K H' v s := by
  obtain ⟨a, e, h⟩ := h
  exact ⟨a, e, SqT.keep k h⟩
theorem S0.td (K : PySem.W.Frag) (H : Hp) (s : S0) : TDs K H s.vals s.ds := by
  cases s
  case up => exact .cons (.str _) .nil
  case doz => exact .cons (.str _) (.cons (.int _) .nil)
  case asl => exact .cons (.str _) .nil
  case kept => exact .cons (.str _) (.cons (.str _) (.cons (.int _) .nil))
  case stir => exact .cons (.str _) (.cons (.int _) .nil)
  case wok => exact .cons (.str _) .nil
theorem StAt.td {K : PySem.W.Frag} {H : Hp} {v : V} {s : S0} (h : StAt K H v s) : TD K H v (.tuple s.ds) := by
  obtain ⟨a, rfl, h⟩ := h
  exact .tup h (S0.td K H s)
def soV : Option Str → V
  | none => .non
  | some x => .str x
theorem soV_eq (so : Option Str) (x : Str) : decide (soV so = V.str x) = decide (so = some x) := by
  cases so with
  | none => simp [soV]
  | some y => simp [soV]
theorem soV_scal (so : Option Str) (x : Str) : scal (soV so) (.str x) = true := by cases so <;> rfl
/-- its name may be compared -/
def S0.ok : S0 → Prop
  | .kept n _ => PyData.strOk n = true
  | _ => True
theorem flat_ok : ∀ w ∈ (["up", "dozing", "asleep", "stirring", "woken"] : List Str), PyData.strOk w = true := by decide +kernel
theorem S0.shp {s : S0} (h : s.ok) : Shp (.tuple s.ds) := by
  have w : ∀ x ∈ (["up", "dozing", "asleep", "stirring", "woken"] : List Str), (PyData.str x).canLay0 = true ∧ (PyData.str x).depth ≤ 50 := fun x hx => ⟨by simp only [PyData.canLay0]; exact flat_ok x hx, by simp [PyData.depth]⟩
  have i : ∀ t : Int, (PyData.int t).canLay0 = true ∧ (PyData.int t).depth ≤ 50 := fun t => ⟨by simp [PyData.canLay0], by simp [PyData.depth]⟩
  refine shp_tup fun d hd => ?_
  cases s
  case up => simp only [S0.ds, List.mem_cons, List.not_mem_nil, or_false] at hd; subst hd; exact w _ (by simp)
  case asl => simp only [S0.ds, List.mem_cons, List.not_mem_nil, or_false] at hd; subst hd; exact w _ (by simp)
  case wok => simp only [S0.ds, List.mem_cons, List.not_mem_nil, or_false] at hd; subst hd; exact w _ (by simp)
  case doz => simp only [S0.ds, List.mem_cons, List.not_mem_nil, or_false] at hd; exact hd.elim (fun e => e ▸ w _ (by simp)) (fun e => e ▸ i _)
  case stir => simp only [S0.ds, List.mem_cons, List.not_mem_nil, or_false] at hd; exact hd.elim (fun e => e ▸ w _ (by simp)) (fun e => e ▸ i _)
  case kept n a =>
    simp only [S0.ds, List.mem_cons, List.not_mem_nil, or_false] at hd
    exact hd.elim (fun e => e ▸ w _ (by simp)) fun hd => hd.elim (fun e => e ▸ ⟨by simp only [PyData.canLay0]; exact h, by simp [PyData.depth]⟩) (fun e => e ▸ i _)
theorem words_ne : ("asleep" : Str) ≠ "up" ∧ ("dozing" : Str) ≠ "up" ∧ ("stirring" : Str) ≠ "up" ∧ ("woken" : Str) ≠ "up" ∧ ("asleep" : Str) ≠ "dozing" ∧ ("stirring" : Str) ≠ "dozing" ∧ ("woken" : Str) ≠ "dozing" ∧
    ("stirring" : Str) ≠ "asleep" ∧ ("woken" : Str) ≠ "asleep" ∧ ("woken" : Str) ≠ "stirring" := by decide +kernel
theorem beq_dec {α : Type} [DecidableEq α] [BEq α] [LawfulBEq α] (a b : α) : (a == b) = decide (a = b) := by
  by_cases h : a = b
  · rw [decide_eq_true h, h, beq_self_eq_true]
  · rw [decide_eq_false h, beq_eq_false_iff_ne.mpr h]
/-- states are alike if their data are -/
theorem eqv_st (s t : S0) : PyData.eqv (.tuple s.ds) (.tuple t.ds) = decide (s = t) := by
  obtain ⟨h1, h2, h3, h4, h5, h6, h7, h8, h9, h10⟩ := words_ne
  cases s <;> cases t <;> simp [beq_dec, S0.ds, PyData.eqv, PyData.eqvAll, h1, h2, h3, h4, h5, h6, h7, h8, h9, h10, h1.symm, h2.symm, h3.symm, h4.symm, h5.symm, h6.symm, h7.symm, h8.symm, h9.symm, h10.symm]
/-- what a noise of sort so does -/
def hear (z : Zz) (so : Option Str) (n : Str) : S0 → S0
  | .up => .up
  | .wok => .wok
  | .doz t => if so = some ("loud" : Str) then (if z.loud = "wake" then .wok else if z.loud = "again" then .doz z.doze else .doz t) else .doz t
  | .asl => if so = some ("soft" : Str) then .stir z.stir else if so = some ("loud" : Str) ∨ so = some ("sudden" : Str) then .wok else if so = some ("faint" : Str) then .kept n 0 else .asl
  | .kept m a => if so = some ("soft" : Str) then .stir z.stir else if so = some ("loud" : Str) ∨ so = some ("sudden" : Str) then .wok else if so = some ("faint" : Str) then (if m = n then .kept n 0 else .wok) else .kept m a
  | .stir t => if so = some ("loud" : Str) then .wok else .stir t
def sortOf (z : Zz) (n : Str) : Option Str := (sortP z.sorts).lookup n
def tick (z : Zz) : S0 → S0
  | .up => .up
  | .wok => .wok
  | .doz t => if 1 < t then .doz (t - 1) else .asl
  | .asl => .asl
  | .kept m a => if a < z.near then .kept m (a + 1) else .asl
  | .stir t => if 1 < t then .stir (t - 1) else .wok
def hum (z : Zz) (w : Str) : S0 → S0
  | .wok => .wok
  | _ => if w = "up" then .up else .doz z.doze
end Hb
set_option Elab.async false
set_option linter.all false
set_option maxRecDepth 100000
set_option maxHeartbeats 4000000
namespace Hb
open PySem PySem.Spec PyProof.Rows L2
/-- a list being filled, changed: tuples stay -/
theorem tk_acc {H : Hp} {D : Addr} {xs ys : List V} (h : H D = some (.lst xs)) : TK H (upd H D (.lst ys)) := TK.put h (by intro xs e; cases e) (by intro q u e; cases e)
/-! ### rows of states -/
inductive SsAt (K : PySem.W.Frag) (H : Hp) : List V → List S0 → Prop
  | nil : SsAt K H [] []
  | cons {v : V} {vs : List V} {s : S0} {ss : List S0} : StAt K H v s → SsAt K H vs ss → SsAt K H (v :: vs) (s :: ss)
section
variable {K : PySem.W.Frag} {H H' : Hp}
theorem SsAt.keep (k : TK H H') : ∀ {vs : List V} {ss : List S0}, SsAt K H vs ss → SsAt K H' vs ss
  | _, _, .nil => .nil
  | _, _, .cons h t => .cons (h.keep k) (SsAt.keep k t)
theorem SsAt.app : ∀ {vs ws : List V} {ss ts : List S0}, SsAt K H vs ss → SsAt K H ws ts → SsAt K H (vs ++ ws) (ss ++ ts)
  | _, _, _, _, .nil, h => h
  | _, _, _, _, .cons h t, h2 => .cons h (SsAt.app t h2)
theorem SsAt.length : ∀ {vs : List V} {ss : List S0}, SsAt K H vs ss → vs.length = ss.length
  | _, _, .nil => rfl
  | _, _, .cons _ t => congrArg Nat.succ (SsAt.length t)
theorem SsAt.at : ∀ {vs : List V} {ss : List S0} {i : Nat} {v : V}, SsAt K H vs ss → vs[i]? = some v → ∃ s, ss[i]? = some s ∧ StAt K H v s
  | _, _, _, _, .nil, e => by simp at e
  | _, _, 0, _, .cons h _, e => by simp at e; subst e; exact ⟨_, rfl, h⟩
  | _, _, i + 1, _, .cons _ t, e => by
    obtain ⟨s, h1, h2⟩ := SsAt.at t (i := i) (by simpa using e)
    exact ⟨s, by simpa using h1, h2⟩
theorem SsAt.td : ∀ {vs : List V} {ss : List S0}, SsAt K H vs ss → TDs K H vs (ss.map fun s => .tuple s.ds)
  | _, _, .nil => .nil
  | _, _, .cons h t => .cons h.td (SsAt.td t)
end
/-- a list of states, one put behind -/
theorem SsAt.more {K : PySem.W.Frag} {H1 H H2 : Hp} {D : Addr} {acc : List V} {ss : List S0} {v : V} {s : S0} (nD : H1 D = none) (s1 : Same H1 H) (hD : H D = some (.lst acc)) (hs : SsAt K H acc ss) (s2 : Same H H2) (hv : StAt K H2 v s) :
    Same H1 (upd H2 D (.lst (acc ++ [v]))) ∧ ∃ acc', upd H2 D (.lst (acc ++ [v])) D = some (.lst acc') ∧ SsAt K (upd H2 D (.lst (acc ++ [v]))) acc' (ss ++ [s]) := by
  have k : TK H2 (upd H2 D (.lst (acc ++ [v]))) := tk_acc (s2 _ _ hD)
  exact ⟨Hb.Same.acc (s1.trans s2) nD, _, upd_same, SsAt.app (SsAt.keep k (SsAt.keep (Same.tk s2) hs)) (.cons (hv.keep k) .nil)⟩
theorem range_map (f : Nat → S0) (i : Nat) : (List.range (i + 1)).map f = (List.range i).map f ++ [f i] := by
  rw [List.range_succ, List.map_append]
  rfl
theorem SsAt.more' {K : PySem.W.Frag} {H1 H H2 : Hp} {D : Addr} {acc : List V} {f : Nat → S0} {i : Nat} {v : V} (nD : H1 D = none) (s1 : Same H1 H) (hD : H D = some (.lst acc)) (hs : SsAt K H acc ((List.range i).map f)) (s2 : Same H H2) (hv : StAt K H2 v (f i)) :
    Same H1 (upd H2 D (.lst (acc ++ [v]))) ∧ ∃ acc', upd H2 D (.lst (acc ++ [v])) D = some (.lst acc') ∧ SsAt K (upd H2 D (.lst (acc ++ [v]))) acc' ((List.range (i + 1)).map f) := by
  rw [range_map]
  exact SsAt.more nD s1 hD hs s2 hv
theorem any_st (ss : List S0) (s : S0) : ((ss.map fun s => PyData.tuple s.ds).any fun z => PyData.eqv z (.tuple s.ds)) = decide (s ∈ ss) := by
  induction ss with
  | nil => simp
  | cons t ss ih =>
    rw [List.map_cons, List.any_cons, ih, eqv_st]
    by_cases h : t = s
    · subst h; simp
    · have h2 : ¬ s = t := fun q => h q.symm
      simp [h, h2]
theorem shaped_sts {ss : List S0} (h : ∀ s ∈ ss, s.ok) : SeqAt.shaped (.list (ss.map fun s => .tuple s.ds)) = true := shaped_list fun d hd => by
  obtain ⟨s, hs, rfl⟩ := List.mem_map.mp hd
  exact S0.shp (h s hs)
/-- all states of its form -/
def states (z : Zz) : List S0 := ([.up, .asl, .wok] ++ (List.range z.doze.toNat).map fun i => .doz (1 + (i : Nat))) ++ ((List.range z.stir.toNat).map fun i => .stir (1 + (i : Nat))) ++
  (z.sorts.filter fun p => decide (p.2 = ("faint" : Str))).flatMap fun p => (List.range (z.near + 1).toNat).map fun i => .kept p.1 (0 + (i : Nat))
def rowS (z : Zz) (s : S0) (ns : List Str) : S0 := ns.foldl (fun s n => hear z (sortOf z n) n s) s
end Hb
set_option Elab.async false
set_option linter.all false
set_option maxRecDepth 100000
set_option maxHeartbeats 8000000
namespace Hb
open PySem PySem.Spec PyProof.Rows L2
/-! ### looking up -/
theorem lookup_mem : ∀ {ps : List (Str × Str)} {n x : Str}, ps.lookup n = some x → (n, x) ∈ ps
  | [], _, _, h => by simp at h
  | (m, y) :: ps, n, x, h => by
    rw [List.lookup_cons] at h
    by_cases e : n = m
    · subst e
      simp at h
      subst h
      exact List.mem_cons_self
    · have e2 : (n == m) = false := beq_eq_false_iff_ne.mpr e
      rw [e2] at h
      exact List.mem_cons_of_mem _ (lookup_mem h)
theorem lookup_of : ∀ {ps : List (Str × Str)} {n x : Str}, (ps.map Prod.fst).Nodup → (n, x) ∈ ps → ps.lookup n = some x
  | (m, y) :: ps, n, x, nd, h => by
    rw [List.map_cons, List.nodup_cons] at nd
    rw [List.lookup_cons]
    rcases List.mem_cons.mp h with h | h
    · cases h
      simp
    · have e : n ≠ m := fun q => nd.1 (by rw [← q]; exact List.mem_map.mpr ⟨_, h, rfl⟩)
      rw [beq_eq_false_iff_ne.mpr e]
      exact lookup_of nd.2 h
theorem lookup_none : ∀ {ps : List (Str × Str)} {n : Str}, (∀ x, (n, x) ∉ ps) → ps.lookup n = none
  | [], _, _ => rfl
  | (m, y) :: ps, n, h => by
    have e : n ≠ m := fun q => h y (by rw [q]; exact List.mem_cons_self)
    rw [List.lookup_cons, beq_eq_false_iff_ne.mpr e]
    exact lookup_none fun x hx => h x (List.mem_cons_of_mem _ hx)
theorem lookup_perm {ps qs : List (Str × Str)} (nd : (ps.map Prod.fst).Nodup) (h : qs.Perm ps) (n : Str) : qs.lookup n = ps.lookup n := by
  cases e : ps.lookup n with
  | none =>
    refine lookup_none fun x hx => ?_
    rw [lookup_of nd (h.mem_iff.mp hx)] at e
    cases e
  | some x => exact lookup_of ((h.map Prod.fst).nodup_iff.mpr nd) (h.mem_iff.mpr (lookup_mem e))
theorem sortOf_eq {z : Zz} (nd : (z.sorts.map Prod.fst).Nodup) (n : Str) : sortOf z n = z.sorts.lookup n := lookup_perm nd (sortP_perm _) n
/-! ### a dict of pairs -/
def pkv (p : Str × Str) : Key × V := (Sum.inr p.1, V.str p.2)
theorem putK_new (kvs : List (Key × V)) (k : Key) (v : V) (h : ∀ kv ∈ kvs, kv.1 ≠ k) : putK kvs k v = kvs ++ [(k, v)] := by
  unfold putK
  rw [if_neg]
  intro q
  obtain ⟨kv, h1, h2⟩ := List.any_eq_true.mp q
  exact h kv h1 (of_decide_eq_true h2)
theorem merge_new : ∀ (ps : List (Str × Str)) (acc : List (Key × V)), (ps.map Prod.fst).Nodup → (∀ p ∈ ps, ∀ kv ∈ acc, kv.1 ≠ (Sum.inr p.1 : Key)) → mergeK acc (ps.map pkv) = acc ++ ps.map pkv
  | [], acc, _, _ => by simp [mergeK]
  | p :: ps, acc, nd, h => by
    rw [List.map_cons, List.nodup_cons] at nd
    have e : mergeK acc ((p :: ps).map pkv) = mergeK (putK acc (Sum.inr p.1) (V.str p.2)) (ps.map pkv) := rfl
    rw [e, putK_new acc _ _ (h p List.mem_cons_self), merge_new ps _ nd.2 (fun q hq kv hkv => ?_)]
    · simp [pkv]
    · rcases List.mem_append.mp hkv with hkv | hkv
      · exact h q (List.mem_cons_of_mem _ hq) kv hkv
      · rw [List.mem_singleton.mp hkv]
        intro e2
        have e3 : p.1 = q.1 := Sum.inr.inj e2
        exact nd.1 (by rw [e3]; exact List.mem_map.mpr ⟨q, hq, rfl⟩)
theorem val_pairs : ∀ (ps : List (Str × Str)) (n : Str), valV (ps.map pkv) (Sum.inr n) = (ps.lookup n).map V.str
  | [], n => rfl
  | p :: ps, n => by
    rw [List.map_cons, List.lookup_cons]
    by_cases e : n = p.1
    · rw [valV_pos (p := pkv p) (by show Sum.inr p.1 = Sum.inr n; rw [e])]
      subst e
      simp [pkv]
    · rw [valV_neg (p := pkv p) (fun q => e (Sum.inr.inj (show (Sum.inr p.1 : Key) = Sum.inr n from q)).symm), beq_eq_false_iff_ne.mpr e]
      exact val_pairs ps n
theorem val_dict {ps : List (Str × Str)} (nd : (ps.map Prod.fst).Nodup) (n : Str) : valV (mergeK [] (ps.map pkv)) (Sum.inr n) = (ps.lookup n).map V.str := by
  rw [merge_new ps [] nd (fun _ _ _ h => by cases h), List.nil_append]
  exact val_pairs ps n
theorem pairs_of {K : PySem.W.Frag} {H : Hp} : ∀ {xs : List V} {ps : List (Str × Str)}, TDs K H xs (ps.map encP) → ∃ as : List Addr, xs = as.map V.ref ∧ Paired (fun p (kv : Key × V) => SqT K H p [kV kv.1, kv.2]) as (ps.map pkv)
  | _, [], h => ⟨[], TDs.nil_inv h, .nil⟩
  | _, p :: ps, h => by
    obtain ⟨v, ws, rfl, h1, h2⟩ := TDs.cons_inv h
    obtain ⟨as, rfl, h3⟩ := pairs_of h2
    obtain ⟨a, ys, rfl, h4, h5⟩ := TD.tup_inv h1
    obtain rfl := TDs.strs_inv (xs := [p.1, p.2]) h5
    exact ⟨a :: as, rfl, .cons h4 h3⟩
/-! ### what noises do -/
theorem sorts_ne : ("loud" : Str) ≠ "soft" ∧ ("sudden" : Str) ≠ "soft" ∧ ("faint" : Str) ≠ "soft" ∧ ("sudden" : Str) ≠ "loud" ∧ ("faint" : Str) ≠ "loud" ∧ ("faint" : Str) ≠ "sudden" ∧ ("again" : Str) ≠ "wake" := by decide +kernel
/-- the five kinds of noises -/
theorem kinds (so : Option Str) : so = some ("soft" : Str) ∨ so = some ("loud" : Str) ∨ so = some ("sudden" : Str) ∨ so = some ("faint" : Str) ∨ (so ≠ some ("soft" : Str) ∧ so ≠ some ("loud" : Str) ∧ so ≠ some ("sudden" : Str) ∧ so ≠ some ("faint" : Str)) := by
  by_cases h1 : so = some ("soft" : Str)
  · exact .inl h1
  by_cases h2 : so = some ("loud" : Str)
  · exact .inr (.inl h2)
  by_cases h3 : so = some ("sudden" : Str)
  · exact .inr (.inr (.inl h3))
  by_cases h4 : so = some ("faint" : Str)
  · exact .inr (.inr (.inr (.inl h4)))
  exact .inr (.inr (.inr (.inr ⟨h1, h2, h3, h4⟩)))
theorem hear_soft {z : Zz} {n : Str} (s : S0) : hear z (some ("soft" : Str)) n s = match s with | .asl => .stir z.stir | .kept _ _ => .stir z.stir | s => s := by
  obtain ⟨h1, h2, h3, h4, h5, h6, h7⟩ := sorts_ne
  cases s <;> simp [hear, h1.symm]
theorem hear_loud {z : Zz} {n : Str} (s : S0) : hear z (some ("loud" : Str)) n s = match s with | .up => .up | .doz t => (if z.loud = ("wake" : Str) then .wok else if z.loud = ("again" : Str) then .doz z.doze else .doz t) | _ => .wok := by
  obtain ⟨h1, h2, h3, h4, h5, h6, h7⟩ := sorts_ne
  cases s <;> simp [hear, h1]
theorem hear_sudden {z : Zz} {n : Str} (s : S0) : hear z (some ("sudden" : Str)) n s = match s with | .asl => .wok | .kept _ _ => .wok | s => s := by
  obtain ⟨h1, h2, h3, h4, h5, h6, h7⟩ := sorts_ne
  cases s <;> simp [hear, h2, h4]
theorem hear_faint {z : Zz} {n : Str} (s : S0) : hear z (some ("faint" : Str)) n s = match s with | .asl => .kept n 0 | .kept m _ => (if m = n then .kept n 0 else .wok) | s => s := by
  obtain ⟨h1, h2, h3, h4, h5, h6, h7⟩ := sorts_ne
  cases s <;> simp [hear, h3, h5, h6]
theorem hear_else {z : Zz} {n : Str} {so : Option Str} (h : so ≠ some ("soft" : Str) ∧ so ≠ some ("loud" : Str) ∧ so ≠ some ("sudden" : Str) ∧ so ≠ some ("faint" : Str)) (s : S0) : hear z so n s = s := by
  obtain ⟨h1, h2, h3, h4⟩ := h
  cases s <;> simp [hear, h1, h2, h3, h4]
inductive Kd where
  | soft | loud | sudden | faint | els
  deriving DecidableEq
def act (z : Zz) (n : Str) : Kd → S0 → S0
  | .soft, .asl => .stir z.stir
  | .soft, .kept _ _ => .stir z.stir
  | .loud, .doz t => if z.loud = ("wake" : Str) then .wok else if z.loud = ("again" : Str) then .doz z.doze else .doz t
  | .loud, .asl => .wok
  | .loud, .kept _ _ => .wok
  | .loud, .stir _ => .wok
  | .sudden, .asl => .wok
  | .sudden, .kept _ _ => .wok
  | .faint, .asl => .kept n 0
  | .faint, .kept m _ => if m = n then .kept n 0 else .wok
  | _, s => s
def kd (so : Option Str) : Kd := if so = some ("soft" : Str) then .soft else if so = some ("loud" : Str) then .loud else if so = some ("sudden" : Str) then .sudden else if so = some ("faint" : Str) then .faint else .els
theorem hear_act (z : Zz) (so : Option Str) (n : Str) (s : S0) : hear z so n s = act z n (kd so) s := by
  obtain ⟨h1, h2, h3, h4, h5, h6, h7⟩ := sorts_ne
  rcases kinds so with rfl | rfl | rfl | rfl | h
  · rw [hear_soft]; cases s <;> simp [kd, act]
  · rw [hear_loud]; cases s <;> simp [kd, act, h1]
  · rw [hear_sudden]; cases s <;> simp [kd, act, h2, h4]
  · rw [hear_faint]; cases s <;> simp [kd, act, h3, h5, h6]
  · rw [hear_else h]; obtain ⟨q1, q2, q3, q4⟩ := h; cases s <;> simp [kd, act, q1, q2, q3, q4]
/-- two noises twice are as once -/
theorem twice (z : Zz) (a b : Str) (s : S0) : rowS z (rowS z s [a, b]) [a, b] = rowS z s [a, b] := by
  have key : ∀ ka kb : Kd, (a = b → ka = kb) → ∀ s, act z b kb (act z a ka (act z b kb (act z a ka s))) = act z b kb (act z a ka s) := by
    intro ka kb hab s
    have wa : ("wake" : Str) ≠ "again" := sorts_ne.2.2.2.2.2.2.symm
    by_cases e : a = b
    · subst e
      have e2 := hab rfl
      subst e2
      by_cases hw : z.loud = ("wake" : Str)
      · cases s
        case kept m t => by_cases h1 : m = a <;> cases ka <;> simp [act, hw, h1, wa]
        all_goals (cases ka <;> simp [act, hw, wa])
      · by_cases hg : z.loud = ("again" : Str)
        · cases s
          case kept m t => by_cases h1 : m = a <;> cases ka <;> simp [act, hw, hg, h1]
          all_goals (cases ka <;> simp [act, hg, wa.symm])
        · cases s
          case kept m t => by_cases h1 : m = a <;> cases ka <;> simp [act, hw, hg, h1]
          all_goals (cases ka <;> simp [act, hw, hg])
    · have e2 : ¬ b = a := fun q => e q.symm
      by_cases hw : z.loud = ("wake" : Str)
      · cases s
        case kept m t => by_cases h1 : m = a <;> by_cases h2 : m = b <;> cases ka <;> cases kb <;> simp [act, hw, h1, h2, wa, e, e2]
        all_goals (cases ka <;> cases kb <;> simp [act, hw, wa, e, e2])
      · by_cases hg : z.loud = ("again" : Str)
        · cases s
          case kept m t => by_cases h1 : m = a <;> by_cases h2 : m = b <;> cases ka <;> cases kb <;> simp [act, hg, wa.symm, h1, h2, e, e2]
          all_goals (cases ka <;> cases kb <;> simp [act, hg, wa.symm, e, e2])
        · cases s
          case kept m t => by_cases h1 : m = a <;> by_cases h2 : m = b <;> cases ka <;> cases kb <;> simp [act, hw, hg, h1, h2, e, e2]
          all_goals (cases ka <;> cases kb <;> simp [act, hw, hg, e, e2])
  have h := key (kd (sortOf z a)) (kd (sortOf z b)) (fun e => by rw [e]) s
  simp only [← hear_act] at h
  exact h
end Hb
set_option Elab.async false
set_option linter.all false
set_option maxRecDepth 100000
set_option maxHeartbeats 8000000
namespace Hb
open PySem PySem.Spec PyProof.Rows L2
def InS (z : Zz) : S0 → Prop
  | .doz t => 1 ≤ t ∧ t ≤ z.doze
  | .stir t => 1 ≤ t ∧ t ≤ z.stir
  | .kept n a => (n, ("faint" : Str)) ∈ z.sorts ∧ 0 ≤ a ∧ a ≤ z.near
  | _ => True
theorem mem_states {z : Zz} {s : S0} : s ∈ states z ↔ InS z s := by
  unfold states
  rw [List.mem_append, List.mem_append, List.mem_append]
  constructor
  · rintro (((h | h) | h) | h)
    · simp only [List.mem_cons, List.not_mem_nil, or_false] at h
      rcases h with rfl | rfl | rfl <;> exact trivial
    · obtain ⟨i, hi, rfl⟩ := List.mem_map.mp h
      have := List.mem_range.mp hi
      exact ⟨by omega, by omega⟩
    · obtain ⟨i, hi, rfl⟩ := List.mem_map.mp h
      have := List.mem_range.mp hi
      exact ⟨by omega, by omega⟩
    · obtain ⟨p, hp, h⟩ := List.mem_flatMap.mp h
      obtain ⟨i, hi, rfl⟩ := List.mem_map.mp h
      obtain ⟨h1, h2⟩ := List.mem_filter.mp hp
      have h3 : p.2 = ("faint" : Str) := of_decide_eq_true h2
      have := List.mem_range.mp hi
      refine ⟨?_, by omega, by omega⟩
      rw [← h3]
      exact h1
  · intro h
    cases s with
    | up => exact .inl (.inl (.inl (by simp)))
    | asl => exact .inl (.inl (.inl (by simp)))
    | wok => exact .inl (.inl (.inl (by simp)))
    | doz t =>
      obtain ⟨h1, h2⟩ := h
      exact .inl (.inl (.inr (List.mem_map.mpr ⟨(t - 1).toNat, List.mem_range.mpr (by omega), by rw [show (1 : Int) + ((t - 1).toNat : Nat) = t by omega]⟩)))
    | stir t =>
      obtain ⟨h1, h2⟩ := h
      exact .inl (.inr (List.mem_map.mpr ⟨(t - 1).toNat, List.mem_range.mpr (by omega), by rw [show (1 : Int) + ((t - 1).toNat : Nat) = t by omega]⟩))
    | kept n a =>
      obtain ⟨h0, h1, h2⟩ := h
      exact .inr (List.mem_flatMap.mpr ⟨_, List.mem_filter.mpr ⟨h0, decide_eq_true rfl⟩, List.mem_map.mpr ⟨a.toNat, List.mem_range.mpr (by omega), by rw [show (0 : Int) + (a.toNat : Nat) = a by omega]⟩⟩)
section
variable {z : Zz} {ws : List Str} (zk : Zok z ws)
include zk
theorem Zok.zin : z.sorts.length ≤ 100 := Nat.le_trans zk.few (by decide)
theorem sort_mem {n x : Str} (h : sortOf z n = some x) : (n, x) ∈ z.sorts := by
  rw [sortOf_eq zk.nd] at h
  exact lookup_mem h
theorem InS.sok {s : S0} (h : InS z s) : s.ok := by
  cases s
  case kept n a => exact (Zok.ok zk _ h.1).1
  all_goals trivial
theorem InS.hear {n : Str} {s : S0} (h : InS z s) : InS z (Hb.hear z (sortOf z n) n s) := by
  have f : kd (sortOf z n) = .faint → (n, ("faint" : Str)) ∈ z.sorts := by
    intro e
    unfold kd at e
    split at e
    · cases e
    · split at e
      · cases e
      · split at e
        · cases e
        · split at e
          · rename_i q
            exact sort_mem zk q
          · cases e
  rw [hear_act]
  have d1 := zk.d1
  have s1 := zk.s1
  have n1 := zk.n1
  cases s with
  | up => cases kd (sortOf z n) <;> trivial
  | wok => cases kd (sortOf z n) <;> trivial
  | asl =>
    cases q : kd (sortOf z n)
    case faint => exact ⟨f q, by omega, by omega⟩
    case soft => exact ⟨by omega, by omega⟩
    all_goals trivial
  | kept m a =>
    cases q : kd (sortOf z n)
    case faint =>
      show InS z (if m = n then .kept n 0 else .wok)
      split
      · exact ⟨f q, by omega, by omega⟩
      · trivial
    case soft => exact ⟨by omega, by omega⟩
    case els => exact h
    all_goals trivial
  | doz t =>
    cases q : kd (sortOf z n)
    case loud =>
      show InS z (if z.loud = ("wake" : Str) then .wok else if z.loud = ("again" : Str) then .doz z.doze else .doz t)
      split
      · trivial
      · split
        · exact ⟨by omega, by omega⟩
        · exact h
    all_goals exact h
  | stir t =>
    cases q : kd (sortOf z n)
    case loud => trivial
    all_goals exact h
theorem InS.row : ∀ {ns : List Str} {s : S0}, InS z s → InS z (rowS z s ns)
  | [], _, h => h
  | n :: ns, _, h => InS.row (ns := ns) (InS.hear zk h)
theorem InS.tick {s : S0} (h : InS z s) : InS z (Hb.tick z s) := by
  have n1 := zk.n1
  cases s with
  | up => trivial
  | wok => trivial
  | asl => trivial
  | doz t =>
    show InS z (if 1 < t then .doz (t - 1) else .asl)
    split
    · exact ⟨by omega, by have := h.2; omega⟩
    · trivial
  | stir t =>
    show InS z (if 1 < t then .stir (t - 1) else .wok)
    split
    · exact ⟨by omega, by have := h.2; omega⟩
    · trivial
  | kept m a =>
    obtain ⟨h0, h1, h2⟩ := h
    show InS z (if a < z.near then .kept m (a + 1) else .asl)
    split
    · exact ⟨h0, by omega, by omega⟩
    · trivial
theorem InS.hum {s : S0} {x : Str} (h : InS z s) : InS z (Hb.hum z x s) ∧ (Hb.hum z x s).word ≠ "asleep" := by
  have d1 := zk.d1
  obtain ⟨q1, q2, q3, q4, q5, q6, q7, q8, q9, q10⟩ := words_ne
  by_cases e : s = .wok
  · subst e
    exact ⟨trivial, q9⟩
  · have e2 : Hb.hum z x s = if x = "up" then .up else .doz z.doze := by cases s <;> first | exact absurd rfl e | rfl
    rw [e2]
    split
    · exact ⟨trivial, q1.symm⟩
    · exact ⟨⟨by omega, by omega⟩, q5.symm⟩
end
/-- a noise twice is as once -/
theorem once (z : Zz) (a : Str) (s : S0) : rowS z s [a, a] = rowS z s [a] := by
  show hear z (sortOf z a) a (hear z (sortOf z a) a s) = hear z (sortOf z a) a s
  rw [hear_act, hear_act]
  have wa : ("wake" : Str) ≠ "again" := sorts_ne.2.2.2.2.2.2.symm
  generalize kd (sortOf z a) = k
  by_cases hw : z.loud = ("wake" : Str)
  · cases s
    case kept m t => by_cases h1 : m = a <;> cases k <;> simp [act, hw, h1, wa]
    all_goals (cases k <;> simp [act, hw, wa])
  · by_cases hg : z.loud = ("again" : Str)
    · cases s
      case kept m t => by_cases h1 : m = a <;> cases k <;> simp [act, hg, wa.symm, h1]
      all_goals (cases k <;> simp [act, hg, wa.symm])
    · cases s
      case kept m t => by_cases h1 : m = a <;> cases k <;> simp [act, hw, hg, h1]
      all_goals (cases k <;> simp [act, hw, hg])
theorem unheard_same (z : Zz) (a : Str) (s : S0) (h : sortOf z a = none) : hear z (sortOf z a) a s = s := by
  rw [h, hear_else ⟨by simp, by simp, by simp, by simp⟩]
theorem others_same (z : Zz) (a : Str) (s : S0) (h : sortOf z a = some ("sudden" : Str) ∨ sortOf z a = some ("faint" : Str) ∨ sortOf z a = some ("soft" : Str)) (w : s.word = "stirring" ∨ s.word = "dozing" ∨ s.word = "up") :
    hear z (sortOf z a) a s = s := by
  obtain ⟨q1, q2, q3, q4, q5, q6, q7, q8, q9, q10⟩ := words_ne
  have ns : s ≠ .asl := by rintro rfl; exact w.elim (fun w => q8 w.symm) fun w => w.elim (fun w => q5 w) fun w => q1 w
  have nk : ∀ m t, s ≠ .kept m t := by rintro m t rfl; exact w.elim (fun w => q8 w.symm) fun w => w.elim (fun w => q5 w) fun w => q1 w
  rcases h with h | h | h <;> rw [h]
  · rw [hear_sudden]; cases s <;> first | exact absurd rfl ns | exact absurd rfl (nk _ _) | rfl
  · rw [hear_faint]; cases s <;> first | exact absurd rfl ns | exact absurd rfl (nk _ _) | rfl
  · rw [hear_soft]; cases s <;> first | exact absurd rfl ns | exact absurd rfl (nk _ _) | rfl
/-- a longer stirring is woken no sooner -/
theorem longer (z : Zz) (t : Int) (a : Str) (s : S0) (h : hear { z with stir := t } (sortOf { z with stir := t } a) a s = .wok) : hear z (sortOf z a) a s = .wok := by
  have e : sortOf { z with stir := t } a = sortOf z a := rfl
  rw [e, hear_act] at h
  rw [hear_act]
  revert h
  generalize kd (sortOf z a) = k
  cases k <;> cases s <;> simp [act]
end Hb
set_option Elab.async false
set_option linter.all false
set_option maxRecDepth 100000
set_option maxHeartbeats 4000000
namespace Hb
open PySem PySem.Spec PyProof.Rows L2
section
variable {K : PySem.W.Frag} {H : Hp} {x y : V} {s t : S0} {Q : VK}
theorem ne_st (hx : StAt K H x s) (hy : StAt K H y t) (os : s.ok) (ot : t.ok) (q : Q (.bl (!decide (s = t))) H) : rNeD K x y H Q :=
  ⟨_, _, TD.dp hx.td, TD.dp hy.td, (S0.shp os).shaped, (S0.shp ot).shaped, by rw [eqv_st]; exact q⟩
theorem eq_st (hx : StAt K H x s) (hy : StAt K H y t) (os : s.ok) (ot : t.ok) (q : Q (.bl (decide (s = t))) H) : rEqD K x y H Q :=
  ⟨_, _, TD.dp hx.td, TD.dp hy.td, (S0.shp os).shaped, (S0.shp ot).shaped, by rw [eqv_st]; exact q⟩
theorem notin_st {S : Addr} {us : List V} {ss : List S0} (hx : StAt K H x s) (os : s.ok) (hS : H S = some (.lst us)) (hs : SsAt K H us ss) (ok : ∀ s ∈ ss, s.ok) (q : Q (.bl (!decide (s ∈ ss))) H) : rNotInD K x (.ref S) H Q :=
  ⟨_, _, TD.dp hx.td, .lst (SqL.of hS) (TDs.dp hs.td), (S0.shp os).shaped, shaped_sts ok, by rw [any_st]; exact q⟩
end
theorem hear_ok {z : Zz} {so : Option Str} {n : Str} {s : S0} (h : s.ok) (hn : PyData.strOk n = true) : (hear z so n s).ok := by
  rw [hear_act]
  generalize kd so = k
  cases s with
  | kept m t =>
    cases k with
    | faint =>
      show (if m = n then S0.kept n 0 else S0.wok).ok
      split
      · exact hn
      · trivial
    | els => exact h
    | soft => trivial
    | loud => trivial
    | sudden => trivial
  | asl => cases k <;> first | exact hn | trivial
  | doz t =>
    cases k with
    | loud =>
      show (if z.loud = ("wake" : Str) then S0.wok else if z.loud = ("again" : Str) then S0.doz z.doze else S0.doz t).ok
      split
      · trivial
      · split <;> trivial
    | soft => trivial
    | faint => trivial
    | sudden => trivial
    | els => trivial
  | up => cases k <;> trivial
  | wok => cases k <;> trivial
  | stir t => cases k <;> trivial
theorem str_mem_map {x : Str} {xs : List Str} (h : x ∈ xs) : V.str x ∈ xs.map V.str := List.mem_map.mpr ⟨x, h, rfl⟩
end Hb
set_option Elab.async false
set_option linter.all false
set_option maxRecDepth 100000
set_option maxHeartbeats 4000000
/-! The text, by places. -/
namespace Lw
open PySem PySem.Spec PyProof.Rows L2 Hb
def top (i : Nat) : Stmt := PySem.Challenge.pw_hushsteps_k11_whole_noises_that_are_made.main.body.getD i (.Pass ⟨0, 0, 0, 0⟩)
abbrev s_is_whole : Stmt := (top 7)
abbrev N_is_whole : List Str := ["value"]
theorem sc_is_whole : FnScope N_is_whole ["value"] (defScope s_is_whole) := C8.fnScope_by (by decide +kernel)
theorem bd_is_whole : ∀ (kV doc pm : Value) (an : Option Addr) (cdv ct : Value) (us : List Value), us.length = (["value"] : List Str).length → bindArgs (PySem.W.fnOf "is_whole" "is_whole" (defArgs s_is_whole) (defBody s_is_whole) (defScope s_is_whole) .none kV doc pm an cdv ct) ⟨us, []⟩ = pure ((["value"] : List Str).zip us) :=
  fun _ _ _ _ _ _ us hl => match us, hl with | [_], _ => rfl
abbrev s_is_positive : Stmt := (top 8)
abbrev N_is_positive : List Str := ["value"]
theorem sc_is_positive : FnScope N_is_positive ["value"] (defScope s_is_positive) := C8.fnScope_by (by decide +kernel)
theorem bd_is_positive : ∀ (kV doc pm : Value) (an : Option Addr) (cdv ct : Value) (us : List Value), us.length = (["value"] : List Str).length → bindArgs (PySem.W.fnOf "is_positive" "is_positive" (defArgs s_is_positive) (defBody s_is_positive) (defScope s_is_positive) .none kV doc pm an cdv ct) ⟨us, []⟩ = pure ((["value"] : List Str).zip us) :=
  fun _ _ _ _ _ _ us hl => match us, hl with | [_], _ => rfl
abbrev s_is_name : Stmt := (top 9)
abbrev N_is_name : List Str := ["value", "letter"]
theorem sc_is_name : FnScope N_is_name ["value"] (defScope s_is_name) := C8.fnScope_by (by decide +kernel)
theorem bd_is_name : ∀ (kV doc pm : Value) (an : Option Addr) (cdv ct : Value) (us : List Value), us.length = (["value"] : List Str).length → bindArgs (PySem.W.fnOf "is_name" "is_name" (defArgs s_is_name) (defBody s_is_name) (defScope s_is_name) .none kV doc pm an cdv ct) ⟨us, []⟩ = pure ((["value"] : List Str).zip us) :=
  fun _ _ _ _ _ _ us hl => match us, hl with | [_], _ => rfl
abbrev s_is_row : Stmt := (top 10)
abbrev N_is_row : List Str := ["value"]
theorem sc_is_row : FnScope N_is_row ["value"] (defScope s_is_row) := C8.fnScope_by (by decide +kernel)
theorem bd_is_row : ∀ (kV doc pm : Value) (an : Option Addr) (cdv ct : Value) (us : List Value), us.length = (["value"] : List Str).length → bindArgs (PySem.W.fnOf "is_row" "is_row" (defArgs s_is_row) (defBody s_is_row) (defScope s_is_row) .none kV doc pm an cdv ct) ⟨us, []⟩ = pure ((["value"] : List Str).zip us) :=
  fun _ _ _ _ _ _ us hl => match us, hl with | [_], _ => rfl
abbrev s_is_tuple_of : Stmt := (top 11)
abbrev N_is_tuple_of : List Str := ["value", "many"]
theorem sc_is_tuple_of : FnScope N_is_tuple_of ["value", "many"] (defScope s_is_tuple_of) := C8.fnScope_by (by decide +kernel)
theorem bd_is_tuple_of : ∀ (kV doc pm : Value) (an : Option Addr) (cdv ct : Value) (us : List Value), us.length = (["value", "many"] : List Str).length → bindArgs (PySem.W.fnOf "is_tuple_of" "is_tuple_of" (defArgs s_is_tuple_of) (defBody s_is_tuple_of) (defScope s_is_tuple_of) .none kV doc pm an cdv ct) ⟨us, []⟩ = pure ((["value", "many"] : List Str).zip us) :=
  fun _ _ _ _ _ _ us hl => match us, hl with | [_, _], _ => rfl
abbrev s_are_unlike : Stmt := (top 12)
abbrev N_are_unlike : List Str := ["things"]
theorem sc_are_unlike : FnScope N_are_unlike ["things"] (defScope s_are_unlike) := C8.fnScope_by (by decide +kernel)
theorem bd_are_unlike : ∀ (kV doc pm : Value) (an : Option Addr) (cdv ct : Value) (us : List Value), us.length = (["things"] : List Str).length → bindArgs (PySem.W.fnOf "are_unlike" "are_unlike" (defArgs s_are_unlike) (defBody s_are_unlike) (defScope s_are_unlike) .none kV doc pm an cdv ct) ⟨us, []⟩ = pure ((["things"] : List Str).zip us) :=
  fun _ _ _ _ _ _ us hl => match us, hl with | [_], _ => rfl
abbrev s_is_sorted_name : Stmt := (top 20)
abbrev N_is_sorted_name : List Str := ["value"]
theorem sc_is_sorted_name : FnScope N_is_sorted_name ["value"] (defScope s_is_sorted_name) := C8.fnScope_by (by decide +kernel)
theorem bd_is_sorted_name : ∀ (kV doc pm : Value) (an : Option Addr) (cdv ct : Value) (us : List Value), us.length = (["value"] : List Str).length → bindArgs (PySem.W.fnOf "is_sorted_name" "is_sorted_name" (defArgs s_is_sorted_name) (defBody s_is_sorted_name) (defScope s_is_sorted_name) .none kV doc pm an cdv ct) ⟨us, []⟩ = pure ((["value"] : List Str).zip us) :=
  fun _ _ _ _ _ _ us hl => match us, hl with | [_], _ => rfl
abbrev s_are_sorts : Stmt := (top 21)
abbrev N_are_sorts : List Str := ["value", "pair"]
theorem sc_are_sorts : FnScope N_are_sorts ["value"] (defScope s_are_sorts) := C8.fnScope_by (by decide +kernel)
theorem bd_are_sorts : ∀ (kV doc pm : Value) (an : Option Addr) (cdv ct : Value) (us : List Value), us.length = (["value"] : List Str).length → bindArgs (PySem.W.fnOf "are_sorts" "are_sorts" (defArgs s_are_sorts) (defBody s_are_sorts) (defScope s_are_sorts) .none kV doc pm an cdv ct) ⟨us, []⟩ = pure ((["value"] : List Str).zip us) :=
  fun _ _ _ _ _ _ us hl => match us, hl with | [_], _ => rfl
abbrev s_Sleeper_init : Stmt := (inClass (top 24) 0)
abbrev N_Sleeper_init : List Str := ["self", "sorts", "stir", "doze", "near", "loud"]
theorem sc_Sleeper_init : FnScope N_Sleeper_init ["self", "sorts", "stir", "doze", "near", "loud"] (defScope s_Sleeper_init) := C8.fnScope_by (by decide +kernel)
theorem bd_Sleeper_init : ∀ (kV doc pm : Value) (an : Option Addr) (cdv ct : Value) (us : List Value), us.length = (["self", "sorts", "stir", "doze", "near", "loud"] : List Str).length → bindArgs (PySem.W.fnOf "__init__" "Sleeper.__init__" (defArgs s_Sleeper_init) (defBody s_Sleeper_init) (defScope s_Sleeper_init) .none kV doc pm an cdv ct) ⟨us, []⟩ = pure ((["self", "sorts", "stir", "doze", "near", "loud"] : List Str).zip us) :=
  fun _ _ _ _ _ _ us hl => match us, hl with | [_, _, _, _, _, _], _ => rfl
abbrev s_heard : Stmt := (top 25)
abbrev N_heard : List Str := ["sleeper", "state", "noise", "sort"]
theorem sc_heard : FnScope N_heard ["sleeper", "state", "noise"] (defScope s_heard) := C8.fnScope_by (by decide +kernel)
theorem bd_heard : ∀ (kV doc pm : Value) (an : Option Addr) (cdv ct : Value) (us : List Value), us.length = (["sleeper", "state", "noise"] : List Str).length → bindArgs (PySem.W.fnOf "heard" "heard" (defArgs s_heard) (defBody s_heard) (defScope s_heard) .none kV doc pm an cdv ct) ⟨us, []⟩ = pure ((["sleeper", "state", "noise"] : List Str).zip us) :=
  fun _ _ _ _ _ _ us hl => match us, hl with | [_, _, _], _ => rfl
abbrev s_ticked : Stmt := (top 26)
abbrev N_ticked : List Str := ["sleeper", "state"]
theorem sc_ticked : FnScope N_ticked ["sleeper", "state"] (defScope s_ticked) := C8.fnScope_by (by decide +kernel)
theorem bd_ticked : ∀ (kV doc pm : Value) (an : Option Addr) (cdv ct : Value) (us : List Value), us.length = (["sleeper", "state"] : List Str).length → bindArgs (PySem.W.fnOf "ticked" "ticked" (defArgs s_ticked) (defBody s_ticked) (defScope s_ticked) .none kV doc pm an cdv ct) ⟨us, []⟩ = pure ((["sleeper", "state"] : List Str).zip us) :=
  fun _ _ _ _ _ _ us hl => match us, hl with | [_, _], _ => rfl
abbrev s_hummed : Stmt := (top 27)
abbrev N_hummed : List Str := ["sleeper", "state", "word"]
theorem sc_hummed : FnScope N_hummed ["sleeper", "state", "word"] (defScope s_hummed) := C8.fnScope_by (by decide +kernel)
theorem bd_hummed : ∀ (kV doc pm : Value) (an : Option Addr) (cdv ct : Value) (us : List Value), us.length = (["sleeper", "state", "word"] : List Str).length → bindArgs (PySem.W.fnOf "hummed" "hummed" (defArgs s_hummed) (defBody s_hummed) (defScope s_hummed) .none kV doc pm an cdv ct) ⟨us, []⟩ = pure ((["sleeper", "state", "word"] : List Str).zip us) :=
  fun _ _ _ _ _ _ us hl => match us, hl with | [_, _, _], _ => rfl
abbrev s_dozing_anew : Stmt := (top 28)
abbrev N_dozing_anew : List Str := ["sleeper"]
theorem sc_dozing_anew : FnScope N_dozing_anew ["sleeper"] (defScope s_dozing_anew) := C8.fnScope_by (by decide +kernel)
theorem bd_dozing_anew : ∀ (kV doc pm : Value) (an : Option Addr) (cdv ct : Value) (us : List Value), us.length = (["sleeper"] : List Str).length → bindArgs (PySem.W.fnOf "dozing_anew" "dozing_anew" (defArgs s_dozing_anew) (defBody s_dozing_anew) (defScope s_dozing_anew) .none kV doc pm an cdv ct) ⟨us, []⟩ = pure ((["sleeper"] : List Str).zip us) :=
  fun _ _ _ _ _ _ us hl => match us, hl with | [_], _ => rfl
abbrev s_sort_of : Stmt := (top 29)
abbrev N_sort_of : List Str := ["sleeper", "noise", "name", "sort"]
theorem sc_sort_of : FnScope N_sort_of ["sleeper", "noise"] (defScope s_sort_of) := C8.fnScope_by (by decide +kernel)
theorem bd_sort_of : ∀ (kV doc pm : Value) (an : Option Addr) (cdv ct : Value) (us : List Value), us.length = (["sleeper", "noise"] : List Str).length → bindArgs (PySem.W.fnOf "sort_of" "sort_of" (defArgs s_sort_of) (defBody s_sort_of) (defScope s_sort_of) .none kV doc pm an cdv ct) ⟨us, []⟩ = pure ((["sleeper", "noise"] : List Str).zip us) :=
  fun _ _ _ _ _ _ us hl => match us, hl with | [_, _], _ => rfl
abbrev s_heard_asleep : Stmt := (top 30)
abbrev N_heard_asleep : List Str := ["sleeper", "state", "noise", "sort"]
theorem sc_heard_asleep : FnScope N_heard_asleep ["sleeper", "state", "noise", "sort"] (defScope s_heard_asleep) := C8.fnScope_by (by decide +kernel)
theorem bd_heard_asleep : ∀ (kV doc pm : Value) (an : Option Addr) (cdv ct : Value) (us : List Value), us.length = (["sleeper", "state", "noise", "sort"] : List Str).length → bindArgs (PySem.W.fnOf "heard_asleep" "heard_asleep" (defArgs s_heard_asleep) (defBody s_heard_asleep) (defScope s_heard_asleep) .none kV doc pm an cdv ct) ⟨us, []⟩ = pure ((["sleeper", "state", "noise", "sort"] : List Str).zip us) :=
  fun _ _ _ _ _ _ us hl => match us, hl with | [_, _, _, _], _ => rfl
abbrev s_heard_loud_dozing : Stmt := (top 31)
abbrev N_heard_loud_dozing : List Str := ["sleeper", "state"]
theorem sc_heard_loud_dozing : FnScope N_heard_loud_dozing ["sleeper", "state"] (defScope s_heard_loud_dozing) := C8.fnScope_by (by decide +kernel)
theorem bd_heard_loud_dozing : ∀ (kV doc pm : Value) (an : Option Addr) (cdv ct : Value) (us : List Value), us.length = (["sleeper", "state"] : List Str).length → bindArgs (PySem.W.fnOf "heard_loud_dozing" "heard_loud_dozing" (defArgs s_heard_loud_dozing) (defBody s_heard_loud_dozing) (defScope s_heard_loud_dozing) .none kV doc pm an cdv ct) ⟨us, []⟩ = pure ((["sleeper", "state"] : List Str).zip us) :=
  fun _ _ _ _ _ _ us hl => match us, hl with | [_, _], _ => rfl
abbrev s_deal : Stmt := (top 33)
abbrev N_deal : List Str := ["_law_script", "_law_base", "_law_cells", "_law_cell", "_law_mixed_here", "_law_great"]
theorem sc_deal : FnScope N_deal ["_law_script", "_law_base"] (defScope s_deal) := C8.fnScope_by (by decide +kernel)
theorem bd_deal : ∀ (kV doc pm : Value) (an : Option Addr) (cdv ct : Value) (us : List Value), us.length = (["_law_script", "_law_base"] : List Str).length → bindArgs (PySem.W.fnOf "_law_deal" "_law_deal" (defArgs s_deal) (defBody s_deal) (defScope s_deal) .none kV doc pm an cdv ct) ⟨us, []⟩ = pure ((["_law_script", "_law_base"] : List Str).zip us) :=
  fun _ _ _ _ _ _ us hl => match us, hl with | [_, _], _ => rfl
abbrev s_draw : Stmt := (top 34)
abbrev N_draw : List Str := ["_law_deal_here", "_law_many", "_law_digit", "_law_first", "_law_second"]
theorem sc_draw : FnScope N_draw ["_law_deal_here", "_law_many"] (defScope s_draw) := C8.fnScope_by (by decide +kernel)
theorem bd_draw : ∀ (kV doc pm : Value) (an : Option Addr) (cdv ct : Value) (us : List Value), us.length = (["_law_deal_here", "_law_many"] : List Str).length → bindArgs (PySem.W.fnOf "_law_draw" "_law_draw" (defArgs s_draw) (defBody s_draw) (defScope s_draw) .none kV doc pm an cdv ct) ⟨us, []⟩ = pure ((["_law_deal_here", "_law_many"] : List Str).zip us) :=
  fun _ _ _ _ _ _ us hl => match us, hl with | [_, _], _ => rfl
abbrev s_pick : Stmt := (top 35)
abbrev N_pick : List Str := ["_law_deal_here", "_law_some"]
theorem sc_pick : FnScope N_pick ["_law_deal_here", "_law_some"] (defScope s_pick) := C8.fnScope_by (by decide +kernel)
theorem bd_pick : ∀ (kV doc pm : Value) (an : Option Addr) (cdv ct : Value) (us : List Value), us.length = (["_law_deal_here", "_law_some"] : List Str).length → bindArgs (PySem.W.fnOf "_law_pick" "_law_pick" (defArgs s_pick) (defBody s_pick) (defScope s_pick) .none kV doc pm an cdv ct) ⟨us, []⟩ = pure ((["_law_deal_here", "_law_some"] : List Str).zip us) :=
  fun _ _ _ _ _ _ us hl => match us, hl with | [_, _], _ => rfl
abbrev s_mixed : Stmt := (top 36)
abbrev N_mixed : List Str := ["_law_deal_here", "_law_some", "_law_left", "_law_found"]
theorem sc_mixed : FnScope N_mixed ["_law_deal_here", "_law_some"] (defScope s_mixed) := C8.fnScope_by (by decide +kernel)
theorem bd_mixed : ∀ (kV doc pm : Value) (an : Option Addr) (cdv ct : Value) (us : List Value), us.length = (["_law_deal_here", "_law_some"] : List Str).length → bindArgs (PySem.W.fnOf "_law_mixed" "_law_mixed" (defArgs s_mixed) (defBody s_mixed) (defScope s_mixed) .none kV doc pm an cdv ct) ⟨us, []⟩ = pure ((["_law_deal_here", "_law_some"] : List Str).zip us) :=
  fun _ _ _ _ _ _ us hl => match us, hl with | [_, _], _ => rfl
abbrev s_words : Stmt := (top 37)
abbrev N_words : List Str := ["_law_deal_here", "_law_many"]
theorem sc_words : FnScope N_words ["_law_deal_here", "_law_many"] (defScope s_words) := C8.fnScope_by (by decide +kernel)
theorem bd_words : ∀ (kV doc pm : Value) (an : Option Addr) (cdv ct : Value) (us : List Value), us.length = (["_law_deal_here", "_law_many"] : List Str).length → bindArgs (PySem.W.fnOf "_law_words" "_law_words" (defArgs s_words) (defBody s_words) (defScope s_words) .none kV doc pm an cdv ct) ⟨us, []⟩ = pure ((["_law_deal_here", "_law_many"] : List Str).zip us) :=
  fun _ _ _ _ _ _ us hl => match us, hl with | [_, _], _ => rfl
abbrev s_drawn_sleeper : Stmt := (top 38)
abbrev N_drawn_sleeper : List Str := ["_law_deal_here", "_law_words_here", "_law_sorts", "_law_word", "_law_sort", "_law_loud"]
theorem sc_drawn_sleeper : FnScope N_drawn_sleeper ["_law_deal_here", "_law_words_here"] (defScope s_drawn_sleeper) := C8.fnScope_by (by decide +kernel)
theorem bd_drawn_sleeper : ∀ (kV doc pm : Value) (an : Option Addr) (cdv ct : Value) (us : List Value), us.length = (["_law_deal_here", "_law_words_here"] : List Str).length → bindArgs (PySem.W.fnOf "_law_drawn_sleeper" "_law_drawn_sleeper" (defArgs s_drawn_sleeper) (defBody s_drawn_sleeper) (defScope s_drawn_sleeper) .none kV doc pm an cdv ct) ⟨us, []⟩ = pure ((["_law_deal_here", "_law_words_here"] : List Str).zip us) :=
  fun _ _ _ _ _ _ us hl => match us, hl with | [_, _], _ => rfl
abbrev s_sleeper_of : Stmt := (top 39)
abbrev N_sleeper_of : List Str := ["_law_one"]
theorem sc_sleeper_of : FnScope N_sleeper_of ["_law_one"] (defScope s_sleeper_of) := C8.fnScope_by (by decide +kernel)
theorem bd_sleeper_of : ∀ (kV doc pm : Value) (an : Option Addr) (cdv ct : Value) (us : List Value), us.length = (["_law_one"] : List Str).length → bindArgs (PySem.W.fnOf "_law_sleeper_of" "_law_sleeper_of" (defArgs s_sleeper_of) (defBody s_sleeper_of) (defScope s_sleeper_of) .none kV doc pm an cdv ct) ⟨us, []⟩ = pure ((["_law_one"] : List Str).zip us) :=
  fun _ _ _ _ _ _ us hl => match us, hl with | [_], _ => rfl
abbrev s_states : Stmt := (top 40)
abbrev N_states : List Str := ["_law_one", "_law_found", "_law_t", "_law_name", "_law_sort", "_law_ago"]
theorem sc_states : FnScope N_states ["_law_one"] (defScope s_states) := C8.fnScope_by (by decide +kernel)
theorem bd_states : ∀ (kV doc pm : Value) (an : Option Addr) (cdv ct : Value) (us : List Value), us.length = (["_law_one"] : List Str).length → bindArgs (PySem.W.fnOf "_law_states" "_law_states" (defArgs s_states) (defBody s_states) (defScope s_states) .none kV doc pm an cdv ct) ⟨us, []⟩ = pure ((["_law_one"] : List Str).zip us) :=
  fun _ _ _ _ _ _ us hl => match us, hl with | [_], _ => rfl
abbrev s_row : Stmt := (top 41)
abbrev N_row : List Str := ["_law_made", "_law_state", "_law_noises", "_law_noise"]
theorem sc_row : FnScope N_row ["_law_made", "_law_state", "_law_noises"] (defScope s_row) := C8.fnScope_by (by decide +kernel)
theorem bd_row : ∀ (kV doc pm : Value) (an : Option Addr) (cdv ct : Value) (us : List Value), us.length = (["_law_made", "_law_state", "_law_noises"] : List Str).length → bindArgs (PySem.W.fnOf "_law_row" "_law_row" (defArgs s_row) (defBody s_row) (defScope s_row) .none kV doc pm an cdv ct) ⟨us, []⟩ = pure ((["_law_made", "_law_state", "_law_noises"] : List Str).zip us) :=
  fun _ _ _ _ _ _ us hl => match us, hl with | [_, _, _], _ => rfl
abbrev s_law : Stmt := (top 42)
abbrev N_law : List Str := ["_law_script", "_law_deal_here", "_law_turn", "_law_words_here", "_law_one", "_law_made", "_law_long", "_law_states_here", "_law_sorts", "_law_state", "_law_first", "_law_second", "_law_pair", "_law_word"]
theorem sc_law : FnScope N_law ["_law_script"] (defScope s_law) := C8.fnScope_by (by decide +kernel)
theorem bd_law : ∀ (kV doc pm : Value) (an : Option Addr) (cdv ct : Value) (us : List Value), us.length = (["_law_script"] : List Str).length → bindArgs (PySem.W.fnOf "law" "law" (defArgs s_law) (defBody s_law) (defScope s_law) .none kV doc pm an cdv ct) ⟨us, []⟩ = pure ((["_law_script"] : List Str).zip us) :=
  fun _ _ _ _ _ _ us hl => match us, hl with | [_], _ => rfl
/-- what the module's names stand for -/
structure Tx (K : PySem.W.Frag) (mg : Str → Option Value) : Prop where
  n_len : mg "len" = none
  n_set : mg "set" = none
  n_abs : mg "abs" = none
  n_min : mg "min" = none
  n_int : mg "int" = none
  n_str : mg "str" = none
  n_bool : mg "bool" = none
  n_list : mg "list" = none
  n_tuple : mg "tuple" = none
  n_dict : mg "dict" = none
  n_isinstance : mg "isinstance" = none
  n_all : mg "all" = none
  n_sorted : mg "sorted" = none
  n_range : mg "range" = none
  s_LETTERS : ∃ t, mg "LETTERS" = some (.str "abcdefghijklmnopqrstuvwxyz" t)
  g_SORTS : mg "SORTS" = some (.ref (He.ga K "SORTS"))
  t_SORTS : ∀ H, SqT K H (He.ga K "SORTS") [.str "faint", .str "loud", .str "soft", .str "sudden"]
  g_LOUD_RULES : mg "LOUD_RULES" = some (.ref (He.ga K "LOUD_RULES"))
  t_LOUD_RULES : ∀ H, SqT K H (He.ga K "LOUD_RULES") [.str "again", .str "nothing", .str "wake"]
  g_UP : mg "UP" = some (.ref (He.ga K "UP"))
  t_UP : ∀ H, SqT K H (He.ga K "UP") [.str "up"]
  g_ASLEEP : mg "ASLEEP" = some (.ref (He.ga K "ASLEEP"))
  t_ASLEEP : ∀ H, SqT K H (He.ga K "ASLEEP") [.str "asleep"]
  g_WOKEN : mg "WOKEN" = some (.ref (He.ga K "WOKEN"))
  t_WOKEN : ∀ H, SqT K H (He.ga K "WOKEN") [.str "woken"]
  cls : Cls K (He.ga K "Sleeper")
  a_sorts : NoAttr K (He.ga K "Sleeper") "sorts"
  a_stir : NoAttr K (He.ga K "Sleeper") "stir"
  a_doze : NoAttr K (He.ga K "Sleeper") "doze"
  a_near : NoAttr K (He.ga K "Sleeper") "near"
  a_loud : NoAttr K (He.ga K "Sleeper") "loud"
end Lw
set_option Elab.async false
set_option linter.all false
set_option maxRecDepth 100000
set_option maxHeartbeats 4000000
namespace Lw
open PySem PySem.Spec PyProof.Rows L2 Hb
def spDraw : Sp := fun vs H Q _ => ∃ (d g : Addr) (many : Int), vs = [.ref d, .int many] ∧ Deal d g H ∧ 0 < many ∧ many < 1000000 ∧
  ∀ (H' : Hp) (r : Int), Deal d g H' → Kp d g H H' → 0 ≤ r → r < many → Q (.int r) H'
def lenAt (g : Addr) (H : Hp) : Nat := match H g with
  | some (.lst xs) => xs.length
  | _ => 0
theorem lenAt_of {g : Addr} {H : Hp} {xs : List V} (h : H g = some (.lst xs)) : lenAt g H = xs.length := by unfold lenAt; rw [h]
section
variable {P : Program} {w : World} {K : PySem.W.Frag} {mg : Str → Option Value} {base : Heap}
theorem c_draw (D : Df K mg "_law_draw" s_draw) (T : Tx K mg) : C8.Cal P w K mg base 1 "_law_draw" spDraw [] := by
  refine cal_mk D sc_draw bd_draw (fun vs H Q E h => ?_) fun f cdv A outer s H vs Q E hr h => ?_
  · obtain ⟨d, g, many, rfl, _⟩ := h
    rfl
  · obtain ⟨d, g, many, rfl, ⟨ns, now, mixed, turn, x⟩, m0, m1, k⟩ := h
    have hu := hu_of hr
    refine ⟨_, (pss_cons (ps_while PassesOwn.never (PW.pt (pw_and (pt_cmpR op_eq (pe_dget hu (pv 0) pe_str (fun _ _ => rfl)) pe_int (by first | exact nomark _ | rfl)) (pw_and1 (pt_cmpR op_gt (pe_callB call_len (by rfl) T.n_len (by decide +kernel) (pa_cons (pe_dget hu (pv 0) pe_str (fun _ _ => rfl)) pa_nil)) pe_int (by first | exact nomark _ | rfl)))))
 (pss_one (ps_dput hu (pv 0) pe_str (pe_bm0 PySem.F.plainAttrs_list PySem.F.slot_list_pop PySem.F.type_list_pop mt_pop (pe_dget hu (pv 0) pe_str (fun _ _ => rfl))) rfl)))
 (pss_cons (ps_if (pt_cmpR op_gt (pe_dget hu (pv 0) pe_str (fun _ _ => rfl)) pe_int (by first | exact nomark _ | rfl))
 (pss_cons (ps_set (i := 2) sc_draw.nd rfl (Or.inl rfl) (pe_op op_mod (pe_callTy call_int1 (by rfl) T.n_int (by decide +kernel) (pa_cons (pe_dget hu (pv 0) pe_str (fun _ _ => rfl)) pa_nil)) (pv 1)))
 (pss_cons (ps_dput hu (pv 0) pe_str (pe_op op_fdiv (pe_dget hu (pv 0) pe_str (fun _ _ => rfl)) (pv 1)) rfl)
 (pss_one (ps_ret (pv 2)))))
 pss_nil)
 (pss_cons (ps_dput hu (pv 0) pe_str (pe_op op_add (pe_dget hu (pv 0) pe_str (fun _ _ => rfl)) pe_int) rfl)
 (pss_cons (ps_set (i := 3) sc_draw.nd rfl (Or.inl rfl) (pe_op op_mod (pe_callTy call_int1 (by rfl) T.n_int (by decide +kernel) (pa_cons (pe_op op_add (pe_op op_mul (pe_dget hu (pv 0) pe_str (fun _ _ => rfl)) pe_int) (pe_op op_mul (pe_dget hu (pv 0) pe_str (fun _ _ => rfl)) pe_int)) pa_nil)) pe_int))
 (pss_cons (ps_set (i := 4) sc_draw.nd rfl (Or.inl rfl) (pe_op op_mod (pe_callTy call_int1 (by rfl) T.n_int (by decide +kernel) (pa_cons (pe_op op_add (pe_op op_mul (pv 3) (pv 3)) (pe_op op_mul (pe_dget hu (pv 0) pe_str (fun _ _ => rfl)) pe_int)) pa_nil)) pe_int))
 (pss_cons (ps_dput hu (pv 0) pe_str (pe_op op_add (pe_op op_mod (pe_callTy call_int1 (by rfl) T.n_int (by decide +kernel) (pa_cons (pe_op op_add (pe_op op_mul (pv 4) pe_int) (pv 3)) pa_nil)) pe_int) pe_int) rfl)
 (pss_one (ps_ret (pe_op op_mod (pe_callTy call_int1 (by rfl) T.n_int (by decide +kernel) (pa_cons (pe_op op_add (pe_op op_fdiv (pv 4) pe_int) (pv 3)) pa_nil)) (pv 1)))))))))), ?_⟩
    refine cut_seq (fun σ' H' => σ' = start N_draw [.ref d, .int many] ∧ Deal d g H' ∧ Kp d g H H') ?rest fun rest => while_by (fun σ H' => σ = start N_draw [.ref d, .int many] ∧ Deal d g H' ∧ Kp d g H H') (fun _ H' => lenAt g H') ⟨rfl, ⟨ns, now, mixed, turn, x⟩, Kp.refl _ _ _⟩ ?_ ?_
    case rest =>
      rintro σ H1 ⟨rfl, ⟨ns, now, mixed, turn, x⟩, kp⟩
      refine ⟨_, rfl, d, _, rfl, DGet.k (k := Sum.inr "now") x.d, _, _, rfl, rfl, _, rfl, ?_⟩
      refine ite2 (fun h0 => ?_) (fun h0 => ?_)
      · have h1 : 0 < now := of_decide_eq_true h0
        refine ⟨_, rfl, d, _, rfl, DGet.k (k := Sum.inr "now") x.d, .inl ⟨_, rfl, _, rfl, _, _, rfl, rfl, m0, ?_⟩⟩
        refine ⟨_, rfl, d, _, rfl, DGet.k (k := Sum.inr "now") x.d, _, rfl, _, _, rfl, rfl, ⟨m0, by omega⟩, ?_⟩
        refine ⟨_, rfl, d, _, rfl, DPut.k (k := Sum.inr "now") x.d (by show 4 < sizeLine; decide), _, rfl, ?_⟩
        rw [show putK (dealKV g now mixed turn) (Sum.inr "now") (V.int (now / many)) = dealKV g (now / many) mixed turn from rfl]
        exact k _ _ ⟨ns, now / many, mixed, turn, ⟨upd_same, by rw [upd_ne x.ne.symm]; exact x.g, x.few, x.pos, Int.ediv_nonneg x.now (Int.le_of_lt m0)⟩⟩ (kp.trans Kp.put_d) (Int.emod_nonneg _ (by omega)) (Int.emod_lt_of_pos _ m0)
      · refine ⟨_, rfl, d, _, rfl, DGet.k (k := Sum.inr "turn") x.d, _, _, rfl, rfl, _, rfl, d, _, rfl, DPut.k (k := Sum.inr "turn") x.d (by show 4 < sizeLine; decide), ?_⟩
        rw [show putK (dealKV g now mixed turn) (Sum.inr "turn") (V.int (turn + 1)) = dealKV g now mixed (turn + 1) from rfl]
        have y : Dl d g (upd H1 d (.dK (dealKV g now mixed (turn + 1)))) ns now mixed (turn + 1) := ⟨upd_same, by rw [upd_ne x.ne.symm]; exact x.g, x.few, x.pos, x.now⟩
        refine ⟨_, rfl, d, _, rfl, DGet.k (k := Sum.inr "mixed") y.d, _, _, rfl, rfl, .inr (by decide), _, rfl, d, _, rfl, DGet.k (k := Sum.inr "turn") y.d, _, _, rfl, rfl, .inr (by decide), _, _, rfl, rfl, .inl ⟨_, rfl, _, _, rfl, rfl, (by show (0 : Int) < 2147483629; decide), ?_⟩⟩
        have f0 : 0 ≤ (mixed * 48271 + (turn + 1) * 69621) % 2147483629 := by omega
        have f1 : (mixed * 48271 + (turn + 1) * 69621) % 2147483629 < 2147483629 := by omega
        refine ⟨_, rfl, _, rfl, _, _, rfl, rfl, .inl ⟨by omega, by omega⟩, _, rfl, d, _, rfl, DGet.k (k := Sum.inr "turn") y.d, _, _, rfl, rfl, .inr (by decide), _, _, rfl, rfl, .inl ⟨_, rfl, _, _, rfl, rfl, (by show (0 : Int) < 2147483563; decide), ?_⟩⟩
        refine ⟨_, rfl, _, _, rfl, rfl, .inr (by decide), _, rfl, _, _, rfl, rfl, .inl ⟨_, rfl, _, _, rfl, rfl, (by show (0 : Int) < 2147483647; decide), _, _, rfl, rfl, _, rfl, d, _, rfl, DPut.k (k := Sum.inr "mixed") y.d (by show 4 < sizeLine; decide), ?_⟩⟩
        refine ⟨_, rfl, _, _, rfl, rfl, ⟨by decide, by decide⟩, _, rfl, _, _, rfl, rfl, .inl ⟨_, rfl, _, rfl, _, _, rfl, rfl, m0, ?_⟩⟩
        exact k _ _ ⟨ns, now, _, turn + 1, ⟨Eq.trans upd_same (congrArg (fun z => some (HO.dK z)) (put_mixed _ _ _ _ _)), by rw [upd_ne x.ne.symm]; exact y.g, x.few, x.pos, x.now⟩⟩ (kp.trans (Kp.trans Kp.put_d Kp.put_d)) (Int.emod_nonneg _ (by omega)) (Int.emod_lt_of_pos _ m0)
    · rintro σ H1 ⟨rfl, ⟨ns, now, mixed, turn, x⟩, kp⟩
      have nl : lenAt g H1 = ns.length := by rw [lenAt_of x.g, List.length_map]
      refine ⟨_, rfl, d, _, rfl, DGet.k (k := Sum.inr "now") x.d, rfl, _, rfl, ?_⟩
      refine ite2 (fun h0 => ?_) (fun h0 => ?_)
      · refine ⟨_, rfl, d, _, rfl, DGet.k (k := Sum.inr "great") x.d, _, _, rfl, .inl ⟨_, SqL.of x.g, rfl⟩, _, _, rfl, rfl, _, rfl, ?_⟩
        refine ite2 (fun h1 => ?_) (fun h1 => ?_)
        · have h1' := of_decide_eq_true h1
          rw [List.length_map] at h1'
          have hlt : ns.length - 1 < ns.length := by omega
          refine ⟨_, rfl, d, _, rfl, DGet.k (k := Sum.inr "great") x.d, .inl ⟨rfl, _, SqL.of x.g⟩, g, _, V.int (ns[ns.length - 1]), rfl, rfl, x.g, by rw [List.length_map, List.getElem?_map, List.getElem?_eq_getElem hlt] <;> rfl, ?_⟩
          refine ⟨_, rfl, d, _, rfl, DPut.k (k := Sum.inr "now") (Eq.trans (upd_ne x.ne) x.d) (by show 4 < sizeLine; decide), ?_⟩
          rw [show putK (dealKV g now mixed turn) (Sum.inr "now") (V.int ns[ns.length - 1]) = dealKV g (ns[ns.length - 1]) mixed turn from rfl]
          rw [show (ns.map V.int).dropLast = ns.dropLast.map V.int by rw [List.map_dropLast]]
          have y : Dl d g (upd (upd H1 g (.lst (ns.dropLast.map V.int))) d (.dK (dealKV g (ns[ns.length - 1]) mixed turn))) ns.dropLast (ns[ns.length - 1]) mixed turn :=
            ⟨upd_same, by rw [upd_ne x.ne.symm]; exact upd_same, by rw [List.length_dropLast]; have := x.few; omega, fun n hn => x.pos n ((List.dropLast_sublist _).subset hn), x.pos _ (List.getElem_mem hlt)⟩
          refine ⟨⟨rfl, ⟨_, _, _, _, y⟩, kp.trans (Kp.trans Kp.put_g Kp.put_d)⟩, ?_⟩
          rw [nl, lenAt_of y.g, List.length_map, List.length_dropLast]
          omega
        · exact rest _ _ ⟨rfl, ⟨ns, now, mixed, turn, x⟩, kp⟩
      · exact rest _ _ ⟨rfl, ⟨ns, now, mixed, turn, x⟩, kp⟩
    · intro σ H1 Q1 Q2 hq hc
      obtain ⟨v1, e1, a1, v2, e2, g1, s1, b1, eb, hc⟩ := hc
      refine ⟨v1, e1, a1, v2, e2, g1, s1, b1, eb, ?_⟩
      cases b1 with
      | false =>
        rw [if_neg Bool.false_ne_true] at hc
        exact iteF (hq _ _ hc)
      | true =>
        rw [if_pos rfl] at hc
        obtain ⟨v1, e1, a1, v2, e2, g1, v3, n3, e3, l3, i3, j3, e4, e5, b3, e6, hc⟩ := hc
        exact iteT ⟨v1, e1, a1, v2, e2, g1, v3, n3, e3, l3, i3, j3, e4, e5, b3, e6, hq _ _ hc⟩
end
end Lw
set_option Elab.async false
set_option linter.all false
set_option maxRecDepth 100000
set_option maxHeartbeats 4000000
namespace Lw
open PySem PySem.Spec PyProof.Rows L2 Hb
/-- one of them -/
def spPick (K : PySem.W.Frag) : Sp := fun vs H Q _ => ∃ (d g l : Addr) (xs : List V), vs = [.ref d, .ref l] ∧ Deal d g H ∧ ((H l = some (.lst xs) ∧ l ≠ g) ∨ SqT K H l xs) ∧ xs ≠ [] ∧ xs.length < 1000000 ∧
  ∀ (H' : Hp) (v : V), v ∈ xs → Deal d g H' → Kp d g H H' → Q v H'
/-- all of them in some order, a new list -/
def spMixed (K : PySem.W.Frag) : Sp := fun vs H Q _ => ∃ (d g l : Addr) (xs : List V), vs = [.ref d, .ref l] ∧ Deal d g H ∧ (SqL K H l xs ∨ SqT K H l xs) ∧ xs.length < 1000000 ∧ (∀ v ∈ xs, Hb.Good K H v) ∧
  ∀ (H' : Hp) (p : Addr) (ys : List V), Deal d g H' → Kp d g H H' → H p = none → H' p = some (.lst ys) → p ≠ g → ys.Perm xs → Q (.ref p) H'
section
variable {P : Program} {w : World} {K : PySem.W.Frag} {mg : Str → Option Value} {base : Heap}
theorem c_pick (D : Df K mg "_law_pick" s_pick) (T : Tx K mg) (c_draw : C8.Cal P w K mg base 1 "_law_draw" spDraw []) : C8.Cal P w K mg base 2 "_law_pick" (spPick K) [] := by
  refine cal_mk D sc_pick bd_pick (fun vs H Q E h => ?_) fun f cdv A outer s H vs Q E hr h => ?_
  · obtain ⟨d, g, l, xs, rfl, _⟩ := h
    rfl
  · obtain ⟨d, g, l, xs, rfl, dl, hl, ne, few, k⟩ := h
    have n0 : 0 < xs.length := List.length_pos_iff.mpr ne
    refine ⟨_, (pss_one (ps_ret (pe_ix ix_seq (pv 1) (C8.pe_c c_draw hr (by decide) rfl (pa_cons (pv 0) (pa_cons (pe_callB call_len (by rfl) T.n_len (by decide +kernel) (pa_cons (pv 1) pa_nil)) pa_nil))) (fun _ _ => rfl)))), ?_⟩
    refine ⟨_, rfl, _, rfl, _, rfl, .ref l, xs.length, rfl, ?_, d, g, xs.length, rfl, dl, by omega, by omega, fun H1 r d1 k1 r0 r1 => ?_⟩
    · rcases hl with ⟨h, _⟩ | h
      · exact .inl ⟨_, SqL.of h, rfl⟩
      · exact .inr ⟨_, h, rfl⟩
    · have hlt : r.toNat < xs.length := by omega
      have at_ : atI xs r = some xs[r.toNat] := by
        have q := atI_nat (xs := xs) (j := r.toNat) (List.getElem?_eq_getElem hlt)
        rw [show ((r.toNat : Nat) : Int) = r by omega] at q
        exact q
      have fin : Q xs[r.toNat] H1 := k _ _ (List.getElem_mem hlt) d1 k1
      rcases hl with ⟨h, n⟩ | h
      · exact .inl ⟨l, xs, r, _, rfl, rfl, SqL.of (k1 l _ (dl.ne_d h (by intro kvs q; cases q)) n h), at_, fin⟩
      · exact .inr (.inl ⟨l, xs, r, _, rfl, rfl, SqT.keep (dl.tk k1) h, at_, fin⟩)
theorem c_mixed (D : Df K mg "_law_mixed" s_mixed) (T : Tx K mg) (c_draw : C8.Cal P w K mg base 1 "_law_draw" spDraw []) : C8.Cal P w K mg base 2 "_law_mixed" (spMixed K) [] := by
  refine cal_mk D sc_mixed bd_mixed (fun vs H Q E h => ?_) fun f cdv A outer s H vs Q E hr h => ?_
  · obtain ⟨d, g, l, xs, rfl, _⟩ := h
    rfl
  · obtain ⟨d, g, l0, xs, rfl, dl, hl, few, good, k⟩ := h
    refine ⟨_, (pss_cons (ps_par (i := 2) (j := 3) (by rfl) sc_mixed.nd rfl rfl (by decide) rfl rfl (pa_cons (pe_callTy call_list_of (by rfl) T.n_list (by decide +kernel) (pa_cons (pv 1) pa_nil)) (pa_cons (pe_lst pa_nil) pa_nil)) (by rfl))
 (pss_cons (ps_while PassesOwn.never (pt_cmpR (op_neD hr.units) (pv 2) (pe_lst pa_nil) (by first | exact nomark _ | rfl))
 (pss_one (ps_expr (pe_bm PySem.F.plainAttrs_list PySem.F.slot_list_append PySem.F.type_list_append mt_append (pv 3) (pa_cons (pe_bm PySem.F.plainAttrs_list PySem.F.slot_list_pop PySem.F.type_list_pop mt_popAt (pv 2) (pa_cons (C8.pe_c c_draw hr (by decide) rfl (pa_cons (pv 0) (pa_cons (pe_callB call_len (by rfl) T.n_len (by decide +kernel) (pa_cons (pv 2) pa_nil)) pa_nil))) pa_nil)) pa_nil)))))
 (pss_one (ps_ret (pv 3))))), ?_⟩
    refine ⟨_, rfl, _, _, rfl, hl, fun l nl => ?_⟩
    refine ⟨Nat.zero_le _, fun q nq => ?_⟩
    have nlq : l ≠ q := ne_of_none upd_same nq
    have d1 := (dl.new nl).new nq (o := .lst [])
    have k0 : Same H (upd (upd H l (.lst xs)) q (.lst [])) := (Same.new nl).trans (Same.new nq)
    have nq2 := nq
    rw [upd_ne nlq.symm] at nq2
    refine ⟨_, _, rfl, ?_⟩
    refine while_by (fun σ H' => σ = [some (.ref d), some (.ref l0), some (.ref l), some (.ref q)] ∧ Deal d g H' ∧ Kp d g H H' ∧ ∃ ls fs, H' l = some (.lst ls) ∧ H' q = some (.lst fs) ∧ (fs ++ ls).Perm xs) (fun _ H' => lenAt l H')
      ⟨rfl, d1, Hb.Same.kp k0, xs, [], by rw [upd_ne nlq, upd_same], upd_same, List.Perm.refl _⟩ ?_ ?_
    · rintro σ H1 ⟨rfl, d1, k1, ls, fs, hL, hF, pm⟩
      have gl : ∀ v ∈ ls, Hb.Good K H1 v := fun v hv => (good v (pm.mem_iff.mp (List.mem_append_right _ hv))).keep (dl.tk k1)
      obtain ⟨ds, td, shp⟩ := goods gl
      refine ⟨_, rfl, Nat.zero_le _, fun p np => ?_⟩
      have s1 : Same H1 (upd H1 p (.lst [])) := Same.new np
      refine ⟨.list ds, .list [], .lst (SqL.of (s1 _ _ hL)) (TDs.dp (TDs.keep (Same.tk s1) td)), .lst (SqL.of upd_same) .nil, shaped_list shp, shaped_list (fun d h => by cases h), _, rfl, ?_⟩
      rw [eqv_nil]
      have d2 : Deal d g (upd H1 p (.lst [])) := d1.same s1
      cases ls with
      | nil =>
        cases td
        refine iteF ⟨_, rfl, ?_⟩
        refine k _ q fs d2 (k1.trans (Hb.Same.kp s1)) ?_ (s1 _ _ hF) ((dl.new nl).free nq).2 (by simpa using pm)
        exact nq2
      | cons y0 ls =>
        cases td with
        | cons t1 t2 =>
          refine iteT ?_
          have len : (y0 :: ls).length = ls.length + 1 := rfl
          have pl := pm.length_eq
          rw [List.length_append] at pl
          refine ⟨_, rfl, .inl ⟨rfl, _, SqL.of (s1 _ _ hF)⟩, _, rfl, .inl ⟨rfl, _, SqL.of (s1 _ _ hL)⟩, _, rfl, _, rfl, .ref l, _, rfl, .inl ⟨_, SqL.of (s1 _ _ hL), rfl⟩, d, g, _, rfl, d2, by omega, by omega, fun H2 r d3 k3 r0 r1 => ?_⟩
          have nld : l ≠ d := d2.ne_d (s1 _ _ hL) (by intro kvs e; cases e)
          have nlg : l ≠ g := (dl.free nl).2
          have nqg : q ≠ g := ((dl.new nl).free nq).2
          have nqd : q ≠ d := d2.ne_d (s1 _ _ hF) (by intro kvs e; cases e)
          have hL2 := k3 l _ nld nlg (s1 _ _ hL)
          have hF2 := k3 q _ nqd nqg (s1 _ _ hF)
          have hlt : r.toNat < (y0 :: ls).length := by omega
          refine ⟨l, _, r, r.toNat, _, rfl, rfl, hL2, by omega, by omega, seqIx r0 r1, List.getElem?_eq_getElem hlt, ?_⟩
          refine ⟨q, _, _, rfl, rfl, Eq.trans (upd_ne nlq.symm) hF2, by have := sizeLine_eq; omega, ?_⟩
          have pe := perm_erase (xs := y0 :: ls) (k := r.toNat) (y := (y0 :: ls)[r.toNat]) (List.getElem?_eq_getElem hlt)
          refine ⟨⟨rfl, (d3.set nld nlg).set nqd nqg, fun b o n1 n2 e => ?_, _, _, Eq.trans (upd_ne nlq) upd_same, upd_same, ?_⟩, ?_⟩
          · rw [upd_ne (ne_of_none e nq2), upd_ne (ne_of_none e nl)]
            exact k3 b o n1 n2 (s1 _ _ (k1 b o n1 n2 e))
          · rw [List.append_assoc]
            exact (List.Perm.append_left fs pe).trans pm
          · rw [lenAt_of hL, lenAt_of (Eq.trans (upd_ne nlq) upd_same), List.length_eraseIdx_of_lt hlt]
            omega
    · rintro σ H1 Q1 Q2 hq ⟨v, e, z, hc⟩
      refine ⟨v, e, z, fun p np => ?_⟩
      obtain ⟨a, b, h1, h2, h3, h4, b5, e6, hc⟩ := hc p np
      exact ⟨a, b, h1, h2, h3, h4, b5, e6, hq _ _ hc⟩
end
end Lw
set_option Elab.async false
set_option linter.all false
set_option maxRecDepth 100000
set_option maxHeartbeats 4000000
namespace Lw
open PySem PySem.Spec PyProof.Rows L2 Hb
def eight : List Str := ["gate", "crk", "a", "zzzz", "door", "up", "tick", "loud"]
def spWords : Sp := fun vs H Q _ => ∃ (d g : Addr) (many : Int), vs = [.ref d, .int many] ∧ Deal d g H ∧ 0 ≤ many ∧ many ≤ 8 ∧
  ∀ (H' : Hp) (p : Addr) (ws : List Str), Deal d g H' → Kp d g H H' → H p = none → H' p = some (.lst (ws.map V.str)) → p ≠ g → ws.Nodup → (∀ w ∈ ws, w ∈ eight) → ws.length = many.toNat → Q (.ref p) H'
def unS : V → Str
  | .str x => x
  | _ => Str.empty
theorem unS_map (xs : List Str) : (xs.map V.str).map unS = xs := by
  rw [List.map_map]
  exact List.map_id xs
theorem strs_perm {ys : List V} {xs : List Str} (h : ys.Perm (xs.map V.str)) : ∃ zs : List Str, ys = zs.map V.str ∧ zs.Perm xs := by
  refine ⟨ys.map unS, ?_, by have := h.map unS; rw [unS_map] at this; exact this⟩
  rw [List.map_map]
  refine (List.map_id ys).symm.trans (List.map_congr_left fun v hv => ?_)
  obtain ⟨x, _, rfl⟩ := List.mem_map.mp (h.mem_iff.mp hv)
  rfl
theorem eight_nodup : eight.Nodup := by decide +kernel
theorem eight_ok : ∀ w ∈ eight, PyData.strOk w = true := by decide +kernel
theorem good_str {K : PySem.W.Frag} {H : Hp} {x : Str} (h : PyData.strOk x = true) : Hb.Good K H (.str x) := ⟨.str x, .str x, by simp only [PyData.canLay0]; exact h, by simp [PyData.depth]⟩
theorem cut_take (xs : List V) {i : Int} (h0 : 0 ≤ i) : cutV xs none (some i) = xs.take i.toNat := by
  have a : ¬ i < 0 := by omega
  simp [cutV, HT.sIx, a]
section
variable {P : Program} {w : World} {K : PySem.W.Frag} {mg : Str → Option Value} {base : Heap}
theorem c_words (D : Df K mg "_law_words" s_words) (T : Tx K mg) (c_mixed : C8.Cal P w K mg base 2 "_law_mixed" (spMixed K) []) : C8.Cal P w K mg base 3 "_law_words" spWords [] := by
  refine cal_mk D sc_words bd_words (fun vs H Q E h => ?_) fun f cdv A outer s H vs Q E hr h => ?_
  · obtain ⟨d, g, many, rfl, _⟩ := h
    rfl
  · obtain ⟨d, g, many, rfl, dl, m0, m1, k⟩ := h
    refine ⟨_, (pss_one (ps_ret (pe_slice sl_list (C8.pe_c c_mixed hr (by decide) rfl (pa_cons (pv 0) (pa_cons (pe_lst (pa_cons pe_str (pa_cons pe_str (pa_cons pe_str (pa_cons pe_str (pa_cons pe_str (pa_cons pe_str (pa_cons pe_str (pa_cons pe_str pa_nil))))))))) pa_nil))) po_none (po_some (pv 1))))), ?_⟩
    refine ⟨_, rfl, by show 8 ≤ sizeLine; decide, fun l nl => ?_⟩
    have dl2 := dl.new nl (o := .lst (eight.map V.str))
    refine ⟨d, g, l, eight.map V.str, rfl, dl2, .inl (SqL.of upd_same), by show 8 < 1000000; decide, fun v hv => ?_, fun H1 p ys d1 k1 np hp pg pm => ?_⟩
    · obtain ⟨x, hx, rfl⟩ := List.mem_map.mp hv
      exact good_str (eight_ok x hx)
    · obtain ⟨zs, rfl, pm2⟩ := strs_perm pm
      refine ⟨_, rfl, _, rfl, p, _, rfl, SqL.of hp, fun q nq => ?_⟩
      rw [show cutV (zs.map V.str) none (some many) = (zs.take many.toNat).map V.str by rw [cut_take _ m0, List.map_take]]
      have nH : H q = none := by
        have q1 := Kp.free k1 d1 nq
        exact (Same.new nl).free q1
      refine k _ q _ (d1.new nq) (((Hb.Same.kp (Same.new nl)).trans k1).trans (Hb.Same.kp (Same.new nq))) nH upd_same (d1.free nq).2 ((pm2.nodup_iff.mpr eight_nodup).sublist (List.take_sublist _ _)) (fun w hw => pm2.mem_iff.mp (List.mem_of_mem_take hw)) ?_
      rw [List.length_take, pm2.length_eq]
      show min many.toNat 8 = many.toNat
      omega
def absV1 : V → Option V
  | .int n => some (.int (if n < 0 then -n else n))
  | _ => none
def bigV : V → Option V
  | .int n => if 1000000000000000000 ≤ n then some (.int n) else none
  | _ => none
theorem cut_all {xs : List V} (h : xs.length ≤ 63) : cutV xs (some 0) (some 63) = xs := by
  have e : min 63 xs.length = xs.length := by omega
  simp [cutV, HT.sIx, e]
/-- the deal -/
def spDeal (K : PySem.W.Frag) : Sp := fun vs H Q _ => ∃ (a : Addr) (ns : List Int), vs = [.ref a, .int 0] ∧ SqL K H a (ns.map V.int) ∧ ns.length ≤ 63 ∧
  ∀ (H' : Hp) (d g : Addr), Deal d g H' → Same H H' → H d = none → H g = none → Q (.ref d) H'
theorem c_deal (D : Df K mg "_law_deal" s_deal) (T : Tx K mg) : C8.Cal P w K mg base 1 "_law_deal" (spDeal K) [] := by
  refine cal_mk D sc_deal bd_deal (fun vs H Q E h => ?_) fun f cdv A outer s H vs Q E hr h => ?_
  · obtain ⟨a, ns, rfl, _⟩ := h
    rfl
  · obtain ⟨a, ns, rfl, hS, few, k⟩ := h
    refine ⟨_, (pss_cons (ps_setLc (i := 2) (own := [("_law_cell", 3)]) (by rfl) sc_deal.nd rfl rfl (sw_true rfl rfl rfl (by decide +kernel)) (pi_list (pe_slice sl_list (pv 0) (po_some (pv 1)) (po_some pe_int))) (blkOk_by (N := N_deal) (sc := defScope s_deal) (by decide +kernel)) (fun _ _ _ _ _ => (pg_name (i := 3) sc_deal.nd rfl (Or.inl rfl))) (fun _ _ _ _ _ => pts_nil) (fun _ _ _ _ _ => (pe_callB call_abs (by rfl) T.n_abs (by decide +kernel) (pa_cons (pv 3) pa_nil))))
 (pss_cons (ps_set (i := 4) sc_deal.nd rfl (Or.inl rfl) (pe_op op_add pe_int (pv 1)))
 (pss_cons (ps_for PassesOwn.never rfl (pi_list (pv 2)) (pg_name (i := 3) sc_deal.nd rfl (Or.inl rfl))
 (pss_one (ps_set (i := 4) sc_deal.nd rfl (Or.inl rfl) (pe_op op_mod (pe_callTy call_int1 (by rfl) T.n_int (by decide +kernel) (pa_cons (pe_op op_add (pe_op op_mul (pv 4) pe_int) (pv 3)) pa_nil)) pe_int))))
 (pss_cons (ps_setLc (i := 5) (own := [("_law_cell", 3)]) (by rfl) sc_deal.nd rfl rfl (sw_true rfl rfl rfl (by decide +kernel)) (pi_list (pv 2)) (blkOk_by (N := N_deal) (sc := defScope s_deal) (by decide +kernel)) (fun _ _ _ _ _ => (pg_name (i := 3) sc_deal.nd rfl (Or.inl rfl))) (fun _ _ _ _ _ => (pts_one (pt_cmpR op_ge (pv 3) (pe_op op_pow pe_int pe_int) (by first | exact nomark _ | rfl)))) (fun _ _ _ _ _ => (pv 3)))
 (pss_one (ps_ret (pe_disp (pps_cons pe_str (pe_revL (pv 5)) (pps_cons pe_str pe_int (pps_cons pe_str (pe_op op_add (pv 4) pe_int) (pps_cons pe_str pe_int pps_nil)))) (by rfl) (by rfl) (fun z => by cases z) (by decide)))))))), ?_⟩
    have line := sizeLine_eq
    refine ⟨_, rfl, _, rfl, _, rfl, _, rfl, a, _, rfl, hS, fun p np => ?_⟩
    rw [show cutV (ns.map V.int) (some 0) (some 63) = ns.map V.int from cut_all (by rw [List.length_map]; exact few)]
    refine ⟨p, rfl, ⟨_, SqL.of upd_same⟩, fun D nD => lc_listP (xs := ns.map V.int) absV1 (by rw [List.length_map]; omega) (fun acc => SqL.laid (SqL.of upd_same) nD) ?_ ?_⟩
    · intro x hx acc N hl hN _
      obtain ⟨n, _, rfl⟩ := List.mem_map.mp hx
      refine ⟨rfl, yes_ ⟨_, rfl, n, rfl, acc, upd_same, hl, by rw [upd_upd]; exact hN _ rfl⟩⟩
    · rw [filterMap_ints (fun n => some (if n < 0 then -n else n)) ns absV1 (fun _ => rfl), List.filterMap_eq_map']
      have s1 : Same H (upd (upd H p (.lst (ns.map V.int))) D (.lst ((ns.map fun n => if n < 0 then -n else n).map V.int))) := (Same.new np).trans (Same.new nD)
      generalize hms : (ns.map fun n => if n < 0 then -n else n) = ms at s1 ⊢
      have few2 : ms.length ≤ 63 := by rw [← hms, List.length_map]; exact few
      generalize hH : upd (upd H p (.lst (ns.map V.int))) D (.lst (ms.map V.int)) = H2 at s1 ⊢
      have hD : H2 D = some (.lst (ms.map V.int)) := by rw [← hH]; exact upd_same
      refine ⟨_, rfl, _, _, rfl, rfl, ?_⟩
      refine ⟨_, rfl, D, rfl, ⟨_, SqL.of hD⟩, for_list (K := K) (a := D) (xs := ms.map V.int) (fun _ σ H' => ∃ z v, σ = [some (.ref a), some (.int 0), some (.ref D), v, some (.int z), none] ∧ H' = H2) ⟨_, none, rfl, rfl⟩ (fun _ _ _ _ ⟨_, _, _, e⟩ => by rw [e]; exact SqL.of hD) ?_ ?_⟩
      · rintro i x σ H' hx ⟨z, v, rfl, rfl⟩
        obtain ⟨n, _, rfl⟩ := List.mem_map.mp (List.mem_of_getElem? hx)
        exact ⟨_, rfl, _, _, rfl, rfl, .inr (by decide), _, rfl, _, _, rfl, rfl, .inl ⟨_, rfl, _, _, rfl, rfl, (by show (0 : Int) < 2147483647; decide), _, _, rfl, rfl⟩⟩
      · rintro σ H' ⟨z, v, rfl, rfl⟩
        refine ⟨_, rfl, D, rfl, ⟨_, SqL.of hD⟩, fun G nG => lc_listP (xs := ms.map V.int) bigV (by rw [List.length_map]; omega) (fun acc => SqL.laid (SqL.of hD) nG) ?_ ?_⟩
        · intro x hx acc N hl hN hN2
          obtain ⟨n, _, rfl⟩ := List.mem_map.mp hx
          refine ⟨rfl, _, rfl, _, _, rfl, rfl, ⟨by decide, by decide, by decide⟩, _, _, rfl, rfl, _, rfl, ?_⟩
          refine ite2 (fun q => ?_) (fun q => ?_)
          · have q' : (1000000000000000000 : Int) ≤ n := of_decide_eq_true q
            refine ⟨_, rfl, acc, upd_same, hl, ?_⟩
            rw [upd_upd]
            exact hN _ (by show (if _ then _ else _) = _; rw [if_pos q'])
          · have q' : ¬ (1000000000000000000 : Int) ≤ n := fun z => q (decide_eq_true z)
            exact hN2 (by show (if _ then _ else _) = _; rw [if_neg q'])
        · rw [filterMap_ints (fun n => if 1000000000000000000 ≤ n then some n else none) ms bigV (fun n => by show (if _ then _ else _) = _; split <;> simp_all)]
          have big : ∀ n ∈ ms.filterMap (fun n => if 1000000000000000000 ≤ n then some n else none), (0 : Int) ≤ n := fun n hn => by
            obtain ⟨m, _, e⟩ := List.mem_filterMap.mp hn
            by_cases q : (1000000000000000000 : Int) ≤ m
            · rw [if_pos q] at e
              cases e
              omega
            · rw [if_neg q] at e
              cases e
          have bl : (ms.filterMap (fun n => if 1000000000000000000 ≤ n then some n else none)).length ≤ 63 := Nat.le_trans (List.length_filterMap_le _ _) few2
          generalize ms.filterMap (fun n => if 1000000000000000000 ≤ n then some n else none) = gs at big bl ⊢
          intro d nd
          have ndG : d ≠ G := fun q => by rw [q, upd_same] at nd; cases nd
          have nd2 := nd
          rw [upd_ne ndG] at nd2
          refine ⟨_, rfl, G, _, rfl, SqL.of (Eq.trans (upd_ne ndG.symm) upd_same), fun g ng => ?_⟩
          have ngd : g ≠ d := fun q => by rw [q, upd_same] at ng; cases ng
          have ng2 := ng
          rw [upd_ne ngd] at ng2
          have ngG : g ≠ G := fun q => by rw [q, upd_same] at ng2; cases ng2
          rw [upd_ne ngG] at ng2
          refine ⟨_, rfl, _, _, rfl, rfl, Eq.trans (upd_ne ngd.symm) upd_same, dealKV g 0 (z + 1) 0, rfl, by show 4 ≤ 15; decide, ?_⟩
          rw [show mergeK [] (dealKV g 0 (z + 1) 0) = dealKV g 0 (z + 1) 0 from rfl]
          refine k _ d g ⟨gs.reverse, 0, z + 1, 0, ⟨upd_same, ?_, by rw [List.length_reverse]; exact bl, fun n hn => big n (List.mem_reverse.mp hn), by decide⟩⟩ ?_ (s1.free nd2) (s1.free ng2)
          · rw [upd_ne ngd, upd_same, List.map_reverse]
          · refine fun b o e => ?_
            have e1 := s1 b o e
            rw [upd_ne (ne_of_none e1 nd2), upd_ne (ne_of_none e1 ng2), upd_ne (ne_of_none e1 nd2), upd_ne (ne_of_none e1 nG)]
            exact e1
end
end Lw
set_option Elab.async false
set_option linter.all false
set_option maxRecDepth 100000
set_option maxHeartbeats 4000000
namespace Lw
open PySem PySem.Spec PyProof.Rows L2 Hb
def strV1 : V → Option V
  | .str n => some (.str n)
  | _ => none
def WordsOk (ws : List Str) : Prop := ∀ w ∈ ws, PyData.strOk w = true ∧ nameB w = true
theorem eight_words : WordsOk eight := by unfold WordsOk; decide +kernel
def spDrawn (K : PySem.W.Frag) : Sp := fun vs H Q _ => ∃ (d g l : Addr) (ws : List Str), vs = [.ref d, .ref l] ∧ Deal d g H ∧ SqL K H l (ws.map V.str) ∧ ws.Nodup ∧ ws.length ≤ 8 ∧ WordsOk ws ∧
  ∀ (H' : Hp) (p : Addr) (z : Zz), Deal d g H' → Kp d g H H' → H p = none → OneAt K H' p z → Zok z ws → Q (.ref p) H'
section
variable {P : Program} {w : World} {K : PySem.W.Frag} {mg : Str → Option Value} {base : Heap}
theorem c_drawn_sleeper (D : Df K mg "_law_drawn_sleeper" s_drawn_sleeper) (T : Tx K mg) (c_draw : C8.Cal P w K mg base 1 "_law_draw" spDraw []) (c_pick : C8.Cal P w K mg base 2 "_law_pick" (spPick K) []) :
    C8.Cal P w K mg base 3 "_law_drawn_sleeper" (spDrawn K) [] := by
  refine cal_mk D sc_drawn_sleeper bd_drawn_sleeper (fun vs H Q E h => ?_) fun f cdv A outer s H vs Q E hr h => ?_
  · obtain ⟨d, g, l, ws, rfl, _⟩ := h
    rfl
  · obtain ⟨d, g, l, ws, rfl, dl, hl, nd, few, wok, k⟩ := h
    have line := sizeLine_eq
    refine ⟨_, (pss_cons (ps_set (i := 2) sc_drawn_sleeper.nd rfl (Or.inl rfl) (pe_lst pa_nil))
 (pss_cons (ps_for PassesOwn.never rfl (pi_list (pe_callB cr_sortedS (by rfl) T.n_sorted (by decide +kernel) (pa_cons (pe_lc (own := [("_law_word", 3)]) (by rfl) sc_drawn_sleeper.nd (pi_list (pv 1)) (blkOk_by (N := N_drawn_sleeper) (sc := defScope s_drawn_sleeper) (by decide +kernel)) (fun _ _ _ _ _ => (pg_name (i := 3) sc_drawn_sleeper.nd rfl (Or.inl rfl))) (fun _ _ _ _ _ => pts_nil) (fun _ _ _ _ _ => (pe_callTy SkE.call_str_str (by rfl) T.n_str (by decide +kernel) (pa_cons (pv 3) pa_nil)))) pa_nil))) (pg_name (i := 3) sc_drawn_sleeper.nd rfl (Or.inl rfl))
 (pss_cons (ps_set (i := 4) sc_drawn_sleeper.nd rfl (Or.inl rfl) (C8.pe_c c_pick hr (by decide) rfl (pa_cons (pv 0) (pa_cons (pe_lst (pa_cons pe_str (pa_cons pe_str (pa_cons pe_str (pa_cons pe_str (pa_cons pe_str (pa_cons pe_str pa_nil))))))) pa_nil))))
 (pss_one (ps_set (i := 2) sc_drawn_sleeper.nd rfl (Or.inl rfl) (pe_op op_cat (pv 2) (pe_ifExp (pt_cmpR op_ne (pv 4) pe_str (by first | exact nomark _ | rfl)) (pe_lst (pa_cons (pe_tup (pa_cons (pv 3) (pa_cons (pv 4) pa_nil))) pa_nil)) (pe_lst pa_nil)))))))
 (pss_cons (ps_set (i := 5) sc_drawn_sleeper.nd rfl (Or.inl rfl) (C8.pe_c c_pick hr (by decide) rfl (pa_cons (pv 0) (pa_cons (pe_lst (pa_cons pe_str (pa_cons pe_str (pa_cons pe_str pa_nil)))) pa_nil))))
 (pss_one (ps_ret (pe_tup (pa_cons (pe_callTy call_tuple_of (by rfl) T.n_tuple (by decide +kernel) (pa_cons (pv 2) pa_nil)) (pa_cons (pe_op op_add pe_int (C8.pe_c c_draw hr (by decide) rfl (pa_cons (pv 0) (pa_cons pe_int pa_nil)))) (pa_cons (pe_op op_add pe_int (C8.pe_c c_draw hr (by decide) rfl (pa_cons (pv 0) (pa_cons pe_int pa_nil)))) (pa_cons (pe_op op_add pe_int (C8.pe_c c_draw hr (by decide) rfl (pa_cons (pv 0) (pa_cons pe_int pa_nil)))) (pa_cons (pv 5) pa_nil))))))))))), ?_⟩
    refine ⟨Nat.zero_le _, fun S0 nS0 => ?_⟩
    have s0 : Same H (upd H S0 (.lst [])) := Same.new nS0
    refine ⟨_, rfl, l, rfl, ⟨_, Same.seq s0 hl⟩, fun D nD => lc_listP (xs := ws.map V.str) strV1 (by rw [List.length_map]; omega) (fun acc => SqL.laid (Same.seq s0 hl) nD) ?_ ?_⟩
    · intro x hx acc N hac hN _
      obtain ⟨n, _, rfl⟩ := List.mem_map.mp hx
      exact ⟨rfl, yes_ ⟨_, rfl, n, rfl, acc, upd_same, hac, by rw [upd_upd]; exact hN _ rfl⟩⟩
    · rw [filterMap_strs (fun n => some n) ws strV1 (fun _ => rfl), List.filterMap_some]
      have s1 : Same H (upd (upd H S0 (.lst [])) D (.lst (ws.map V.str))) := s0.trans (Same.new nD)
      refine ⟨D, ws, rfl, SqL.of upd_same, by omega, fun ys p pm srt np => ?_⟩
      have s2 : Same H (upd (upd (upd H S0 (.lst [])) D (.lst (ws.map V.str))) p (.lst (ys.map V.str))) := s1.trans (Same.new np)
      have hp : upd (upd (upd H S0 (.lst [])) D (.lst (ws.map V.str))) p (.lst (ys.map V.str)) p = some (.lst (ys.map V.str)) := upd_same
      have hS0 : upd (upd (upd H S0 (.lst [])) D (.lst (ws.map V.str))) p (.lst (ys.map V.str)) S0 = some (.lst []) :=
        (Same.new np) _ _ ((Same.new nD) _ _ upd_same)
      have pg : p ≠ g := ((dl.same s1).free np).2
      have S0g : S0 ≠ g := (dl.free nS0).2
      generalize upd (upd (upd H S0 (.lst [])) D (.lst (ws.map V.str))) p (.lst (ys.map V.str)) = H3 at s2 hp hS0 ⊢
      have d3 : Deal d g H3 := dl.same s2
      have pd : p ≠ d := d3.ne_d hp (by intro kvs e; cases e)
      refine ⟨p, rfl, ⟨_, SqL.of hp⟩, for_list (K := K) (a := p) (xs := ys.map V.str) (fun i σ H' => ∃ (S : Addr) (prs : List (Str × Str)) (ps : List V) (v3 v4 : Option V), σ = [some (.ref d), some (.ref l), some (.ref S), v3, v4, none] ∧ Deal d g H' ∧ Kp d g H3 H' ∧ S ≠ g ∧
          H' S = some (.lst ps) ∧ TDs K H' ps (prs.map encP) ∧ (prs.map Prod.fst).Sublist (ys.take i) ∧ ∀ pr ∈ prs, pr.2 ∈ fourS)
        ⟨S0, [], [], none, none, rfl, d3, Kp.refl _ _ _, S0g, hS0, .nil, by simp, fun pr h => by cases h⟩ (fun i σ H' _ ⟨S, prs, ps, v3, v4, _, _, k', _⟩ => SqL.of (k' p _ pd pg hp)) ?_ ?_⟩
      · rintro i x σ H4 hx ⟨S, prs, ps, v3, v4, rfl, d4, k4, Sg, hS, td, sub, four⟩
        obtain ⟨wd, hwd, rfl⟩ : ∃ wd, ys[i]? = some wd ∧ x = V.str wd := by
          rw [List.getElem?_map] at hx
          obtain ⟨y, h1, h2⟩ := Option.map_eq_some_iff.mp hx
          exact ⟨y, h1, h2.symm⟩
        refine ⟨_, rfl, by show 6 ≤ sizeLine; decide, fun q nq => ?_⟩
        have s5 : Same H4 (upd H4 q (.lst [.str "faint", .str "loud", .str "soft", .str "sudden", .str "soft", .str ""])) := Same.new nq
        refine ⟨d, g, q, _, rfl, d4.same s5, .inl ⟨upd_same, (d4.free nq).2⟩, by simp, by show 6 < 1000000; decide, fun H5 v hv d5 k5 => ?_⟩
        have Sd : S ≠ d := d4.ne_d hS (by intro kvs e; cases e)
        have k45 : Kp d g H4 H5 := (Hb.Same.kp s5).trans k5
        have hS5 := k45 S _ Sd Sg hS
        have td5 := TDs.keep (d4.tk k45) td
        have subx : ys.take (i + 1) = ys.take i ++ [wd] := by rw [List.take_add_one, hwd]; rfl
        have plen : ps.length ≤ 8 := by
          have a1 := td.length
          have a2 := sub.length_le
          have a3 := pm.length_eq
          rw [List.length_map] at a1 a2
          rw [List.length_take] at a2
          omega
        obtain ⟨so, hso, rfl⟩ : ∃ so, so ∈ (["faint", "loud", "soft", "sudden", "soft", ""] : List Str) ∧ v = V.str so := by
          have hv2 : v ∈ (["faint", "loud", "soft", "sudden", "soft", ""] : List Str).map V.str := hv
          obtain ⟨so, h1, h2⟩ := List.mem_map.mp hv2
          exact ⟨so, h1, h2.symm⟩
        refine ⟨_, rfl, _, rfl, rfl, _, rfl, ?_⟩
        by_cases e : V.str so = V.str ""
        · rw [decide_eq_true e]
          refine iteF ⟨Nat.zero_le _, fun q2 nq2 => ?_⟩
          have s6 : Same H5 (upd H5 q2 (.lst [])) := Same.new nq2
          refine ⟨S, q2, ps, [], rfl, rfl, s6 _ _ hS5, upd_same, by simp; omega, fun q3 nq3 => ?_⟩
          have s7 : Same H5 (upd (upd H5 q2 (.lst [])) q3 (.lst (ps ++ []))) := s6.trans (Same.new nq3)
          exact ⟨q3, prs, ps ++ [], _, _, rfl, d5.same s7, (k4.trans k45).trans (Hb.Same.kp s7), ((d5.same s6).free nq3).2, upd_same, by have := TDs.keep (Same.tk s7) td5; simpa using this, by rw [subx]; exact sub.trans (List.sublist_append_left _ _), four⟩
        · rw [decide_eq_false e]
          have so4 : so ∈ fourS := by
            have ne : so ≠ "" := fun z => e (by rw [z])
            simp only [List.mem_cons, List.not_mem_nil, or_false] at hso
            rcases hso with h | h | h | h | h | h <;> first | exact absurd h ne | (rw [h]; decide +kernel)
          refine iteT ⟨_, rfl, _, rfl, by show 2 ≤ sizeLine; decide, fun t nt => ?_⟩
          have s6 : Same H5 (upd H5 t (.tup [.str wd, .str so])) := Same.new nt
          refine ⟨by show 1 ≤ sizeLine; decide, fun q2 nq2 => ?_⟩
          have s7 := s6.trans (Same.new nq2 (o := .lst [.ref t]))
          refine ⟨S, q2, ps, [.ref t], rfl, rfl, s7 _ _ hS5, upd_same, by simp; omega, fun q3 nq3 => ?_⟩
          have s8 : Same (upd (upd H5 t (.tup [.str wd, .str so])) q2 (.lst [.ref t])) (upd (upd (upd H5 t (.tup [.str wd, .str so])) q2 (.lst [.ref t])) q3 (.lst (ps ++ [.ref t]))) := Same.new nq3
          have s9 := s7.trans s8
          have ht := s8 _ _ ((Same.new nq2 (o := .lst [.ref t])) _ _ (upd_same (H := H5) (a := t) (o := .tup [.str wd, .str so])))
          refine ⟨q3, prs ++ [(wd, so)], ps ++ [.ref t], _, _, rfl, d5.same s9, (k4.trans k45).trans (Hb.Same.kp s9), ((d5.same s7).free nq3).2, upd_same, ?_, ?_, fun pr hpr => ?_⟩
          · rw [List.map_append]
            exact TDs.app (TDs.keep (Same.tk s9) td5) (.cons (.tup (SqT.of ht) (.cons (.str _) (.cons (.str _) .nil))) .nil)
          · rw [List.map_append, subx]
            exact List.Sublist.append sub (List.Sublist.refl _)
          · rcases List.mem_append.mp hpr with h | h
            · exact four pr h
            · rw [List.mem_singleton.mp h]
              exact so4
      · rintro σ H4 ⟨S, prs, ps, v3, v4, rfl, d4, k4, Sg, hS, td, sub, four⟩
        refine ⟨_, rfl, by show 3 ≤ sizeLine; decide, fun q nq => ?_⟩
        have s5 : Same H4 (upd H4 q (.lst [.str "again", .str "nothing", .str "wake"])) := Same.new nq
        refine ⟨d, g, q, _, rfl, d4.same s5, .inl ⟨upd_same, (d4.free nq).2⟩, by simp, by show 3 < 1000000; decide, fun H5 v hv d5 k5 => ?_⟩
        have Sd : S ≠ d := d4.ne_d hS (by intro kvs e; cases e)
        have k45 : Kp d g H4 H5 := (Hb.Same.kp s5).trans k5
        have hS5 := k45 S _ Sd Sg hS
        have td5 := TDs.keep (d4.tk k45) td
        obtain ⟨lo, hlo, rfl⟩ : ∃ lo, lo ∈ threeS ∧ v = V.str lo := by
          have hv2 : v ∈ threeS.map V.str := hv
          obtain ⟨so, h1, h2⟩ := List.mem_map.mp hv2
          exact ⟨so, h1, h2.symm⟩
        refine ⟨_, rfl, S, ps, rfl, .inl ⟨SqL.of hS5, fun t nt => ?_⟩⟩
        have s6 : Same H5 (upd H5 t (.tup ps)) := Same.new nt
        refine ⟨_, rfl, d, g, 5, rfl, d5.same s6, by decide, by decide, fun H6 r1 d6 k6 a0 a1 => ⟨_, _, rfl, rfl, ?_⟩⟩
        refine ⟨_, rfl, d, g, 5, rfl, d6, by decide, by decide, fun H7 r2 d7 k7 b0 b1 => ⟨_, _, rfl, rfl, ?_⟩⟩
        refine ⟨_, rfl, d, g, 2, rfl, d7, by decide, by decide, fun H8 r3 d8 k8 c0 c1 => ⟨_, _, rfl, rfl, ?_⟩⟩
        refine ⟨_, rfl, by show 5 ≤ sizeLine; decide, fun u nu => ?_⟩
        have s9 : Same H8 (upd H8 u (.tup [.ref t, .int (1 + r1), .int (1 + r2), .int (1 + r3), .str lo])) := Same.new nu
        have k58 : Kp d g (upd H5 t (.tup ps)) H8 := (k6.trans k7).trans k8
        have kall : Kp d g H H8 := (((Hb.Same.kp s2).trans k4).trans k45).trans ((Hb.Same.kp s6).trans k58)
        have tk58 := (d5.same s6).tk k58
        have ht8 : upd H8 u (.tup [.ref t, .int (1 + r1), .int (1 + r2), .int (1 + r3), .str lo]) t = some (.tup ps) := s9 _ _ (tk58.t t _ upd_same)
        have td8 : TDs K (upd H8 u (.tup [.ref t, .int (1 + r1), .int (1 + r2), .int (1 + r3), .str lo])) ps (prs.map encP) := TDs.keep (Same.tk s9) (TDs.keep tk58 (TDs.keep (Same.tk s6) td5))
        have sub2 : (prs.map Prod.fst).Sublist ys := sub.trans (List.take_sublist _ _)
        have inw : ∀ pr ∈ prs, pr.1 ∈ ws := fun pr h => pm.mem_iff.mp (sub2.subset (List.mem_map.mpr ⟨pr, h, rfl⟩))
        refine k _ u ⟨prs, 1 + r1, 1 + r2, 1 + r3, lo⟩ (d8.same s9) (kall.trans (Hb.Same.kp s9)) (Kp.free kall d8 nu) (OneIs.one ⟨SqT.of upd_same, SqT.of ht8, td8⟩) ⟨(pm.nodup_iff.mpr nd).sublist sub2, inw, fun pr h => wok _ (inw pr h), four, ?_, ?_, ?_, ?_, ?_, ?_, ?_, hlo⟩
        · have a2 := sub2.length_le
          have a3 := pm.length_eq
          rw [List.length_map] at a2
          show prs.length ≤ 8
          omega
        · show 1 ≤ 1 + r1; omega
        · show 1 + r1 ≤ 5; omega
        · show 1 ≤ 1 + r2; omega
        · show 1 + r2 ≤ 5; omega
        · show 1 ≤ 1 + r3; omega
        · show 1 + r3 ≤ 2; omega
end
end Lw
set_option Elab.async false
set_option linter.all false
set_option maxRecDepth 100000
set_option maxHeartbeats 4000000
namespace Lw
open PySem PySem.Spec PyProof.Rows L2 Hb
def spWhole : Sp := fun vs H Q _ => ∃ i : Int, vs = [.int i] ∧ Q (.bl true) H
def spPos : Sp := fun vs H Q _ => ∃ i : Int, vs = [.int i] ∧ Q (.bl (decide (1 ≤ i))) H
def spName : Sp := fun vs H Q _ => ∃ x : Str, vs = [.str x] ∧ x.length ≤ 1000 ∧ ∀ H', Same H H' → Q (.bl (nameB x)) H'
section
variable {P : Program} {w : World} {K : PySem.W.Frag} {mg : Str → Option Value} {base : Heap}
theorem c_is_whole (D : Df K mg "is_whole" s_is_whole) (T : Tx K mg) : C8.Cal P w K mg base 1 "is_whole" spWhole [] := by
  refine cal_mk D sc_is_whole bd_is_whole (fun vs H Q E h => ?_) fun f cdv A outer s H vs Q E hr h => ?_
  · obtain ⟨i, rfl, _⟩ := h
    rfl
  · obtain ⟨i, rfl, k⟩ := h
    refine ⟨_, (pss_one (ps_ret (pe_and (pe_callB call_isi (by rfl) T.n_isinstance (by decide +kernel) (pa_cons (pv 0) (pa_cons (pe_bltn (v := .ty "int") (u := .type "int") rfl T.n_int (by decide +kernel) rfl) pa_nil))) (pe_one (pe_not (pe_callB call_isi (by rfl) T.n_isinstance (by decide +kernel) (pa_cons (pv 0) (pa_cons (pe_bltn (v := .ty "bool") (u := .type "bool") rfl T.n_bool (by decide +kernel) rfl) pa_nil)))))))), ?_⟩
    refine ⟨_, rfl, _, _, _, _, true, rfl, .ty _, .base (.int i), kit_ty (by decide +kernel), _, rfl, iteT ?_⟩
    exact ⟨_, rfl, _, _, _, _, false, rfl, .ty _, .base (.int i), kit_ty (by decide +kernel), _, rfl, k⟩
theorem c_is_positive (D : Df K mg "is_positive" s_is_positive) (T : Tx K mg) (c_is_whole : C8.Cal P w K mg base 1 "is_whole" spWhole []) : C8.Cal P w K mg base 2 "is_positive" spPos [] := by
  refine cal_mk D sc_is_positive bd_is_positive (fun vs H Q E h => ?_) fun f cdv A outer s H vs Q E hr h => ?_
  · obtain ⟨i, rfl, _⟩ := h
    rfl
  · obtain ⟨i, rfl, k⟩ := h
    refine ⟨_, (pss_one (ps_ret (pe_and (C8.pe_c c_is_whole hr (by decide) rfl (pa_cons (pv 0) pa_nil)) (pe_one (pe_cmpR op_ge (pv 0) pe_int (by first | exact nomark _ | rfl)))))), ?_⟩
    exact ⟨_, rfl, i, rfl, _, rfl, iteT ⟨_, rfl, _, _, rfl, rfl, k⟩⟩
theorem c_is_name (D : Df K mg "is_name" s_is_name) (T : Tx K mg) : C8.Cal P w K mg base 1 "is_name" spName [] := by
  refine cal_mk D sc_is_name bd_is_name (fun vs H Q E h => ?_) fun f cdv A outer s H vs Q E hr h => ?_
  · obtain ⟨i, rfl, _⟩ := h
    rfl
  · obtain ⟨x, rfl, few, k⟩ := h
    obtain ⟨tL, hLETTERS⟩ := T.s_LETTERS
    have line := sizeLine_eq
    refine ⟨_, (pss_cons (ps_if (PW.pt (pw_or (pt_not (pt_val (pe_callB call_isi (by rfl) T.n_isinstance (by decide +kernel) (pa_cons (pv 0) (pa_cons (pe_bltn (v := .ty "str") (u := .type "str") rfl T.n_str (by decide +kernel) rfl) pa_nil))))) (pw_or1 (pt_not (pt_chain op_le op_le pe_int (pe_callB call_len (by rfl) T.n_len (by decide +kernel) (pa_cons (pv 0) pa_nil)) pe_int)))))
 (pss_one (ps_ret pe_bl))
 pss_nil)
 (pss_one (ps_ret (pe_callB (cr_all rfl) (by rfl) T.n_all (by decide +kernel) (pa_cons (pe_lc (own := [("letter", 1)]) (by rfl) sc_is_name.nd (pi_str (pv 0)) (blkOk_by (N := N_is_name) (sc := defScope s_is_name) (by decide +kernel)) (fun _ _ _ _ _ => (pg_name (i := 1) sc_is_name.nd rfl (Or.inl rfl))) (fun _ _ _ _ _ => pts_nil) (fun _ _ _ _ _ => (pe_cmpR op_in_sign (pv 1) (pe_glob (v := .str "abcdefghijklmnopqrstuvwxyz") rfl hLETTERS ⟨_, rfl⟩) (by first | exact nomark _ | rfl)))) pa_nil))))), ?_⟩
    refine ⟨_, rfl, _, _, _, _, true, rfl, .ty _, .base (.str x), kit_ty (by decide +kernel), _, rfl, iteF ?_⟩
    refine ⟨_, rfl, .str x, x.length, rfl, ⟨by omega, rfl⟩, _, _, rfl, rfl, _, rfl, ?_⟩
    by_cases h1 : (1 : Int) ≤ (x.length : Nat)
    · rw [decide_eq_true h1]
      refine iteT ⟨_, _, rfl, rfl, _, rfl, ?_⟩
      by_cases h2 : ((x.length : Nat) : Int) ≤ 4
      · rw [decide_eq_true h2]
        refine iteF ⟨_, rfl, x, rfl, fun D nD => lc_it (walk_str (z := x)) (fun i H' => H' = upd H D (.lst (((x.cps.toList.take i).map isLetter).map V.bl))) (by simp) (fun _ _ _ _ => trivial) ?_ ?_⟩
        · rintro i v H' H2 hi rfl ⟨e, c, hc, rfl⟩
          subst e
          refine ⟨rfl, yes_ ⟨_, rfl, c, _, rfl, rfl, _, upd_same, ?_, ?_⟩⟩
          · rw [List.length_map, List.length_map, List.length_take]
            have el : x.cps.toList.length = x.length := by simp [Str.length]
            omega
          · rw [upd_upd]
            have hc2 : x.cps.toList[i]? = some c := by rw [Array.getElem?_toList]; exact hc
            show upd H D _ = upd H D _
            rw [List.take_add_one, hc2]
            simp [isLetter]
        · rintro H' rfl
          have el : x.cps.size = x.cps.toList.length := by simp
          refine ⟨D, x.cps.toList.map isLetter, rfl, SqL.of (by rw [el, List.take_length]; exact upd_same), ?_⟩
          have e : (x.cps.toList.map isLetter).all id = nameB x := by
            have q : decide (1 ≤ x.length ∧ x.length ≤ 4) = true := decide_eq_true ⟨by omega, by omega⟩
            rw [nameB, q, List.all_map]
            rfl
          rw [e]
          exact k _ (Same.new nD)
      · rw [decide_eq_false h2]
        refine iteT ?_
        have q : nameB x = false := by
          have q : decide (1 ≤ x.length ∧ x.length ≤ 4) = false := decide_eq_false (by omega)
          rw [nameB, q, Bool.false_and]
        have k2 := k H (Same.refl H)
        rw [q] at k2
        exact k2
    · rw [decide_eq_false h1]
      refine iteF ⟨_, rfl, iteT ?_⟩
      have q : nameB x = false := by
        have q : decide (1 ≤ x.length ∧ x.length ≤ 4) = false := decide_eq_false (by omega)
        rw [nameB, q, Bool.false_and]
      have k2 := k H (Same.refl H)
      rw [q] at k2
      exact k2
def spRow (K : PySem.W.Frag) : Sp := fun vs H Q _ => ∃ (a : Addr) (xs : List V), vs = [.ref a] ∧ (SqL K H a xs ∨ SqT K H a xs) ∧ ∀ H', Same H H' → Q (.bl true) H'
theorem c_is_row (D : Df K mg "is_row" s_is_row) (T : Tx K mg) : C8.Cal P w K mg base 1 "is_row" (spRow K) [] := by
  refine cal_mk D sc_is_row bd_is_row (fun vs H Q E h => ?_) fun f cdv A outer s H vs Q E hr h => ?_
  · obtain ⟨a, xs, rfl, _⟩ := h
    rfl
  · obtain ⟨a, xs, rfl, hq, k⟩ := h
    refine ⟨_, (pss_one (ps_ret (pe_callB call_isiT (by rfl) T.n_isinstance (by decide +kernel) (pa_cons (pv 0) (pa_cons (pe_tup (pa_cons (pe_bltn (v := .ty "list") (u := .type "list") rfl T.n_list (by decide +kernel) rfl) (pa_cons (pe_bltn (v := .ty "tuple") (u := .type "tuple") rfl T.n_tuple (by decide +kernel) rfl) pa_nil))) pa_nil))))), ?_⟩
    refine ⟨_, rfl, by show 2 ≤ sizeLine; decide, fun p np => ?_⟩
    rcases hq with h | h
    · exact ⟨_, p, _, _, _, true, rfl, upd_same, .cons (.ty _) (.cons (.ty _) .nil), ty_lst (SqL.laid h np), kitAny_cons (kit_ty (b := "list") (r := true) (by decide +kernel)) (fun z => by cases z) (fun _ => rfl), k _ (Same.new np)⟩
    · exact ⟨_, p, _, _, _, true, rfl, upd_same, .cons (.ty _) (.cons (.ty _) .nil), ty_tup (SqT.laid h np), kitAny_cons (kit_ty (b := "list") (r := false) (by decide +kernel)) (fun _ => kitAny_cons (kit_ty (b := "tuple") (r := true) (by decide +kernel)) (fun z => by cases z) (fun _ => rfl)) (fun z => by cases z), k _ (Same.new np)⟩
def spTupOf (K : PySem.W.Frag) : Sp := fun vs H Q _ => ∃ (a : Addr) (xs : List V) (n : Int), vs = [.ref a, .int n] ∧ SqT K H a xs ∧ Q (.bl (decide (((xs.length : Nat) : Int) = n))) H
theorem c_is_tuple_of (D : Df K mg "is_tuple_of" s_is_tuple_of) (T : Tx K mg) : C8.Cal P w K mg base 1 "is_tuple_of" (spTupOf K) [] := by
  refine cal_mk D sc_is_tuple_of bd_is_tuple_of (fun vs H Q E h => ?_) fun f cdv A outer s H vs Q E hr h => ?_
  · obtain ⟨a, xs, n, rfl, _⟩ := h
    rfl
  · obtain ⟨a, xs, n, rfl, hq, k⟩ := h
    refine ⟨_, (pss_one (ps_ret (pe_and (pe_callB call_isi (by rfl) T.n_isinstance (by decide +kernel) (pa_cons (pv 0) (pa_cons (pe_bltn (v := .ty "tuple") (u := .type "tuple") rfl T.n_tuple (by decide +kernel) rfl) pa_nil))) (pe_one (pe_cmpR op_eq (pe_callB call_len (by rfl) T.n_len (by decide +kernel) (pa_cons (pv 0) pa_nil)) (pv 1) (by first | exact nomark _ | rfl)))))), ?_⟩
    refine ⟨_, rfl, _, _, _, _, true, rfl, .ty _, ty_tup hq, kit_ty (by decide +kernel), _, rfl, iteT ?_⟩
    refine ⟨_, rfl, .ref a, xs.length, rfl, .inr ⟨_, hq, rfl⟩, _, rfl, rfl, ?_⟩
    have e : decide (V.int ((xs.length : Nat) : Int) = V.int n) = decide (((xs.length : Nat) : Int) = n) := by
      by_cases q : ((xs.length : Nat) : Int) = n
      · rw [q]; simp
      · rw [decide_eq_false q, decide_eq_false (fun z => q (by injection z))]
    rw [e]
    exact k
def spUnlike (K : PySem.W.Frag) : Sp := fun vs H Q _ => ∃ (a : Addr), vs = [.ref a] ∧ ((∃ xs : List Str, SqL K H a (xs.map V.str) ∧ xs.Nodup ∧ xs.length ≤ 4000) ∨ ∃ ns : List Int, SqL K H a (ns.map V.int) ∧ ns.Nodup ∧ ns.length ≤ 4000) ∧ Q (.bl true) H
theorem c_are_unlike (D : Df K mg "are_unlike" s_are_unlike) (T : Tx K mg) : C8.Cal P w K mg base 1 "are_unlike" (spUnlike K) [] := by
  refine cal_mk D sc_are_unlike bd_are_unlike (fun vs H Q E h => ?_) fun f cdv A outer s H vs Q E hr h => ?_
  · obtain ⟨a, rfl, _⟩ := h
    rfl
  · obtain ⟨a, rfl, hq, k⟩ := h
    refine ⟨_, (pss_one (ps_ret (pe_cmpR op_eq (Hb.pe_lenSet2 rfl T.n_len rfl T.n_set (pv 0)) (pe_callB call_len (by rfl) T.n_len (by decide +kernel) (pa_cons (pv 0) pa_nil)) (by first | exact nomark _ | rfl)))), ?_⟩
    rcases hq with ⟨xs, hq, nd, few⟩ | ⟨xs, hq, nd, few⟩
    · refine ⟨_, rfl, a, rfl, .inl ⟨xs, hq, nd, few, _, rfl, .ref a, _, rfl, .inl ⟨_, hq, rfl⟩, rfl, ?_⟩⟩
      rw [List.length_map, decide_eq_true rfl]
      exact k
    · refine ⟨_, rfl, a, rfl, .inr ⟨xs, hq, nd, few, _, rfl, .ref a, _, rfl, .inl ⟨_, hq, rfl⟩, rfl, ?_⟩⟩
      rw [List.length_map, decide_eq_true rfl]
      exact k
def spSortedName (K : PySem.W.Frag) : Sp := fun vs H Q _ => ∃ (a : Addr) (x y : Str), vs = [.ref a] ∧ SqT K H a [.str x, .str y] ∧ x.length ≤ 1000 ∧ ∀ H', Same H H' → Q (.bl (nameB x && decide (y ∈ fourS))) H'
theorem c_is_sorted_name (D : Df K mg "is_sorted_name" s_is_sorted_name) (T : Tx K mg) (c_is_tuple_of : C8.Cal P w K mg base 1 "is_tuple_of" (spTupOf K) []) (c_is_name : C8.Cal P w K mg base 1 "is_name" spName []) :
    C8.Cal P w K mg base 2 "is_sorted_name" (spSortedName K) [] := by
  refine cal_mk D sc_is_sorted_name bd_is_sorted_name (fun vs H Q E h => ?_) fun f cdv A outer s H vs Q E hr h => ?_
  · obtain ⟨a, x, y, rfl, _⟩ := h
    rfl
  · obtain ⟨a, x, y, rfl, hq, few, k⟩ := h
    refine ⟨_, (pss_one (ps_ret (pe_and (C8.pe_c c_is_tuple_of hr (by decide) rfl (pa_cons (pv 0) (pa_cons pe_int pa_nil))) (pe_and (C8.pe_c c_is_name hr (by decide) rfl (pa_cons (pe_ix ix_tup (pv 0) pe_int (fun _ _ => rfl)) pa_nil)) (pe_one (pe_cmpR op_in_seq (pe_ix ix_tup (pv 0) pe_int (fun _ _ => rfl)) (pe_glob (v := .ref _) rfl T.g_SORTS rfl) (by first | exact nomark _ | rfl))))))), ?_⟩
    refine ⟨_, rfl, a, _, 2, rfl, hq, _, rfl, iteT ?_⟩
    refine ⟨_, rfl, a, _, 0, .str x, rfl, rfl, hq, rfl, x, rfl, few, fun H1 s1 => ⟨_, rfl, ?_⟩⟩
    cases e : nameB x with
    | false =>
      have k2 := k H1 s1
      rw [e] at k2
      exact iteF k2
    | true =>
      have k2 := k H1 s1
      rw [e] at k2
      refine iteT ⟨_, rfl, a, _, 1, .str y, rfl, rfl, SqT.keep (Same.tk s1) hq, rfl, _, _, rfl, .inr (T.t_SORTS _), rfl, rfl, ?_⟩
      rw [if_neg Bool.false_ne_true]
      have q := inV_strs y fourS
      show Q (V.bl (inV (V.str y) (fourS.map V.str))) H1
      rw [q]
      exact k2
def spSorts (K : PySem.W.Frag) : Sp := fun vs H Q _ => ∃ (a : Addr) (xs : List V) (prs : List (Str × Str)), vs = [.ref a] ∧ (SqL K H a xs ∨ SqT K H a xs) ∧ TDs K H xs (prs.map encP) ∧
  (∀ p ∈ prs, nameB p.1 = true ∧ p.2 ∈ fourS) ∧ (prs.map Prod.fst).Nodup ∧ prs.length ≤ 100 ∧ ∀ H', Same H H' → Q (.bl true) H'
theorem pair_at {K : PySem.W.Frag} {H : Hp} {xs : List V} {prs : List (Str × Str)} {i : Nat} {x : V} (td : TDs K H xs (prs.map encP)) (h : xs[i]? = some x) : ∃ t p, x = .ref t ∧ prs[i]? = some p ∧ SqT K H t [.str p.1, .str p.2] := by
  obtain ⟨d, h1, h2⟩ := TDs.at td h
  rw [List.getElem?_map] at h1
  obtain ⟨p, h3, h4⟩ := Option.map_eq_some_iff.mp h1
  subst h4
  obtain ⟨t, ys, e, h5, h6⟩ := TD.tup_inv h2
  obtain rfl := TDs.strs_inv (xs := [p.1, p.2]) h6
  exact ⟨t, p, e, h3, h5⟩
theorem name_short {x : Str} (h : nameB x = true) : x.length ≤ 4 := by
  have h1 := (Bool.and_eq_true_iff.mp h).1
  exact (of_decide_eq_true h1).2
theorem c_are_sorts (D : Df K mg "are_sorts" s_are_sorts) (T : Tx K mg) (c_is_row : C8.Cal P w K mg base 1 "is_row" (spRow K) []) (c_is_sorted_name : C8.Cal P w K mg base 2 "is_sorted_name" (spSortedName K) [])
    (c_are_unlike : C8.Cal P w K mg base 1 "are_unlike" (spUnlike K) []) : C8.Cal P w K mg base 3 "are_sorts" (spSorts K) [] := by
  refine cal_mk D sc_are_sorts bd_are_sorts (fun vs H Q E h => ?_) fun f cdv A outer s H vs Q E hr h => ?_
  · obtain ⟨a, xs, prs, rfl, _⟩ := h
    rfl
  · obtain ⟨a, xs, prs, rfl, hq, td, ok, nd, few, k⟩ := h
    have line := sizeLine_eq
    have len : xs.length = prs.length := by rw [td.length, List.length_map]
    refine ⟨_, (pss_cons (ps_if (PW.pt (pw_or (pt_not (pt_val (C8.pe_c c_is_row hr (by decide) rfl (pa_cons (pv 0) pa_nil)))) (pw_or1 (pt_not (pt_val (pe_callB (cr_all rfl) (by rfl) T.n_all (by decide +kernel) (pa_cons (pe_lc (own := [("pair", 1)]) (by rfl) sc_are_sorts.nd (pi_seq (pv 0)) (blkOk_by (N := N_are_sorts) (sc := defScope s_are_sorts) (by decide +kernel)) (fun _ _ _ _ _ => (pg_name (i := 1) sc_are_sorts.nd rfl (Or.inl rfl))) (fun _ _ _ _ _ => pts_nil) (fun _ _ _ _ _ => (C8.pe_c c_is_sorted_name hr (by decide) rfl (pa_cons (pv 1) pa_nil)))) pa_nil)))))))
 (pss_one (ps_ret pe_bl))
 pss_nil)
 (pss_one (ps_ret (C8.pe_c c_are_unlike hr (by decide) rfl (pa_cons (pe_lc (own := [("pair", 1)]) (by rfl) sc_are_sorts.nd (pi_seq (pv 0)) (blkOk_by (N := N_are_sorts) (sc := defScope s_are_sorts) (by decide +kernel)) (fun _ _ _ _ _ => (pg_name (i := 1) sc_are_sorts.nd rfl (Or.inl rfl))) (fun _ _ _ _ _ => pts_nil) (fun _ _ _ _ _ => (pe_ix (show IxR _ (rIxT K) from ix_tup) (pv 1) pe_int (fun _ _ => rfl)))) pa_nil))))), ?_⟩
    refine ⟨_, rfl, a, xs, rfl, hq, fun H1 s1 => ⟨_, rfl, iteF ?_⟩⟩
    have hq1 : SqL K H1 a xs ∨ SqT K H1 a xs := hq.imp (Same.seq s1) (SqT.keep (Same.tk s1))
    refine ⟨_, rfl, a, xs, rfl, hq1, fun J G hG wk D nD => lc_it wk (fun i H' => Same H1 H' ∧ H' D = some (.lst (List.replicate i (.bl true)))) ⟨Same.new nD, upd_same⟩ (fun i H' _ p => hG _ p.1) ?_ ?_⟩
    · rintro i x H' H2 hi ⟨s2, hD⟩ ⟨rfl, hx⟩
      obtain ⟨t, p, rfl, hp, ht⟩ := pair_at (TDs.keep (Same.tk (s1.trans s2)) td) hx
      have okp := ok p (List.mem_of_getElem? hp)
      refine ⟨rfl, yes_ ⟨_, rfl, t, p.1, p.2, rfl, ht, Nat.le_trans (name_short okp.1) (by decide), fun H3 s3 => ?_⟩⟩
      rw [okp.1, decide_eq_true okp.2]
      refine ⟨_, s3 _ _ hD, by rw [List.length_replicate]; omega, Hb.Same.acc (s2.trans s3) nD, ?_⟩
      rw [upd_same, List.replicate_succ']
      rfl
    · rintro H2 ⟨s2, hD⟩
      refine ⟨D, List.replicate xs.length true, rfl, SqL.of (by rw [hD, List.map_replicate]), _, rfl, ?_⟩
      rw [show (List.replicate xs.length true).all id = true by simp]
      refine iteF ?_
      have hq2 : SqL K H2 a xs ∨ SqT K H2 a xs := hq1.imp (Same.seq s2) (SqT.keep (Same.tk s2))
      have s12 := s1.trans s2
      refine ⟨_, rfl, a, xs, rfl, hq2, fun J G hG wk D2 nD2 => lc_it wk (fun i H' => H' = upd H2 D2 (.lst (((prs.take i).map Prod.fst).map V.str))) (by simp) (fun i H' _ p => by rw [p]; exact hG _ (Same.new nD2)) ?_ ?_⟩
      · rintro i x H' H3 hi rfl ⟨e, hx⟩
        subst e
        have s3 : Same H2 (upd H2 D2 (.lst (((prs.take i).map Prod.fst).map V.str))) := Same.new nD2
        obtain ⟨t, p, rfl, hp, ht⟩ := pair_at (TDs.keep (Same.tk (s12.trans s3)) td) hx
        refine ⟨rfl, yes_ ⟨_, rfl, t, _, 0, .str p.1, rfl, rfl, ht, rfl, _, upd_same, ?_, ?_⟩⟩
        · rw [List.length_map, List.length_map, List.length_take]
          omega
        · rw [upd_upd]
          show upd H2 D2 _ = upd H2 D2 _
          rw [List.take_add_one, hp]
          simp
      · rintro H3 rfl
        rw [len, List.take_length]
        exact ⟨D2, rfl, .inl ⟨prs.map Prod.fst, SqL.of upd_same, nd, by rw [List.length_map]; omega⟩, k _ (s12.trans (Same.new nD2))⟩
end
end Lw
set_option Elab.async false
set_option linter.all false
set_option maxRecDepth 100000
set_option maxHeartbeats 4000000
namespace Lw
open PySem PySem.Spec PyProof.Rows L2 Hb
theorem notin_no {A B : Prop} {y : V} {xs : List V} (h : inV y xs = true) (k : B) : if (if true = true then !inV y xs else inV y xs) = true then A else B := by
  rw [h]
  simpa using k
/-- what may be handed to Sleeper -/
structure Zin (z : Zz) : Prop where
  nd : (z.sorts.map Prod.fst).Nodup
  ok : ∀ p ∈ z.sorts, nameB p.1 = true ∧ p.2 ∈ fourS
  few : z.sorts.length ≤ 100
  s1 : 1 ≤ z.stir
  d1 : 1 ≤ z.doze
  n1 : 1 ≤ z.near
  lo : z.loud ∈ threeS
def spInit (K : PySem.W.Frag) (C : Addr) : Sp := fun vs H Q _ => ∃ (x dx a : Addr) (xs : List V) (z : Zz), vs = [.ref x, .ref a, .int z.stir, .int z.doze, .int z.near, .str z.loud] ∧ H x = some (.ins C dx []) ∧
  (SqL K H a xs ∨ SqT K H a xs) ∧ TDs K H xs (z.sorts.map encP) ∧ Zin z ∧ ∀ H', (∀ b o, b ≠ x → H b = some o → H' b = some o) → SlpAt K C H' x z → Q .non H'
section
variable {P : Program} {w : World} {K : PySem.W.Frag} {mg : Str → Option Value} {base : Heap}
theorem m_Sleeper_mk (D : Df1 K mg "Sleeper" "Sleeper.__init__" s_Sleeper_init) (T : Tx K mg) (c_are_sorts : C8.Cal P w K mg base 3 "are_sorts" (spSorts K) []) (c_is_positive : C8.Cal P w K mg base 2 "is_positive" spPos []) :
    C8.Mak P w K mg base 4 "Sleeper" (He.ga K "Sleeper") (spInit K (He.ga K "Sleeper")) [] := by
  refine mak_mk D sc_Sleeper_init bd_Sleeper_init (fun vs H Q E h => ?_) fun f cdv A outer s H vs Q E hr h => ?_
  · obtain ⟨x, dx, a, xs, z, rfl, _⟩ := h
    rfl
  · obtain ⟨x, dx, a, xs, z, rfl, hx, hq, td, zi, k⟩ := h
    refine ⟨_, (pss_cons (ps_if (pt_not (pt_val (C8.pe_c c_are_sorts hr (by decide) rfl (pa_cons (pv 1) pa_nil))))
 (pss_one ps_never)
 pss_nil)
 (pss_cons (ps_if (pt_not (pt_val (C8.pe_c c_is_positive hr (by decide) rfl (pa_cons (pv 2) pa_nil))))
 (pss_one ps_never)
 pss_nil)
 (pss_cons (ps_if (pt_not (pt_val (C8.pe_c c_is_positive hr (by decide) rfl (pa_cons (pv 3) pa_nil))))
 (pss_one ps_never)
 pss_nil)
 (pss_cons (ps_if (pt_not (pt_val (C8.pe_c c_is_positive hr (by decide) rfl (pa_cons (pv 4) pa_nil))))
 (pss_one ps_never)
 pss_nil)
 (pss_cons (ps_if (pt_cmpR op_notIn_seq (pv 5) (pe_glob (v := .ref _) rfl T.g_LOUD_RULES rfl) (by first | exact nomark _ | rfl))
 (pss_one ps_never)
 pss_nil)
 (pss_cons (ps_fld (pv 0) (pe_callTy call_tuple_of (by rfl) T.n_tuple (by decide +kernel) (pa_cons (pe_callB (cr_sortedAny encP hr.units) (by rfl) T.n_sorted (by decide +kernel) (pa_cons (pv 1) pa_nil)) pa_nil)) rfl)
 (pss_cons (ps_fld (pv 0) (pv 2) rfl)
 (pss_cons (ps_fld (pv 0) (pv 3) rfl)
 (pss_cons (ps_fld (pv 0) (pv 4) rfl)
 (pss_one (ps_fld (pv 0) (pv 5) rfl))))))))))), ?_⟩
    refine ⟨_, rfl, a, xs, z.sorts, rfl, hq, td, zi.ok, zi.nd, zi.few, fun H1 s1 => ⟨_, rfl, iteF ?_⟩⟩
    refine ⟨_, rfl, z.stir, rfl, _, rfl, ?_⟩
    rw [decide_eq_true zi.s1]
    refine iteF ⟨_, rfl, z.doze, rfl, _, rfl, ?_⟩
    rw [decide_eq_true zi.d1]
    refine iteF ⟨_, rfl, z.near, rfl, _, rfl, ?_⟩
    rw [decide_eq_true zi.n1]
    refine iteF ⟨_, rfl, _, _, rfl, .inr (T.t_LOUD_RULES _), rfl, rfl, _, rfl, ?_⟩
    refine notin_no (xs := threeS.map V.str) (by rw [inV_strs]; exact decide_eq_true zi.lo) ?_
    have hq1 : SqL K H1 a xs ∨ SqT K H1 a xs := hq.imp (Same.seq s1) (SqT.keep (Same.tk s1))
    have td1 := TDs.keep (Same.tk s1) td
    have len : xs.length = z.sorts.length := by rw [td.length, List.length_map]
    have ztd := zip_td td1
    refine ⟨_, rfl, a, xs.zip z.sorts, rfl, by rw [zip_fst len]; exact hq1, fun y hy => TD.dp (ztd y hy), PySem.W.AllAlike.of (fun b b' => alike_P b.2 b'.2), PySem.W.Sortable.tuples (fun b => ⟨_, _, rfl⟩), fun y _ => depth_P y.2, fun p np => ?_⟩
    generalize hzs : (xs.zip z.sorts).mergeSort (PySem.W.dataLe false fun y => encP y.2) = zs
    have pz : zs.Perm (xs.zip z.sorts) := by rw [← hzs]; exact List.mergeSort_perm _ _
    have snd : zs.map (·.2) = sortP z.sorts := by rw [← hzs, sort_zip, zip_snd len]
    have tds : TDs K H1 (zs.map (·.1)) ((sortP z.sorts).map encP) := by
      rw [← snd]
      exact td_zip fun y hy => ztd y (pz.mem_iff.mp hy)
    have s2 : Same H1 (upd H1 p (.lst (zs.map (·.1)))) := Same.new np
    refine ⟨p, _, rfl, .inl ⟨SqL.of upd_same, fun t nt => ?_⟩⟩
    have s3 : Same H1 (upd (upd H1 p (.lst (zs.map (·.1)))) t (.tup (zs.map (·.1)))) := s2.trans (Same.new nt)
    have s4 := s1.trans s3
    have xt : x ≠ t := ne_of_none (s2 _ _ (s1 _ _ hx)) nt
    refine ⟨_, rfl, x, _, dx, [], rfl, s4 _ _ hx, T.cls, T.a_sorts, by decide, ?_⟩
    refine ⟨_, rfl, _, rfl, x, _, dx, _, rfl, upd_same, T.cls, T.a_stir, by show 1 < 1000; decide, ?_⟩
    refine ⟨_, rfl, _, rfl, x, _, dx, _, rfl, upd_same, T.cls, T.a_doze, by show 2 < 1000; decide, ?_⟩
    refine ⟨_, rfl, _, rfl, x, _, dx, _, rfl, upd_same, T.cls, T.a_near, by show 3 < 1000; decide, ?_⟩
    refine ⟨_, rfl, _, rfl, x, _, dx, _, rfl, upd_same, T.cls, T.a_loud, by show 4 < 1000; decide, ?_⟩
    rw [upd_upd, upd_upd, upd_upd, upd_upd]
    have tk : TK (upd (upd H1 p (.lst (zs.map (·.1)))) t (.tup (zs.map (·.1)))) (upd (upd (upd H1 p (.lst (zs.map (·.1)))) t (.tup (zs.map (·.1)))) x (.ins (He.ga K "Sleeper") dx (slpFs t z))) := TK.put (s4 _ _ hx) (by intro xs e; cases e) (by intro q u e; cases e)
    refine k _ (fun b o n e => by rw [upd_ne n]; exact s4 b o e) ⟨dx, t, _, Eq.trans upd_same (congrArg (fun q => some (HO.ins (He.ga K "Sleeper") dx q)) rfl), SqT.keep tk (SqT.of upd_same), TDs.keep tk (TDs.keep (Same.tk s3) tds)⟩
end
end Lw
set_option Elab.async false
set_option linter.all false
set_option maxRecDepth 100000
set_option maxHeartbeats 4000000
namespace Lw
open PySem PySem.Spec PyProof.Rows L2 Hb
def spSortOf (K : PySem.W.Frag) (C : Addr) : Sp := fun vs H Q _ => ∃ (p : Addr) (z : Zz) (n : Str), vs = [.ref p, .str n] ∧ SlpAt K C H p z ∧ Q (soV (sortOf z n)) H
section
variable {P : Program} {w : World} {K : PySem.W.Frag} {mg : Str → Option Value} {base : Heap}
theorem c_sort_of (D : Df K mg "sort_of" s_sort_of) (T : Tx K mg) : C8.Cal P w K mg base 1 "sort_of" (spSortOf K (He.ga K "Sleeper")) [] := by
  refine cal_mk D sc_sort_of bd_sort_of (fun vs H Q E h => ?_) fun f cdv A outer s H vs Q E hr h => ?_
  · obtain ⟨p, z, n, rfl, _⟩ := h
    rfl
  · obtain ⟨p, z, n, rfl, ⟨dx, t, xs, hp, ht, td⟩, k⟩ := h
    refine ⟨_, (pss_cons (ps_for PassesOwn.never rfl (pi_tup (pe_fld (pv 0) rfl)) (pg_tup (by rfl) (pgs_cons (pg_name (i := 2) sc_sort_of.nd rfl (Or.inl rfl)) (pgs_cons (pg_name (i := 3) sc_sort_of.nd rfl (Or.inl rfl)) pgs_nil)))
 (pss_one (ps_if (pt_cmpR op_eq (pv 2) (pv 1) (by first | exact nomark _ | rfl))
 (pss_one (ps_ret (pv 3)))
 pss_nil)))
 (pss_one (ps_ret pe_non))), ?_⟩
    have len : xs.length = (sortP z.sorts).length := by rw [td.length, List.length_map]
    refine ⟨_, rfl, p, _, dx, _, _, rfl, hp, T.cls, T.a_sorts, rfl, t, rfl, ⟨_, ht⟩, for_tup (K := K) (a := t) (xs := xs) (fun i σ H' => H' = H ∧ (∃ v2 v3, σ = [some (.ref p), some (.str n), v2, v3]) ∧ sortOf z n = ((sortP z.sorts).drop i).lookup n)
      ⟨rfl, ⟨_, _, rfl⟩, rfl⟩ (fun i σ H' _ q => by rw [q.1]; exact ht) ?_ ?_⟩
    · rintro i x σ H' hx ⟨rfl, ⟨v2, v3, rfl⟩, e⟩
      obtain ⟨q, pr, rfl, hpr, hq⟩ := pair_at td hx
      obtain ⟨hlt, hget⟩ := List.getElem?_eq_some_iff.mp hpr
      rw [List.drop_eq_getElem_cons hlt, hget] at e
      refine ⟨q, _, rfl, hq, rfl, _, _, rfl, _, _, rfl, rfl, ?_⟩
      refine ⟨_, rfl, _, rfl, rfl, _, rfl, ?_⟩
      refine ite2 (fun h => ?_) (fun h => ?_)
      · have h2 : pr.1 = n := by have h3 := of_decide_eq_true h; injection h3
        have e2 : sortOf z n = some pr.2 := by rw [e, ← h2]; simp [List.lookup]
        rw [e2] at k
        exact ⟨_, rfl, k⟩
      · have h2 : ¬ pr.1 = n := fun q => h (decide_eq_true (by rw [q]))
        have h3 : (n == pr.1) = false := beq_eq_false_iff_ne.mpr fun q => h2 q.symm
        exact ⟨rfl, ⟨_, _, rfl⟩, by rw [e]; simp [List.lookup, h3]⟩
    · rintro σ H' ⟨rfl, ⟨v2, v3, rfl⟩, e⟩
      rw [List.drop_eq_nil_of_le (by omega)] at e
      rw [show soV (sortOf z n) = V.non by rw [e]; rfl] at k
      exact k
def spSt (K : PySem.W.Frag) (C : Addr) (f : Zz → S0 → S0) : Sp := fun vs H Q _ => ∃ (p : Addr) (v : V) (z : Zz) (s : S0), vs = [.ref p, v] ∧ SlpAt K C H p z ∧ StAt K H v s ∧ ∀ H' v', Same H H' → StAt K H' v' (f z s) → Q v' H'
/-- dozing anew -/
def spAnew (K : PySem.W.Frag) (C : Addr) : Sp := fun vs H Q _ => ∃ (p : Addr) (z : Zz), vs = [.ref p] ∧ SlpAt K C H p z ∧ ∀ H' v', Same H H' → StAt K H' v' (.doz z.doze) → Q v' H'
theorem c_dozing_anew (D : Df K mg "dozing_anew" s_dozing_anew) (T : Tx K mg) : C8.Cal P w K mg base 1 "dozing_anew" (spAnew K (He.ga K "Sleeper")) [] := by
  refine cal_mk D sc_dozing_anew bd_dozing_anew (fun vs H Q E h => ?_) fun f cdv A outer s H vs Q E hr h => ?_
  · obtain ⟨p, z, rfl, _⟩ := h
    rfl
  · obtain ⟨p, z, rfl, ⟨dx, t, xs, hp, ht, td⟩, k⟩ := h
    refine ⟨_, (pss_one (ps_ret (pe_tup (pa_cons pe_str (pa_cons (pe_fld (pv 0) rfl) pa_nil))))), ?_⟩
    exact ⟨_, rfl, p, _, dx, _, _, rfl, hp, T.cls, T.a_doze, rfl, by show 2 ≤ sizeLine; decide, fun q nq => k _ _ (Same.new nq) ⟨q, rfl, SqT.of upd_same⟩⟩
def loudDoz (z : Zz) (s : S0) : S0 := if z.loud = "wake" then .wok else if z.loud = "again" then .doz z.doze else s
theorem c_heard_loud_dozing (D : Df K mg "heard_loud_dozing" s_heard_loud_dozing) (T : Tx K mg) (c_dozing_anew : C8.Cal P w K mg base 1 "dozing_anew" (spAnew K (He.ga K "Sleeper")) []) :
    C8.Cal P w K mg base 2 "heard_loud_dozing" (spSt K (He.ga K "Sleeper") loudDoz) [] := by
  refine cal_mk D sc_heard_loud_dozing bd_heard_loud_dozing (fun vs H Q E h => ?_) fun f cdv A outer s H vs Q E hr h => ?_
  · obtain ⟨p, v, z, s, rfl, _⟩ := h
    rfl
  · obtain ⟨p, v, z, s, rfl, hz, hs, k⟩ := h
    obtain ⟨dx, t, xs, hp, ht, td⟩ := id hz
    refine ⟨_, (pss_cons (ps_if (pt_cmpR op_eq (pe_fld (pv 0) rfl) pe_str (by first | exact nomark _ | rfl))
 (pss_one (ps_ret (pe_glob (v := .ref _) rfl T.g_WOKEN rfl)))
 pss_nil)
 (pss_one (ps_ret (pe_ifExp (pt_cmpR op_eq (pe_fld (pv 0) rfl) pe_str (by first | exact nomark _ | rfl)) (C8.pe_c c_dozing_anew hr (by decide) rfl (pa_cons (pv 0) pa_nil)) (pv 1))))), ?_⟩
    refine ⟨_, rfl, p, _, dx, _, _, rfl, hp, T.cls, T.a_loud, rfl, rfl, _, rfl, ?_⟩
    by_cases h1 : z.loud = "wake"
    · rw [decide_eq_true (show V.str z.loud = V.str "wake" by rw [h1])]
      exact iteT (k _ _ (Same.refl H) ⟨_, rfl, by rw [show loudDoz z s = S0.wok from if_pos h1]; exact T.t_WOKEN _⟩)
    · rw [decide_eq_false (show ¬ V.str z.loud = V.str "wake" from fun q => h1 (by injection q))]
      refine iteF ⟨_, rfl, p, _, dx, _, _, rfl, hp, T.cls, T.a_loud, rfl, rfl, _, rfl, ?_⟩
      by_cases h2 : z.loud = "again"
      · rw [decide_eq_true (show V.str z.loud = V.str "again" by rw [h2])]
        have e : loudDoz z s = S0.doz z.doze := (if_neg h1).trans (if_pos h2)
        rw [e] at k
        exact iteT ⟨_, rfl, p, z, rfl, hz, k⟩
      · rw [decide_eq_false (show ¬ V.str z.loud = V.str "again" from fun q => h2 (by injection q))]
        have e : loudDoz z s = s := (if_neg h1).trans (if_neg h2)
        rw [e] at k
        exact iteF ⟨_, rfl, k _ _ (Same.refl H) hs⟩
end
end Lw
set_option Elab.async false
set_option linter.all false
set_option maxRecDepth 100000
set_option maxHeartbeats 4000000
namespace Lw
open PySem PySem.Spec PyProof.Rows L2 Hb
/-- behind a noise of a sort, asleep -/
def spAslp (K : PySem.W.Frag) (C : Addr) : Sp := fun vs H Q _ => ∃ (p : Addr) (v : V) (z : Zz) (s : S0) (n : Str) (so : Option Str), vs = [.ref p, v, .str n, soV so] ∧ SlpAt K C H p z ∧ StAt K H v s ∧ s.word = "asleep" ∧ ∀ H' v', Same H H' → StAt K H' v' (hear z so n s) → Q v' H'
def spHeard (K : PySem.W.Frag) (C : Addr) : Sp := fun vs H Q _ => ∃ (p : Addr) (v : V) (z : Zz) (s : S0) (n : Str), vs = [.ref p, v, .str n] ∧ SlpAt K C H p z ∧ StAt K H v s ∧ ∀ H' v', Same H H' → StAt K H' v' (hear z (sortOf z n) n s) → Q v' H'
section
variable {P : Program} {w : World} {K : PySem.W.Frag} {mg : Str → Option Value} {base : Heap}
theorem c_heard_asleep (D : Df K mg "heard_asleep" s_heard_asleep) (T : Tx K mg) : C8.Cal P w K mg base 1 "heard_asleep" (spAslp K (He.ga K "Sleeper")) [] := by
  refine cal_mk D sc_heard_asleep bd_heard_asleep (fun vs H Q E h => ?_) fun f cdv A outer s H vs Q E hr h => ?_
  · obtain ⟨p, v, z, s, n, so, rfl, _⟩ := h
    rfl
  · obtain ⟨p, v, z, s, n, so, rfl, ⟨dx, t, xs, hp, ht, td⟩, hs, hw, k⟩ := h
    have sl : s = .asl ∨ ∃ m a, s = .kept m a := by
      obtain ⟨h1, h2, h3, h4, h5, h6, h7, h8, h9, h10⟩ := words_ne
      cases s
      case up => exact absurd hw.symm h1
      case doz => exact absurd hw h5.symm
      case asl => exact .inl rfl
      case kept => exact .inr ⟨_, _, rfl⟩
      case stir => exact absurd hw h8
      case wok => exact absurd hw h9
    obtain ⟨a, rfl, hs⟩ := hs
    refine ⟨_, (pss_cons (ps_if (pt_cmpR op_eq (pv 3) pe_str (by first | exact nomark _ | rfl))
 (pss_one (ps_ret (pe_tup (pa_cons pe_str (pa_cons (pe_fld (pv 0) rfl) pa_nil)))))
 pss_nil)
 (pss_cons (ps_if (PW.pt (pw_or (pt_cmpR op_eq (pv 3) pe_str (by first | exact nomark _ | rfl)) (pw_or1 (pt_cmpR op_eq (pv 3) pe_str (by first | exact nomark _ | rfl)))))
 (pss_one (ps_ret (pe_glob (v := .ref _) rfl T.g_WOKEN rfl)))
 pss_nil)
 (pss_cons (ps_if (pt_cmpR op_eq (pv 3) pe_str (by first | exact nomark _ | rfl))
 (pss_one (ps_ret (pe_ifExp (PW.pt (pw_and (pt_cmpR op_eq (pe_callB call_len (by rfl) T.n_len (by decide +kernel) (pa_cons (pv 1) pa_nil)) pe_int (by first | exact nomark _ | rfl)) (pw_and1 (pt_cmpR op_ne (pe_ix ix_tup (pv 1) pe_int (fun _ _ => rfl)) (pv 2) (by first | exact nomark _ | rfl))))) (pe_glob (v := .ref _) rfl T.g_WOKEN rfl) (pe_tup (pa_cons pe_str (pa_cons (pv 2) (pa_cons pe_int pa_nil)))))))
 pss_nil)
 (pss_one (ps_ret (pv 1)))))), ?_⟩
    refine ⟨_, rfl, soV_scal so _, _, rfl, ?_⟩
    rw [soV_eq]
    by_cases h1 : so = some ("soft" : Str)
    · rw [decide_eq_true h1]
      refine iteT ⟨_, rfl, p, _, dx, _, _, rfl, hp, T.cls, T.a_stir, rfl, by show 2 ≤ sizeLine; decide, fun q nq => k _ _ (Same.new nq) ⟨q, rfl, ?_⟩⟩
      have e : hear z so n s = .stir z.stir := by rcases sl with rfl | ⟨m, a, rfl⟩ <;> (show ite _ _ _ = _; rw [if_pos h1])
      rw [e]
      exact SqT.of upd_same
    · rw [decide_eq_false h1]
      refine iteF ⟨_, rfl, soV_scal so _, _, rfl, ?_⟩
      rw [soV_eq]
      by_cases h2 : so = some ("loud" : Str)
      · rw [decide_eq_true h2]
        have e : hear z so n s = .wok := by rcases sl with rfl | ⟨m, a, rfl⟩ <;> (show ite _ _ _ = _; rw [if_neg h1, if_pos (Or.inl h2)])
        rw [e] at k
        exact iteT (k _ _ (Same.refl H) ⟨_, rfl, T.t_WOKEN _⟩)
      · rw [decide_eq_false h2]
        refine iteF ⟨_, rfl, soV_scal so _, _, rfl, ?_⟩
        rw [soV_eq]
        by_cases h3 : so = some ("sudden" : Str)
        · rw [decide_eq_true h3]
          have e : hear z so n s = .wok := by rcases sl with rfl | ⟨m, a, rfl⟩ <;> (show ite _ _ _ = _; rw [if_neg h1, if_pos (Or.inr h3)])
          rw [e] at k
          exact iteT (k _ _ (Same.refl H) ⟨_, rfl, T.t_WOKEN _⟩)
        · rw [decide_eq_false h3]
          refine iteF ⟨_, rfl, soV_scal so _, _, rfl, ?_⟩
          rw [soV_eq]
          by_cases h4 : so = some ("faint" : Str)
          · rw [decide_eq_true h4]
            refine iteT ?_
            rcases sl with rfl | ⟨m, ago, rfl⟩
            · refine ⟨_, rfl, .ref a, 1, rfl, .inr ⟨_, hs, rfl⟩, rfl, _, rfl, iteF (iteF ⟨_, rfl, by show 3 ≤ sizeLine; decide, fun q nq => ?_⟩)⟩
              have e : hear z so n .asl = .kept n 0 := by show ite _ _ _ = _; rw [if_neg h1, if_neg (fun q => q.elim h2 h3), if_pos h4]
              rw [e] at k
              exact k _ _ (Same.new nq) ⟨q, rfl, SqT.of upd_same⟩
            · refine ⟨_, rfl, .ref a, 3, rfl, .inr ⟨_, hs, rfl⟩, rfl, _, rfl, iteT ⟨_, rfl, a, _, 1, .str m, rfl, rfl, hs, rfl, _, rfl, rfl, _, rfl, ?_⟩⟩
              by_cases h5 : m = n
              · rw [decide_eq_true (show V.str m = V.str n by rw [h5])]
                refine iteF ⟨_, rfl, by show 3 ≤ sizeLine; decide, fun q nq => ?_⟩
                have e : hear z so n (.kept m ago) = .kept n 0 := by show ite _ _ _ = _; rw [if_neg h1, if_neg (fun q => q.elim h2 h3), if_pos h4, if_pos h5]
                rw [e] at k
                exact k _ _ (Same.new nq) ⟨q, rfl, SqT.of upd_same⟩
              · rw [decide_eq_false (show ¬ V.str m = V.str n from fun q => h5 (by injection q))]
                have e : hear z so n (.kept m ago) = .wok := by show ite _ _ _ = _; rw [if_neg h1, if_neg (fun q => q.elim h2 h3), if_pos h4, if_neg h5]
                rw [e] at k
                exact iteT (k _ _ (Same.refl H) ⟨_, rfl, T.t_WOKEN _⟩)
          · rw [decide_eq_false h4]
            refine iteF ⟨_, rfl, ?_⟩
            have e : hear z so n s = s := by rcases sl with rfl | ⟨m, a, rfl⟩ <;> (show ite _ _ _ = _; rw [if_neg h1, if_neg (fun q => q.elim h2 h3), if_neg h4])
            rw [e] at k
            exact k _ _ (Same.refl H) ⟨a, rfl, hs⟩
theorem word_eq (s : S0) (x : Str) : decide (V.str s.word = V.str x) = decide (s.word = x) := by
  by_cases h : s.word = x
  · rw [decide_eq_true h, decide_eq_true (show V.str s.word = V.str x by rw [h])]
  · rw [decide_eq_false h, decide_eq_false (show ¬ V.str s.word = V.str x from fun q => h (by injection q))]
theorem hear_doz {z : Zz} {so : Option Str} {n : Str} {t : Int} (h : so = some ("loud" : Str)) : hear z so n (.doz t) = loudDoz z (.doz t) := by
  show ite _ _ _ = _
  rw [if_pos h]
  rfl
theorem c_heard (D : Df K mg "heard" s_heard) (T : Tx K mg) (c_sort_of : C8.Cal P w K mg base 1 "sort_of" (spSortOf K (He.ga K "Sleeper")) []) (c_heard_asleep : C8.Cal P w K mg base 1 "heard_asleep" (spAslp K (He.ga K "Sleeper")) [])
    (c_heard_loud_dozing : C8.Cal P w K mg base 2 "heard_loud_dozing" (spSt K (He.ga K "Sleeper") loudDoz) []) : C8.Cal P w K mg base 3 "heard" (spHeard K (He.ga K "Sleeper")) [] := by
  refine cal_mk D sc_heard bd_heard (fun vs H Q E h => ?_) fun f cdv A outer s H vs Q E hr h => ?_
  · obtain ⟨p, v, z, s, n, rfl, _⟩ := h
    rfl
  · obtain ⟨p, v, z, s, n, rfl, hz, hs, k⟩ := h
    obtain ⟨a, rfl, ha⟩ := id hs
    obtain ⟨q1, q2, q3, q4, q5, q6, q7, q8, q9, q10⟩ := words_ne
    refine ⟨_, (pss_cons (ps_set (i := 3) sc_heard.nd rfl (Or.inl rfl) (C8.pe_c c_sort_of hr (by decide) rfl (pa_cons (pv 0) (pa_cons (pv 2) pa_nil))))
 (pss_cons (ps_if (pt_cmpR op_eq (pe_ix ix_tup (pv 1) pe_int (fun _ _ => rfl)) pe_str (by first | exact nomark _ | rfl))
 (pss_one (ps_ret (C8.pe_c c_heard_asleep hr (by decide) rfl (pa_cons (pv 0) (pa_cons (pv 1) (pa_cons (pv 2) (pa_cons (pv 3) pa_nil)))))))
 pss_nil)
 (pss_cons (ps_if (PW.pt (pw_and (pt_cmpR op_eq (pe_ix ix_tup (pv 1) pe_int (fun _ _ => rfl)) pe_str (by first | exact nomark _ | rfl)) (pw_and1 (pt_cmpR op_eq (pv 3) pe_str (by first | exact nomark _ | rfl)))))
 (pss_one (ps_ret (C8.pe_c c_heard_loud_dozing hr (by decide) rfl (pa_cons (pv 0) (pa_cons (pv 1) pa_nil)))))
 pss_nil)
 (pss_cons (ps_if (PW.pt (pw_and (pt_cmpR op_eq (pe_ix ix_tup (pv 1) pe_int (fun _ _ => rfl)) pe_str (by first | exact nomark _ | rfl)) (pw_and1 (pt_cmpR op_eq (pv 3) pe_str (by first | exact nomark _ | rfl)))))
 (pss_one (ps_ret (pe_glob (v := .ref _) rfl T.g_WOKEN rfl)))
 pss_nil)
 (pss_one (ps_ret (pv 1))))))), ?_⟩
    refine ⟨_, rfl, _, rfl, p, z, n, rfl, hz, ?_⟩
    refine ⟨_, rfl, a, _, 0, _, rfl, rfl, ha, s.head, rfl, _, rfl, ?_⟩
    rw [word_eq]
    by_cases h1 : s.word = "asleep"
    · rw [decide_eq_true h1]
      exact iteT ⟨_, rfl, _, rfl, _, rfl, _, rfl, p, _, z, s, n, sortOf z n, rfl, hz, hs, h1, k⟩
    · rw [decide_eq_false h1]
      refine iteF ⟨_, rfl, a, _, 0, _, rfl, rfl, ha, s.head, rfl, _, rfl, ?_⟩
      rw [word_eq]
      by_cases h2 : s.word = "dozing"
      · rw [decide_eq_true h2]
        obtain ⟨t, rfl⟩ : ∃ t, s = .doz t := by
          cases s
          case up => exact absurd h2.symm q2
          case doz t => exact ⟨t, rfl⟩
          case asl => exact absurd rfl h1
          case kept => exact absurd rfl h1
          case stir => exact absurd h2 q6
          case wok => exact absurd h2 q7
        refine iteT ⟨_, rfl, soV_scal _ _, _, rfl, ?_⟩
        rw [soV_eq]
        by_cases h3 : sortOf z n = some ("loud" : Str)
        · rw [decide_eq_true h3]
          rw [hear_doz h3] at k
          exact iteT ⟨_, rfl, _, rfl, p, _, z, _, rfl, hz, hs, k⟩
        · rw [decide_eq_false h3]
          refine iteF ⟨_, rfl, a, _, 0, _, rfl, rfl, ha, rfl, rfl, _, rfl, iteF (iteF ⟨_, rfl, ?_⟩)⟩
          have e : hear z (sortOf z n) n (.doz t) = .doz t := by show ite _ _ _ = _; rw [if_neg h3]
          rw [e] at k
          exact k _ _ (Same.refl H) hs
      · rw [decide_eq_false h2]
        refine iteF (iteF ⟨_, rfl, a, _, 0, _, rfl, rfl, ha, s.head, rfl, _, rfl, ?_⟩)
        rw [word_eq]
        by_cases h4 : s.word = "stirring"
        · rw [decide_eq_true h4]
          obtain ⟨t, rfl⟩ : ∃ t, s = .stir t := by
            cases s
            case up => exact absurd h4.symm q3
            case doz t => exact absurd rfl h2
            case asl => exact absurd rfl h1
            case kept => exact absurd rfl h1
            case stir t => exact ⟨t, rfl⟩
            case wok => exact absurd h4 q10
          refine iteT ⟨_, rfl, soV_scal _ _, _, rfl, ?_⟩
          rw [soV_eq]
          by_cases h3 : sortOf z n = some ("loud" : Str)
          · rw [decide_eq_true h3]
            have e : hear z (sortOf z n) n (.stir t) = .wok := by show ite _ _ _ = _; rw [if_pos h3]
            rw [e] at k
            exact iteT (k _ _ (Same.refl H) ⟨_, rfl, T.t_WOKEN _⟩)
          · rw [decide_eq_false h3]
            have e : hear z (sortOf z n) n (.stir t) = .stir t := by show ite _ _ _ = _; rw [if_neg h3]
            rw [e] at k
            exact iteF ⟨_, rfl, k _ _ (Same.refl H) hs⟩
        · rw [decide_eq_false h4]
          have e : hear z (sortOf z n) n s = s := by
            cases s
            case up => rfl
            case doz t => exact absurd rfl h2
            case asl => exact absurd rfl h1
            case kept => exact absurd rfl h1
            case stir t => exact absurd rfl h4
            case wok => rfl
          rw [e] at k
          exact iteF (iteF ⟨_, rfl, k _ _ (Same.refl H) hs⟩)
theorem c_ticked (D : Df K mg "ticked" s_ticked) (T : Tx K mg) : C8.Cal P w K mg base 1 "ticked" (spSt K (He.ga K "Sleeper") tick) [] := by
  refine cal_mk D sc_ticked bd_ticked (fun vs H Q E h => ?_) fun f cdv A outer s H vs Q E hr h => ?_
  · obtain ⟨p, v, z, s, rfl, _⟩ := h
    rfl
  · obtain ⟨p, v, z, s, rfl, hz, hs, k⟩ := h
    obtain ⟨dx, t0, xs, hp, ht, td⟩ := id hz
    obtain ⟨a, rfl, ha⟩ := id hs
    refine ⟨_, (pss_cons (ps_if (pt_cmpR op_eq (pe_ix ix_tup (pv 1) pe_int (fun _ _ => rfl)) pe_str (by first | exact nomark _ | rfl))
 (pss_one (ps_ret (pe_ifExp (pt_cmpR op_gt (pe_ix ix_tup (pv 1) pe_int (fun _ _ => rfl)) pe_int (by first | exact nomark _ | rfl)) (pe_tup (pa_cons pe_str (pa_cons (pe_op op_sub (pe_ix ix_tup (pv 1) pe_int (fun _ _ => rfl)) pe_int) pa_nil))) (pe_glob (v := .ref _) rfl T.g_ASLEEP rfl))))
 pss_nil)
 (pss_cons (ps_if (pt_cmpR op_eq (pe_ix ix_tup (pv 1) pe_int (fun _ _ => rfl)) pe_str (by first | exact nomark _ | rfl))
 (pss_one (ps_ret (pe_ifExp (pt_cmpR op_gt (pe_ix ix_tup (pv 1) pe_int (fun _ _ => rfl)) pe_int (by first | exact nomark _ | rfl)) (pe_tup (pa_cons pe_str (pa_cons (pe_op op_sub (pe_ix ix_tup (pv 1) pe_int (fun _ _ => rfl)) pe_int) pa_nil))) (pe_glob (v := .ref _) rfl T.g_WOKEN rfl))))
 pss_nil)
 (pss_cons (ps_if (PW.pt (pw_and (pt_cmpR op_eq (pe_ix ix_tup (pv 1) pe_int (fun _ _ => rfl)) pe_str (by first | exact nomark _ | rfl)) (pw_and1 (pt_cmpR op_eq (pe_callB call_len (by rfl) T.n_len (by decide +kernel) (pa_cons (pv 1) pa_nil)) pe_int (by first | exact nomark _ | rfl)))))
 (pss_one (ps_ret (pe_ifExp (pt_cmpR op_lt (pe_ix ix_tup (pv 1) pe_int (fun _ _ => rfl)) (pe_fld (pv 0) rfl) (by first | exact nomark _ | rfl)) (pe_tup (pa_cons pe_str (pa_cons (pe_ix ix_tup (pv 1) pe_int (fun _ _ => rfl)) (pa_cons (pe_op op_add (pe_ix ix_tup (pv 1) pe_int (fun _ _ => rfl)) pe_int) pa_nil)))) (pe_glob (v := .ref _) rfl T.g_ASLEEP rfl))))
 pss_nil)
 (pss_one (ps_ret (pv 1)))))), ?_⟩
    cases s with
    | doz t =>
      refine ⟨_, rfl, a, _, 0, _, rfl, rfl, ha, rfl, rfl, _, rfl, iteT ⟨_, rfl, a, _, 1, .int t, rfl, rfl, ha, rfl, _, _, rfl, rfl, _, rfl, ite2 (fun h => ?_) (fun h => ?_)⟩⟩
      · have h1 : 1 < t := of_decide_eq_true h
        refine ⟨_, rfl, a, _, 1, .int t, rfl, rfl, ha, rfl, _, _, rfl, rfl, by show 2 ≤ sizeLine; decide, fun q nq => k _ _ (Same.new nq) ⟨q, rfl, ?_⟩⟩
        rw [show tick z (.doz t) = .doz (t - 1) from if_pos h1]
        exact SqT.of upd_same
      · have h1 : ¬ 1 < t := fun q => h (decide_eq_true q)
        rw [show tick z (.doz t) = .asl from if_neg h1] at k
        exact k _ _ (Same.refl H) ⟨_, rfl, T.t_ASLEEP _⟩
    | stir t =>
      refine ⟨_, rfl, a, _, 0, _, rfl, rfl, ha, rfl, rfl, _, rfl, iteF ⟨_, rfl, a, _, 0, _, rfl, rfl, ha, rfl, rfl, _, rfl, iteT ⟨_, rfl, a, _, 1, .int t, rfl, rfl, ha, rfl, _, _, rfl, rfl, _, rfl, ite2 (fun h => ?_) (fun h => ?_)⟩⟩⟩
      · have h1 : 1 < t := of_decide_eq_true h
        refine ⟨_, rfl, a, _, 1, .int t, rfl, rfl, ha, rfl, _, _, rfl, rfl, by show 2 ≤ sizeLine; decide, fun q nq => k _ _ (Same.new nq) ⟨q, rfl, ?_⟩⟩
        rw [show tick z (.stir t) = .stir (t - 1) from if_pos h1]
        exact SqT.of upd_same
      · have h1 : ¬ 1 < t := fun q => h (decide_eq_true q)
        rw [show tick z (.stir t) = .wok from if_neg h1] at k
        exact k _ _ (Same.refl H) ⟨_, rfl, T.t_WOKEN _⟩
    | kept m ago =>
      refine ⟨_, rfl, a, _, 0, _, rfl, rfl, ha, rfl, rfl, _, rfl, iteF ⟨_, rfl, a, _, 0, _, rfl, rfl, ha, rfl, rfl, _, rfl, iteF ⟨_, rfl, a, _, 0, _, rfl, rfl, ha, rfl, rfl, _, rfl, iteT ⟨_, rfl, .ref a, 3, rfl, .inr ⟨_, ha, rfl⟩, rfl, _, rfl, iteT ?_⟩⟩⟩⟩
      refine ⟨_, rfl, a, _, 2, .int ago, rfl, rfl, ha, rfl, _, rfl, p, _, dx, _, _, rfl, hp, T.cls, T.a_near, rfl, _, _, rfl, rfl, _, rfl, ite2 (fun h => ?_) (fun h => ?_)⟩
      · have h1 : ago < z.near := of_decide_eq_true h
        refine ⟨_, rfl, a, _, 1, .str m, rfl, rfl, ha, rfl, _, rfl, a, _, 2, .int ago, rfl, rfl, ha, rfl, _, _, rfl, rfl, by show 3 ≤ sizeLine; decide, fun q nq => k _ _ (Same.new nq) ⟨q, rfl, ?_⟩⟩
        rw [show tick z (.kept m ago) = .kept m (ago + 1) from if_pos h1]
        exact SqT.of upd_same
      · have h1 : ¬ ago < z.near := fun q => h (decide_eq_true q)
        rw [show tick z (.kept m ago) = .asl from if_neg h1] at k
        exact k _ _ (Same.refl H) ⟨_, rfl, T.t_ASLEEP _⟩
    | asl =>
      refine ⟨_, rfl, a, _, 0, _, rfl, rfl, ha, rfl, rfl, _, rfl, iteF ⟨_, rfl, a, _, 0, _, rfl, rfl, ha, rfl, rfl, _, rfl, iteF ⟨_, rfl, a, _, 0, _, rfl, rfl, ha, rfl, rfl, _, rfl, iteT ⟨_, rfl, .ref a, 1, rfl, .inr ⟨_, ha, rfl⟩, rfl, _, rfl, iteF ⟨_, rfl, k _ _ (Same.refl H) hs⟩⟩⟩⟩⟩
    | up =>
      refine ⟨_, rfl, a, _, 0, _, rfl, rfl, ha, rfl, rfl, _, rfl, iteF ⟨_, rfl, a, _, 0, _, rfl, rfl, ha, rfl, rfl, _, rfl, iteF ⟨_, rfl, a, _, 0, _, rfl, rfl, ha, rfl, rfl, _, rfl, iteF (iteF ⟨_, rfl, k _ _ (Same.refl H) hs⟩)⟩⟩⟩
    | wok =>
      refine ⟨_, rfl, a, _, 0, _, rfl, rfl, ha, rfl, rfl, _, rfl, iteF ⟨_, rfl, a, _, 0, _, rfl, rfl, ha, rfl, rfl, _, rfl, iteF ⟨_, rfl, a, _, 0, _, rfl, rfl, ha, rfl, rfl, _, rfl, iteF (iteF ⟨_, rfl, k _ _ (Same.refl H) hs⟩)⟩⟩⟩
def spHum (K : PySem.W.Frag) (C : Addr) : Sp := fun vs H Q _ => ∃ (p : Addr) (v : V) (z : Zz) (s : S0) (x : Str), vs = [.ref p, v, .str x] ∧ SlpAt K C H p z ∧ StAt K H v s ∧ s.ok ∧ ∀ H' v', Same H H' → StAt K H' v' (hum z x s) → Q v' H'
theorem c_hummed (D : Df K mg "hummed" s_hummed) (T : Tx K mg) (c_dozing_anew : C8.Cal P w K mg base 1 "dozing_anew" (spAnew K (He.ga K "Sleeper")) []) : C8.Cal P w K mg base 2 "hummed" (spHum K (He.ga K "Sleeper")) [] := by
  refine cal_mk D sc_hummed bd_hummed (fun vs H Q E h => ?_) fun f cdv A outer s H vs Q E hr h => ?_
  · obtain ⟨p, v, z, s, x, rfl, _⟩ := h
    rfl
  · obtain ⟨p, v, z, s, x, rfl, hz, hs, ok, k⟩ := h
    have hw : StAt K H (.ref (He.ga K "WOKEN")) .wok := ⟨_, rfl, T.t_WOKEN _⟩
    refine ⟨_, (pss_cons (ps_if (pt_cmpR (op_eqD hr.units) (pv 1) (pe_glob (v := .ref _) rfl T.g_WOKEN rfl) (by first | exact nomark _ | rfl))
 (pss_one (ps_ret (pv 1)))
 pss_nil)
 (pss_one (ps_ret (pe_ifExp (pt_cmpR op_eq (pv 2) pe_str (by first | exact nomark _ | rfl)) (pe_glob (v := .ref _) rfl T.g_UP rfl) (C8.pe_c c_dozing_anew hr (by decide) rfl (pa_cons (pv 0) pa_nil)))))), ?_⟩
    refine ⟨_, rfl, _, _, TD.dp hs.td, TD.dp hw.td, (S0.shp ok).shaped, (S0.shp (s := .wok) trivial).shaped, _, rfl, ?_⟩
    rw [eqv_st]
    by_cases h1 : s = .wok
    · subst h1
      exact iteT ⟨_, rfl, k _ _ (Same.refl H) hs⟩
    · rw [decide_eq_false h1]
      refine iteF ⟨_, rfl, rfl, _, rfl, ?_⟩
      by_cases h2 : x = "up"
      · rw [decide_eq_true (show V.str x = V.str "up" by rw [h2])]
        have e : hum z x s = .up := by cases s <;> first | exact absurd rfl h1 | exact if_pos h2
        rw [e] at k
        exact iteT (k _ _ (Same.refl H) ⟨_, rfl, T.t_UP _⟩)
      · rw [decide_eq_false (show ¬ V.str x = V.str "up" from fun q => h2 (by injection q))]
        have e : hum z x s = .doz z.doze := by cases s <;> first | exact absurd rfl h1 | exact if_neg h2
        rw [e] at k
        exact iteF ⟨_, rfl, p, z, rfl, hz, k⟩
end
end Lw
set_option Elab.async false
set_option linter.all false
set_option maxRecDepth 100000
set_option maxHeartbeats 4000000
namespace Lw
open PySem PySem.Spec PyProof.Rows L2 Hb
def spSlpOf (K : PySem.W.Frag) (C : Addr) : Sp := fun vs H Q _ => ∃ (o : Addr) (z : Zz), vs = [.ref o] ∧ OneAt K H o z ∧ Zin z ∧ ∀ H' p, Same H H' → H p = none → SlpAt K C H' p z → Q (.ref p) H'
section
variable {P : Program} {w : World} {K : PySem.W.Frag} {mg : Str → Option Value} {base : Heap}
theorem c_sleeper_of (D : Df K mg "_law_sleeper_of" s_sleeper_of) (T : Tx K mg) (m_Sleeper : C8.Mak P w K mg base 4 "Sleeper" (He.ga K "Sleeper") (spInit K (He.ga K "Sleeper")) []) :
    C8.Cal P w K mg base 6 "_law_sleeper_of" (spSlpOf K (He.ga K "Sleeper")) [] := by
  refine cal_mk D sc_sleeper_of bd_sleeper_of (fun vs H Q E h => ?_) fun f cdv A outer s H vs Q E hr h => ?_
  · obtain ⟨o, z, rfl, _⟩ := h
    rfl
  · obtain ⟨o, z, rfl, ho, zi, k⟩ := h
    obtain ⟨t, xs, hO⟩ := ho.inv
    refine ⟨_, (pss_one (ps_ret (C8.pe_mk m_Sleeper hr (by decide) rfl (pa_cons (pe_ix ix_tup (pv 0) pe_int (fun _ _ => rfl)) (pa_cons (pe_ix ix_tup (pv 0) pe_int (fun _ _ => rfl)) (pa_cons (pe_ix ix_tup (pv 0) pe_int (fun _ _ => rfl)) (pa_cons (pe_ix ix_tup (pv 0) pe_int (fun _ _ => rfl)) (pa_cons (pe_ix ix_tup (pv 0) pe_int (fun _ _ => rfl)) pa_nil)))))))), ?_⟩
    refine ⟨_, rfl, o, _, 0, _, rfl, rfl, hO.all, rfl, _, rfl, o, _, 1, _, rfl, rfl, hO.all, rfl, _, rfl, o, _, 2, _, rfl, rfl, hO.all, rfl, _, rfl, o, _, 3, _, rfl, rfl, hO.all, rfl, _, rfl, o, _, 4, _, rfl, rfl, hO.all, rfl, ?_⟩
    intro x dx nx ndx ne
    have s1 : Same H (upd (upd H dx (.own x)) x (.ins (He.ga K "Sleeper") dx [])) := fun b u e => by
      rw [upd_ne (ne_of_none e nx), upd_ne (ne_of_none e ndx)]
      exact e
    have tk := Same.tk s1
    refine ⟨x, dx, t, xs, z, rfl, upd_same, .inr (SqT.keep tk hO.srt), TDs.keep tk hO.its, zi, fun H' kp hz => ⟨rfl, k H' x (fun b u e => kp b u (ne_of_none e nx) (s1 b u e)) nx hz⟩⟩
def faints (z : Zz) (ps : List (Str × Str)) : List S0 := (ps.filter fun p => decide (p.2 = ("faint" : Str))).flatMap fun p => (List.range (z.near + 1).toNat).map fun i => .kept p.1 (0 + (i : Nat))
theorem faints_more (z : Zz) {ps : List (Str × Str)} {i : Nat} {p : Str × Str} (h : ps[i]? = some p) : faints z (ps.take (i + 1)) = faints z (ps.take i) ++ if p.2 = ("faint" : Str) then (List.range (z.near + 1).toNat).map fun i => .kept p.1 (0 + (i : Nat)) else [] := by
  unfold faints
  rw [List.take_add_one, h]
  by_cases e : p.2 = ("faint" : Str)
  · simp [e]
  · simp [e]
def spStates (K : PySem.W.Frag) : Sp := fun vs H Q _ => ∃ (o : Addr) (z : Zz), vs = [.ref o] ∧ OneAt K H o z ∧ 0 ≤ z.stir ∧ z.stir ≤ 100 ∧ 0 ≤ z.doze ∧ z.doze ≤ 100 ∧ 0 ≤ z.near ∧ z.near ≤ 100 ∧ z.sorts.length ≤ 100 ∧
  ∀ H' p us, Same H H' → H p = none → H' p = some (.lst us) → SsAt K H' us (states z) → Q (.ref p) H'
theorem c_states (D : Df K mg "_law_states" s_states) (T : Tx K mg) : C8.Cal P w K mg base 1 "_law_states" (spStates K) [] := by
  refine cal_mk D sc_states bd_states (fun vs H Q E h => ?_) fun f cdv A outer s H vs Q E hr h => ?_
  · obtain ⟨o, z, rfl, _⟩ := h
    rfl
  · obtain ⟨o, z, rfl, ho, st0, st1, dz0, dz1, nr0, nr1, few, k⟩ := h
    obtain ⟨t, xs, hO⟩ := ho.inv
    have line := sizeLine_eq
    refine ⟨_, (pss_cons (ps_set (i := 1) sc_states.nd rfl (Or.inl rfl) (pe_op op_cat (pe_lst (pa_cons (pe_tup (pa_cons pe_str pa_nil)) (pa_cons (pe_tup (pa_cons pe_str pa_nil)) (pa_cons (pe_tup (pa_cons pe_str pa_nil)) pa_nil)))) (pe_lc (own := [("_law_t", 2)]) (by rfl) sc_states.nd (pi_range2 (by rfl) T.n_range (pa_cons pe_int (pa_cons (pe_op op_add (pe_ix ix_tup (pv 0) pe_int (fun _ _ => rfl)) pe_int) pa_nil))) (blkOk_by (N := N_states) (sc := defScope s_states) (by decide +kernel)) (fun _ _ _ _ _ => (pg_name (i := 2) sc_states.nd rfl (Or.inl rfl))) (fun _ _ _ _ _ => pts_nil) (fun _ _ _ _ _ => (pe_tup (pa_cons pe_str (pa_cons (pv 2) pa_nil)))))))
 (pss_cons (ps_set (i := 1) sc_states.nd rfl (Or.inl rfl) (pe_op op_cat (pv 1) (pe_lc (own := [("_law_t", 2)]) (by rfl) sc_states.nd (pi_range2 (by rfl) T.n_range (pa_cons pe_int (pa_cons (pe_op op_add (pe_ix ix_tup (pv 0) pe_int (fun _ _ => rfl)) pe_int) pa_nil))) (blkOk_by (N := N_states) (sc := defScope s_states) (by decide +kernel)) (fun _ _ _ _ _ => (pg_name (i := 2) sc_states.nd rfl (Or.inl rfl))) (fun _ _ _ _ _ => pts_nil) (fun _ _ _ _ _ => (pe_tup (pa_cons pe_str (pa_cons (pv 2) pa_nil)))))))
 (pss_cons (ps_for PassesOwn.never rfl (pi_tup (pe_ix ix_tup (pv 0) pe_int (fun _ _ => rfl))) (pg_tup (by rfl) (pgs_cons (pg_name (i := 3) sc_states.nd rfl (Or.inr rfl)) (pgs_cons (pg_name (i := 4) sc_states.nd rfl (Or.inl rfl)) pgs_nil)))
 (pss_one (ps_if (pt_cmpR op_eq (pv 4) pe_str (by first | exact nomark _ | rfl))
 (pss_one (ps_set (i := 1) sc_states.nd rfl (Or.inl rfl) (pe_op op_cat (pv 1) (pe_lc (own := [("_law_ago", 5)]) (by rfl) sc_states.nd (pi_range1 (by rfl) T.n_range (pa_cons (pe_op op_add (pe_ix ix_tup (pv 0) pe_int (fun _ _ => rfl)) pe_int) pa_nil)) (blkOk_by (N := N_states) (sc := defScope s_states) (by decide +kernel)) (fun _ _ _ _ _ => (pg_name (i := 5) sc_states.nd rfl (Or.inl rfl))) (fun _ _ _ _ _ => pts_nil) (fun _ _ _ _ _ => (pe_tup (pa_cons pe_str (pa_cons (pv 3) (pa_cons (pv 5) pa_nil)))))))))
 pss_nil)))
 (pss_one (ps_ret (pv 1)))))), ?_⟩
    refine ⟨by show 1 ≤ sizeLine; decide, fun a1 n1 => ⟨by show 1 ≤ sizeLine; decide, fun a2 n2 => ⟨by show 1 ≤ sizeLine; decide, fun a3 n3 => ⟨by show 3 ≤ sizeLine; decide, fun L nL => ?_⟩⟩⟩⟩
    have q2 : Same (upd H a1 (.tup [.str "up"])) (upd (upd H a1 (.tup [.str "up"])) a2 (.tup [.str "asleep"])) := Same.new n2
    have q3 : Same (upd (upd H a1 (.tup [.str "up"])) a2 (.tup [.str "asleep"])) (upd (upd (upd H a1 (.tup [.str "up"])) a2 (.tup [.str "asleep"])) a3 (.tup [.str "woken"])) := Same.new n3
    have e1 := q3 _ _ (q2 _ _ upd_same)
    have e2 := q3 _ _ upd_same
    have e3 : upd (upd (upd H a1 (.tup [.str "up"])) a2 (.tup [.str "asleep"])) a3 (.tup [.str "woken"]) a3 = some (.tup [.str "woken"]) := upd_same
    have s3 : Same H (upd (upd (upd H a1 (.tup [.str "up"])) a2 (.tup [.str "asleep"])) a3 (.tup [.str "woken"])) := ((Same.new n1).trans (Same.new n2)).trans (Same.new n3)
    generalize upd (upd (upd H a1 (.tup [.str "up"])) a2 (.tup [.str "asleep"])) a3 (.tup [.str "woken"]) = H3 at e1 e2 e3 s3 nL ⊢
    have s4 : Same H3 (upd H3 L (.lst [.ref a1, .ref a2, .ref a3])) := Same.new nL
    have hL : upd H3 L (.lst [.ref a1, .ref a2, .ref a3]) L = some (.lst [.ref a1, .ref a2, .ref a3]) := upd_same
    have sa : SsAt K (upd H3 L (.lst [.ref a1, .ref a2, .ref a3])) [.ref a1, .ref a2, .ref a3] [.up, .asl, .wok] := .cons ⟨_, rfl, SqT.of (s4 _ _ e1)⟩ (.cons ⟨_, rfl, SqT.of (s4 _ _ e2)⟩ (.cons ⟨_, rfl, SqT.of (s4 _ _ e3)⟩ .nil))
    have s5 := s3.trans s4
    generalize upd H3 L (.lst [.ref a1, .ref a2, .ref a3]) = H4 at hL sa s5 ⊢
    refine ⟨_, rfl, o, _, 2, _, rfl, rfl, SqT.keep (Same.tk s5) hO.all, rfl, _, _, rfl, rfl, ?_⟩
    refine ⟨1, _, rfl, ⟨by decide, by decide, by omega, by omega⟩, fun D nD => lc_range (lo := 1) (n := (z.doze + 1 - 1).toNat) (fun i H' => Same H4 H' ∧ ∃ acc, H' D = some (.lst acc) ∧ SsAt K H' acc ((List.range i).map fun j => .doz (1 + (j : Nat))))
      ⟨Same.new nD, [], upd_same, .nil⟩ ?_ ?_⟩
    · rintro i H' hi ⟨s6, acc, hD, sac⟩
      refine ⟨rfl, yes_ ⟨_, rfl, by show 2 ≤ sizeLine; decide, fun q nq => ?_⟩⟩
      have len := sac.length
      rw [List.length_map, List.length_range] at len
      have s7 : Same H' (upd H' q (.tup [.str "dozing", .int (1 + (i : Nat))])) := Same.new nq
      refine ⟨acc, s7 _ _ hD, by omega, ?_⟩
      exact SsAt.more' (f := fun j => S0.doz (1 + (j : Nat))) nD s6 hD sac s7 ⟨q, rfl, SqT.of upd_same⟩
    · rintro H5 ⟨s6, acc, hD, sac⟩
      rw [show (z.doze + 1 - 1).toNat = z.doze.toNat by rw [Int.add_sub_cancel]] at sac
      have alen := sac.length
      rw [List.length_map, List.length_range] at alen
      refine ⟨L, D, _, _, rfl, rfl, s6 _ _ hL, hD, by simp; omega, fun F nF => ?_⟩
      have s8 : Same H5 (upd H5 F (.lst ([.ref a1, .ref a2, .ref a3] ++ acc))) := Same.new nF
      have hF : upd H5 F (.lst ([.ref a1, .ref a2, .ref a3] ++ acc)) F = some (.lst ([.ref a1, .ref a2, .ref a3] ++ acc)) := upd_same
      have sb := SsAt.app (SsAt.keep (Same.tk (s6.trans s8)) sa) (SsAt.keep (Same.tk s8) sac)
      have s9 := (s5.trans s6).trans s8
      have nF0 : H F = none := (s5.trans s6).free nF
      have blen : ([V.ref a1, .ref a2, .ref a3] ++ acc).length ≤ 103 := by simp; omega
      generalize [V.ref a1, .ref a2, .ref a3] ++ acc = bs at hF sb blen s8 s9 ⊢
      generalize upd H5 F (.lst bs) = H6 at hF sb s9 ⊢
      refine ⟨_, rfl, _, rfl, o, _, 1, _, rfl, rfl, SqT.keep (Same.tk s9) hO.all, rfl, _, _, rfl, rfl, ?_⟩
      refine ⟨1, _, rfl, ⟨by decide, by decide, by omega, by omega⟩, fun D2 nD2 => lc_range (lo := 1) (n := (z.stir + 1 - 1).toNat) (fun i H' => Same H6 H' ∧ ∃ acc, H' D2 = some (.lst acc) ∧ SsAt K H' acc ((List.range i).map fun j => .stir (1 + (j : Nat))))
        ⟨Same.new nD2, [], upd_same, .nil⟩ ?_ ?_⟩
      · rintro i H' hi ⟨s6, acc, hD, sac⟩
        refine ⟨rfl, yes_ ⟨_, rfl, by show 2 ≤ sizeLine; decide, fun q nq => ?_⟩⟩
        have len := sac.length
        rw [List.length_map, List.length_range] at len
        have s7 : Same H' (upd H' q (.tup [.str "stirring", .int (1 + (i : Nat))])) := Same.new nq
        refine ⟨acc, s7 _ _ hD, by omega, ?_⟩
        exact SsAt.more' (f := fun j => S0.stir (1 + (j : Nat))) nD2 s6 hD sac s7 ⟨q, rfl, SqT.of upd_same⟩
      · rintro H7 ⟨s10, acc2, hD2, sac2⟩
        rw [show (z.stir + 1 - 1).toNat = z.stir.toNat by rw [Int.add_sub_cancel]] at sac2
        have alen2 := sac2.length
        rw [List.length_map, List.length_range] at alen2
        refine ⟨F, D2, _, _, rfl, rfl, s10 _ _ hF, hD2, by omega, fun G nG => ?_⟩
        have s11 : Same H7 (upd H7 G (.lst (bs ++ acc2))) := Same.new nG
        have hG : upd H7 G (.lst (bs ++ acc2)) G = some (.lst (bs ++ acc2)) := upd_same
        have sc := SsAt.app (SsAt.keep (Same.tk (s10.trans s11)) sb) (SsAt.keep (Same.tk s11) sac2)
        have s12 := (s9.trans s10).trans s11
        have nG0 : H G = none := (s9.trans s10).free nG
        have clen : (bs ++ acc2).length ≤ 203 := by rw [List.length_append]; omega
        generalize bs ++ acc2 = cs at hG sc clen s11 s12 ⊢
        generalize upd H7 G (.lst cs) = H8 at hG sc s12 ⊢
        have s12' := s12
        refine ⟨_, rfl, o, _, 0, _, rfl, rfl, SqT.keep (Same.tk s12) hO.all, rfl, t, rfl, ⟨_, SqT.keep (Same.tk s12) hO.srt⟩, for_tup (K := K) (a := t) (xs := xs)
          (fun i σ H' => ∃ G' gs v3 v4, σ = [some (.ref o), some (.ref G'), none, v3, v4, none] ∧ Same H H' ∧ H G' = none ∧ H' G' = some (.lst gs) ∧ SsAt K H' gs ((([.up, .asl, .wok] ++ (List.range z.doze.toNat).map fun j => .doz (1 + (j : Nat))) ++ (List.range z.stir.toNat).map fun j => .stir (1 + (j : Nat))) ++ faints z (z.sorts.take i)) ∧ gs.length ≤ 203 + 101 * i)
          ⟨G, cs, none, none, rfl, s12, nG0, hG, by simpa [faints] using sc, by omega⟩ (fun i σ H' _ ⟨_, _, _, _, _, q, _⟩ => SqT.keep (Same.tk q) hO.srt) ?_ ?_⟩
        · rintro i x σ H' hx ⟨G', gs, v3, v4, rfl, sH, nG', hG', sg, gl⟩
          obtain ⟨q, pr, rfl, hpr, hq⟩ := pair_at (TDs.keep (Same.tk sH) hO.its) hx
          have ilt : i < z.sorts.length := (List.getElem?_eq_some_iff.mp hpr).1
          refine ⟨q, _, rfl, hq, rfl, _, _, rfl, _, _, rfl, rfl, _, rfl, rfl, _, rfl, ite2 (fun h => ?_) (fun h => ?_)⟩
          · have h2 : pr.2 = ("faint" : Str) := by have h3 := of_decide_eq_true h; injection h3
            refine ⟨_, rfl, _, rfl, o, _, 3, _, rfl, rfl, SqT.keep (Same.tk sH) hO.all, rfl, _, _, rfl, rfl, ?_⟩
            refine ⟨_, rfl, by omega, by omega, fun D3 nD3 => lc_range (lo := 0) (n := (z.near + 1).toNat) (fun j H2 => Same H' H2 ∧ ∃ acc, H2 D3 = some (.lst acc) ∧ SsAt K H2 acc ((List.range j).map fun m => .kept pr.1 (0 + (m : Nat))))
              ⟨Same.new nD3, [], upd_same, .nil⟩ ?_ ?_⟩
            · rintro j H2 hj ⟨s6, acc, hD, sac⟩
              refine ⟨rfl, yes_ ⟨_, rfl, _, rfl, by show 3 ≤ sizeLine; decide, fun q nq => ?_⟩⟩
              have len := sac.length
              rw [List.length_map, List.length_range] at len
              have s7 : Same H2 (upd H2 q (.tup [.str "asleep", .str pr.1, .int (0 + (j : Nat))])) := Same.new nq
              refine ⟨acc, s7 _ _ hD, by omega, ?_⟩
              exact SsAt.more' (f := fun m => S0.kept pr.1 (0 + (m : Nat))) nD3 s6 hD sac s7 ⟨q, rfl, SqT.of upd_same⟩
            · rintro H9 ⟨s13, acc3, hD3, sac3⟩
              have alen3 := sac3.length
              rw [List.length_map, List.length_range] at alen3
              refine ⟨G', D3, _, _, rfl, rfl, s13 _ _ hG', hD3, by omega, fun G2 nG2 => ?_⟩
              have s14 : Same H9 (upd H9 G2 (.lst (gs ++ acc3))) := Same.new nG2
              refine ⟨G2, gs ++ acc3, _, _, rfl, (sH.trans s13).trans s14, (sH.trans s13).free nG2, upd_same, ?_, by rw [List.length_append]; omega⟩
              rw [faints_more z hpr, if_pos h2, ← List.append_assoc]
              exact SsAt.app (SsAt.keep (Same.tk (s13.trans s14)) sg) (SsAt.keep (Same.tk s14) sac3)
          · have h2 : ¬ pr.2 = ("faint" : Str) := fun q => h (decide_eq_true (by rw [q]))
            exact ⟨G', gs, _, _, rfl, sH, nG', hG', by rw [faints_more z hpr, if_neg h2, List.append_nil]; exact sg, by omega⟩
        · rintro σ H' ⟨G', gs, v3, v4, rfl, sH, nG', hG', sg, gl⟩
          have len : xs.length = z.sorts.length := by rw [hO.its.length, List.length_map]
          rw [len, List.take_length] at sg
          exact ⟨_, rfl, k H' G' gs sH nG' hG' sg⟩
/-- several noises, one behind another -/
def spRowS (K : PySem.W.Frag) (C : Addr) : Sp := fun vs H Q _ => ∃ (p l : Addr) (v : V) (z : Zz) (s : S0) (ns : List Str), vs = [.ref p, v, .ref l] ∧ SlpAt K C H p z ∧ StAt K H v s ∧ H l = some (.lst (ns.map V.str)) ∧ ∀ H' v', Same H H' → StAt K H' v' (rowS z s ns) → Q v' H'
theorem c_row (D : Df K mg "_law_row" s_row) (T : Tx K mg) (c_heard : C8.Cal P w K mg base 3 "heard" (spHeard K (He.ga K "Sleeper")) []) : C8.Cal P w K mg base 4 "_law_row" (spRowS K (He.ga K "Sleeper")) [] := by
  refine cal_mk D sc_row bd_row (fun vs H Q E h => ?_) fun f cdv A outer s H vs Q E hr h => ?_
  · obtain ⟨p, l, v, z, s, ns, rfl, _⟩ := h
    rfl
  · obtain ⟨p, l, v, z, s, ns, rfl, hz, hs, hl, k⟩ := h
    refine ⟨_, (pss_cons (ps_for PassesOwn.never rfl (pi_list (pv 2)) (pg_name (i := 3) sc_row.nd rfl (Or.inl rfl))
 (pss_one (ps_set (i := 1) sc_row.nd rfl (Or.inl rfl) (C8.pe_c c_heard hr (by decide) rfl (pa_cons (pv 0) (pa_cons (pv 1) (pa_cons (pv 3) pa_nil)))))))
 (pss_one (ps_ret (pv 1)))), ?_⟩
    refine ⟨_, rfl, l, rfl, ⟨_, SqL.of hl⟩, for_list (K := K) (a := l) (xs := ns.map V.str) (fun i σ H' => ∃ v' u, σ = [some (.ref p), some v', some (.ref l), u] ∧ Same H H' ∧ StAt K H' v' (rowS z s (ns.take i)))
      ⟨v, none, rfl, Same.refl H, by simpa [rowS] using hs⟩ (fun i σ H' _ ⟨_, _, _, q, _⟩ => SqL.of (q _ _ hl)) ?_ ?_⟩
    · rintro i x σ H' hx ⟨v', u, rfl, s1, hs1⟩
      rw [List.getElem?_map] at hx
      obtain ⟨n, hn, rfl⟩ := Option.map_eq_some_iff.mp hx
      refine ⟨_, rfl, _, rfl, _, rfl, p, v', z, _, n, rfl, hz.same s1, hs1, fun H2 v2 s2 hs2 => ⟨v2, _, rfl, s1.trans s2, ?_⟩⟩
      have e : rowS z s (ns.take (i + 1)) = hear z (sortOf z n) n (rowS z s (ns.take i)) := by
        unfold rowS
        rw [List.take_add_one, hn, List.foldl_append]
        rfl
      rw [e]
      exact hs2
    · rintro σ H' ⟨v', u, rfl, s1, hs1⟩
      rw [List.length_map, List.take_length] at hs1
      exact ⟨_, rfl, k H' v' s1 hs1⟩
end
end Lw
set_option Elab.async false
set_option linter.all false
set_option maxRecDepth 100000
set_option maxHeartbeats 8000000
namespace Lw
open PySem PySem.Spec PyProof.Rows L2 Hb
theorem room65 {k : Nat} {A : Around} (hr : Room k A) : A.units + 65 < cLine := by have := hr.un; omega
theorem next_ {D : Ends} {σ : L2.St} {H : Hp} (h : D.nx σ H) : tNext D σ H := h
def spLaw (K : PySem.W.Frag) : Sp := fun vs H Q _ => ∃ (a : Addr) (ns : List Int), vs = [.ref a] ∧ SqL K H a (ns.map V.int) ∧ ns.length ≤ 63 ∧ ∀ H', Q (.bl true) H'
section
variable {P : Program} {w : World} {K : PySem.W.Frag} {mg : Str → Option Value} {base : Heap}
theorem ok_law {f : Addr} {fd : FuncData} (F : FunD K "law" "law" (defArgs s_law) (defBody s_law) (defScope s_law) [] [] f fd) (T : Tx K mg)
    (c_deal : C8.Cal P w K mg base 1 "_law_deal" (spDeal K) []) (c_words : C8.Cal P w K mg base 3 "_law_words" spWords []) (c_drawn_sleeper : C8.Cal P w K mg base 3 "_law_drawn_sleeper" (spDrawn K) [])
    (c_sleeper_of : C8.Cal P w K mg base 6 "_law_sleeper_of" (spSlpOf K (He.ga K "Sleeper")) []) (c_states : C8.Cal P w K mg base 1 "_law_states" (spStates K) []) (c_row : C8.Cal P w K mg base 4 "_law_row" (spRowS K (He.ga K "Sleeper")) [])
    (c_heard : C8.Cal P w K mg base 3 "heard" (spHeard K (He.ga K "Sleeper")) []) (c_ticked : C8.Cal P w K mg base 1 "ticked" (spSt K (He.ga K "Sleeper") tick) []) (c_hummed : C8.Cal P w K mg base 2 "hummed" (spHum K (He.ga K "Sleeper")) []) :
    FnOk P w K mg base CX0 7 f fd ["_law_script"] (spLaw K) := by
  refine fn_mk F sc_law (fun vs H Q E h => ?_) fun f cdv A outer s H vs Q E hr h => ?_
  · obtain ⟨a, ns, rfl, _⟩ := h
    rfl
  · obtain ⟨a, ns, rfl, hS, few, k⟩ := h
    have hu := hu_of hr
    have line := sizeLine_eq
    refine ⟨_, (pss_cons (ps_set (i := 1) sc_law.nd rfl (Or.inl rfl) (C8.pe_c c_deal hr (by decide) rfl (pa_cons (pv 0) (pa_cons pe_int pa_nil))))
 (pss_cons (ps_for PassesOwn.never rfl (pi_range1 (by rfl) T.n_range (pa_cons pe_int pa_nil)) (pg_name (i := 2) sc_law.nd rfl (Or.inl rfl))
 (pss_cons (ps_set (i := 3) sc_law.nd rfl (Or.inl rfl) (C8.pe_c c_words hr (by decide) rfl (pa_cons (pv 1) (pa_cons pe_int pa_nil))))
 (pss_cons (ps_set (i := 4) sc_law.nd rfl (Or.inl rfl) (C8.pe_c c_drawn_sleeper hr (by decide) rfl (pa_cons (pv 1) (pa_cons (pe_slice sl_list (pv 3) po_none (po_some pe_int)) pa_nil))))
 (pss_cons (ps_par (i := 5) (j := 6) (by rfl) sc_law.nd rfl rfl (by decide) rfl rfl (pa_cons (C8.pe_c c_sleeper_of hr (by decide) rfl (pa_cons (pv 4) pa_nil)) (pa_cons (C8.pe_c c_sleeper_of hr (by decide) rfl (pa_cons (pe_op op_catT (pe_op op_catT (pe_slice sl_tup (pv 4) po_none (po_some pe_int)) (pe_tup (pa_cons (pe_callB (call_min2 rfl) (by rfl) T.n_min (by decide +kernel) (pa_cons pe_int (pa_cons (pe_callTy call_int1 (by rfl) T.n_int (by decide +kernel) (pa_cons (pe_op op_add (pe_ix ix_tup (pv 4) pe_int (fun _ _ => rfl)) pe_int) pa_nil)) pa_nil))) pa_nil))) (pe_slice sl_tup (pv 4) (po_some pe_int) po_none)) pa_nil)) pa_nil)) (by rfl))
 (pss_cons (ps_par (i := 7) (j := 8) (by rfl) sc_law.nd rfl rfl (by decide) rfl rfl (pa_cons (C8.pe_c c_states hr (by decide) rfl (pa_cons (pv 4) pa_nil)) (pa_cons (pe_callTy (call_dictP rfl) (by rfl) T.n_dict (by decide +kernel) (pa_cons (pe_callTy call_list_of (by rfl) T.n_list (by decide +kernel) (pa_cons (pe_ix ix_tup (pv 4) pe_int (fun _ _ => rfl)) pa_nil)) pa_nil)) pa_nil)) (by rfl))
 (pss_one (ps_for PassesOwn.never rfl (pi_list (pv 7)) (pg_name (i := 9) sc_law.nd rfl (Or.inl rfl))
 (pss_cons (ps_for PassesOwn.never rfl (pi_list (pv 3)) (pg_name (i := 10) sc_law.nd rfl (Or.inl rfl))
 (pss_cons (ps_for PassesOwn.never rfl (pi_list (pv 3)) (pg_name (i := 11) sc_law.nd rfl (Or.inl rfl))
 (pss_cons (ps_set (i := 12) sc_law.nd rfl (Or.inl rfl) (C8.pe_c c_row hr (by decide) rfl (pa_cons (pv 5) (pa_cons (pv 9) (pa_cons (pe_lst (pa_cons (pv 10) (pa_cons (pv 11) pa_nil))) pa_nil)))))
 (pss_one (ps_if (PW.pt (pw_or (pt_cmpR (op_neD hr.units) (C8.pe_c c_row hr (by decide) rfl (pa_cons (pv 5) (pa_cons (pv 12) (pa_cons (pe_lst (pa_cons (pv 10) (pa_cons (pv 11) pa_nil))) pa_nil)))) (pv 12) (by first | exact nomark _ | rfl)) (pw_or1 (pt_cmpR (op_notInD (room65 hr)) (pv 12) (pv 7) (by first | exact nomark _ | rfl)))))
 (pss_one (ps_ret pe_bl))
 pss_nil))))
 (pss_cons (ps_if (pt_cmpR (op_neD hr.units) (C8.pe_c c_row hr (by decide) rfl (pa_cons (pv 5) (pa_cons (pv 9) (pa_cons (pe_lst (pa_cons (pv 10) pa_nil)) pa_nil)))) (C8.pe_c c_row hr (by decide) rfl (pa_cons (pv 5) (pa_cons (pv 9) (pa_cons (pe_lst (pa_cons (pv 10) (pa_cons (pv 10) pa_nil))) pa_nil)))) (by first | exact nomark _ | rfl))
 (pss_one (ps_ret pe_bl))
 pss_nil)
 (pss_cons (ps_if (PW.pt (pw_and (pt_cmp (pc_dnotin hu (pv 10) (pv 8))) (pw_and1 (pt_cmpR (op_neD hr.units) (C8.pe_c c_heard hr (by decide) rfl (pa_cons (pv 5) (pa_cons (pv 9) (pa_cons (pv 10) pa_nil)))) (pv 9) (by first | exact nomark _ | rfl)))))
 (pss_one (ps_ret pe_bl))
 pss_nil)
 (pss_cons (ps_if (PW.pt (pw_and (pt_cmpR op_in_seq (pe_dget2 hu (pv 8) (pv 10) pe_str ⟨rfl, rfl, rfl, rfl⟩) (pe_tup (pa_cons pe_str (pa_cons pe_str (pa_cons pe_str pa_nil)))) (by first | exact nomark _ | rfl)) (pw_and1 (pt_cmpR op_in_seq (pe_ix ix_tup (pv 9) pe_int (fun _ _ => rfl)) (pe_tup (pa_cons pe_str (pa_cons pe_str (pa_cons pe_str pa_nil)))) (by first | exact nomark _ | rfl)))))
 (pss_one (ps_if (pt_cmpR (op_neD hr.units) (C8.pe_c c_heard hr (by decide) rfl (pa_cons (pv 5) (pa_cons (pv 9) (pa_cons (pv 10) pa_nil)))) (pv 9) (by first | exact nomark _ | rfl))
 (pss_one (ps_ret pe_bl))
 pss_nil))
 pss_nil)
 (pss_one (ps_if (PW.pt (pw_and (pt_cmpR (op_eqD hr.units) (C8.pe_c c_heard hr (by decide) rfl (pa_cons (pv 6) (pa_cons (pv 9) (pa_cons (pv 10) pa_nil)))) (pe_tup (pa_cons pe_str pa_nil)) (by first | exact nomark _ | rfl)) (pw_and1 (pt_cmpR (op_neD hr.units) (C8.pe_c c_heard hr (by decide) rfl (pa_cons (pv 5) (pa_cons (pv 9) (pa_cons (pv 10) pa_nil)))) (pe_tup (pa_cons pe_str pa_nil)) (by first | exact nomark _ | rfl)))))
 (pss_one (ps_ret pe_bl))
 pss_nil)))))))
 (pss_cons (ps_for PassesOwn.never rfl (pi_tup (pe_tup (pa_cons pe_str (pa_cons pe_str pa_nil)))) (pg_name (i := 13) sc_law.nd rfl (Or.inl rfl))
 (pss_one (ps_if (PW.pt (pw_or (pt_cmpR (op_notInD (room65 hr)) (C8.pe_c c_hummed hr (by decide) rfl (pa_cons (pv 5) (pa_cons (pv 9) (pa_cons (pv 13) pa_nil)))) (pv 7) (by first | exact nomark _ | rfl)) (pw_or1 (pt_cmpR op_eq (pe_ix ix_tup (C8.pe_c c_hummed hr (by decide) rfl (pa_cons (pv 5) (pa_cons (pv 9) (pa_cons (pv 13) pa_nil)))) pe_int (fun _ _ => rfl)) pe_str (by first | exact nomark _ | rfl)))))
 (pss_one (ps_ret pe_bl))
 pss_nil)))
 (pss_one (ps_if (PW.pt (pw_or (pt_cmpR (op_notInD (room65 hr)) (C8.pe_c c_ticked hr (by decide) rfl (pa_cons (pv 5) (pa_cons (pv 9) pa_nil))) (pv 7) (by first | exact nomark _ | rfl)) (pw_or1 (PW.pt (pw_and (pt_cmpR (op_eqD hr.units) (pv 9) (pe_tup (pa_cons pe_str pa_nil)) (by first | exact nomark _ | rfl)) (pw_and1 (pt_cmpR (op_neD hr.units) (C8.pe_c c_ticked hr (by decide) rfl (pa_cons (pv 5) (pa_cons (pv 9) pa_nil))) (pv 9) (by first | exact nomark _ | rfl))))))))
 (pss_one (ps_ret pe_bl))
 pss_nil)))))))))))
 (pss_one (ps_ret pe_bl)))), ?_⟩
    refine ⟨_, rfl, a, ns, rfl, hS, few, fun H0 d g dl0 s0 nd ng => ?_⟩
    refine ⟨4, rfl, by decide, by decide, for_range (lo := 0) (n := 4) (fun _ σ H' => Deal d g H' ∧ ∃ v2 v3 v4 v5 v6 v7 v8 v9 v10 v11 v12 v13, σ = [some (.ref a), some (.ref d), v2, v3, v4, v5, v6, v7, v8, v9, v10, v11, v12, v13])
      ⟨dl0, _, _, _, _, _, _, _, _, _, _, _, _, rfl⟩ ?_ (fun σ H' _ => k H')⟩
    rintro turn σ H1 _ ⟨dl1, v2, v3, v4, v5, v6, v7, v8, v9, v10, v11, v12, v13, rfl⟩
    refine ⟨_, rfl, d, g, 5, rfl, dl1, by decide, by decide, fun H2 p ws dl2 k2 np hp pg nd mem wlen => ?_⟩
    refine ⟨_, rfl, _, rfl, _, rfl, p, _, rfl, SqL.of hp, fun q nq => ?_⟩
    rw [show cutV (ws.map V.str) none (some 4) = (ws.take 4).map V.str by rw [cut_take _ (by decide), List.map_take]; rfl]
    have sq : Same H2 (upd H2 q (.lst ((ws.take 4).map V.str))) := Same.new nq
    refine ⟨d, g, q, ws.take 4, rfl, dl2.same sq, SqL.of upd_same, nd.sublist (List.take_sublist _ _), by rw [List.length_take]; omega, fun w hw => eight_words w (mem w (List.mem_of_mem_take hw)), fun H3 o z dl3 k3 no ho zk => ?_⟩
    have pd : p ≠ d := dl2.ne_d hp (by intro kvs e; cases e)
    have hp3 : H3 p = some (.lst (ws.map V.str)) := k3 p _ pd pg (sq _ _ hp)
    have zi : Zin z := ⟨zk.nd, fun p hp => ⟨(zk.ok p hp).2, zk.srt p hp⟩, Nat.le_trans zk.few (by decide), zk.s1, zk.d1, zk.n1, zk.lo⟩
    have wok : ∀ w ∈ ws, PyData.strOk w = true := fun w hw => (eight_words w (mem w hw)).1
    clear hp k3 sq nq dl2 k2 np dl1
    -- the two sleepers
    refine ⟨_, rfl, o, z, rfl, ho, zi, fun H4 m s4 nm hm => ?_⟩
    obtain ⟨t, xs, hO⟩ := ho.inv
    refine ⟨_, rfl, _, rfl, o, _, rfl, SqT.keep (Same.tk s4) hO.all, by simp [HT.sIx], fun q1 n1 => ?_⟩
    refine ⟨_, rfl, o, _, 1, _, rfl, rfl, SqT.laid (SqT.keep (Same.tk s4) hO.all) n1, rfl, _, _, rfl, rfl, .inl ⟨_, rfl, _, _, rfl, by show 1 ≤ sizeLine; decide, fun q2 n2 => ?_⟩⟩
    have b1 : Same H4 (upd H4 q1 (.tup (cutV [V.ref t, .int z.stir, .int z.doze, .int z.near, .str z.loud] none (some 1)))) := Same.new n1
    generalize hst : (if z.stir + 1 < 5 then z.stir + 1 else 5) = st at n2 ⊢
    have st1 : 1 ≤ st := by have := zk.s1; rw [← hst]; split <;> omega
    have b2 : Same _ (upd (upd H4 q1 (.tup (cutV [V.ref t, .int z.stir, .int z.doze, .int z.near, .str z.loud] none (some 1)))) q2 (.tup [.int st])) := Same.new n2
    refine ⟨q1, q2, _, [.int st], rfl, rfl, SqT.of (b2 _ _ upd_same), SqT.of upd_same, by simp [cutV, HT.sIx], by simp [cutV, HT.sIx]; omega, (fun e => by cases e), fun _ q3 n3 => ?_⟩
    have b3 : Same _ (upd (upd (upd H4 q1 (.tup (cutV [V.ref t, .int z.stir, .int z.doze, .int z.near, .str z.loud] none (some 1)))) q2 (.tup [.int st])) q3 (.tup (cutV [V.ref t, .int z.stir, .int z.doze, .int z.near, .str z.loud] none (some 1) ++ [.int st]))) := Same.new n3
    have b13 := (b1.trans b2).trans b3
    refine ⟨_, rfl, _, rfl, o, _, rfl, SqT.keep (Same.tk (s4.trans b13)) hO.all, by simp [HT.sIx], fun q4 n4 => ?_⟩
    have b4 : Same _ (upd (upd (upd (upd H4 q1 (.tup (cutV [V.ref t, .int z.stir, .int z.doze, .int z.near, .str z.loud] none (some 1)))) q2 (.tup [.int st])) q3 (.tup (cutV [V.ref t, .int z.stir, .int z.doze, .int z.near, .str z.loud] none (some 1) ++ [.int st]))) q4 (.tup (cutV [V.ref t, .int z.stir, .int z.doze, .int z.near, .str z.loud] (some 2) none))) := Same.new n4
    have e3 := b4 _ _ (upd_same (H := upd (upd H4 q1 (.tup (cutV [V.ref t, .int z.stir, .int z.doze, .int z.near, .str z.loud] none (some 1)))) q2 (.tup [.int st])) (a := q3) (o := .tup (cutV [V.ref t, .int z.stir, .int z.doze, .int z.near, .str z.loud] none (some 1) ++ [.int st])))
    refine ⟨q3, q4, _, _, rfl, rfl, SqT.of e3, SqT.of upd_same, by simp, by simp [cutV, HT.sIx]; omega, (fun e => by simp [cutV, HT.sIx] at e), fun _ q5 n5 => ?_⟩
    have b14 := b13.trans b4
    generalize upd (upd (upd (upd H4 q1 (.tup (cutV [V.ref t, .int z.stir, .int z.doze, .int z.near, .str z.loud] none (some 1)))) q2 (.tup [.int st])) q3 (.tup (cutV [V.ref t, .int z.stir, .int z.doze, .int z.near, .str z.loud] none (some 1) ++ [.int st]))) q4 (.tup (cutV [V.ref t, .int z.stir, .int z.doze, .int z.near, .str z.loud] (some 2) none)) = H5 at n5 b14 ⊢
    rw [show cutV [V.ref t, .int z.stir, .int z.doze, .int z.near, .str z.loud] none (some 1) ++ [V.int st] ++ cutV [V.ref t, .int z.stir, .int z.doze, .int z.near, .str z.loud] (some 2) none = [V.ref t, .int st, .int z.doze, .int z.near, .str z.loud] from rfl]
    have b5 : Same H5 (upd H5 q5 (.tup [V.ref t, .int st, .int z.doze, .int z.near, .str z.loud])) := Same.new n5
    have b45 := b14.trans b5
    have s35 := s4.trans b45
    have ho2 : OneAt K (upd H5 q5 (.tup [V.ref t, .int st, .int z.doze, .int z.near, .str z.loud])) q5 { z with stir := st } := OneIs.one ⟨SqT.of upd_same, SqT.keep (Same.tk s35) hO.srt, TDs.keep (Same.tk s35) hO.its⟩
    have hm5 := hm.same b45
    clear b1 b2 b3 b13 b4 e3 b14 n1 n2 n3 n4 hm b45
    generalize upd H5 q5 (.tup [V.ref t, .int st, .int z.doze, .int z.near, .str z.loud]) = H6 at ho2 s35 hm5 ⊢
    refine ⟨q5, { z with stir := st }, rfl, ho2, ⟨zi.nd, zi.ok, zi.few, st1, zi.d1, zi.n1, zi.lo⟩, fun H7 lg s7 nlg hlg => ?_⟩
    have hm7 := hm5.same s7
    have s37 := s35.trans s7
    refine ⟨_, _, rfl, ?_⟩
    -- the states, the dict
    refine ⟨_, rfl, o, z, rfl, TD.keep (Same.tk s37) ho, by have := zk.s1; omega, by have := zk.s5; omega, by have := zk.d1; omega, by have := zk.d5; omega, by have := zk.n1; omega, by have := zk.n2; omega, zi.few, fun H8 S us s8 nS hSs sts => ?_⟩
    have s38 := s37.trans s8
    refine ⟨_, rfl, o, _, 0, _, rfl, rfl, SqT.keep (Same.tk s38) hO.all, rfl, t, _, rfl, .inr (SqT.keep (Same.tk s38) hO.srt), fun l nl => ?_⟩
    have s9 : Same H8 (upd H8 l (.lst xs)) := Same.new nl
    obtain ⟨as, exs, prd⟩ := pairs_of (TDs.keep (Same.tk (s38.trans s9)) hO.its)
    refine ⟨l, as, _, rfl, by rw [← exs]; exact SqL.of upd_same, prd, fun D nD => ?_⟩
    have s10 : Same _ (upd (upd H8 l (.lst xs)) D (.dK (mergeK [] (z.sorts.map pkv)))) := Same.new nD
    have hD : upd (upd H8 l (.lst xs)) D (.dK (mergeK [] (z.sorts.map pkv))) D = some (.dK (mergeK [] (z.sorts.map pkv))) := upd_same
    have s910 := s9.trans s10
    have hS := s910 _ _ hSs
    have sts2 := SsAt.keep (Same.tk s910) sts
    have hm2 := hm7.same (s8.trans s910)
    have hl2 := hlg.same (s8.trans s910)
    have hp2 := (s38.trans s910) _ _ hp3
    have dl := dl3.same (s38.trans s910)
    clear prd exs nl s9 s10 s910 hSs sts hm7 hlg hp3 dl3 hm5 ho2 ho hO s4 s7 s8 s35 s37 s38 zi nD
    generalize upd (upd H8 l (.lst xs)) D (.dK (mergeK [] (z.sorts.map pkv))) = HB at hD hS sts2 hm2 hl2 hp2 dl ⊢
    refine ⟨_, _, rfl, ?_⟩
    have sok : ∀ s ∈ states z, s.ok := fun s h => InS.sok zk (mem_states.mp h)
    have shp := shaped_sts sok
    -- the loop over states
    refine ⟨_, rfl, S, rfl, ⟨_, SqL.of hS⟩, for_list (K := K) (a := S) (xs := us) (fun _ σ H' => (∃ v9 v10 v11 v12 v13, σ = [some (.ref a), some (.ref d), some (.int (0 + (turn : Nat))), some (.ref p), some (.ref o), some (.ref m), some (.ref lg), some (.ref S), some (.ref D), v9, v10, v11, v12, v13]) ∧ Same HB H')
      ⟨⟨_, _, _, _, _, rfl⟩, Same.refl _⟩ (fun _ _ _ _ q => SqL.of (q.2 _ _ hS)) ?_ (fun σ H' ⟨⟨_, _, _, _, _, e⟩, q⟩ => ⟨dl.same q, by rw [e]; exact ⟨_, _, _, _, _, _, _, _, _, _, _, _, rfl⟩⟩)⟩
    rintro i0 x σ H9 hx ⟨⟨v9, v10, v11, v12, v13, rfl⟩, t9⟩
    obtain ⟨s, hs0, hs⟩ := SsAt.at sts2 hx
    have hin : s ∈ states z := List.mem_of_getElem? hs0
    have sin := mem_states.mp hin
    have sok1 := sok s hin
    -- the loops over words
    refine ⟨_, rfl, p, rfl, ⟨_, SqL.of (t9 _ _ hp2)⟩, for_list (K := K) (a := p) (xs := ws.map V.str) (fun _ σ H' => (∃ v10 v11 v12 v13, σ = [some (.ref a), some (.ref d), some (.int (0 + (turn : Nat))), some (.ref p), some (.ref o), some (.ref m), some (.ref lg), some (.ref S), some (.ref D), some x, v10, v11, v12, v13]) ∧ Same HB H')
      ⟨⟨_, _, _, _, rfl⟩, t9⟩ (fun _ _ _ _ q => SqL.of (q.2 _ _ hp2)) ?_ ?_⟩
    · rintro i1 y σ H10 hy ⟨⟨w10, w11, w12, w13, rfl⟩, t10⟩
      rw [List.getElem?_map] at hy
      obtain ⟨n1, hn1, rfl⟩ := Option.map_eq_some_iff.mp hy
      refine ⟨_, rfl, p, rfl, ⟨_, SqL.of (t10 _ _ hp2)⟩, for_list (K := K) (a := p) (xs := ws.map V.str) (fun _ σ H' => (∃ v11 v12 v13, σ = [some (.ref a), some (.ref d), some (.int (0 + (turn : Nat))), some (.ref p), some (.ref o), some (.ref m), some (.ref lg), some (.ref S), some (.ref D), some x, some (.str n1), v11, v12, v13]) ∧ Same HB H')
        ⟨⟨_, _, _, rfl⟩, t10⟩ (fun _ _ _ _ q => SqL.of (q.2 _ _ hp2)) ?_ ?_⟩
      · rintro i2 y σ H11 hy ⟨⟨w11, w12, w13, rfl⟩, t11⟩
        rw [List.getElem?_map] at hy
        obtain ⟨n2, hn2, rfl⟩ := Option.map_eq_some_iff.mp hy
        refine ⟨_, rfl, _, rfl, _, rfl, _, rfl, by show 2 ≤ sizeLine; decide, fun q1 nq1 => ?_⟩
        have t12 := t11.trans (Same.new nq1 (o := .lst [.str n1, .str n2]))
        refine ⟨m, q1, x, z, s, [n1, n2], rfl, hm2.same t12, hs.keep (Same.tk t12), upd_same, fun H12 pr t13 hpr => ?_⟩
        have t14 := t12.trans t13
        refine ⟨_, rfl, _, rfl, _, rfl, _, rfl, by show 2 ≤ sizeLine; decide, fun q2 nq2 => ?_⟩
        have t15 : Same H12 (upd H12 q2 (.lst [.str n1, .str n2])) := Same.new nq2
        have t16 := t14.trans t15
        refine ⟨m, q2, pr, z, _, [n1, n2], rfl, hm2.same t16, hpr.keep (Same.tk t15), upd_same, fun H13 pr2 t17 hpr2 => ?_⟩
        have t18 := t16.trans t17
        have rin := InS.row zk (ns := [n1, n2]) sin
        rw [Hb.twice] at hpr2
        refine ⟨_, rfl, ne_st hpr2 (hpr.keep (Same.tk (t15.trans t17))) (InS.sok zk rin) (InS.sok zk rin) ⟨_, rfl, ?_⟩⟩
        rw [decide_eq_true rfl]
        refine iteF ⟨_, rfl, _, rfl, notin_st (hpr.keep (Same.tk (t15.trans t17))) (InS.sok zk rin) (t18 _ _ hS) (SsAt.keep (Same.tk t18) sts2) sok ⟨_, rfl, ?_⟩⟩
        rw [decide_eq_true (mem_states.mpr rin)]
        exact iteF ⟨⟨_, _, _, rfl⟩, t18⟩
      · rintro σ H11 ⟨⟨w11, w12, w13, rfl⟩, t11⟩
        have nok := wok n1 (List.mem_of_getElem? hn1)
        refine ⟨_, rfl, _, rfl, _, rfl, by show 1 ≤ sizeLine; decide, fun q1 nq1 => ?_⟩
        have t12 : Same HB (upd H11 q1 (.lst [.str n1])) := t11.trans (Same.new nq1)
        refine ⟨m, q1, x, z, s, [n1], rfl, hm2.same t12, hs.keep (Same.tk t12), upd_same, fun H12 r1 t13 hr1 => ?_⟩
        have t14 := t12.trans t13
        refine ⟨_, rfl, _, rfl, _, rfl, _, rfl, by show 2 ≤ sizeLine; decide, fun q2 nq2 => ?_⟩
        have t15 : Same H12 (upd H12 q2 (.lst [.str n1, .str n1])) := Same.new nq2
        have t16 := t14.trans t15
        refine ⟨m, q2, x, z, s, [n1, n1], rfl, hm2.same t16, hs.keep (Same.tk t16), upd_same, fun H13 r2 t17 hr2 => ?_⟩
        have t18 := t16.trans t17
        have r1in := InS.row zk (ns := [n1]) sin
        rw [once] at hr2
        refine ne_st (hr1.keep (Same.tk (t15.trans t17))) hr2 (InS.sok zk r1in) (InS.sok zk r1in) ⟨_, rfl, ?_⟩
        rw [decide_eq_true rfl]
        refine iteF ?_
        have lk := val_dict zk.nd n1
        have so := sortOf_eq zk.nd n1
        clear t12 t13 t14 t15 t16 t17 hr1 hr2 nq1 nq2 t11
        -- a noise that is not heard
        dsimp only [tNext]
        refine cut_seq (fun σ' H' => (∃ v11 v12 v13, σ' = [some (.ref a), some (.ref d), some (.int (0 + (turn : Nat))), some (.ref p), some (.ref o), some (.ref m), some (.ref lg), some (.ref S), some (.ref D), some x, some (.str n1), v11, v12, v13]) ∧ Same HB H') ?_ fun rest => ?_
        · rintro σ' H14 ⟨⟨u11, u12, u13, rfl⟩, t14⟩
          refine cut_seq (fun σ' H' => (∃ v11 v12 v13, σ' = [some (.ref a), some (.ref d), some (.int (0 + (turn : Nat))), some (.ref p), some (.ref o), some (.ref m), some (.ref lg), some (.ref S), some (.ref D), some x, some (.str n1), v11, v12, v13]) ∧ Same HB H') ?_ fun rest => ?_
          · rintro σ' H15 ⟨⟨x11, x12, x13, rfl⟩, t15⟩
            -- a longer stirring
            refine ⟨_, rfl, _, rfl, _, rfl, lg, x, _, s, n1, rfl, hl2.same t15, hs.keep (Same.tk t15), fun H16 r3 t16 hr3 => ?_⟩
            refine ⟨by show 1 ≤ sizeLine; decide, fun q3 nq3 => ?_⟩
            have t17 : Same H16 (upd H16 q3 (.tup [.str "woken"])) := Same.new nq3
            refine eq_st (t := .wok) (hr3.keep (Same.tk t17)) ⟨q3, rfl, SqT.of upd_same⟩ (hear_ok sok1 nok) trivial ⟨_, rfl, ?_⟩
            have t18 := (t15.trans t16).trans t17
            by_cases e : hear { z with stir := st } (sortOf { z with stir := st } n1) n1 s = .wok
            · rw [decide_eq_true e]
              have e2 := longer z st n1 s e
              refine iteT ⟨_, rfl, _, rfl, _, rfl, m, x, z, s, n1, rfl, hm2.same t18, hs.keep (Same.tk t18), fun H17 r4 t19 hr4 => ?_⟩
              refine ⟨by show 1 ≤ sizeLine; decide, fun q4 nq4 => ?_⟩
              have t20 : Same H17 (upd H17 q4 (.tup [.str "woken"])) := Same.new nq4
              rw [e2] at hr4
              refine ne_st (s := .wok) (t := .wok) (hr4.keep (Same.tk t20)) ⟨q4, rfl, SqT.of upd_same⟩ trivial trivial ⟨_, rfl, ?_⟩
              rw [decide_eq_true rfl]
              exact iteF ⟨⟨_, _, _, _, rfl⟩, (t18.trans t19).trans t20⟩
            · rw [decide_eq_false e]
              exact iteF (iteF ⟨⟨_, _, _, _, rfl⟩, t18⟩)
          · -- sorts that do nothing
            refine ⟨_, rfl, D, rfl, .inl ⟨_, .inl (t14 _ _ hD)⟩, _, rfl, _, DGet.k (k := Sum.inr n1) (t14 _ _ hD), by show 3 ≤ sizeLine; decide, fun q3 nq3 => ?_⟩
            have t15 : Same H14 (upd H14 q3 (.tup [.str "sudden", .str "faint", .str "soft"])) := Same.new nq3
            have t16 := t14.trans t15
            rw [lk]
            cases e : z.sorts.lookup n1 with
            | none =>
              refine ⟨q3, _, rfl, .inr (SqT.of upd_same), rfl, rfl, _, rfl, ?_⟩
              have q9 : inV ((Option.map V.str (none : Option Str)).getD (.str "")) [V.str "sudden", .str "faint", .str "soft"] = false := by decide +kernel
              rw [if_neg Bool.false_ne_true, q9]
              exact iteF (iteF (rest _ _ ⟨⟨_, _, _, rfl⟩, t16⟩))
            | some w0 =>
              refine ⟨q3, _, rfl, .inr (SqT.of upd_same), rfl, rfl, _, rfl, ?_⟩
              have q9 : inV ((Option.map V.str (some w0)).getD (.str "")) [V.str "sudden", .str "faint", .str "soft"] = decide (w0 ∈ (["sudden", "faint", "soft"] : List Str)) := inV_strs w0 ["sudden", "faint", "soft"]
              rw [if_neg Bool.false_ne_true, q9]
              by_cases e1 : w0 ∈ (["sudden", "faint", "soft"] : List Str)
              · rw [decide_eq_true e1]
                obtain ⟨xa, exa, hxa⟩ := hs.keep (Same.tk t16)
                refine iteT ⟨_, rfl, xa, _, 0, _, exa, rfl, hxa, s.head, by show 3 ≤ sizeLine; decide, fun q4 nq4 => ?_⟩
                have t17 : Same _ (upd (upd H14 q3 (.tup [.str "sudden", .str "faint", .str "soft"])) q4 (.tup [.str "stirring", .str "dozing", .str "up"])) := Same.new nq4
                have t18 := t16.trans t17
                refine ⟨q4, _, rfl, .inr (SqT.of upd_same), rfl, rfl, _, rfl, ?_⟩
                rw [if_neg Bool.false_ne_true, show inV (.str s.word) [V.str "stirring", .str "dozing", .str "up"] = decide (s.word ∈ (["stirring", "dozing", "up"] : List Str)) from inV_strs s.word ["stirring", "dozing", "up"]]
                by_cases e2 : s.word ∈ (["stirring", "dozing", "up"] : List Str)
                · rw [decide_eq_true e2]
                  refine iteT ⟨_, rfl, _, rfl, _, rfl, m, x, z, s, n1, rfl, hm2.same t18, hs.keep (Same.tk t18), fun H15 r3 t19 hr3 => ?_⟩
                  have same : hear z (sortOf z n1) n1 s = s := by
                    simp only [List.mem_cons, List.not_mem_nil, or_false] at e1 e2
                    rw [e] at so
                    exact others_same z n1 s (by rcases e1 with rfl | rfl | rfl; exact .inl so; exact .inr (.inl so); exact .inr (.inr so)) e2
                  rw [same] at hr3
                  refine ⟨_, rfl, ne_st hr3 (hs.keep (Same.tk (t18.trans t19))) sok1 sok1 ⟨_, rfl, ?_⟩⟩
                  rw [decide_eq_true rfl]
                  exact iteF (rest _ _ ⟨⟨_, _, _, rfl⟩, t18.trans t19⟩)
                · rw [decide_eq_false e2]
                  exact iteF (rest _ _ ⟨⟨_, _, _, rfl⟩, t18⟩)
              · rw [decide_eq_false e1]
                exact iteF (iteF (rest _ _ ⟨⟨_, _, _, rfl⟩, t16⟩))
        · refine ⟨_, rfl, _, rfl, D, _, rfl, DGet.k (k := Sum.inr n1) (t18 _ _ hD), _, rfl, ?_⟩
          rw [lk]
          cases e : z.sorts.lookup n1 with
          | none =>
            refine iteT ⟨_, rfl, _, rfl, _, rfl, m, x, z, s, n1, rfl, hm2.same t18, hs.keep (Same.tk t18), fun H14 r3 t19 hr3 => ?_⟩
            rw [unheard_same z n1 s (by rw [so, e])] at hr3
            refine ⟨_, rfl, ne_st hr3 (hs.keep (Same.tk (t18.trans t19))) sok1 sok1 ⟨_, rfl, ?_⟩⟩
            rw [decide_eq_true rfl]
            exact iteF (rest _ _ ⟨⟨_, _, _, rfl⟩, t18.trans t19⟩)
          | some w0 => exact iteF (iteF (rest _ _ ⟨⟨_, _, _, rfl⟩, t18⟩))
    · rintro σ H10 ⟨⟨w10, w11, w12, w13, rfl⟩, t10⟩
      -- humming
      dsimp only
      refine cut_seq (fun σ' H' => (∃ v10 v11 v12 v13, σ' = [some (.ref a), some (.ref d), some (.int (0 + (turn : Nat))), some (.ref p), some (.ref o), some (.ref m), some (.ref lg), some (.ref S), some (.ref D), some x, v10, v11, v12, v13]) ∧ Same HB H') ?_ fun rest => ?_
      · rintro σ' H11 ⟨⟨u10, u11, u12, u13, rfl⟩, t11⟩
        -- ticks
        refine ⟨_, rfl, _, rfl, m, x, z, s, rfl, hm2.same t11, hs.keep (Same.tk t11), fun H12 r1 t12 hr1 => ?_⟩
        have t13 := t11.trans t12
        have tin := InS.tick zk sin
        refine ⟨_, rfl, notin_st hr1 (InS.sok zk tin) (t13 _ _ hS) (SsAt.keep (Same.tk t13) sts2) sok ⟨_, rfl, ?_⟩⟩
        rw [decide_eq_true (mem_states.mpr tin)]
        refine iteF ⟨_, rfl, by show 1 ≤ sizeLine; decide, fun q1 nq1 => ?_⟩
        have t14 : Same H12 (upd H12 q1 (.tup [.str "woken"])) := Same.new nq1
        have t15 := t13.trans t14
        refine eq_st (t := .wok) (hs.keep (Same.tk t15)) ⟨q1, rfl, SqT.of upd_same⟩ sok1 trivial ⟨_, rfl, ?_⟩
        by_cases e : s = .wok
        · subst e
          refine iteT ⟨_, rfl, _, rfl, m, x, z, _, rfl, hm2.same t15, hs.keep (Same.tk t15), fun H13 r2 t16 hr2 => ?_⟩
          refine ⟨_, rfl, ne_st (s := .wok) (t := .wok) hr2 (hs.keep (Same.tk (t15.trans t16))) trivial trivial ⟨_, rfl, ?_⟩⟩
          exact iteF ⟨⟨_, _, _, _, _, rfl⟩, t15.trans t16⟩
        · rw [decide_eq_false e]
          exact iteF (iteF ⟨⟨_, _, _, _, _, rfl⟩, t15⟩)
      · refine ⟨by show 2 ≤ sizeLine; decide, fun q0 nq0 => ?_⟩
        have t11 : Same HB (upd H10 q0 (.tup [.str "up", .str "doze"])) := t10.trans (Same.new nq0)
        have hq0 : upd H10 q0 (.tup [.str "up", .str "doze"]) q0 = some (.tup [.str "up", .str "doze"]) := upd_same
        generalize upd H10 q0 (.tup [.str "up", .str "doze"]) = H11 at t11 hq0 ⊢
        refine ⟨q0, rfl, ⟨_, SqT.of hq0⟩, for_tup (K := K) (a := q0) (xs := (["up", "doze"] : List Str).map V.str) (fun _ σ' H' => (∃ v10 v11 v12 v13, σ' = [some (.ref a), some (.ref d), some (.int (0 + (turn : Nat))), some (.ref p), some (.ref o), some (.ref m), some (.ref lg), some (.ref S), some (.ref D), some x, v10, v11, v12, v13]) ∧ Same HB H' ∧ Same H11 H')
          ⟨⟨_, _, _, _, rfl⟩, t11, Same.refl _⟩ (fun _ _ _ _ q => SqT.of (q.2.2 _ _ hq0)) ?_ (fun σ' H' q => rest σ' H' ⟨q.1, q.2.1⟩)⟩
        rintro i2 y σ' H12 hy ⟨⟨u10, u11, u12, u13, rfl⟩, t12, t12'⟩
        obtain ⟨wd, _, rfl⟩ := List.mem_map.mp (List.mem_of_getElem? hy)
        refine ⟨_, rfl, _, rfl, _, rfl, m, x, z, s, wd, rfl, hm2.same t12, hs.keep (Same.tk t12), sok1, fun H13 r1 t13 hr1 => ?_⟩
        have t14 := t12.trans t13
        obtain ⟨hin1, hin2⟩ := InS.hum zk (x := wd) sin
        refine ⟨_, rfl, notin_st hr1 (InS.sok zk hin1) (t14 _ _ hS) (SsAt.keep (Same.tk t14) sts2) sok ⟨_, rfl, ?_⟩⟩
        rw [decide_eq_true (mem_states.mpr hin1)]
        refine iteF ⟨_, rfl, _, rfl, _, rfl, m, x, z, s, wd, rfl, hm2.same t14, hs.keep (Same.tk t14), sok1, fun H14 r2 t15 hr2 => ?_⟩
        obtain ⟨ra, rfl, hra⟩ := hr2
        refine ⟨ra, _, 0, _, rfl, rfl, hra, S0.head _, rfl, _, rfl, ?_⟩
        have ne : decide (V.str (hum z wd s).word = V.str "asleep") = false := decide_eq_false fun q => hin2 (by injection q)
        rw [ne]
        exact iteF ⟨⟨_, _, _, _, rfl⟩, t14.trans t15, (t12'.trans t13).trans t15⟩
end
end Lw
set_option Elab.async false
set_option linter.all false
set_option maxRecDepth 100000
set_option maxHeartbeats 0
namespace Lw
open PySem PySem.Spec PyProof.Rows L2 Hb
/-! ### the head: facts by names, the run -/
def d_is_whole : He.DefD := ⟨("is_whole", none), "is_whole", "is_whole", defArgs s_is_whole, defBody s_is_whole, defScope s_is_whole, [], []⟩
def d_is_positive : He.DefD := ⟨("is_positive", none), "is_positive", "is_positive", defArgs s_is_positive, defBody s_is_positive, defScope s_is_positive, [], []⟩
def d_is_name : He.DefD := ⟨("is_name", none), "is_name", "is_name", defArgs s_is_name, defBody s_is_name, defScope s_is_name, [], []⟩
def d_is_row : He.DefD := ⟨("is_row", none), "is_row", "is_row", defArgs s_is_row, defBody s_is_row, defScope s_is_row, [], []⟩
def d_is_tuple_of : He.DefD := ⟨("is_tuple_of", none), "is_tuple_of", "is_tuple_of", defArgs s_is_tuple_of, defBody s_is_tuple_of, defScope s_is_tuple_of, [], []⟩
def d_are_unlike : He.DefD := ⟨("are_unlike", none), "are_unlike", "are_unlike", defArgs s_are_unlike, defBody s_are_unlike, defScope s_are_unlike, [], []⟩
def d_is_sorted_name : He.DefD := ⟨("is_sorted_name", none), "is_sorted_name", "is_sorted_name", defArgs s_is_sorted_name, defBody s_is_sorted_name, defScope s_is_sorted_name, [], []⟩
def d_are_sorts : He.DefD := ⟨("are_sorts", none), "are_sorts", "are_sorts", defArgs s_are_sorts, defBody s_are_sorts, defScope s_are_sorts, [], []⟩
def d_Sleeper_init : He.DefD := ⟨("Sleeper", some "__init__"), "__init__", "Sleeper.__init__", defArgs s_Sleeper_init, defBody s_Sleeper_init, defScope s_Sleeper_init, [], []⟩
def d_heard : He.DefD := ⟨("heard", none), "heard", "heard", defArgs s_heard, defBody s_heard, defScope s_heard, [], []⟩
def d_ticked : He.DefD := ⟨("ticked", none), "ticked", "ticked", defArgs s_ticked, defBody s_ticked, defScope s_ticked, [], []⟩
def d_hummed : He.DefD := ⟨("hummed", none), "hummed", "hummed", defArgs s_hummed, defBody s_hummed, defScope s_hummed, [], []⟩
def d_dozing_anew : He.DefD := ⟨("dozing_anew", none), "dozing_anew", "dozing_anew", defArgs s_dozing_anew, defBody s_dozing_anew, defScope s_dozing_anew, [], []⟩
def d_sort_of : He.DefD := ⟨("sort_of", none), "sort_of", "sort_of", defArgs s_sort_of, defBody s_sort_of, defScope s_sort_of, [], []⟩
def d_heard_asleep : He.DefD := ⟨("heard_asleep", none), "heard_asleep", "heard_asleep", defArgs s_heard_asleep, defBody s_heard_asleep, defScope s_heard_asleep, [], []⟩
def d_heard_loud_dozing : He.DefD := ⟨("heard_loud_dozing", none), "heard_loud_dozing", "heard_loud_dozing", defArgs s_heard_loud_dozing, defBody s_heard_loud_dozing, defScope s_heard_loud_dozing, [], []⟩
def d_deal : He.DefD := ⟨("_law_deal", none), "_law_deal", "_law_deal", defArgs s_deal, defBody s_deal, defScope s_deal, [], []⟩
def d_draw : He.DefD := ⟨("_law_draw", none), "_law_draw", "_law_draw", defArgs s_draw, defBody s_draw, defScope s_draw, [], []⟩
def d_pick : He.DefD := ⟨("_law_pick", none), "_law_pick", "_law_pick", defArgs s_pick, defBody s_pick, defScope s_pick, [], []⟩
def d_mixed : He.DefD := ⟨("_law_mixed", none), "_law_mixed", "_law_mixed", defArgs s_mixed, defBody s_mixed, defScope s_mixed, [], []⟩
def d_words : He.DefD := ⟨("_law_words", none), "_law_words", "_law_words", defArgs s_words, defBody s_words, defScope s_words, [], []⟩
def d_drawn_sleeper : He.DefD := ⟨("_law_drawn_sleeper", none), "_law_drawn_sleeper", "_law_drawn_sleeper", defArgs s_drawn_sleeper, defBody s_drawn_sleeper, defScope s_drawn_sleeper, [], []⟩
def d_sleeper_of : He.DefD := ⟨("_law_sleeper_of", none), "_law_sleeper_of", "_law_sleeper_of", defArgs s_sleeper_of, defBody s_sleeper_of, defScope s_sleeper_of, [], []⟩
def d_states : He.DefD := ⟨("_law_states", none), "_law_states", "_law_states", defArgs s_states, defBody s_states, defScope s_states, [], []⟩
def d_row : He.DefD := ⟨("_law_row", none), "_law_row", "_law_row", defArgs s_row, defBody s_row, defScope s_row, [], []⟩
def d_law : He.DefD := ⟨("law", none), "law", "law", defArgs s_law, defBody s_law, defScope s_law, [], []⟩
def fn : List He.DefD := [d_is_whole, d_is_positive, d_is_name, d_is_row, d_is_tuple_of, d_are_unlike, d_is_sorted_name, d_are_sorts, d_Sleeper_init, d_heard, d_ticked, d_hummed, d_dozing_anew, d_sort_of, d_heard_asleep, d_heard_loud_dozing, d_deal, d_draw, d_pick, d_mixed, d_words, d_drawn_sleeper, d_sleeper_of, d_states, d_row, d_law]
def fa : List He.Fa := [.glo "is_whole", .glo "is_positive", .glo "is_name", .glo "is_row", .glo "is_tuple_of", .glo "are_unlike", .glo "is_sorted_name", .glo "are_sorts", .glo "heard", .glo "ticked", .glo "hummed", .glo "dozing_anew", .glo "sort_of", .glo "heard_asleep", .glo "heard_loud_dozing", .glo "_law_deal", .glo "_law_draw", .glo "_law_pick", .glo "_law_mixed", .glo "_law_words", .glo "_law_drawn_sleeper", .glo "_law_sleeper_of", .glo "_law_states", .glo "_law_row", .glo "law", .free "len", .free "set", .free "abs", .free "min", .free "int", .free "str", .free "bool", .free "list", .free "tuple", .free "dict", .free "isinstance", .free "all", .free "sorted", .free "range", .str "LETTERS" "abcdefghijklmnopqrstuvwxyz", .glo "SORTS", .glo "LOUD_RULES", .glo "UP", .glo "ASLEEP", .glo "WOKEN", .cls "Sleeper", .noat "Sleeper" "sorts", .noat "Sleeper" "stir", .noat "Sleeper" "doze", .noat "Sleeper" "near", .noat "Sleeper" "loud", .mkr "Sleeper", .glo "Sleeper"]
def ex (K : PySem.W.Frag) : Bool := (He.tupB K "SORTS" [.str "faint", .str "loud", .str "soft", .str "sudden"] && (He.tupB K "LOUD_RULES" [.str "again", .str "nothing", .str "wake"] && (He.tupB K "UP" [.str "up"] && (He.tupB K "ASLEEP" [.str "asleep"] && (He.tupB K "WOKEN" [.str "woken"] && true)))))
theorem EX0 {K : PySem.W.Frag} (h : ex K = true) : He.tupB K "SORTS" [.str "faint", .str "loud", .str "soft", .str "sudden"] = true := (He.ba h).1
theorem EX1 {K : PySem.W.Frag} (h : ex K = true) : He.tupB K "LOUD_RULES" [.str "again", .str "nothing", .str "wake"] = true := (He.ba (He.ba h).2).1
theorem EX2 {K : PySem.W.Frag} (h : ex K = true) : He.tupB K "UP" [.str "up"] = true := (He.ba (He.ba (He.ba h).2).2).1
theorem EX3 {K : PySem.W.Frag} (h : ex K = true) : He.tupB K "ASLEEP" [.str "asleep"] = true := (He.ba (He.ba (He.ba (He.ba h).2).2).2).1
theorem EX4 {K : PySem.W.Frag} (h : ex K = true) : He.tupB K "WOKEN" [.str "woken"] = true := (He.ba (He.ba (He.ba (He.ba (He.ba h).2).2).2).2).1
abbrev R : PySem.W.OpenRow := PySem.W.OpenLaw.row PySem.Challenge.rw_hushsteps_k11_whole_noises_that_are_made
abbrev hk : PySem.W.Hook := He.hookX 6 fa fn [] [] ex
def ob (s : PySem.W.SharedT) : He.AlX := He.obsX 6 fa fn [] [] ex (HandSHeadRun.getT s)
theorem ob_eq (s : PySem.W.SharedT) : ob s = hk.obs s.abs := He.obsX_eq (HandSHeadRun.getT_eq s)
def names : List PySem.Str := (["HushError", "InvalidSleeper", "InvalidText", "DIGITS", "LETTERS", "is_whole", "is_positive", "is_name", "is_row", "is_tuple_of", "are_unlike", "is_numeral"] : List PySem.Str) ++ (["SORTS", "LOUD_RULES", "UP", "ASLEEP", "WOKEN", "is_sorted_name", "are_sorts", "has_form", "are_all_sorted_names", "Sleeper", "heard", "ticked"] : List PySem.Str) ++ (["hummed", "dozing_anew", "sort_of", "heard_asleep", "heard_loud_dozing", "_law_deal", "_law_draw", "_law_pick", "_law_mixed", "_law_words", "_law_drawn_sleeper", "_law_sleeper_of"] : List PySem.Str) ++ (["_law_states", "_law_row"] : List PySem.Str)
theorem run (w : World) : HandSHeadRun.RunEq R (PySem.W.view R.prog [42]) hk ob 6000 names w := by
  intro os
  kernel_rfl
section
variable {P : Program} {w : World} {K : PySem.W.Frag} {h : Heap} {mg : Str → Option Value}
theorem tx_of (X : K.In h) (G : h.Ns mainGlobals mg) (cd : He.SaysD fa fn K) (cx : ex K = true) : Tx K mg :=
  ⟨He.free_ok X G (cd.fact 25 rfl),
   He.free_ok X G (cd.fact 26 rfl),
   He.free_ok X G (cd.fact 27 rfl),
   He.free_ok X G (cd.fact 28 rfl),
   He.free_ok X G (cd.fact 29 rfl),
   He.free_ok X G (cd.fact 30 rfl),
   He.free_ok X G (cd.fact 31 rfl),
   He.free_ok X G (cd.fact 32 rfl),
   He.free_ok X G (cd.fact 33 rfl),
   He.free_ok X G (cd.fact 34 rfl),
   He.free_ok X G (cd.fact 35 rfl),
   He.free_ok X G (cd.fact 36 rfl),
   He.free_ok X G (cd.fact 37 rfl),
   He.free_ok X G (cd.fact 38 rfl),
   He.str_ok X G (cd.fact 39 rfl),
   He.glo_ok X G (cd.fact 40 rfl),
   fun H => He.tupB_ok (EX0 cx) H,
   He.glo_ok X G (cd.fact 41 rfl),
   fun H => He.tupB_ok (EX1 cx) H,
   He.glo_ok X G (cd.fact 42 rfl),
   fun H => He.tupB_ok (EX2 cx) H,
   He.glo_ok X G (cd.fact 43 rfl),
   fun H => He.tupB_ok (EX3 cx) H,
   He.glo_ok X G (cd.fact 44 rfl),
   fun H => He.tupB_ok (EX4 cx) H,
   He.cls_ok (cd.fact 45 rfl),
   He.noat_ok (cd.fact 46 rfl),
   He.noat_ok (cd.fact 47 rfl),
   He.noat_ok (cd.fact 48 rfl),
   He.noat_ok (cd.fact 49 rfl),
   He.noat_ok (cd.fact 50 rfl)⟩
theorem df_is_whole (X : K.In h) (G : h.Ns mainGlobals mg) (cd : He.SaysD fa fn K) : Df K mg "is_whole" s_is_whole := by
  obtain ⟨fd, F⟩ := cd.def_ 0 (d := d_is_whole) rfl
  exact ⟨fd, F, He.glo_ok X G (cd.fact 0 rfl)⟩
theorem df_is_positive (X : K.In h) (G : h.Ns mainGlobals mg) (cd : He.SaysD fa fn K) : Df K mg "is_positive" s_is_positive := by
  obtain ⟨fd, F⟩ := cd.def_ 1 (d := d_is_positive) rfl
  exact ⟨fd, F, He.glo_ok X G (cd.fact 1 rfl)⟩
theorem df_is_name (X : K.In h) (G : h.Ns mainGlobals mg) (cd : He.SaysD fa fn K) : Df K mg "is_name" s_is_name := by
  obtain ⟨fd, F⟩ := cd.def_ 2 (d := d_is_name) rfl
  exact ⟨fd, F, He.glo_ok X G (cd.fact 2 rfl)⟩
theorem df_is_row (X : K.In h) (G : h.Ns mainGlobals mg) (cd : He.SaysD fa fn K) : Df K mg "is_row" s_is_row := by
  obtain ⟨fd, F⟩ := cd.def_ 3 (d := d_is_row) rfl
  exact ⟨fd, F, He.glo_ok X G (cd.fact 3 rfl)⟩
theorem df_is_tuple_of (X : K.In h) (G : h.Ns mainGlobals mg) (cd : He.SaysD fa fn K) : Df K mg "is_tuple_of" s_is_tuple_of := by
  obtain ⟨fd, F⟩ := cd.def_ 4 (d := d_is_tuple_of) rfl
  exact ⟨fd, F, He.glo_ok X G (cd.fact 4 rfl)⟩
theorem df_are_unlike (X : K.In h) (G : h.Ns mainGlobals mg) (cd : He.SaysD fa fn K) : Df K mg "are_unlike" s_are_unlike := by
  obtain ⟨fd, F⟩ := cd.def_ 5 (d := d_are_unlike) rfl
  exact ⟨fd, F, He.glo_ok X G (cd.fact 5 rfl)⟩
theorem df_is_sorted_name (X : K.In h) (G : h.Ns mainGlobals mg) (cd : He.SaysD fa fn K) : Df K mg "is_sorted_name" s_is_sorted_name := by
  obtain ⟨fd, F⟩ := cd.def_ 6 (d := d_is_sorted_name) rfl
  exact ⟨fd, F, He.glo_ok X G (cd.fact 6 rfl)⟩
theorem df_are_sorts (X : K.In h) (G : h.Ns mainGlobals mg) (cd : He.SaysD fa fn K) : Df K mg "are_sorts" s_are_sorts := by
  obtain ⟨fd, F⟩ := cd.def_ 7 (d := d_are_sorts) rfl
  exact ⟨fd, F, He.glo_ok X G (cd.fact 7 rfl)⟩
theorem df_Sleeper_init (X : K.In h) (G : h.Ns mainGlobals mg) (cd : He.SaysD fa fn K) : Df1 K mg "Sleeper" "Sleeper.__init__" s_Sleeper_init := ⟨He.mkr_ok (cd.fact 51 rfl), He.glo_ok X G (cd.fact 52 rfl), cd.def_ 8 (d := d_Sleeper_init) rfl⟩
theorem df_heard (X : K.In h) (G : h.Ns mainGlobals mg) (cd : He.SaysD fa fn K) : Df K mg "heard" s_heard := by
  obtain ⟨fd, F⟩ := cd.def_ 9 (d := d_heard) rfl
  exact ⟨fd, F, He.glo_ok X G (cd.fact 8 rfl)⟩
theorem df_ticked (X : K.In h) (G : h.Ns mainGlobals mg) (cd : He.SaysD fa fn K) : Df K mg "ticked" s_ticked := by
  obtain ⟨fd, F⟩ := cd.def_ 10 (d := d_ticked) rfl
  exact ⟨fd, F, He.glo_ok X G (cd.fact 9 rfl)⟩
theorem df_hummed (X : K.In h) (G : h.Ns mainGlobals mg) (cd : He.SaysD fa fn K) : Df K mg "hummed" s_hummed := by
  obtain ⟨fd, F⟩ := cd.def_ 11 (d := d_hummed) rfl
  exact ⟨fd, F, He.glo_ok X G (cd.fact 10 rfl)⟩
theorem df_dozing_anew (X : K.In h) (G : h.Ns mainGlobals mg) (cd : He.SaysD fa fn K) : Df K mg "dozing_anew" s_dozing_anew := by
  obtain ⟨fd, F⟩ := cd.def_ 12 (d := d_dozing_anew) rfl
  exact ⟨fd, F, He.glo_ok X G (cd.fact 11 rfl)⟩
theorem df_sort_of (X : K.In h) (G : h.Ns mainGlobals mg) (cd : He.SaysD fa fn K) : Df K mg "sort_of" s_sort_of := by
  obtain ⟨fd, F⟩ := cd.def_ 13 (d := d_sort_of) rfl
  exact ⟨fd, F, He.glo_ok X G (cd.fact 12 rfl)⟩
theorem df_heard_asleep (X : K.In h) (G : h.Ns mainGlobals mg) (cd : He.SaysD fa fn K) : Df K mg "heard_asleep" s_heard_asleep := by
  obtain ⟨fd, F⟩ := cd.def_ 14 (d := d_heard_asleep) rfl
  exact ⟨fd, F, He.glo_ok X G (cd.fact 13 rfl)⟩
theorem df_heard_loud_dozing (X : K.In h) (G : h.Ns mainGlobals mg) (cd : He.SaysD fa fn K) : Df K mg "heard_loud_dozing" s_heard_loud_dozing := by
  obtain ⟨fd, F⟩ := cd.def_ 15 (d := d_heard_loud_dozing) rfl
  exact ⟨fd, F, He.glo_ok X G (cd.fact 14 rfl)⟩
theorem df_deal (X : K.In h) (G : h.Ns mainGlobals mg) (cd : He.SaysD fa fn K) : Df K mg "_law_deal" s_deal := by
  obtain ⟨fd, F⟩ := cd.def_ 16 (d := d_deal) rfl
  exact ⟨fd, F, He.glo_ok X G (cd.fact 15 rfl)⟩
theorem df_draw (X : K.In h) (G : h.Ns mainGlobals mg) (cd : He.SaysD fa fn K) : Df K mg "_law_draw" s_draw := by
  obtain ⟨fd, F⟩ := cd.def_ 17 (d := d_draw) rfl
  exact ⟨fd, F, He.glo_ok X G (cd.fact 16 rfl)⟩
theorem df_pick (X : K.In h) (G : h.Ns mainGlobals mg) (cd : He.SaysD fa fn K) : Df K mg "_law_pick" s_pick := by
  obtain ⟨fd, F⟩ := cd.def_ 18 (d := d_pick) rfl
  exact ⟨fd, F, He.glo_ok X G (cd.fact 17 rfl)⟩
theorem df_mixed (X : K.In h) (G : h.Ns mainGlobals mg) (cd : He.SaysD fa fn K) : Df K mg "_law_mixed" s_mixed := by
  obtain ⟨fd, F⟩ := cd.def_ 19 (d := d_mixed) rfl
  exact ⟨fd, F, He.glo_ok X G (cd.fact 18 rfl)⟩
theorem df_words (X : K.In h) (G : h.Ns mainGlobals mg) (cd : He.SaysD fa fn K) : Df K mg "_law_words" s_words := by
  obtain ⟨fd, F⟩ := cd.def_ 20 (d := d_words) rfl
  exact ⟨fd, F, He.glo_ok X G (cd.fact 19 rfl)⟩
theorem df_drawn_sleeper (X : K.In h) (G : h.Ns mainGlobals mg) (cd : He.SaysD fa fn K) : Df K mg "_law_drawn_sleeper" s_drawn_sleeper := by
  obtain ⟨fd, F⟩ := cd.def_ 21 (d := d_drawn_sleeper) rfl
  exact ⟨fd, F, He.glo_ok X G (cd.fact 20 rfl)⟩
theorem df_sleeper_of (X : K.In h) (G : h.Ns mainGlobals mg) (cd : He.SaysD fa fn K) : Df K mg "_law_sleeper_of" s_sleeper_of := by
  obtain ⟨fd, F⟩ := cd.def_ 22 (d := d_sleeper_of) rfl
  exact ⟨fd, F, He.glo_ok X G (cd.fact 21 rfl)⟩
theorem df_states (X : K.In h) (G : h.Ns mainGlobals mg) (cd : He.SaysD fa fn K) : Df K mg "_law_states" s_states := by
  obtain ⟨fd, F⟩ := cd.def_ 23 (d := d_states) rfl
  exact ⟨fd, F, He.glo_ok X G (cd.fact 22 rfl)⟩
theorem df_row (X : K.In h) (G : h.Ns mainGlobals mg) (cd : He.SaysD fa fn K) : Df K mg "_law_row" s_row := by
  obtain ⟨fd, F⟩ := cd.def_ 24 (d := d_row) rfl
  exact ⟨fd, F, He.glo_ok X G (cd.fact 23 rfl)⟩
theorem facts {f : Addr} (X : K.In h) (G : h.Ns mainGlobals mg) (hfa : mg ("law" : Str) = some (.ref f)) (cd : He.SaysD fa fn K) (cx : ex K = true) :
    ∃ fd : FuncData, (∀ (s : Shared) (v : Value), BindsTo s fd ⟨[v], []⟩ [("_law_script", v)]) ∧ ∀ base : Heap, K.In base → base.Ns mainGlobals mg → FnOk P w K mg base CX0 7 f fd ["_law_script"] (spLaw K) := by
  obtain ⟨fd, F⟩ := cd.def_ 25 (d := d_law) rfl
  have T := tx_of X G cd cx
  have e := hfa.symm.trans (He.glo_ok X G (cd.fact 24 rfl))
  cases e
  have b := FunD.bindsA (ps := ["_law_script"]) F bd_law
  refine ⟨fd, fun s v => b s [v] rfl, fun base _ _ => ?_⟩
  have c_draw := c_draw (P := P) (w := w) (base := base) (df_draw X G cd) T
  have c_pick := c_pick (df_pick X G cd) T c_draw
  have c_mixed := c_mixed (df_mixed X G cd) T c_draw
  have c_words := c_words (df_words X G cd) T c_mixed
  have c_deal := c_deal (P := P) (w := w) (base := base) (df_deal X G cd) T
  have c_drawn_sleeper := c_drawn_sleeper (df_drawn_sleeper X G cd) T c_draw c_pick
  have c_is_whole := c_is_whole (P := P) (w := w) (base := base) (df_is_whole X G cd) T
  have c_is_positive := c_is_positive (df_is_positive X G cd) T c_is_whole
  have c_is_name := c_is_name (P := P) (w := w) (base := base) (df_is_name X G cd) T
  have c_is_row := c_is_row (P := P) (w := w) (base := base) (df_is_row X G cd) T
  have c_is_tuple_of := c_is_tuple_of (P := P) (w := w) (base := base) (df_is_tuple_of X G cd) T
  have c_are_unlike := c_are_unlike (P := P) (w := w) (base := base) (df_are_unlike X G cd) T
  have c_is_sorted_name := c_is_sorted_name (df_is_sorted_name X G cd) T c_is_tuple_of c_is_name
  have c_are_sorts := c_are_sorts (df_are_sorts X G cd) T c_is_row c_is_sorted_name c_are_unlike
  have c_mk := m_Sleeper_mk (df_Sleeper_init X G cd) T c_are_sorts c_is_positive
  have c_sort_of := c_sort_of (P := P) (w := w) (base := base) (df_sort_of X G cd) T
  have c_dozing_anew := c_dozing_anew (P := P) (w := w) (base := base) (df_dozing_anew X G cd) T
  have c_heard_loud_dozing := c_heard_loud_dozing (df_heard_loud_dozing X G cd) T c_dozing_anew
  have c_heard_asleep := c_heard_asleep (P := P) (w := w) (base := base) (df_heard_asleep X G cd) T
  have c_heard := c_heard (df_heard X G cd) T c_sort_of c_heard_asleep c_heard_loud_dozing
  have c_ticked := c_ticked (P := P) (w := w) (base := base) (df_ticked X G cd) T
  have c_hummed := c_hummed (df_hummed X G cd) T c_dozing_anew
  have c_sleeper_of := c_sleeper_of (df_sleeper_of X G cd) T c_mk
  have c_states := c_states (P := P) (w := w) (base := base) (df_states X G cd) T
  have c_row := c_row (df_row X G cd) T c_heard
  exact ok_law F T c_deal c_words c_drawn_sleeper c_sleeper_of c_states c_row c_heard c_ticked c_hummed
end
end Lw
open PySem PySem.W PySem.Calls PyProof.Rows
theorem PySem.Challenge.cw_hushsteps_k11_whole_noises_that_are_made_holds : PySem.Challenge.rw_hushsteps_k11_whole_noises_that_are_made.Holds := by
  w_on; o_law
  refine HandSHeadRun.head_any (r := OpenLaw.row PySem.Challenge.rw_hushsteps_k11_whole_noises_that_are_made) (q := view (OpenLaw.row PySem.Challenge.rw_hushsteps_k11_whole_noises_that_are_made).prog [42]) (H := Lw.hk) (ob := Lw.ob) (M := 6000) (loose := Lw.names) (d := HandSHeadRun.topDef (OpenLaw.row PySem.Challenge.rw_hushsteps_k11_whole_noises_that_are_made).prog 42) (kwd := []) Lw.ob_eq
    (by kernel_rfl) (fun s => by kernel_rfl) Lw.run (by kernel_rfl) (by kernel_rfl) (by kernel_rfl) (by rfl) (by first | assumption | decide +kernel) (by decide +kernel) ⟨rfl, rfl, rfl, rfl, rfl, by decide +kernel⟩ ?hw ?hc
  case hw => w_witness2
  case hc =>
    refine L2.walk_ofE (l := PySem.Challenge.rw_hushsteps_k11_whole_noises_that_are_made) (n := 63) (k := 7) (x := "_law_script") (CX := L2.CX0) rfl (by decide) (by kernel_rfl) ⟨rfl, by decide, by decide⟩ ?F (fun _ _ _ _ z => z)
    intro w mg fa h Y G hmg0
    obtain ⟨K, KX, c⟩ := Y
    have hmg : mg ("law" : PySem.Str) = some (.ref fa) := by
      have e : (HandSHeadRun.topDef (OpenLaw.row PySem.Challenge.rw_hushsteps_k11_whole_noises_that_are_made).prog 42).name = ("law" : PySem.Str) := by kernel_rfl
      rw [← e]
      exact hmg0
    obtain ⟨fd, hb, hF⟩ := Lw.facts (P := (PySem.Challenge.rw_hushsteps_k11_whole_noises_that_are_made).prog) (w := w) KX G hmg c.t.d c.more
    exact ⟨K, fd, Lw.spLaw K, KX, hb, fun H a ns hl _ hS => ⟨a, ns, rfl, hS, hl, fun _ => rfl⟩, hF⟩
