import PyProof.Rows.All
import Wide.All
import OpenK.AllK
import Wide.FinOn
import HandS.ForMost
import HandS.Strs
import HandS.Zip
import KE.SortData
import HandS.Codes
import HandS.Defaults
import HandS.IsInst
import HandS.Deep
import HandS.Style
import HandS.TupAny
import HandS.RaiseMore
import HandS.HeadHook1
import HandS.HeadHook2
import HandS.Walk
import KE.SortLaws
import HandS.SetFor
import HandS.Conv
import HandS.OwnEq
import HandS.SlotsOwn
import HandS.More
import PyProof.InstNe
import PyProof.CallStr
import HandS.Set
import HandS.Property
import HandS.HeadHook3
import HandS.HeadHook4
import HandS.ClsMeth
import PyProof.Rows.StrMeet
import PyProof.Rows.SortStr
import HandS.Ends
import HandS.HeadEnd
import PyProof.ReprRoads
import HandS.Head0
import Wide.Once
import HandS.Head1
import HandS.Head2
import PySem.Challenge.RW_hushsteps_k06_noises_that_are_mended
set_option Elab.async false
set_option linter.all false
set_option maxRecDepth 100000
set_option maxHeartbeats 4000000
/-! Sets of unlike texts told by their length; sorted lists of pairs of texts. -/
namespace Hb
open PySem PySem.Spec PyProof.Rows L2

theorem grown_text (xs : List Str) (nd : xs.Nodup) {i : Nat} (hi : i < xs.length) : ((xs.take i).any (· == xs.getD i Str.empty)) = false := by
  have e1 : xs.getD i Str.empty = xs[i] := by rw [List.getD_eq_getElem?_getD, List.getElem?_eq_getElem hi] <;> rfl
  rw [e1, Bool.eq_false_iff]
  intro hb
  obtain ⟨y, hy, ey⟩ := List.any_eq_true.mp hb
  rw [eq_of_beq ey] at hy
  obtain ⟨j, hj, ej⟩ := List.mem_iff_getElem.mp hy
  rw [List.length_take] at hj
  rw [List.getElem_take] at ej
  exact absurd ej (List.pairwise_iff_getElem.mp nd j i (by omega) hi (by omega))
theorem more_text (xs : List Str) {i : Nat} (hi : i < xs.length) : xs.take (i + 1) = xs.take i ++ [xs.getD i Str.empty] := by
  have e1 : xs.getD i Str.empty = xs[i] := by rw [List.getD_eq_getElem?_getD, List.getElem?_eq_getElem hi] <;> rfl
  rw [e1, List.take_add_one, List.getElem?_eq_getElem hi] <;> rfl

section
variable {prog : Program} {w : World} {A : Around} {R : Result → Shared → Prop} {I : Addr} {fp wr : List Addr} {G : Array GenState → Array GenState → Prop} {n : Nat} {P : Nat → Value → Prop} {Z : Nat → Shared → Prop}
/-- the turns of set.update over unlike texts -/
theorem turns_text (W : WalksS prog w A.in1 I fp wr G n P Z) (S : Addr) (apart : S ∉ fp) (xs : List Str) (len : xs.length = n) (nd : xs.Nodup) (few : n + 1 < scanBound)
    (told : ∀ i v, P i v → ∃ t, v = .str (xs.getD i Str.empty) t) : ∀ (left i : Nat) (s : Shared), n - i = left → i ≤ n → Z i s →
      s.heap.SetOf (PySem.strKind prog w) S (fun z => (xs.take i).any (· == z)) i →
      (∀ s', Moved (S :: wr) G s s' → s'.heap.SetOf (PySem.strKind prog w) S (fun z => (xs.take n).any (· == z)) n → R (.ok (.ret .none)) s') →
      codeAny (model prog w) A (.builtin "set.update.loop" ⟨[.ref S, .ref I], []⟩) R s := by
  have nwr : S ∉ wr := fun h => apart (W.sub _ h)
  have up : ∀ b ∈ wr, b ∈ S :: wr := fun b hb => List.mem_cons_of_mem _ hb
  intro left
  induction left with
  | zero =>
    intro i s hk hi hst hS hR
    obtain rfl : i = n := by omega
    refine codeAny_builtin PyProof.Rows.F.entry_set_update_loop (by
      rw [Around.under_plainId PyProof.Rows.F.plain_set_update_loop _]; show wpAny _ A.in1 (pyNext (.ref I) >>= _) _ _ s
      refine wpAny_bind (W.done s _ _ hst fun s' hm => ?_); show wpAny _ A.in1 (ret Value.none) _ _ s'
      refine wpAny_pure (hR s' (hm.mono up) ?_); obtain ⟨o, es, ep, t, ho, rest⟩ := hS; exact ⟨o, es, ep, t, hm.heap S _ nwr ho, rest⟩)
  | succ left ih =>
    intro i s hk hi hst hS hR
    have lt : i < n := by omega
    have lt2 : i < xs.length := by omega
    refine codeAny_builtin PyProof.Rows.F.entry_set_update_loop (by
      rw [Around.under_plainId PyProof.Rows.F.plain_set_update_loop _]; show wpAny _ A.in1 (pyNext (.ref I) >>= _) _ _ s
      refine wpAny_bind (W.item i s _ _ lt hst fun v s' hP hst' hm => ?_)
      obtain ⟨t, rfl⟩ := told i v hP
      have hS' : s'.heap.SetOf (PySem.strKind prog w) S (fun z => (xs.take i).any (· == z)) i := by
        obtain ⟨o, es, ep, tb, ho, rest⟩ := hS; exact ⟨o, es, ep, tb, hm.heap S _ nwr ho, rest⟩
      show wpAny _ A.in1 (holding [Value.str (xs.getD i Str.empty) t] (setAdd S (.str (xs.getD i Str.empty) t)) >>= _) _ _ s'
      refine wpAny_bind (wpAny_holding ?_); unfold setAdd
      refine wpAny_holding (wpAny_bind ((PySem.strKind prog w).pyHash (k := xs.getD i Str.empty) (strKind_is _ _ _ _) ?_))
      refine wpAny_setAddHashed_of (knd := PySem.strKind prog w) (s := { s' with toks := s'.toks + 1 }) (strKind_is prog w _ _) rfl hS' (by omega) fun h' same hS2 => ?_
      have hS3 : h'.SetOf (PySem.strKind prog w) S (fun z => (xs.take (i + 1)).any (· == z)) (i + 1) := PyProof.Rows.SetOf_congr hS2 (fun z => by
        rw [more_text xs lt2, List.any_append]
        by_cases e : z = xs.getD i Str.empty
        · subst e; simp
        · have q : (xs.getD i Str.empty == z) = false := beq_eq_false_iff_ne.mpr fun h => e h.symm
          simp only [List.any_cons, List.any_nil, q, Bool.or_false, e, decide_false]) (by rw [if_neg (by rw [grown_text xs nd lt2]; decide)])
      refine wpAny_pure ⟨plainId_quiet PyProof.Rows.F.plain_set_update_loop _, ih (i + 1) _ (by omega) lt (W.frame _ s' _ _ hst' (Nat.le_succ _) fun b hb o e => ?_) hS3 fun s'' hm2 hS4 => ?_⟩
      · rw [same.2 b (fun h : b = S => apart (h ▸ hb))]; exact e
      · refine hR s'' (Moved.trans W.gtrans ((hm.mono up).then_heap (Nat.le_succ _) fun b o hb e => ?_) hm2) hS4
        rw [same.2 b (fun h : b = S => hb (by rw [h]; exact List.mem_cons_self))]; exact e)
end
end Hb
set_option Elab.async false
set_option linter.all false
set_option maxRecDepth 100000
set_option maxHeartbeats 8000000
namespace Hb
open PySem PySem.Spec PyProof.Rows L2
section
variable {prog : Program} {w : World} {A : Around} {E : Value → Shared → Prop} {s : Shared}
/-- the new empty set, as the model makes it -/
abbrev bareSet (led : Bool) : Obj := { cls := .type "set", dict := none, data := .set #[] 0 (.fresh 0 0 led) }
/-- set(xs) of a list of unlike texts -/
theorem set_texts {l : Addr} {its : Array Value} {xs : List Str} {Q : Value → Shared → Prop} (calm : A.handled = none) (at_ : s.heap.IsList l its) (are : StrsAre its.toList xs) (nd : xs.Nodup) (few : xs.length + 1 < scanBound)
    (k : ∀ (h' : Heap) (tk : Nat), h'.SetOf (PySem.strKind prog w) s.heap.objs.size (fun z => (xs.take xs.length).any (· == z)) xs.length → (∀ b o, s.heap.get? b = some o → h'.get? b = some o) → Q (.ref s.heap.objs.size) { s with heap := h', toks := tk }) :
    wpAny (model prog w) A (call (.type "set") [.ref l]) Q E s := by
  have size : its.size = xs.length := by have q := are.length; rw [Array.length_toList] at q; exact q
  obtain ⟨c, tl, mro⟩ := F.called_set.mro
  have f1 := F.called_set.made; have f2 := F.called_set.sub; have f3 := F.called_set.notType; have f4 := F.called_set.canCreate; have f5 := F.typeCall_set_1 (.ref l)
  refine wpAny_call (codeAny_of_tree (by
    show wpAny _ _ (callAny (.type "set") _) _ _ _
    refine wpAny_pure ⟨Code.quiet_builtin _ (by decide +kernel), codeAny_builtin F.entry_type_call ?_⟩
    rw [Around.under_plain (weight_type_call_type "set" [.ref l] []) rfl]
    repeat (any_goals (first | assumption | wp_step))
    refine codeAny_mono (code_set_new_1 (.ref l) (E := E) (Q₁ := fun v z => ∃ led : Bool, v = .ref s.heap.objs.size ∧ z = { s with heap := s.heap.push (bareSet led) }) fun led => ⟨led, rfl, rfl⟩) fun r z hr => ?_
    match r, hr with
    | .error e, hr => exact hr
    | .ok .next, hr => exact hr.elim
    | .ok .brk, hr => exact hr.elim
    | .ok .cont, hr => exact hr.elim
    | .ok (.ret v), ⟨led, e1, e2⟩ =>
      subst e1 e2
      have mine : (s.heap.push (bareSet led)).get? s.heap.objs.size = some (bareSet led) := Heap.get?_push_size _ rfl
      have kind : Shared.TypeIs { s with heap := s.heap.push (bareSet led) } (.ref s.heap.objs.size) "set" := ⟨_, mine, rfl⟩
      have f6 := F.called_set.init.lookup; have f7 := F.called_set.init.bind (.ref s.heap.objs.size)
      repeat (any_goals (first | assumption | wp_step))
      refine codeAny_mono (codeAny_call_builtin (R := wants (fun r z => r = .none ∧ ∃ h' tk, z = { s with heap := h', toks := tk } ∧
        h'.SetOf (PySem.strKind prog w) s.heap.objs.size (fun z => (xs.take xs.length).any (· == z)) xs.length ∧ ∀ b o, s.heap.get? b = some o → h'.get? b = some o) E) F.called_set.init.plain F.entry_set_init (check_set_init_1 kind ?_)) fun r2 z2 hr2 => ?_
      · obtain ⟨⟨ocls, odict, odata, oslots⟩, ho, hc, nl, hd⟩ := at_
        simp only at hc hd; subst hc hd
        have ho2 : (s.heap.push (bareSet led)).get? l = some { cls := .type "list", dict := odict, data := .seq its nl, slots := oslots } := Heap.get?_push_of_some _ ho
        have g1 := F.sub_list_set; have g2 := F.sub_list_frozenset; have g3 : (Value.type "list" == Value.type "dict") = false := by decide
        have ml : (s.heap.push (bareSet led)).IsList l its := ⟨_, ho2, rfl, nl, rfl⟩
        unfold Builtin.«set.__init__» noKeywords Builtin.Frozenset.updateFrom
        generalize hI : pyIter = It
        wp_walk
        subst hI
        have lo : l < s.heap.objs.size := Heap.lt_size ho
        have far : l ≠ (s.heap.push (bareSet led)).objs.size := by rw [Heap.size_push]; exact Nat.ne_of_lt (Nat.lt_succ_of_lt lo)
        refine wpAny_pyIter_list ml (wpAny_bind (wpAny_runValue (turns_text ((Walks.list (by simp [calm]) _ l far its).toS) s.heap.objs.size (by
            rw [Heap.size_push]; simp only [List.mem_cons, List.not_mem_nil, or_false, not_or]
            exact ⟨Nat.ne_of_lt (Nat.lt_succ_self _), Nat.ne_of_gt lo⟩) xs size.symm nd (by omega) (fun i v hv => SS.strs_at are i v (by rw [Array.getElem?_toList]; exact hv)) (its.size - 0) 0 _ (by omega) (Nat.zero_le _)
          ⟨⟨_, Heap.get?_push_size _ rfl, rfl, rfl⟩, (ml.push _)⟩ ?zer ?fin1)))
        case zer =>
          have e0 : ((s.heap.push (bareSet led)).push { cls := .type "list_iterator", data := .fields #[.ref l, .int 0 0] }).get? s.heap.objs.size = some (bareSet led) := Heap.get?_push_of_some _ mine
          exact SetOf_congr ((setObjOf_fresh (knd := PySem.strKind prog w) led).setOf e0 (by unfold scanBound; omega)) (fun _ => rfl) rfl
        case fin1 =>
          rintro ⟨h', g', d', tk', os'⟩ hm hS
          obtain rfl : g' = s.gens := hm.gens
          obtain rfl : d' = s.drawn := hm.drawn
          obtain rfl : os' = s.os := hm.os
          show wpAny _ _ _ _ _ _
          refine wpAny_pure (by
            show wpAny _ _ (ret Value.none) _ _ _
            rw [size] at hS
            refine wpAny_pure ⟨rfl, h', tk', rfl, hS, fun b o e => hm.heap b o ?_ (Heap.get?_push_of_some _ (Heap.get?_push_of_some _ e))⟩
            have lb := Heap.lt_size e
            rw [Heap.size_push]; simp only [List.mem_cons, List.not_mem_nil, or_false, not_or]
            exact ⟨Nat.ne_of_lt lb, Nat.ne_of_lt (Nat.lt_succ_of_lt lb)⟩)
      · match r2, hr2 with
        | .error e, h => exact h
        | .ok .next, h => exact h.elim
        | .ok .brk, h => exact h.elim
        | .ok .cont, h => exact h.elim
        | .ok (.ret v), ⟨e1, h', tk, e2, hS, hk⟩ =>
          subst e1 e2
          repeat (any_goals (first | assumption | wp_step))
          exact k _ _ hS hk))
end
end Hb
namespace Hb
open PySem PySem.Spec PyProof.Rows L2
/-- len(set(xs)), xs a list of unlike texts, or of unlike ints -/
def tLenSet2 (K : PySem.W.Frag) (ta : TE) : TE := fun σ H Q => ta σ H fun x H1 => ∃ l : Addr, x = .ref l ∧
  ((∃ xs : List Str, SqL K H1 l (xs.map V.str) ∧ xs.Nodup ∧ xs.length ≤ 4000 ∧ Q (.int xs.length) H1) ∨ ∃ ns : List Int, SqL K H1 l (ns.map V.int) ∧ ns.Nodup ∧ ns.length ≤ 4000 ∧ Q (.int ns.length) H1)
theorem pe_lenSet2 {X : Cx} {a : Expr} {ta : TE} {p p2 q pos : Pos} (hg : Gl X "len") (hm : X.mg "len" = none) (hg2 : Gl X "set") (hm2 : X.mg "set" = none) (ha : PE X a ta) (calm : X.calm = true := by rfl)
    (na : starEach [a] X.env = (false, eval a X.env) :: starEach [] X.env := by rfl) : PE X (.Call (.Name "len" p) [.Call (.Name "set" p2) [a] [] q] [] pos) (tLenSet2 X.K ta) := by
  refine ⟨fun pins s σ H Q I h => Call_ (ld_blt I hg hm boot_len (callWith_builtin1 (args_cons (Call_ (ld_blt I hg2 hm2 boot_set
    (callWith_type1 (args_cons (thn (ha.run pins s σ H _ I h) fun v z ⟨x, H1, J, r, q⟩ => args_nil ?_) na) na rfl))) rfl) rfl rfl))⟩
  obtain ⟨l, rfl, q⟩ := q
  cases r
  have fin : ∀ (n : Nat) (h' : Heap) (tk : Nat) (κ : Type) (i1 : DecidableEq κ) (i2 : BEq κ) (i3 : LawfulBEq κ) (kd : KeyKind X.prog X.w κ) (S : κ → Bool), n ≤ 4000 → h'.SetOf kd z.heap.objs.size S n → (∀ b o, z.heap.get? b = some o → h'.get? b = some o) → Q (.int n) H1 →
      wpAny (model X.prog X.w) X.A (spliced (backTo pos (starEach [] X.env))) (fun vs y => wpAny (model X.prog X.w) X.A (call (.builtin "len") (Value.ref z.heap.objs.size :: vs)) (EP X pins σ Q) X.xe y) X.xe { z with heap := h', toks := tk } := by
    intro n h' tk κ i1 i2 i3 kd S hn hS hk q
    refine args_nil ?_
    obtain ⟨o, es, ep, t, ho, hex, hd, _, _, _, hf, e⟩ := hS
    have J2 : Inv X pins σ H1 { z with heap := h', toks := tk } := J.kept hk
    exact call_len_set ho hex hd hf (by rw [e] <;> omega) ⟨.int n, H1, J2.tok _, ⟨_, by rw [e]⟩, q⟩
  rcases q with ⟨xs, hq, nd, few, q⟩ | ⟨ns, hq, nd, few, q⟩
  · obtain ⟨its, r, pl, hz⟩ := J.list hq
    exact set_texts (J.ok.hd calm) pl.isList (by simpa using strsAre_of r) nd (by unfold scanBound; omega) fun h' tk hS hk => fin _ h' tk _ inferInstance inferInstance inferInstance _ _ few hS hk q
  · obtain ⟨its, r, pl, hz⟩ := J.list hq
    have size : its.toArray.size = ns.length := by rw [List.size_toArray, ← r.length, List.length_map]
    refine call_set_list (J.ok.hd calm) pl.isList (by simpa using RZ.intsAre_vals r) (by rw [size]; unfold scanBound; omega) fun h' tk hS hk => ?_
    rw [size, RZ.firstMet_nodup nd ns.length (Nat.le_refl _)] at hS
    rw [List.take_length] at hS
    exact fin _ h' tk _ inferInstance inferInstance inferInstance _ _ few hS (fun b o e => hk b o (Heap.lt_size e) e) q
end Hb
set_option Elab.async false
set_option linter.all false
set_option maxRecDepth 100000
set_option maxHeartbeats 8000000
namespace Hb
open PySem PySem.Spec PyProof.Rows L2
section
variable {prog : Program} {w : World} {A : Around} {E : Value → Shared → Prop} {s : Shared}
/-- what it holds, taken into a list that nobody keeps: the heap behind it, exactly -/
theorem taken {Q : List Value → Shared → Prop} (it : Addr) {T : String} {o : Obj} {vs : List Value} {n : Nat} (hT : T = "list" ∨ T = "tuple") (ho : s.heap.get? it = some o) (hc : o.cls = .type T) (hd : o.data = .seq vs.toArray n) (hL : vs.length ≤ sizeLine)
    (k : Q vs { s with heap := (s.heap.push (seqObj "list" #[] 0)).update s.heap.objs.size (Obj.mapSeq (· ++ vs.toArray)) }) : wpAny (model prog w) A (collect (.ref it)) Q E s := by
  have e1 : (s.heap.push (seqObj "list" #[] 0)).get? s.heap.objs.size = some { cls := .type "list", data := .seq #[] 0 } := Heap.get?_push_size _ rfl
  have e2 := Heap.get?_update_self (Obj.mapSeq (· ++ vs.toArray)) e1 rfl
  have last : wpAny (model prog w) A (match Value.ref s.heap.objs.size with
      | Value.ref a => (do match (← load a).data with
          | Data.seq xs _ => pure xs.toList
          | _ => unsupported "internal:collect")
      | _ => unsupported "internal:collect") Q E { s with heap := (s.heap.push (seqObj "list" #[] 0)).update s.heap.objs.size (Obj.mapSeq (· ++ vs.toArray)) } := by
    show wpAny _ A (load s.heap.objs.size >>= _) _ _ _
    refine wpAny_bind (wpAny_load e2 (wpAny_pure ?_)); show Q ((#[] : Array Value) ++ vs.toArray).toList _
    rw [show ((#[] : Array Value) ++ vs.toArray).toList = vs by simp]; exact k
  unfold collect
  refine wpAny_bind (wpAny_runValue (codeAny_builtin F.entry_proto_collect (by
    rw [Around.under_plainId F.plain_proto_collect _]; show wpAny _ A.in1 (newList [] >>= fun l => again (.builtin "list.__iadd__" ⟨[l, .ref it], []⟩)) _ _ s
    refine wpAny_bind (wpAny_newObj_type (wpAny_pure ⟨plainId_quiet F.plain_list_iadd _, codeAny_builtin F.entry_list_iadd (by
      rw [Around.under_plainId F.plain_list_iadd _]; show wpAny _ A.in1 (Builtin.List.listExtendWith (.ref s.heap.objs.size) (.ref it) (.ref s.heap.objs.size)) _ _ _
      refine wpAny_mono (wpAny_extend_seq (hsz := by rw [List.size_toArray]; exact hL) (A := A) (R := fun r z => r = .ok (.ret (.ref s.heap.objs.size)) ∧ z = { s with heap := (s.heap.push (seqObj "list" #[] 0)).update s.heap.objs.size (Obj.mapSeq (· ++ vs.toArray)) })
        (s := { s with heap := s.heap.push (seqObj "list" #[] 0) }) _ it _ 0 hT e1 (Heap.get?_push_of_some _ ho) hc hd ⟨rfl, rfl⟩) (fun f z h => ?_) (fun e z h => absurd h.1 (by simp))
      cases f with
      | done f => obtain ⟨e, rfl⟩ := h; cases e; exact last
      | again c => exact ⟨h.1, codeAny_mono h.2 fun r z2 hr => by obtain ⟨rfl, rfl⟩ := hr; exact last⟩)⟩)))))
/-- sorted(it) of a list or a tuple whose items read as data -/
theorem sorted_any {β : Type} {it : Addr} {T : String} {o : Obj} {vs : List Value} {n : Nat} {bs : List β} {enc : β → PyData} {R : Value → β → Prop} {Q : Value → Shared → Prop} (hT : T = "list" ∨ T = "tuple")
    (ho : s.heap.get? it = some o) (hc : o.cls = .type T) (hd : o.data = .seq vs.toArray n) (e : PySem.W.EachIs R vs bs) (er : PySem.W.EachIs (fun v b => ∃ as, Reads s.heap v (enc b) as) vs bs)
    (hal : PySem.W.AllAlike (bs.map enc)) (hk : PySem.W.Sortable (bs.map enc)) (hL : bs.length ≤ sizeLine) (hu : ∀ b, b ∈ bs → A.units + 2 + (enc b).depth < cLine)
    (k : ∀ (h' : Heap) (p : Addr) (out : List Value) (c : Nat), s.heap.objs.size ≤ p → (∀ b u, s.heap.get? b = some u → h'.get? b = some u) → h'.get? p = some (seqObj "list" out.toArray c) →
      PySem.W.EachIs R out (bs.mergeSort (PySem.W.dataLe false enc)) → Q (.ref p) { s with heap := h' }) :
    wpAny (model prog w) A (call (.builtin "sorted") [.ref it]) Q E s := by
  have len : vs.length = bs.length := e.length
  refine Calls.call_function_entry kind_sorted plain_sorted entry_sorted (args_sorted1 _) (by
    unfold Builtin.«sorted»
    refine wpAny_bind (m := checkCount "sorted" 1 1 _) (wpAny_pure (wpAny_bind (taken it hT ho hc hd (by rw [len]; exact hL) (wpAny_bind (wpAny_newList ?_ (by rw [len]; exact hL))))))
    have h1s : ((s.heap.push (seqObj "list" #[] 0)).update s.heap.objs.size (Obj.mapSeq (· ++ vs.toArray))).objs.size = s.heap.objs.size + 1 := by rw [Heap.size_update, size_push']
    have k1 : ∀ b u, s.heap.get? b = some u → ((s.heap.push (seqObj "list" #[] 0)).update s.heap.objs.size (Obj.mapSeq (· ++ vs.toArray))).get? b = some u := fun b u q =>
      (Heap.get?_update_other _ _ (Nat.ne_of_gt (Heap.lt_size q))).trans (Heap.get?_push_of_some _ q)
    show wpAny _ _ _ _ _ { s with heap := ((s.heap.push (seqObj "list" #[] 0)).update s.heap.objs.size (Obj.mapSeq (· ++ vs.toArray))).push (seqObj "list" vs.toArray 0) }
    generalize ((s.heap.push (seqObj "list" #[] 0)).update s.heap.objs.size (Obj.mapSeq (· ++ vs.toArray))) = h1 at h1s k1 ⊢
    have le1 : s.heap.objs.size ≤ h1.objs.size := by omega
    have at2 : (h1.push (seqObj "list" vs.toArray 0)).get? h1.objs.size = some (seqObj "list" vs.toArray 0) := Heap.get?_push_size _ rfl
    have k2 : ∀ b u, s.heap.get? b = some u → (PySem.W.sortingHeap (h1.push (seqObj "list" vs.toArray 0)) h1.objs.size vs).get? b = some u := fun b u q =>
      PySem.W.sortingHeap_old (Nat.ne_of_lt (Heap.lt_size (k1 b u q))) (Heap.get?_push_of_some _ (k1 b u q))
    have er2 : PySem.W.EachIs (fun v b => ∃ as, Reads (PySem.W.sortingHeap (h1.push (seqObj "list" vs.toArray 0)) h1.objs.size vs) v (enc b) as) vs bs := er.mono fun _ _ ⟨as, r⟩ => ⟨as, PyProof.Rows.Reads.keeps k2 r⟩
    obtain ⟨c, e2⟩ := sortedHeap_at (vs := vs) (out := (PySem.W.sortVals (PySem.W.dataKind (PySem.W.sortingHeap (h1.push (seqObj "list" vs.toArray 0)) h1.objs.size vs) (bs.map enc)) false vs vs).toArray) at2
    have k3 : ∀ b u, s.heap.get? b = some u → (sortedHeap (h1.push (seqObj "list" vs.toArray 0)) h1.objs.size vs (PySem.W.sortVals (PySem.W.dataKind (PySem.W.sortingHeap (h1.push (seqObj "list" vs.toArray 0)) h1.objs.size vs) (bs.map enc)) false vs vs).toArray).get? b = some u := fun b u q => by
      have q1 := k1 b u q
      have lt := Heap.lt_size q1
      rw [sortedHeap_old (Nat.ne_of_lt lt) (by rw [size_push']; exact Nat.lt_succ_of_lt lt)]
      exact Heap.get?_push_of_some _ q1
    refine wpAny_bind (wpAny_holding (wpAny_call_entry slot_list_sort ⟨_, at2, rfl⟩ entry_list_sort (PySem.W.list_sort_vals (s := { s with heap := h1.push (seqObj "list" vs.toArray 0) }) at2
      (PySem.W.SortsAt.data (s := { s with heap := PySem.W.sortingHeap (h1.push (seqObj "list" vs.toArray 0)) h1.objs.size vs }) (PySem.W.each_map (R := fun v d => ∃ as, Reads (PySem.W.sortingHeap (h1.push (seqObj "list" vs.toArray 0)) h1.objs.size vs) v d as) enc er2) hal hk (PySem.W.bound_map hu)) (by rw [len]; exact hL) ?_) (args_list_sort _)))
    refine ⟨_, rfl, wpAny_pure ⟨_, rfl, k _ h1.objs.size _ c le1 k3 e2 (PySem.W.sortVals_data false e er2 hal)⟩⟩)
end
end Hb
set_option Elab.async false
set_option linter.all false
set_option maxRecDepth 100000
set_option maxHeartbeats 8000000
namespace Hb
open PySem PySem.Spec PyProof.Rows L2
section
variable {X : Cx} {β : Type}
theorem each_of {R : Value → V × β → Prop} : ∀ {zs : List (V × β)} {us : List Value}, Vals (zs.map (·.1)) us → (∀ u z, z ∈ zs → RelV z.1 u → R u z) → PySem.W.EachIs R us zs
  | [], _, r, _ => by cases r; exact .nil
  | z :: zs, _, r, h => by
    cases r with
    | cons r1 r2 => exact .cons (h _ _ List.mem_cons_self r1) (each_of r2 fun u y m q => h u y (List.mem_cons_of_mem _ m) q)
theorem each_back : ∀ {us : List Value} {zs : List (V × β)}, PySem.W.EachIs (fun u (z : V × β) => RelV z.1 u) us zs → Vals (zs.map (·.1)) us
  | _, _, .nil => .nil
  | _, _, .cons h t => .cons h (each_back t)
/-- sorted(it), it a list or a tuple of data of one kind -/
def rSortedAny (K : PySem.W.Frag) (enc : β → PyData) : List V → Hp → VK → Prop := fun vs H Q => ∃ (a : Addr) (zs : List (V × β)), vs = [.ref a] ∧ (SqL K H a (zs.map (·.1)) ∨ SqT K H a (zs.map (·.1))) ∧
  (∀ z ∈ zs, Dp K H z.1 (enc z.2)) ∧ PySem.W.AllAlike (zs.map fun z => enc z.2) ∧ PySem.W.Sortable (zs.map fun z => enc z.2) ∧ (∀ z ∈ zs, (enc z.2).depth ≤ 60) ∧
  ∀ p, H p = none → Q (.ref p) (upd H p (.lst ((zs.mergeSort (PySem.W.dataLe false fun z => enc z.2)).map (·.1))))
theorem cr_sortedAny (enc : β → PyData) (hu : X.A.units + 64 < cLine) : CallR X (.builtin "sorted") (rSortedAny X.K enc) := by
  intro pins s σ H vs us Q I r h
  obtain ⟨a, zs, rfl, hq, hd, hal, hk, hz, q⟩ := h
  rw [Vals.ref1 r]
  have main : ∀ (T : String) (o : Obj) (its : List Value) (n : Nat), (T = "list" ∨ T = "tuple") → s.heap.get? a = some o → o.cls = .type T → o.data = .seq its.toArray n → Vals (zs.map (·.1)) its → (zs.map (·.1)).length ≤ sizeLine →
      wpAny (model X.prog X.w) X.A (call (.builtin "sorted") [.ref a]) (EP X pins σ Q) X.xe s := by
    intro T o its n hT ho hc hdt rv hL
    rw [List.length_map] at hL
    refine sorted_any (R := fun u (z : V × β) => RelV z.1 u) (enc := fun z => enc z.2) hT ho hc hdt (each_of rv fun u z _ q => q) (each_of rv fun u z m q => Dp.reads I _ _ _ (hd z m) q) hal hk hL (fun z m => by have := hz z m; omega) fun h' p out c hp kp at_ eo => ?_
    have lenO : (zs.mergeSort (PySem.W.dataLe false fun z => enc z.2)).length = zs.length := (List.mergeSort_perm _ _).length_eq
    exact ⟨.ref p, _, I.laid (t' := s.toks) kp hp (show ObjOk X.prog X.w _ h' p (.lst _) from ⟨by rw [List.length_map, lenO]; exact hL, out, c, each_back eo, at_⟩), rfl, q p (I.hok.fresh hp)⟩
  rcases hq with hq | hq
  · obtain ⟨its, rv, ⟨o, n, ho, hc, _, hdt⟩, hL⟩ := I.list hq
    exact main _ o its n (.inl rfl) ho hc hdt rv hL
  · obtain ⟨its, rv, ⟨o, ho, hc, n, hdt⟩, hL⟩ := I.tuple hq
    exact main _ o its n (.inr rfl) ho hc hdt rv hL
end
/-! ### pairs of texts -/
def encP (p : Str × Str) : PyData := .tuple [.str p.1, .str p.2]
theorem alike_P (p q : Str × Str) : PySem.W.alike (encP p) (encP q) = true := by simp [encP, PySem.W.alike, PySem.W.alikeAll]
theorem depth_P (p : Str × Str) : (encP p).depth ≤ 60 := by simp [encP, PyData.depth, PyData.depthAll]
end Hb
set_option Elab.async false
set_option linter.all false
set_option maxRecDepth 100000
set_option maxHeartbeats 4000000
namespace Hb
open PySem PySem.Spec PyProof.Rows L2
/-! ### what stays -/
/-- tuples, and what is locked, stay -/
structure TK (H H' : Hp) : Prop where
  t : ∀ b xs, H b = some (.tup xs) → H' b = some (.tup xs)
  z : ∀ b o u, H b = some (.frz o u) → H' b = some (.frz o u)
theorem TK.refl (H : Hp) : TK H H := ⟨fun _ _ h => h, fun _ _ _ h => h⟩
theorem TK.trans {H H1 H2 : Hp} (a : TK H H1) (b : TK H1 H2) : TK H H2 := ⟨fun c xs h => b.t c xs (a.t c xs h), fun c o u h => b.z c o u (a.z c o u h)⟩
theorem Same.tk {H H' : Hp} (s : Same H H') : TK H H' := ⟨fun b xs h => s b _ h, fun b o u h => s b _ h⟩
theorem Same.new {H : Hp} {p : Addr} {o : HO} (h : H p = none) : Same H (upd H p o) := fun b u e => by
  rw [upd_ne (ne_of_none e h)]
  exact e
theorem TK.put {H : Hp} {p : Addr} {o o' : HO} (h : H p = some o') (h1 : ∀ xs, o' ≠ .tup xs) (h2 : ∀ q u, o' ≠ .frz q u) : TK H (upd H p o) := by
  refine ⟨fun b xs e => ?_, fun b q u e => ?_⟩
  · rw [upd_ne (fun z => by rw [z, h] at e; exact h1 xs (Option.some.inj e))]
    exact e
  · rw [upd_ne (fun z => by rw [z, h] at e; exact h2 q u (Option.some.inj e))]
    exact e
section
variable {K : PySem.W.Frag} {H H' : Hp}
theorem SqT.keep (k : TK H H') {a : Addr} {xs : List V} (h : SqT K H a xs) : SqT K H' a xs := by
  rcases h with (h | ⟨o, h⟩) | h
  · exact .inl (.inl (k.t _ _ h))
  · exact .inl (.inr ⟨o, k.z _ _ _ h⟩)
  · exact .inr h
theorem SqL.keep (k : TK H H') {a : Addr} {xs : List V} (h : SqL K H a xs) (hl : H a = some (.lst xs) → H' a = some (.lst xs)) : SqL K H' a xs := by
  rcases h with (h | ⟨o, h⟩) | h
  · exact .inl (.inl (hl h))
  · exact .inl (.inr ⟨o, k.z _ _ _ h⟩)
  · exact .inr h
end
/-! ### data of tuples alone -/
mutual
inductive TD (K : PySem.W.Frag) (H : Hp) : V → PyData → Prop
  | non : TD K H .non .none
  | bl (b : Bool) : TD K H (.bl b) (.bool b)
  | int (i : Int) : TD K H (.int i) (.int i)
  | str (x : Str) : TD K H (.str x) (.str x)
  | tup {a : Addr} {xs : List V} {ds : List PyData} : SqT K H a xs → TDs K H xs ds → TD K H (.ref a) (.tuple ds)
inductive TDs (K : PySem.W.Frag) (H : Hp) : List V → List PyData → Prop
  | nil : TDs K H [] []
  | cons {v : V} {vs : List V} {d : PyData} {ds : List PyData} : TD K H v d → TDs K H vs ds → TDs K H (v :: vs) (d :: ds)
end
section
variable {K : PySem.W.Frag} {H H' : Hp}
mutual
theorem TD.keep (k : TK H H') : ∀ {v : V} {d : PyData}, TD K H v d → TD K H' v d
  | _, _, .non => .non
  | _, _, .bl b => .bl b
  | _, _, .int i => .int i
  | _, _, .str x => .str x
  | _, _, .tup h hs => .tup (SqT.keep k h) (TDs.keep k hs)
theorem TDs.keep (k : TK H H') : ∀ {vs : List V} {ds : List PyData}, TDs K H vs ds → TDs K H' vs ds
  | _, _, .nil => .nil
  | _, _, .cons h hs => .cons (TD.keep k h) (TDs.keep k hs)
end
mutual
theorem TD.dp : ∀ {v : V} {d : PyData}, TD K H v d → Dp K H v d
  | _, _, .non => .non
  | _, _, .bl b => .bl b
  | _, _, .int i => .int i
  | _, _, .str x => .str x
  | _, _, .tup h hs => .tup h (TDs.dp hs)
theorem TDs.dp : ∀ {vs : List V} {ds : List PyData}, TDs K H vs ds → DpAll K H vs ds
  | _, _, .nil => .nil
  | _, _, .cons h hs => .cons (TD.dp h) (TDs.dp hs)
end
theorem TDs.length : ∀ {vs : List V} {ds : List PyData}, TDs K H vs ds → vs.length = ds.length
  | _, _, .nil => rfl
  | _, _, .cons h hs => congrArg Nat.succ (TDs.length hs)
theorem TDs.app : ∀ {vs ws : List V} {ds es : List PyData}, TDs K H vs ds → TDs K H ws es → TDs K H (vs ++ ws) (ds ++ es)
  | _, _, _, _, .nil, h => h
  | _, _, _, _, .cons h hs, h2 => .cons h (TDs.app hs h2)
theorem TDs.at : ∀ {vs : List V} {ds : List PyData} {i : Nat} {v : V}, TDs K H vs ds → vs[i]? = some v → ∃ d, ds[i]? = some d ∧ TD K H v d
  | _, _, _, _, .nil, e => by simp at e
  | _, _, 0, _, .cons h hs, e => by simp at e; subst e; exact ⟨_, rfl, h⟩
  | _, _, i + 1, _, .cons h hs, e => by
    obtain ⟨d, h1, h2⟩ := TDs.at hs (i := i) (by simpa using e)
    exact ⟨d, by simpa using h1, h2⟩
theorem tds_strs : ∀ xs : List Str, TDs K H (xs.map V.str) (xs.map PyData.str)
  | [] => .nil
  | x :: xs => .cons (.str x) (tds_strs xs)
theorem tds_ints : ∀ xs : List Int, TDs K H (xs.map V.int) (xs.map PyData.int)
  | [] => .nil
  | x :: xs => .cons (.int x) (tds_ints xs)
end
/-! ### a deal: the dict at d, its list at g -/
def dealKV (g : Addr) (now mixed turn : Int) : List (Key × V) := [(.inr "great", .ref g), (.inr "now", .int now), (.inr "mixed", .int mixed), (.inr "turn", .int turn)]
theorem deal_great (g : Addr) (now mixed turn : Int) : valV (dealKV g now mixed turn) (Sum.inr "great") = some (.ref g) := rfl
theorem deal_now (g : Addr) (now mixed turn : Int) : valV (dealKV g now mixed turn) (Sum.inr "now") = some (.int now) := rfl
theorem deal_mixed (g : Addr) (now mixed turn : Int) : valV (dealKV g now mixed turn) (Sum.inr "mixed") = some (.int mixed) := rfl
theorem deal_turn (g : Addr) (now mixed turn : Int) : valV (dealKV g now mixed turn) (Sum.inr "turn") = some (.int turn) := rfl
theorem put_now (g : Addr) (now mixed turn z : Int) : putK (dealKV g now mixed turn) (Sum.inr "now") (.int z) = dealKV g z mixed turn := rfl
theorem put_mixed (g : Addr) (now mixed turn z : Int) : putK (dealKV g now mixed turn) (Sum.inr "mixed") (.int z) = dealKV g now z turn := rfl
theorem put_turn (g : Addr) (now mixed turn z : Int) : putK (dealKV g now mixed turn) (Sum.inr "turn") (.int z) = dealKV g now mixed z := rfl
structure Dl (d g : Addr) (H : Hp) (ns : List Int) (now mixed turn : Int) : Prop where
  d : H d = some (.dK (dealKV g now mixed turn))
  g : H g = some (.lst (ns.map V.int))
  few : ns.length ≤ 63
  pos : ∀ n ∈ ns, 0 ≤ n
  now : 0 ≤ now
def Deal (d g : Addr) (H : Hp) : Prop := ∃ ns now mixed turn, Dl d g H ns now mixed turn
theorem Dl.ne {d g : Addr} {H : Hp} {ns : List Int} {now mixed turn : Int} (x : Dl d g H ns now mixed turn) : d ≠ g := ne_of x.d x.g (by intro e; cases e)
/-- all but the deal stays -/
def Kp (d g : Addr) (H H' : Hp) : Prop := ∀ b o, b ≠ d → b ≠ g → H b = some o → H' b = some o
theorem Kp.refl (d g : Addr) (H : Hp) : Kp d g H H := fun _ _ _ _ h => h
theorem Kp.trans {d g : Addr} {H H1 H2 : Hp} (a : Kp d g H H1) (b : Kp d g H1 H2) : Kp d g H H2 := fun c o n m h => b c o n m (a c o n m h)
theorem Same.kp {d g : Addr} {H H' : Hp} (s : Same H H') : Kp d g H H' := fun b o _ _ h => s b o h
theorem Kp.put_d {d g : Addr} {H : Hp} {o : HO} : Kp d g H (upd H d o) := fun b u n _ h => by rw [upd_ne n]; exact h
theorem Kp.put_g {d g : Addr} {H : Hp} {o : HO} : Kp d g H (upd H g o) := fun b u _ n h => by rw [upd_ne n]; exact h
theorem Deal.tk {d g : Addr} {H H' : Hp} (x : Deal d g H) (k : Kp d g H H') : TK H H' := by
  obtain ⟨ns, now, mixed, turn, x⟩ := x
  exact ⟨fun b xs e => k b _ (ne_of e x.d (by intro q; cases q)) (ne_of e x.g (by intro q; cases q)) e, fun b o u e => k b _ (ne_of e x.d (by intro q; cases q)) (ne_of e x.g (by intro q; cases q)) e⟩
/-- a deal stands behind what leaves all as it is -/
theorem Deal.same {d g : Addr} {H H' : Hp} (x : Deal d g H) (s : Same H H') : Deal d g H' := by
  obtain ⟨ns, now, mixed, turn, x⟩ := x
  exact ⟨ns, now, mixed, turn, s _ _ x.d, s _ _ x.g, x.few, x.pos, x.now⟩
theorem Deal.set {d g p : Addr} {H : Hp} {o : HO} (x : Deal d g H) (n : p ≠ d) (m : p ≠ g) : Deal d g (L2.upd H p o) := by
  obtain ⟨ns, now, mixed, turn, x⟩ := x
  exact ⟨ns, now, mixed, turn, by rw [upd_ne n.symm]; exact x.d, by rw [upd_ne m.symm]; exact x.g, x.few, x.pos, x.now⟩
theorem Deal.new {d g p : Addr} {H : Hp} {o : HO} (x : Deal d g H) (h : H p = none) : Deal d g (L2.upd H p o) := x.same (Same.new h)
theorem Deal.ne_d {d g p : Addr} {H : Hp} {o : HO} (x : Deal d g H) (h : H p = some o) (hk : ∀ kvs, o ≠ .dK kvs) : p ≠ d := by
  obtain ⟨ns, now, mixed, turn, x⟩ := x
  exact ne_of h x.d (hk _)
theorem Deal.ne_g {d g p : Addr} {H : Hp} {o : HO} (x : Deal d g H) (h : H p = some o) (hk : ∀ xs, o ≠ .lst xs) : p ≠ g := by
  obtain ⟨ns, now, mixed, turn, x⟩ := x
  exact ne_of h x.g (hk _)
theorem Deal.free {d g p : Addr} {H : Hp} (x : Deal d g H) (h : H p = none) : p ≠ d ∧ p ≠ g := by
  obtain ⟨ns, now, mixed, turn, x⟩ := x
  exact ⟨(ne_of_none x.d h).symm, (ne_of_none x.g h).symm⟩
/-- what is not there now was not there ahead -/
theorem Kp.free {d g : Addr} {H H' : Hp} (k : Kp d g H H') (x : Deal d g H') {b : Addr} (h : H' b = none) : H b = none := by
  obtain ⟨n, m⟩ := x.free h
  cases e : H b with
  | none => rfl
  | some o =>
    rw [k b o n m e] at h
    cases h
end Hb
set_option Elab.async false
set_option linter.all false
set_option maxRecDepth 100000
set_option maxHeartbeats 4000000
namespace Hb
open PySem PySem.Spec PyProof.Rows L2
section
variable {P : Program} {w : World} {K : PySem.W.Frag} {mg : Str → Option Value} {base : Heap}
/-- a def of the module without defaults, under its name -/
def Df (K : PySem.W.Frag) (mg : Str → Option Value) (x : Str) (st : Stmt) : Prop := ∃ fd, FunD K x x (defArgs st) (defBody st) (defScope st) [] [] (He.ga K x) fd ∧ mg x = some (.ref (He.ga K x))
theorem fn_mk {x : Str} {st : Stmt} {f : Addr} {fd : FuncData} {N ps : List Str} {k : Nat} {sp : Sp} (F : FunD K x x (defArgs st) (defBody st) (defScope st) [] [] f fd) (S : FnScope N ps (defScope st))
    (len : ∀ vs H Q E, sp vs H Q E → vs.length = ps.length)
    (hbody : ∀ (f : Addr) (cdv : Value) (A : Around) (outer : List Env) (s : Shared) (H : Hp) (vs : List V) (Q : VK) (E : XK), Room k (A.deeper (envOfC x (defScope st) s.heap.objs.size f cdv)) → sp vs H Q E →
      ∃ t, PSs (cxOf CX0 P w K mg base N x (defScope st) f cdv A outer s H E).nox (defBody st) t ∧ t { nx := fun _ H' => Q .non H', rt := Q } (start N vs) H) : FnOk P w K mg base CX0 (k + 1) f fd ps sp :=
  F.ok S len fun cdv A outer s H vs Q E hr h => by
    obtain ⟨t, h1, h2⟩ := hbody _ cdv A outer s H vs Q E hr h
    exact ⟨t, h1.nox, h2⟩
theorem cal_mk {x : Str} {st : Stmt} {N ps : List Str} {k : Nat} {sp : Sp} (D : Df K mg x st) (S : FnScope N ps (defScope st))
    (bd : ∀ (kV doc pm : Value) (an : Option Addr) (cdv ct : Value) (us : List Value), us.length = ps.length → bindArgs (PySem.W.fnOf x x (defArgs st) (defBody st) (defScope st) .none kV doc pm an cdv ct) ⟨us, []⟩ = pure (ps.zip us))
    (len : ∀ vs H Q E, sp vs H Q E → vs.length = ps.length)
    (hbody : ∀ (f : Addr) (cdv : Value) (A : Around) (outer : List Env) (s : Shared) (H : Hp) (vs : List V) (Q : VK) (E : XK), Room k (A.deeper (envOfC x (defScope st) s.heap.objs.size f cdv)) → sp vs H Q E →
      ∃ t, PSs (cxOf CX0 P w K mg base N x (defScope st) f cdv A outer s H E).nox (defBody st) t ∧ t { nx := fun _ H' => Q .non H', rt := Q } (start N vs) H) : C8.Cal P w K mg base (k + 1) x sp [] := by
  obtain ⟨fd, F, hm⟩ := D
  exact ⟨⟨_, fd, ps, [], F.ok S len fun cdv A outer s H vs Q E hr h => by
    obtain ⟨t, h1, h2⟩ := hbody _ cdv A outer s H vs Q E hr h
    exact ⟨t, h1.nox, h2⟩, hm, F.kp, F.bindsN bd, .nil⟩⟩
/-- a class with an __init__ of its own -/
def Df1 (K : PySem.W.Frag) (mg : Str → Option Value) (C qual : Str) (st : Stmt) : Prop := Mk K (He.ga K C) (He.ma K (He.ga K C) "__init__") ∧ mg C = some (.ref (He.ga K C)) ∧ ∃ fd, FunD K "__init__" qual (defArgs st) (defBody st) (defScope st) [] [] (He.ma K (He.ga K C) "__init__") fd
theorem mak_mk {C qual : Str} {st : Stmt} {N ps : List Str} {k : Nat} {sp : Sp} (D : Df1 K mg C qual st) (S : FnScope N ps (defScope st))
    (bd : ∀ (kV doc pm : Value) (an : Option Addr) (cdv ct : Value) (us : List Value), us.length = ps.length → bindArgs (PySem.W.fnOf "__init__" qual (defArgs st) (defBody st) (defScope st) .none kV doc pm an cdv ct) ⟨us, []⟩ = pure (ps.zip us))
    (len : ∀ vs H Q E, sp vs H Q E → vs.length = ps.length)
    (hbody : ∀ (f : Addr) (cdv : Value) (A : Around) (outer : List Env) (s : Shared) (H : Hp) (vs : List V) (Q : VK) (E : XK), Room k (A.deeper (envOfC qual (defScope st) s.heap.objs.size f cdv)) → sp vs H Q E →
      ∃ t, PSs (cxOf CX0 P w K mg base N qual (defScope st) f cdv A outer s H E).nox (defBody st) t ∧ t { nx := fun _ H' => Q .non H', rt := Q } (start N vs) H) : C8.Mak P w K mg base (k + 1) C (He.ga K C) sp [] := by
  obtain ⟨M, hm, fd, F⟩ := D
  exact ⟨⟨_, fd, ps, [], M, F.ok S len fun cdv A outer s H vs Q E hr h => by
    obtain ⟨t, h1, h2⟩ := hbody _ cdv A outer s H vs Q E hr h
    exact ⟨t, h1.nox, h2⟩, hm, F.bindsN bd, .nil⟩⟩
end
/-- a word between two statements: the rest is read once -/
theorem cut_seq {t u : TS} {D : Ends} {σ : L2.St} {H : Hp} (R : L2.St → Hp → Prop) (h2 : ∀ σ H, R σ H → u D σ H) (h1 : (∀ σ H, R σ H → u D σ H) → t { D with nx := u D } σ H) : tSeq t u D σ H := h1 h2
end Hb
set_option Elab.async false
set_option linter.all false
set_option maxRecDepth 100000
set_option maxHeartbeats 4000000
namespace Hb
open PySem PySem.Spec PyProof.Rows L2
/-- data that may be compared -/
def Shp (d : PyData) : Prop := d.canLay0 = true ∧ d.depth ≤ 60
theorem Shp.shaped {d : PyData} (h : Shp d) : SeqAt.shaped d = true := Bool.and_eq_true_iff.mpr ⟨h.1, decide_eq_true (by have := h.2; omega)⟩
theorem shps_all : ∀ {ds : List PyData}, (∀ d ∈ ds, Shp d) → PyData.canLayAll0 ds = true ∧ PyData.depthAll ds ≤ 60
  | [], _ => ⟨by simp [PyData.canLayAll0], by simp [PyData.depthAll]⟩
  | d :: ds, h => by
    obtain ⟨h1, h2⟩ := shps_all (ds := ds) fun e he => h e (List.mem_cons_of_mem _ he)
    obtain ⟨h3, h4⟩ := h d List.mem_cons_self
    exact ⟨by simp [PyData.canLayAll0, h1, h3], by simp only [PyData.depthAll]; omega⟩
theorem shaped_list {ds : List PyData} (h : ∀ d ∈ ds, Shp d) : SeqAt.shaped (.list ds) = true := by
  obtain ⟨h1, h2⟩ := shps_all h
  exact Bool.and_eq_true_iff.mpr ⟨by simp only [PyData.canLay0]; exact h1, decide_eq_true (by simp only [PyData.depth]; omega)⟩
theorem shaped_tup {ds : List PyData} (h : ∀ d ∈ ds, Shp d) : SeqAt.shaped (.tuple ds) = true := by
  obtain ⟨h1, h2⟩ := shps_all h
  exact Bool.and_eq_true_iff.mpr ⟨by simp only [PyData.canLay0]; exact h1, decide_eq_true (by simp only [PyData.depth]; omega)⟩
/-- flat things, and tuples of such -/
theorem shp_tup {ds : List PyData} (h : ∀ d ∈ ds, d.canLay0 = true ∧ d.depth ≤ 50) : Shp (.tuple ds) := by
  have g : PyData.canLayAll0 ds = true ∧ PyData.depthAll ds ≤ 50 := by
    induction ds with
    | nil => exact ⟨by simp [PyData.canLayAll0], by simp [PyData.depthAll]⟩
    | cons d ds ih =>
      obtain ⟨h1, h2⟩ := ih fun e he => h e (List.mem_cons_of_mem _ he)
      obtain ⟨h3, h4⟩ := h d List.mem_cons_self
      exact ⟨by simp [PyData.canLayAll0, h1, h3], by simp only [PyData.depthAll]; omega⟩
  exact ⟨by simp only [PyData.canLay0]; exact g.1, by simp only [PyData.depth]; have := g.2; omega⟩
theorem eqv_nil (ds : List PyData) : PyData.eqv (.list ds) (.list []) = ds.isEmpty := by
  cases ds <;> simp [PyData.eqv, PyData.eqvAll]
/-- data of tuples, small enough -/
def Good (K : PySem.W.Frag) (H : Hp) (v : V) : Prop := ∃ d, TD K H v d ∧ Shp d
theorem Good.keep {K : PySem.W.Frag} {H H' : Hp} {v : V} (k : TK H H') (h : Good K H v) : Good K H' v := by
  obtain ⟨d, h1, h2⟩ := h
  exact ⟨d, TD.keep k h1, h2⟩
theorem goods {K : PySem.W.Frag} {H : Hp} : ∀ {xs : List V}, (∀ v ∈ xs, Good K H v) → ∃ ds, TDs K H xs ds ∧ ∀ d ∈ ds, Shp d
  | [], _ => ⟨[], .nil, fun d h => by cases h⟩
  | v :: xs, h => by
    obtain ⟨ds, h1, h2⟩ := goods (xs := xs) fun u hu => h u (List.mem_cons_of_mem _ hu)
    obtain ⟨d, h3, h4⟩ := h v List.mem_cons_self
    exact ⟨d :: ds, .cons h3 h1, fun e he => (List.mem_cons.mp he).elim (fun q => by rw [q]; exact h4) (h2 e)⟩
theorem seqIx {r : Int} {n : Nat} (h0 : 0 ≤ r) (h1 : r < n) : seqIndex? r n = some r.toNat := by
  have a : ¬ r < 0 := by omega
  simp [seqIndex?, a, h0, h1]
theorem perm_erase {α : Type} : ∀ {xs : List α} {k : Nat} {y : α}, xs[k]? = some y → (y :: xs.eraseIdx k).Perm xs
  | [], k, y, h => by simp at h
  | x :: xs, 0, y, h => by
    simp at h
    subst h
    simp
  | x :: xs, k + 1, y, h => by
    have ih := perm_erase (xs := xs) (k := k) (y := y) (by simpa using h)
    show (y :: x :: xs.eraseIdx k).Perm (x :: xs)
    exact (List.Perm.swap x y _).trans (ih.cons x)
end Hb
set_option Elab.async false
set_option linter.all false
set_option maxRecDepth 100000
set_option maxHeartbeats 4000000
namespace Hb
open PySem PySem.Spec PyProof.Rows L2
theorem take_next {α β : Type} (f : α → Option β) {xs : List α} {i : Nat} {x : α} (h : xs[i]? = some x) : (xs.take (i + 1)).filterMap f = (xs.take i).filterMap f ++ (f x).toList := by
  rw [List.take_add_one, h, List.filterMap_append]
  cases q : f x <;> simp [q]
theorem take_len {α β : Type} (f : α → Option β) (xs : List α) (i : Nat) : ((xs.take i).filterMap f).length ≤ xs.length :=
  Nat.le_trans (List.length_filterMap_le _ _) (by rw [List.length_take]; exact Nat.min_le_right _ _)
section
variable {K : PySem.W.Frag} {a : Addr} {xs : List V} {g : TG} {tt : TT} {te : TE} {vs : List Nat} {σ : L2.St} {H1 : Hp} {D : Addr} {Qd : Hp → Prop}
/-- one turn of a comprehension whose parts leave the heap as it is -/
def Turn (f : V → Option V) (x : V) (g : TG) (tt : TT) (te : TE) (vs : List Nat) (σ : L2.St) (H1 : Hp) (D : Addr) : Prop :=
  ∀ (acc : List V) (N : Hp → Prop), acc.length < sizeLine → (∀ y, f x = some y → N (upd H1 D (.lst (acc ++ [y])))) → (f x = none → N (upd H1 D (.lst acc))) →
    g x (wipe σ vs) (upd H1 D (.lst acc)) fun σ2 H2 => wipe σ2 vs = wipe σ vs ∧ tt σ2 H2 fun b H3 => if b = true then te σ2 H3 fun y H4 => ∃ acc', H4 D = some (.lst acc') ∧ acc'.length < sizeLine ∧ N (upd H4 D (.lst (acc' ++ [y]))) else N H3
theorem turn_at {f : V → Option V} {i : Nat} {x : V} {H : Hp} (hx : xs[i]? = some x) (e : H = upd H1 D (.lst ((xs.take i).filterMap f))) (few : xs.length < sizeLine) (h : Turn f x g tt te vs σ H1 D) :
    g x (wipe σ vs) H fun σ2 H2 => wipe σ2 vs = wipe σ vs ∧ tt σ2 H2 fun b H3 => if b = true then te σ2 H3 fun y H4 => ∃ acc', H4 D = some (.lst acc') ∧ acc'.length < sizeLine ∧ (fun z => z = upd H1 D (.lst ((xs.take (i + 1)).filterMap f))) (upd H4 D (.lst (acc' ++ [y]))) else (fun z => z = upd H1 D (.lst ((xs.take (i + 1)).filterMap f))) H3 := by
  subst e
  refine h _ _ (Nat.lt_of_le_of_lt (take_len f xs i) few) (fun y hy => ?_) (fun hn => ?_)
  · show upd H1 D _ = upd H1 D _
    rw [take_next f hx, hy]
    rfl
  · show upd H1 D _ = upd H1 D _
    rw [take_next f hx, hn]
    simp
theorem lc_listP (f : V → Option V) (few : xs.length < sizeLine) (hl : ∀ acc, SqL K (upd H1 D (.lst acc)) a xs) (hs : ∀ x ∈ xs, Turn f x g tt te vs σ H1 D) (hd : Qd (upd H1 D (.lst (xs.filterMap f)))) :
    ∃ W : Nat → Nat → Hp → Prop, (∃ m, W 0 m (upd H1 D (.lst []))) ∧ ∀ i m H, W i m H →
      ((Itl K a).stop i H ∧ Qd H) ∨ ((Itl K a).go i H ∧ ∃ Nx : Hp → Prop, (∀ H', Nx H' → ∃ m', m' < m ∧ W (i + 1) m' H') ∧ ∀ x H', (Itl K a).yld i H x H' → g x (wipe σ vs) H' fun σ2 H2 => wipe σ2 vs = wipe σ vs ∧ tt σ2 H2 fun b H3 =>
        if b = true then te σ2 H3 fun y H4 => ∃ acc, H4 D = some (.lst acc) ∧ acc.length < sizeLine ∧ Nx (upd H4 D (.lst (acc ++ [y]))) else Nx H3) :=
  lc_list (xs := xs) (fun i H => H = upd H1 D (.lst ((xs.take i).filterMap f))) rfl (fun i H _ e => by rw [e]; exact hl _) (fun i x H hx e => turn_at hx e few (hs x (List.mem_of_getElem? hx)))
    (fun H e => by rw [e, List.take_length]; exact hd)
theorem lc_tupP (f : V → Option V) (few : xs.length < sizeLine) (hl : ∀ acc, SqT K (upd H1 D (.lst acc)) a xs) (hs : ∀ x ∈ xs, Turn f x g tt te vs σ H1 D) (hd : Qd (upd H1 D (.lst (xs.filterMap f)))) :
    ∃ W : Nat → Nat → Hp → Prop, (∃ m, W 0 m (upd H1 D (.lst []))) ∧ ∀ i m H, W i m H →
      ((Itt K a).stop i H ∧ Qd H) ∨ ((Itt K a).go i H ∧ ∃ Nx : Hp → Prop, (∀ H', Nx H' → ∃ m', m' < m ∧ W (i + 1) m' H') ∧ ∀ x H', (Itt K a).yld i H x H' → g x (wipe σ vs) H' fun σ2 H2 => wipe σ2 vs = wipe σ vs ∧ tt σ2 H2 fun b H3 =>
        if b = true then te σ2 H3 fun y H4 => ∃ acc, H4 D = some (.lst acc) ∧ acc.length < sizeLine ∧ Nx (upd H4 D (.lst (acc ++ [y]))) else Nx H3) :=
  lc_tup (xs := xs) (fun i H => H = upd H1 D (.lst ((xs.take i).filterMap f))) rfl (fun i H _ e => by rw [e]; exact hl _) (fun i x H hx e => turn_at hx e few (hs x (List.mem_of_getElem? hx)))
    (fun H e => by rw [e, List.take_length]; exact hd)
theorem SqL.laid {H : Hp} {p : Addr} {o : HO} (h : SqL K H a xs) (n : H p = none) : SqL K (upd H p o) a xs := Same.seq (Same.new n) h
theorem SqT.laid {H : Hp} {p : Addr} {o : HO} (h : SqT K H a xs) (n : H p = none) : SqT K (upd H p o) a xs := SqT.keep (Same.tk (Same.new n)) h
end
theorem yes_ {σ : L2.St} {H : Hp} {f g : Hp → Prop} (h : f H) : tYes σ H fun b H3 => if b = true then f H3 else g H3 := (if_pos rfl : (if true = true then f H else g H) = f H).mpr h
theorem filterMap_ints (f : Int → Option Int) (ns : List Int) (h : V → Option V) (e : ∀ n, h (.int n) = (f n).map V.int) : (ns.map V.int).filterMap h = (ns.filterMap f).map V.int := by
  rw [List.filterMap_map]
  induction ns with
  | nil => rfl
  | cons n ns ih =>
    simp only [List.filterMap_cons, Function.comp, e]
    cases q : f n <;> simp [ih]
theorem filterMap_strs (f : Str → Option Str) (ns : List Str) (h : V → Option V) (e : ∀ n, h (.str n) = (f n).map V.str) : (ns.map V.str).filterMap h = (ns.filterMap f).map V.str := by
  rw [List.filterMap_map]
  induction ns with
  | nil => rfl
  | cons n ns ih =>
    simp only [List.filterMap_cons, Function.comp, e]
    cases q : f n <;> simp [ih]
end Hb
set_option Elab.async false
set_option linter.all false
set_option maxRecDepth 100000
set_option maxHeartbeats 4000000
namespace Hb
open PySem PySem.Spec PyProof.Rows L2
section
variable {K : PySem.W.Frag} {H : Hp}
theorem TD.tup_inv {v : V} {ds : List PyData} (h : TD K H v (.tuple ds)) : ∃ a xs, v = .ref a ∧ SqT K H a xs ∧ TDs K H xs ds := by
  cases h with
  | tup h1 h2 => exact ⟨_, _, rfl, h1, h2⟩
theorem TD.int_inv {v : V} {i : Int} (h : TD K H v (.int i)) : v = .int i := by cases h; rfl
theorem TD.str_inv {v : V} {x : Str} (h : TD K H v (.str x)) : v = .str x := by cases h; rfl
theorem TDs.nil_inv {vs : List V} (h : TDs K H vs []) : vs = [] := by cases h; rfl
theorem TDs.cons_inv {vs : List V} {d : PyData} {ds : List PyData} (h : TDs K H vs (d :: ds)) : ∃ v ws, vs = v :: ws ∧ TD K H v d ∧ TDs K H ws ds := by
  cases h with
  | cons h1 h2 => exact ⟨_, _, rfl, h1, h2⟩
theorem TDs.strs_inv : ∀ {vs : List V} {xs : List Str}, TDs K H vs (xs.map PyData.str) → vs = xs.map V.str
  | _, [], h => TDs.nil_inv h
  | _, x :: xs, h => by
    obtain ⟨v, ws, rfl, h1, h2⟩ := TDs.cons_inv h
    rw [TD.str_inv h1, TDs.strs_inv h2]
    rfl
theorem TDs.ints_inv : ∀ {vs : List V} {xs : List Int}, TDs K H vs (xs.map PyData.int) → vs = xs.map V.int
  | _, [], h => TDs.nil_inv h
  | _, x :: xs, h => by
    obtain ⟨v, ws, rfl, h1, h2⟩ := TDs.cons_inv h
    rw [TD.int_inv h1, TDs.ints_inv h2]
    rfl
end
/-! ### names -/
def isLetter (c : Nat) : Bool := decide (c ∈ ("abcdefghijklmnopqrstuvwxyz" : Str).cps.toList)
def nameB (x : Str) : Bool := decide (1 ≤ x.length ∧ x.length ≤ 4) && x.cps.toList.all isLetter
/-! ### a sleeper, told as data -/
structure Zz where
  sorts : List (Str × Str)
  stir : Int
  doze : Int
  near : Int
  loud : Str
def encZ (z : Zz) : PyData := .tuple [.tuple (z.sorts.map encP), .int z.stir, .int z.doze, .int z.near, .str z.loud]
def fourS : List Str := ["faint", "loud", "soft", "sudden"]
def threeS : List Str := ["again", "nothing", "wake"]
def OneAt (K : PySem.W.Frag) (H : Hp) (p : Addr) (z : Zz) : Prop := TD K H (.ref p) (encZ z)
/-- what stands in it -/
structure OneIs (K : PySem.W.Frag) (H : Hp) (p : Addr) (z : Zz) (t : Addr) (xs : List V) : Prop where
  all : SqT K H p [.ref t, .int z.stir, .int z.doze, .int z.near, .str z.loud]
  srt : SqT K H t xs
  its : TDs K H xs (z.sorts.map encP)
theorem OneAt.inv {K : PySem.W.Frag} {H : Hp} {p : Addr} {z : Zz} (h : OneAt K H p z) : ∃ t xs, OneIs K H p z t xs := by
  obtain ⟨a, xs, e, h1, h2⟩ := TD.tup_inv h
  cases e
  obtain ⟨v1, w1, rfl, a1, h2⟩ := TDs.cons_inv h2
  obtain ⟨v2, w2, rfl, a2, h2⟩ := TDs.cons_inv h2
  obtain ⟨v3, w3, rfl, a3, h2⟩ := TDs.cons_inv h2
  obtain ⟨v4, w4, rfl, a4, h2⟩ := TDs.cons_inv h2
  obtain ⟨v5, w5, rfl, a5, h2⟩ := TDs.cons_inv h2
  obtain rfl := TDs.nil_inv h2
  obtain rfl := TD.int_inv a2
  obtain rfl := TD.int_inv a3
  obtain rfl := TD.int_inv a4
  obtain rfl := TD.str_inv a5
  obtain ⟨t, ys, rfl, h3, h4⟩ := TD.tup_inv a1
  exact ⟨t, ys, h1, h3, h4⟩
theorem OneIs.one {K : PySem.W.Frag} {H : Hp} {p : Addr} {z : Zz} {t : Addr} {xs : List V} (h : OneIs K H p z t xs) : OneAt K H p z :=
  .tup h.all (.cons (.tup h.srt h.its) (.cons (.int _) (.cons (.int _) (.cons (.int _) (.cons (.str _) .nil)))))
/-- a sleeper that is drawn, its words among ws -/
structure Zok (z : Zz) (ws : List Str) : Prop where
  nd : (z.sorts.map Prod.fst).Nodup
  inw : ∀ p ∈ z.sorts, p.1 ∈ ws
  ok : ∀ p ∈ z.sorts, PyData.strOk p.1 = true ∧ nameB p.1 = true
  srt : ∀ p ∈ z.sorts, p.2 ∈ fourS
  few : z.sorts.length ≤ 8
  s1 : 1 ≤ z.stir
  s5 : z.stir ≤ 5
  d1 : 1 ≤ z.doze
  d5 : z.doze ≤ 5
  n1 : 1 ≤ z.near
  n2 : z.near ≤ 2
  lo : z.loud ∈ threeS
end Hb
set_option Elab.async false
set_option linter.all false
set_option maxRecDepth 100000
set_option maxHeartbeats 4000000
namespace Hb
open PySem PySem.Spec PyProof.Rows L2
section
variable {K : PySem.W.Frag} {H : Hp} {a : Addr} {xs : List V}
theorem ty_tup (h : SqT K H a xs) : TyX K H (.ref a) (.type "tuple") := by
  rcases h with (h | ⟨o, h⟩) | ⟨o, its, n, h, hc, _⟩
  · exact .base (.tup h)
  · exact .fTuple h
  · exact .kTuple h hc
theorem ty_lst (h : SqL K H a xs) : TyX K H (.ref a) (.type "list") := by
  rcases h with (h | ⟨o, h⟩) | ⟨o, its, n, h, hc, _⟩
  · exact .base (.lst h)
  · exact .base (.frz h)
  · exact .kList h hc
end
theorem inV_strs (y : Str) : ∀ xs : List Str, inV (.str y) (xs.map V.str) = decide (y ∈ xs)
  | [] => by simp [inV]
  | x :: xs => by
    have ih := inV_strs y xs
    unfold inV at ih ⊢
    rw [List.map_cons, List.any_cons, ih]
    by_cases e : x = y
    · subst e
      simp [eqV]
    · have e2 : ¬ y = x := fun z => e z.symm
      simp [eqV, e, e2]
/-- a list or a tuple, walked: whatever walks so -/
def iSeq (K : PySem.W.Frag) (tl : TE) : TI := fun σ H R => tl σ H fun x H1 => ∃ a xs, x = .ref a ∧ (SqL K H1 a xs ∨ SqT K H1 a xs) ∧ ∀ (J : It) (G : Hp → Prop), (∀ H', Same H1 H' → G H') → Walk J xs.length G (YAt xs) → R J H1
theorem pi_seq {X : Cx} {tg l : Expr} {tl : TE} (hl : PE X l tl) : PI X tg l (iSeq X.K tl) := by
  refine ⟨fun pins s σ H R I h => thn (hl.run pins s σ H _ I h) fun v z ⟨x, H1, J, r, a, xs, e, hq, q⟩ => ?_⟩
  subst e
  cases r
  have far : ∀ b ∈ [z.heap.objs.size], FpOk X pins H1 b := fun b hb => by
    rw [List.mem_singleton.mp hb]; exact J.fpOk (Nat.le_refl _) (J.hok.fresh (Nat.le_refl _))
  rcases hq with hq | hq
  · have q2 := q _ _ (fun H' s => Same.seq s hq) walk_list
    obtain ⟨its, rv, p, hz⟩ := J.list hq
    exact wpAny_pyIter_list p.isList ⟨_, [z.heap.objs.size], _, _, H1, rfl, J.kept (t' := z.toks) (fun b o e => Heap.get?_push_of_some _ e), turn_list a _, ⟨_, Heap.get?_push_size _ rfl, rfl, rfl⟩, (by exact far), q2⟩
  · have q2 := q _ _ (fun H' s => SqT.keep (Same.tk s) hq) walk_tup
    obtain ⟨its, rv, p, hz⟩ := J.tuple hq
    exact wpAny_pyIter_tuple (show z.heap.IsTuple a its.toArray from p) ⟨_, [z.heap.objs.size], _, _, H1, rfl, J.kept (t' := z.toks) (fun b o e => Heap.get?_push_of_some _ e), turn_tuple a _, ⟨_, Heap.get?_push_size _ rfl, rfl, rfl⟩, (by exact far), q2⟩
/-- a comprehension's list, put anew -/
theorem Same.acc {H H' : Hp} {D : Addr} {o : HO} (s : Same H H') (n : H D = none) : Same H (upd H' D o) := fun b u e => by
  rw [upd_ne (ne_of_none e n)]
  exact s b u e
end Hb
set_option Elab.async false
set_option linter.all false
set_option maxRecDepth 100000
set_option maxHeartbeats 4000000
namespace Hb
open PySem PySem.Spec PyProof.Rows L2
/-- pairs of texts in Python's order -/
def sortP (ps : List (Str × Str)) : List (Str × Str) := ps.mergeSort (PySem.W.dataLe false encP)
theorem sortP_perm (ps : List (Str × Str)) : (sortP ps).Perm ps := List.mergeSort_perm _ _
theorem zip_fst {α β : Type} : ∀ {xs : List α} {ys : List β}, xs.length = ys.length → (xs.zip ys).map (·.1) = xs
  | [], [], _ => rfl
  | x :: xs, y :: ys, h => congrArg (x :: ·) (zip_fst (xs := xs) (ys := ys) (by simpa using h))
theorem zip_snd {α β : Type} : ∀ {xs : List α} {ys : List β}, xs.length = ys.length → (xs.zip ys).map (·.2) = ys
  | [], [], _ => rfl
  | x :: xs, y :: ys, h => congrArg (y :: ·) (zip_snd (xs := xs) (ys := ys) (by simpa using h))
section
variable {K : PySem.W.Frag} {H : Hp}
theorem zip_td : ∀ {xs : List V} {ps : List (Str × Str)}, TDs K H xs (ps.map encP) → ∀ z ∈ xs.zip ps, TD K H z.1 (encP z.2)
  | [], [], _, z, h => by cases h
  | _ :: _, [], t, _, _ => by cases t
  | [], _ :: _, t, _, _ => by cases t
  | x :: xs, p :: ps, t, z, h => by
    obtain ⟨v, ws, e, h1, h2⟩ := TDs.cons_inv t
    cases e
    rcases List.mem_cons.mp h with h | h
    · rw [h]; exact h1
    · exact zip_td h2 z h
theorem td_zip : ∀ {zs : List (V × (Str × Str))}, (∀ z ∈ zs, TD K H z.1 (encP z.2)) → TDs K H (zs.map (·.1)) ((zs.map (·.2)).map encP)
  | [], _ => .nil
  | z :: zs, h => .cons (h z List.mem_cons_self) (td_zip fun y hy => h y (List.mem_cons_of_mem _ hy))
end
theorem sort_zip (zs : List (V × (Str × Str))) : (zs.mergeSort (PySem.W.dataLe false fun z => encP z.2)).map (·.2) = sortP (zs.map (·.2)) :=
  PySem.W.sort_maps (fun z : V × (Str × Str) => z.2) fun _ _ _ _ => rfl
/-! ### a Sleeper -/
def slpFs (t : Addr) (z : Zz) : List (Str × V) := [("sorts", .ref t), ("stir", .int z.stir), ("doze", .int z.doze), ("near", .int z.near), ("loud", .str z.loud)]
/-- a Sleeper of the class at C -/
def SlpAt (K : PySem.W.Frag) (C : Addr) (H : Hp) (p : Addr) (z : Zz) : Prop := ∃ dx t xs, H p = some (.ins C dx (slpFs t z)) ∧ SqT K H t xs ∧ TDs K H xs ((sortP z.sorts).map encP)
theorem SlpAt.keep {K : PySem.W.Frag} {C : Addr} {H H' : Hp} {p : Addr} {z : Zz} (h : SlpAt K C H p z) (k : TK H H') (e : ∀ o, H p = some o → H' p = some o) : SlpAt K C H' p z := by
  obtain ⟨dx, t, xs, h1, h2, h3⟩ := h
  exact ⟨dx, t, xs, e _ h1, SqT.keep k h2, TDs.keep k h3⟩
theorem SlpAt.same {K : PySem.W.Frag} {C : Addr} {H H' : Hp} {p : Addr} {z : Zz} (h : SlpAt K C H p z) (s : Same H H') : SlpAt K C H' p z := h.keep (Same.tk s) fun o e => s _ _ e
theorem SlpAt.kp {K : PySem.W.Frag} {C d g : Addr} {H H' : Hp} {p : Addr} {z : Zz} (h : SlpAt K C H p z) (dl : Deal d g H) (k : Kp d g H H') : SlpAt K C H' p z :=
  h.keep (dl.tk k) fun o e => by
    obtain ⟨dx, t, xs, h1, h2, h3⟩ := h
    exact k _ _ (dl.ne_d h1 (by intro kvs q; cases q)) (dl.ne_g h1 (by intro kvs q; cases q)) e
end Hb
set_option Elab.async false
set_option linter.all false
set_option maxRecDepth 100000
set_option maxHeartbeats 4000000
namespace Hb
open PySem PySem.Spec PyProof.Rows L2
/-! ### states -/
inductive S0 where
  | up | doz (t : Int) | asl | kept (n : Str) (a : Int) | stir (t : Int) | wok
  deriving DecidableEq
def S0.vals : S0 → List V
  | .up => [.str "up"]
  | .doz t => [.str "dozing", .int t]
  | .asl => [.str "asleep"]
  | .kept n a => [.str "asleep", .str n, .int a]
  | .stir t => [.str "stirring", .int t]
  | .wok => [.str "woken"]
def S0.ds : S0 → List PyData
  | .up => [.str "up"]
  | .doz t => [.str "dozing", .int t]
  | .asl => [.str "asleep"]
  | .kept n a => [.str "asleep", .str n, .int a]
  | .stir t => [.str "stirring", .int t]
  | .wok => [.str "woken"]
def S0.word : S0 → Str
  | .up => "up"
  | .doz _ => "dozing"
  | .asl => "asleep"
  | .kept _ _ => "asleep"
  | .stir _ => "stirring"
  | .wok => "woken"
theorem S0.head (s : S0) : atI s.vals 0 = some (.str s.word) := by cases s <;> rfl
def StAt (K : PySem.W.Frag) (H : Hp) (v : V) (s : S0) : Prop := ∃ a, v = .ref a ∧ SqT K H a s.vals
theorem StAt.keep {K : PySem.W.Frag} {H H' : Hp} {v : V} {s : S0} (k : TK H H') (h : StAt K H v s) : StAt K H' v s := by
  obtain ⟨a, e, h⟩ := h
  exact ⟨a, e, SqT.keep k h⟩
theorem S0.td (K : PySem.W.Frag) (H : Hp) (s : S0) : TDs K H s.vals s.ds := by
  cases s
  case up => exact .cons (.str _) .nil
  case doz => exact .cons (.str _) (.cons (.int _) .nil)
  case asl => exact .cons (.str _) .nil
  case kept => exact .cons (.str _) (.cons (.str _) (.cons (.int _) .nil))
  case stir => exact .cons (.str _) (.cons (.int _) .nil)
  case wok => exact .cons (.str _) .nil
theorem StAt.td {K : PySem.W.Frag} {H : Hp} {v : V} {s : S0} (h : StAt K H v s) : TD K H v (.tuple s.ds) := by
  obtain ⟨a, rfl, h⟩ := h
  exact .tup h (S0.td K H s)
def soV : Option Str → V
  | none => .non
  | some x => .str x
theorem soV_eq (so : Option Str) (x : Str) : decide (soV so = V.str x) = decide (so = some x) := by
  cases so with
  | none => simp [soV]
  | some y => simp [soV]
theorem soV_scal (so : Option Str) (x : Str) : scal (soV so) (.str x) = true := by cases so <;> rfl
/-- its name may be compared -/
def S0.ok : S0 → Prop
  | .kept n _ => PyData.strOk n = true
  | _ => True
theorem flat_ok : ∀ w ∈ (["up", "dozing", "asleep", "stirring", "woken"] : List Str), PyData.strOk w = true := by decide +kernel
theorem S0.shp {s : S0} (h : s.ok) : Shp (.tuple s.ds) := by
  have w : ∀ x ∈ (["up", "dozing", "asleep", "stirring", "woken"] : List Str), (PyData.str x).canLay0 = true ∧ (PyData.str x).depth ≤ 50 := fun x hx => ⟨by simp only [PyData.canLay0]; exact flat_ok x hx, by simp [PyData.depth]⟩
  have i : ∀ t : Int, (PyData.int t).canLay0 = true ∧ (PyData.int t).depth ≤ 50 := fun t => ⟨by simp [PyData.canLay0], by simp [PyData.depth]⟩
  refine shp_tup fun d hd => ?_
  cases s
  case up => simp only [S0.ds, List.mem_cons, List.not_mem_nil, or_false] at hd; subst hd; exact w _ (by simp)
  case asl => simp only [S0.ds, List.mem_cons, List.not_mem_nil, or_false] at hd; subst hd; exact w _ (by simp)
  case wok => simp only [S0.ds, List.mem_cons, List.not_mem_nil, or_false] at hd; subst hd; exact w _ (by simp)
  case doz => simp only [S0.ds, List.mem_cons, List.not_mem_nil, or_false] at hd; exact hd.elim (fun e => e ▸ w _ (by simp)) (fun e => e ▸ i _)
  case stir => simp only [S0.ds, List.mem_cons, List.not_mem_nil, or_false] at hd; exact hd.elim (fun e => e ▸ w _ (by simp)) (fun e => e ▸ i _)
  case kept n a =>
    simp only [S0.ds, List.mem_cons, List.not_mem_nil, or_false] at hd
    exact hd.elim (fun e => e ▸ w _ (by simp)) fun hd => hd.elim (fun e => e ▸ ⟨by simp only [PyData.canLay0]; exact h, by simp [PyData.depth]⟩) (fun e => e ▸ i _)
theorem words_ne : ("asleep" : Str) ≠ "up" ∧ ("dozing" : Str) ≠ "up" ∧ ("stirring" : Str) ≠ "up" ∧ ("woken" : Str) ≠ "up" ∧ ("asleep" : Str) ≠ "dozing" ∧ ("stirring" : Str) ≠ "dozing" ∧ ("woken" : Str) ≠ "dozing" ∧
    ("stirring" : Str) ≠ "asleep" ∧ ("woken" : Str) ≠ "asleep" ∧ ("woken" : Str) ≠ "stirring" := by decide +kernel
theorem beq_dec {α : Type} [DecidableEq α] [BEq α] [LawfulBEq α] (a b : α) : (a == b) = decide (a = b) := by
  by_cases h : a = b
  · rw [decide_eq_true h, h, beq_self_eq_true]
  · rw [decide_eq_false h, beq_eq_false_iff_ne.mpr h]
/-- states are alike if their data are -/
theorem eqv_st (s t : S0) : PyData.eqv (.tuple s.ds) (.tuple t.ds) = decide (s = t) := by
  obtain ⟨h1, h2, h3, h4, h5, h6, h7, h8, h9, h10⟩ := words_ne
  cases s <;> cases t <;> simp [beq_dec, S0.ds, PyData.eqv, PyData.eqvAll, h1, h2, h3, h4, h5, h6, h7, h8, h9, h10, h1.symm, h2.symm, h3.symm, h4.symm, h5.symm, h6.symm, h7.symm, h8.symm, h9.symm, h10.symm]
/-- what a noise of sort so does -/
def hear (z : Zz) (so : Option Str) (n : Str) : S0 → S0
  | .up => .up
  | .wok => .wok
  | .doz t => if so = some ("loud" : Str) then (if z.loud = "wake" then .wok else if z.loud = "again" then .doz z.doze else .doz t) else .doz t
  | .asl => if so = some ("soft" : Str) then .stir z.stir else if so = some ("loud" : Str) ∨ so = some ("sudden" : Str) then .wok else if so = some ("faint" : Str) then .kept n 0 else .asl
  | .kept m a => if so = some ("soft" : Str) then .stir z.stir else if so = some ("loud" : Str) ∨ so = some ("sudden" : Str) then .wok else if so = some ("faint" : Str) then (if m = n then .kept n 0 else .wok) else .kept m a
  | .stir t => if so = some ("loud" : Str) then .wok else .stir t
def sortOf (z : Zz) (n : Str) : Option Str := (sortP z.sorts).lookup n
def tick (z : Zz) : S0 → S0
  | .up => .up
  | .wok => .wok
  | .doz t => if 1 < t then .doz (t - 1) else .asl
  | .asl => .asl
  | .kept m a => if a < z.near then .kept m (a + 1) else .asl
  | .stir t => if 1 < t then .stir (t - 1) else .wok
def hum (z : Zz) (w : Str) : S0 → S0
  | .wok => .wok
  | _ => if w = "up" then .up else .doz z.doze
end Hb
set_option Elab.async false
set_option linter.all false
set_option maxRecDepth 100000
set_option maxHeartbeats 4000000
namespace Hb
open PySem PySem.Spec PyProof.Rows L2
/-- a list being filled, changed: tuples stay -/
theorem tk_acc {H : Hp} {D : Addr} {xs ys : List V} (h : H D = some (.lst xs)) : TK H (upd H D (.lst ys)) := TK.put h (by intro xs e; cases e) (by intro q u e; cases e)
/-! ### rows of states -/
inductive SsAt (K : PySem.W.Frag) (H : Hp) : List V → List S0 → Prop
  | nil : SsAt K H [] []
  | cons {v : V} {vs : List V} {s : S0} {ss : List S0} : StAt K H v s → SsAt K H vs ss → SsAt K H (v :: vs) (s :: ss)
section
variable {K : PySem.W.Frag} {H H' : Hp}
theorem SsAt.keep (k : TK H H') : ∀ {vs : List V} {ss : List S0}, SsAt K H vs ss → SsAt K H' vs ss
  | _, _, .nil => .nil
  | _, _, .cons h t => .cons (h.keep k) (SsAt.keep k t)
theorem SsAt.app : ∀ {vs ws : List V} {ss ts : List S0}, SsAt K H vs ss → SsAt K H ws ts → SsAt K H (vs ++ ws) (ss ++ ts)
  | _, _, _, _, .nil, h => h
  | _, _, _, _, .cons h t, h2 => .cons h (SsAt.app t h2)
theorem SsAt.length : ∀ {vs : List V} {ss : List S0}, SsAt K H vs ss → vs.length = ss.length
  | _, _, .nil => rfl
  | _, _, .cons _ t => congrArg Nat.succ (SsAt.length t)
theorem SsAt.at : ∀ {vs : List V} {ss : List S0} {i : Nat} {v : V}, SsAt K H vs ss → vs[i]? = some v → ∃ s, ss[i]? = some s ∧ StAt K H v s
  | _, _, _, _, .nil, e => by simp at e
  | _, _, 0, _, .cons h _, e => by simp at e; subst e; exact ⟨_, rfl, h⟩
  | _, _, i + 1, _, .cons _ t, e => by
    obtain ⟨s, h1, h2⟩ := SsAt.at t (i := i) (by simpa using e)
    exact ⟨s, by simpa using h1, h2⟩
theorem SsAt.td : ∀ {vs : List V} {ss : List S0}, SsAt K H vs ss → TDs K H vs (ss.map fun s => .tuple s.ds)
  | _, _, .nil => .nil
  | _, _, .cons h t => .cons h.td (SsAt.td t)
end
/-- a list of states, one put behind -/
theorem SsAt.more {K : PySem.W.Frag} {H1 H H2 : Hp} {D : Addr} {acc : List V} {ss : List S0} {v : V} {s : S0} (nD : H1 D = none) (s1 : Same H1 H) (hD : H D = some (.lst acc)) (hs : SsAt K H acc ss) (s2 : Same H H2) (hv : StAt K H2 v s) :
    Same H1 (upd H2 D (.lst (acc ++ [v]))) ∧ ∃ acc', upd H2 D (.lst (acc ++ [v])) D = some (.lst acc') ∧ SsAt K (upd H2 D (.lst (acc ++ [v]))) acc' (ss ++ [s]) := by
  have k : TK H2 (upd H2 D (.lst (acc ++ [v]))) := tk_acc (s2 _ _ hD)
  exact ⟨Hb.Same.acc (s1.trans s2) nD, _, upd_same, SsAt.app (SsAt.keep k (SsAt.keep (Same.tk s2) hs)) (.cons (hv.keep k) .nil)⟩
theorem range_map (f : Nat → S0) (i : Nat) : (List.range (i + 1)).map f = (List.range i).map f ++ [f i] := by
  rw [List.range_succ, List.map_append]
  rfl
theorem SsAt.more' {K : PySem.W.Frag} {H1 H H2 : Hp} {D : Addr} {acc : List V} {f : Nat → S0} {i : Nat} {v : V} (nD : H1 D = none) (s1 : Same H1 H) (hD : H D = some (.lst acc)) (hs : SsAt K H acc ((List.range i).map f)) (s2 : Same H H2) (hv : StAt K H2 v (f i)) :
    Same H1 (upd H2 D (.lst (acc ++ [v]))) ∧ ∃ acc', upd H2 D (.lst (acc ++ [v])) D = some (.lst acc') ∧ SsAt K (upd H2 D (.lst (acc ++ [v]))) acc' ((List.range (i + 1)).map f) := by
  rw [range_map]
  exact SsAt.more nD s1 hD hs s2 hv
theorem any_st (ss : List S0) (s : S0) : ((ss.map fun s => PyData.tuple s.ds).any fun z => PyData.eqv z (.tuple s.ds)) = decide (s ∈ ss) := by
  induction ss with
  | nil => simp
  | cons t ss ih =>
    rw [List.map_cons, List.any_cons, ih, eqv_st]
    by_cases h : t = s
    · subst h; simp
    · have h2 : ¬ s = t := fun q => h q.symm
      simp [h, h2]
theorem shaped_sts {ss : List S0} (h : ∀ s ∈ ss, s.ok) : SeqAt.shaped (.list (ss.map fun s => .tuple s.ds)) = true := shaped_list fun d hd => by
  obtain ⟨s, hs, rfl⟩ := List.mem_map.mp hd
  exact S0.shp (h s hs)
/-- all states of its form -/
def states (z : Zz) : List S0 := ([.up, .asl, .wok] ++ (List.range z.doze.toNat).map fun i => .doz (1 + (i : Nat))) ++ ((List.range z.stir.toNat).map fun i => .stir (1 + (i : Nat))) ++
  (z.sorts.filter fun p => decide (p.2 = ("faint" : Str))).flatMap fun p => (List.range (z.near + 1).toNat).map fun i => .kept p.1 (0 + (i : Nat))
def rowS (z : Zz) (s : S0) (ns : List Str) : S0 := ns.foldl (fun s n => hear z (sortOf z n) n s) s
end Hb
set_option Elab.async false
set_option linter.all false
set_option maxRecDepth 100000
set_option maxHeartbeats 8000000
namespace Hb
open PySem PySem.Spec PyProof.Rows L2
/-! ### looking up -/
theorem lookup_mem : ∀ {ps : List (Str × Str)} {n x : Str}, ps.lookup n = some x → (n, x) ∈ ps
  | [], _, _, h => by simp at h
  | (m, y) :: ps, n, x, h => by
    rw [List.lookup_cons] at h
    by_cases e : n = m
    · subst e
      simp at h
      subst h
      exact List.mem_cons_self
    · have e2 : (n == m) = false := beq_eq_false_iff_ne.mpr e
      rw [e2] at h
      exact List.mem_cons_of_mem _ (lookup_mem h)
theorem lookup_of : ∀ {ps : List (Str × Str)} {n x : Str}, (ps.map Prod.fst).Nodup → (n, x) ∈ ps → ps.lookup n = some x
  | (m, y) :: ps, n, x, nd, h => by
    rw [List.map_cons, List.nodup_cons] at nd
    rw [List.lookup_cons]
    rcases List.mem_cons.mp h with h | h
    · cases h
      simp
    · have e : n ≠ m := fun q => nd.1 (by rw [← q]; exact List.mem_map.mpr ⟨_, h, rfl⟩)
      rw [beq_eq_false_iff_ne.mpr e]
      exact lookup_of nd.2 h
theorem lookup_none : ∀ {ps : List (Str × Str)} {n : Str}, (∀ x, (n, x) ∉ ps) → ps.lookup n = none
  | [], _, _ => rfl
  | (m, y) :: ps, n, h => by
    have e : n ≠ m := fun q => h y (by rw [q]; exact List.mem_cons_self)
    rw [List.lookup_cons, beq_eq_false_iff_ne.mpr e]
    exact lookup_none fun x hx => h x (List.mem_cons_of_mem _ hx)
theorem lookup_perm {ps qs : List (Str × Str)} (nd : (ps.map Prod.fst).Nodup) (h : qs.Perm ps) (n : Str) : qs.lookup n = ps.lookup n := by
  cases e : ps.lookup n with
  | none =>
    refine lookup_none fun x hx => ?_
    rw [lookup_of nd (h.mem_iff.mp hx)] at e
    cases e
  | some x => exact lookup_of ((h.map Prod.fst).nodup_iff.mpr nd) (h.mem_iff.mpr (lookup_mem e))
theorem sortOf_eq {z : Zz} (nd : (z.sorts.map Prod.fst).Nodup) (n : Str) : sortOf z n = z.sorts.lookup n := lookup_perm nd (sortP_perm _) n
/-! ### a dict of pairs -/
def pkv (p : Str × Str) : Key × V := (Sum.inr p.1, V.str p.2)
theorem putK_new (kvs : List (Key × V)) (k : Key) (v : V) (h : ∀ kv ∈ kvs, kv.1 ≠ k) : putK kvs k v = kvs ++ [(k, v)] := by
  unfold putK
  rw [if_neg]
  intro q
  obtain ⟨kv, h1, h2⟩ := List.any_eq_true.mp q
  exact h kv h1 (of_decide_eq_true h2)
theorem merge_new : ∀ (ps : List (Str × Str)) (acc : List (Key × V)), (ps.map Prod.fst).Nodup → (∀ p ∈ ps, ∀ kv ∈ acc, kv.1 ≠ (Sum.inr p.1 : Key)) → mergeK acc (ps.map pkv) = acc ++ ps.map pkv
  | [], acc, _, _ => by simp [mergeK]
  | p :: ps, acc, nd, h => by
    rw [List.map_cons, List.nodup_cons] at nd
    have e : mergeK acc ((p :: ps).map pkv) = mergeK (putK acc (Sum.inr p.1) (V.str p.2)) (ps.map pkv) := rfl
    rw [e, putK_new acc _ _ (h p List.mem_cons_self), merge_new ps _ nd.2 (fun q hq kv hkv => ?_)]
    · simp [pkv]
    · rcases List.mem_append.mp hkv with hkv | hkv
      · exact h q (List.mem_cons_of_mem _ hq) kv hkv
      · rw [List.mem_singleton.mp hkv]
        intro e2
        have e3 : p.1 = q.1 := Sum.inr.inj e2
        exact nd.1 (by rw [e3]; exact List.mem_map.mpr ⟨q, hq, rfl⟩)
theorem val_pairs : ∀ (ps : List (Str × Str)) (n : Str), valV (ps.map pkv) (Sum.inr n) = (ps.lookup n).map V.str
  | [], n => rfl
  | p :: ps, n => by
    rw [List.map_cons, List.lookup_cons]
    by_cases e : n = p.1
    · rw [valV_pos (p := pkv p) (by show Sum.inr p.1 = Sum.inr n; rw [e])]
      subst e
      simp [pkv]
    · rw [valV_neg (p := pkv p) (fun q => e (Sum.inr.inj (show (Sum.inr p.1 : Key) = Sum.inr n from q)).symm), beq_eq_false_iff_ne.mpr e]
      exact val_pairs ps n
theorem val_dict {ps : List (Str × Str)} (nd : (ps.map Prod.fst).Nodup) (n : Str) : valV (mergeK [] (ps.map pkv)) (Sum.inr n) = (ps.lookup n).map V.str := by
  rw [merge_new ps [] nd (fun _ _ _ h => by cases h), List.nil_append]
  exact val_pairs ps n
theorem pairs_of {K : PySem.W.Frag} {H : Hp} : ∀ {xs : List V} {ps : List (Str × Str)}, TDs K H xs (ps.map encP) → ∃ as : List Addr, xs = as.map V.ref ∧ Paired (fun p (kv : Key × V) => SqT K H p [kV kv.1, kv.2]) as (ps.map pkv)
  | _, [], h => ⟨[], TDs.nil_inv h, .nil⟩
  | _, p :: ps, h => by
    obtain ⟨v, ws, rfl, h1, h2⟩ := TDs.cons_inv h
    obtain ⟨as, rfl, h3⟩ := pairs_of h2
    obtain ⟨a, ys, rfl, h4, h5⟩ := TD.tup_inv h1
    obtain rfl := TDs.strs_inv (xs := [p.1, p.2]) h5
    exact ⟨a :: as, rfl, .cons h4 h3⟩
/-! ### what noises do -/
theorem sorts_ne : ("loud" : Str) ≠ "soft" ∧ ("sudden" : Str) ≠ "soft" ∧ ("faint" : Str) ≠ "soft" ∧ ("sudden" : Str) ≠ "loud" ∧ ("faint" : Str) ≠ "loud" ∧ ("faint" : Str) ≠ "sudden" ∧ ("again" : Str) ≠ "wake" := by decide +kernel
/-- the five kinds of noises -/
theorem kinds (so : Option Str) : so = some ("soft" : Str) ∨ so = some ("loud" : Str) ∨ so = some ("sudden" : Str) ∨ so = some ("faint" : Str) ∨ (so ≠ some ("soft" : Str) ∧ so ≠ some ("loud" : Str) ∧ so ≠ some ("sudden" : Str) ∧ so ≠ some ("faint" : Str)) := by
  by_cases h1 : so = some ("soft" : Str)
  · exact .inl h1
  by_cases h2 : so = some ("loud" : Str)
  · exact .inr (.inl h2)
  by_cases h3 : so = some ("sudden" : Str)
  · exact .inr (.inr (.inl h3))
  by_cases h4 : so = some ("faint" : Str)
  · exact .inr (.inr (.inr (.inl h4)))
  exact .inr (.inr (.inr (.inr ⟨h1, h2, h3, h4⟩)))
theorem hear_soft {z : Zz} {n : Str} (s : S0) : hear z (some ("soft" : Str)) n s = match s with | .asl => .stir z.stir | .kept _ _ => .stir z.stir | s => s := by
  obtain ⟨h1, h2, h3, h4, h5, h6, h7⟩ := sorts_ne
  cases s <;> simp [hear, h1.symm]
theorem hear_loud {z : Zz} {n : Str} (s : S0) : hear z (some ("loud" : Str)) n s = match s with | .up => .up | .doz t => (if z.loud = ("wake" : Str) then .wok else if z.loud = ("again" : Str) then .doz z.doze else .doz t) | _ => .wok := by
  obtain ⟨h1, h2, h3, h4, h5, h6, h7⟩ := sorts_ne
  cases s <;> simp [hear, h1]
theorem hear_sudden {z : Zz} {n : Str} (s : S0) : hear z (some ("sudden" : Str)) n s = match s with | .asl => .wok | .kept _ _ => .wok | s => s := by
  obtain ⟨h1, h2, h3, h4, h5, h6, h7⟩ := sorts_ne
  cases s <;> simp [hear, h2, h4]
theorem hear_faint {z : Zz} {n : Str} (s : S0) : hear z (some ("faint" : Str)) n s = match s with | .asl => .kept n 0 | .kept m _ => (if m = n then .kept n 0 else .wok) | s => s := by
  obtain ⟨h1, h2, h3, h4, h5, h6, h7⟩ := sorts_ne
  cases s <;> simp [hear, h3, h5, h6]
theorem hear_else {z : Zz} {n : Str} {so : Option Str} (h : so ≠ some ("soft" : Str) ∧ so ≠ some ("loud" : Str) ∧ so ≠ some ("sudden" : Str) ∧ so ≠ some ("faint" : Str)) (s : S0) : hear z so n s = s := by
  obtain ⟨h1, h2, h3, h4⟩ := h
  cases s <;> simp [hear, h1, h2, h3, h4]
inductive Kd where
  | soft | loud | sudden | faint | els
  deriving DecidableEq
def act (z : Zz) (n : Str) : Kd → S0 → S0
  | .soft, .asl => .stir z.stir
  | .soft, .kept _ _ => .stir z.stir
  | .loud, .doz t => if z.loud = ("wake" : Str) then .wok else if z.loud = ("again" : Str) then .doz z.doze else .doz t
  | .loud, .asl => .wok
  | .loud, .kept _ _ => .wok
  | .loud, .stir _ => .wok
  | .sudden, .asl => .wok
  | .sudden, .kept _ _ => .wok
  | .faint, .asl => .kept n 0
  | .faint, .kept m _ => if m = n then .kept n 0 else .wok
  | _, s => s
def kd (so : Option Str) : Kd := if so = some ("soft" : Str) then .soft else if so = some ("loud" : Str) then .loud else if so = some ("sudden" : Str) then .sudden else if so = some ("faint" : Str) then .faint else .els
theorem hear_act (z : Zz) (so : Option Str) (n : Str) (s : S0) : hear z so n s = act z n (kd so) s := by
  obtain ⟨h1, h2, h3, h4, h5, h6, h7⟩ := sorts_ne
  rcases kinds so with rfl | rfl | rfl | rfl | h
  · rw [hear_soft]; cases s <;> simp [kd, act]
  · rw [hear_loud]; cases s <;> simp [kd, act, h1]
  · rw [hear_sudden]; cases s <;> simp [kd, act, h2, h4]
  · rw [hear_faint]; cases s <;> simp [kd, act, h3, h5, h6]
  · rw [hear_else h]; obtain ⟨q1, q2, q3, q4⟩ := h; cases s <;> simp [kd, act, q1, q2, q3, q4]
/-- two noises twice are as once -/
theorem twice (z : Zz) (a b : Str) (s : S0) : rowS z (rowS z s [a, b]) [a, b] = rowS z s [a, b] := by
  have key : ∀ ka kb : Kd, (a = b → ka = kb) → ∀ s, act z b kb (act z a ka (act z b kb (act z a ka s))) = act z b kb (act z a ka s) := by
    intro ka kb hab s
    have wa : ("wake" : Str) ≠ "again" := sorts_ne.2.2.2.2.2.2.symm
    by_cases e : a = b
    · subst e
      have e2 := hab rfl
      subst e2
      by_cases hw : z.loud = ("wake" : Str)
      · cases s
        case kept m t => by_cases h1 : m = a <;> cases ka <;> simp [act, hw, h1, wa]
        all_goals (cases ka <;> simp [act, hw, wa])
      · by_cases hg : z.loud = ("again" : Str)
        · cases s
          case kept m t => by_cases h1 : m = a <;> cases ka <;> simp [act, hw, hg, h1]
          all_goals (cases ka <;> simp [act, hg, wa.symm])
        · cases s
          case kept m t => by_cases h1 : m = a <;> cases ka <;> simp [act, hw, hg, h1]
          all_goals (cases ka <;> simp [act, hw, hg])
    · have e2 : ¬ b = a := fun q => e q.symm
      by_cases hw : z.loud = ("wake" : Str)
      · cases s
        case kept m t => by_cases h1 : m = a <;> by_cases h2 : m = b <;> cases ka <;> cases kb <;> simp [act, hw, h1, h2, wa, e, e2]
        all_goals (cases ka <;> cases kb <;> simp [act, hw, wa, e, e2])
      · by_cases hg : z.loud = ("again" : Str)
        · cases s
          case kept m t => by_cases h1 : m = a <;> by_cases h2 : m = b <;> cases ka <;> cases kb <;> simp [act, hg, wa.symm, h1, h2, e, e2]
          all_goals (cases ka <;> cases kb <;> simp [act, hg, wa.symm, e, e2])
        · cases s
          case kept m t => by_cases h1 : m = a <;> by_cases h2 : m = b <;> cases ka <;> cases kb <;> simp [act, hw, hg, h1, h2, e, e2]
          all_goals (cases ka <;> cases kb <;> simp [act, hw, hg, e, e2])
  have h := key (kd (sortOf z a)) (kd (sortOf z b)) (fun e => by rw [e]) s
  simp only [← hear_act] at h
  exact h
end Hb
set_option Elab.async false
set_option linter.all false
set_option maxRecDepth 100000
set_option maxHeartbeats 8000000
namespace Hb
open PySem PySem.Spec PyProof.Rows L2
def InS (z : Zz) : S0 → Prop
  | .doz t => 1 ≤ t ∧ t ≤ z.doze
  | .stir t => 1 ≤ t ∧ t ≤ z.stir
  | .kept n a => (n, ("faint" : Str)) ∈ z.sorts ∧ 0 ≤ a ∧ a ≤ z.near
  | _ => True
theorem mem_states {z : Zz} {s : S0} : s ∈ states z ↔ InS z s := by
  unfold states
  rw [List.mem_append, List.mem_append, List.mem_append]
  constructor
  · rintro (((h | h) | h) | h)
    · simp only [List.mem_cons, List.not_mem_nil, or_false] at h
      rcases h with rfl | rfl | rfl <;> exact trivial
    · obtain ⟨i, hi, rfl⟩ := List.mem_map.mp h
      have := List.mem_range.mp hi
      exact ⟨by omega, by omega⟩
    · obtain ⟨i, hi, rfl⟩ := List.mem_map.mp h
      have := List.mem_range.mp hi
      exact ⟨by omega, by omega⟩
    · obtain ⟨p, hp, h⟩ := List.mem_flatMap.mp h
      obtain ⟨i, hi, rfl⟩ := List.mem_map.mp h
      obtain ⟨h1, h2⟩ := List.mem_filter.mp hp
      have h3 : p.2 = ("faint" : Str) := of_decide_eq_true h2
      have := List.mem_range.mp hi
      refine ⟨?_, by omega, by omega⟩
      rw [← h3]
      exact h1
  · intro h
    cases s with
    | up => exact .inl (.inl (.inl (by simp)))
    | asl => exact .inl (.inl (.inl (by simp)))
    | wok => exact .inl (.inl (.inl (by simp)))
    | doz t =>
      obtain ⟨h1, h2⟩ := h
      exact .inl (.inl (.inr (List.mem_map.mpr ⟨(t - 1).toNat, List.mem_range.mpr (by omega), by rw [show (1 : Int) + ((t - 1).toNat : Nat) = t by omega]⟩)))
    | stir t =>
      obtain ⟨h1, h2⟩ := h
      exact .inl (.inr (List.mem_map.mpr ⟨(t - 1).toNat, List.mem_range.mpr (by omega), by rw [show (1 : Int) + ((t - 1).toNat : Nat) = t by omega]⟩))
    | kept n a =>
      obtain ⟨h0, h1, h2⟩ := h
      exact .inr (List.mem_flatMap.mpr ⟨_, List.mem_filter.mpr ⟨h0, decide_eq_true rfl⟩, List.mem_map.mpr ⟨a.toNat, List.mem_range.mpr (by omega), by rw [show (0 : Int) + (a.toNat : Nat) = a by omega]⟩⟩)
section
variable {z : Zz} {ws : List Str} (zk : Zok z ws)
include zk
theorem Zok.zin : z.sorts.length ≤ 100 := Nat.le_trans zk.few (by decide)
theorem sort_mem {n x : Str} (h : sortOf z n = some x) : (n, x) ∈ z.sorts := by
  rw [sortOf_eq zk.nd] at h
  exact lookup_mem h
theorem InS.sok {s : S0} (h : InS z s) : s.ok := by
  cases s
  case kept n a => exact (Zok.ok zk _ h.1).1
  all_goals trivial
theorem InS.hear {n : Str} {s : S0} (h : InS z s) : InS z (Hb.hear z (sortOf z n) n s) := by
  have f : kd (sortOf z n) = .faint → (n, ("faint" : Str)) ∈ z.sorts := by
    intro e
    unfold kd at e
    split at e
    · cases e
    · split at e
      · cases e
      · split at e
        · cases e
        · split at e
          · rename_i q
            exact sort_mem zk q
          · cases e
  rw [hear_act]
  have d1 := zk.d1
  have s1 := zk.s1
  have n1 := zk.n1
  cases s with
  | up => cases kd (sortOf z n) <;> trivial
  | wok => cases kd (sortOf z n) <;> trivial
  | asl =>
    cases q : kd (sortOf z n)
    case faint => exact ⟨f q, by omega, by omega⟩
    case soft => exact ⟨by omega, by omega⟩
    all_goals trivial
  | kept m a =>
    cases q : kd (sortOf z n)
    case faint =>
      show InS z (if m = n then .kept n 0 else .wok)
      split
      · exact ⟨f q, by omega, by omega⟩
      · trivial
    case soft => exact ⟨by omega, by omega⟩
    case els => exact h
    all_goals trivial
  | doz t =>
    cases q : kd (sortOf z n)
    case loud =>
      show InS z (if z.loud = ("wake" : Str) then .wok else if z.loud = ("again" : Str) then .doz z.doze else .doz t)
      split
      · trivial
      · split
        · exact ⟨by omega, by omega⟩
        · exact h
    all_goals exact h
  | stir t =>
    cases q : kd (sortOf z n)
    case loud => trivial
    all_goals exact h
theorem InS.row : ∀ {ns : List Str} {s : S0}, InS z s → InS z (rowS z s ns)
  | [], _, h => h
  | n :: ns, _, h => InS.row (ns := ns) (InS.hear zk h)
theorem InS.tick {s : S0} (h : InS z s) : InS z (Hb.tick z s) := by
  have n1 := zk.n1
  cases s with
  | up => trivial
  | wok => trivial
  | asl => trivial
  | doz t =>
    show InS z (if 1 < t then .doz (t - 1) else .asl)
    split
    · exact ⟨by omega, by have := h.2; omega⟩
    · trivial
  | stir t =>
    show InS z (if 1 < t then .stir (t - 1) else .wok)
    split
    · exact ⟨by omega, by have := h.2; omega⟩
    · trivial
  | kept m a =>
    obtain ⟨h0, h1, h2⟩ := h
    show InS z (if a < z.near then .kept m (a + 1) else .asl)
    split
    · exact ⟨h0, by omega, by omega⟩
    · trivial
theorem InS.hum {s : S0} {x : Str} (h : InS z s) : InS z (Hb.hum z x s) ∧ (Hb.hum z x s).word ≠ "asleep" := by
  have d1 := zk.d1
  obtain ⟨q1, q2, q3, q4, q5, q6, q7, q8, q9, q10⟩ := words_ne
  by_cases e : s = .wok
  · subst e
    exact ⟨trivial, q9⟩
  · have e2 : Hb.hum z x s = if x = "up" then .up else .doz z.doze := by cases s <;> first | exact absurd rfl e | rfl
    rw [e2]
    split
    · exact ⟨trivial, q1.symm⟩
    · exact ⟨⟨by omega, by omega⟩, q5.symm⟩
end
/-- a noise twice is as once -/
theorem once (z : Zz) (a : Str) (s : S0) : rowS z s [a, a] = rowS z s [a] := by
  show hear z (sortOf z a) a (hear z (sortOf z a) a s) = hear z (sortOf z a) a s
  rw [hear_act, hear_act]
  have wa : ("wake" : Str) ≠ "again" := sorts_ne.2.2.2.2.2.2.symm
  generalize kd (sortOf z a) = k
  by_cases hw : z.loud = ("wake" : Str)
  · cases s
    case kept m t => by_cases h1 : m = a <;> cases k <;> simp [act, hw, h1, wa]
    all_goals (cases k <;> simp [act, hw, wa])
  · by_cases hg : z.loud = ("again" : Str)
    · cases s
      case kept m t => by_cases h1 : m = a <;> cases k <;> simp [act, hg, wa.symm, h1]
      all_goals (cases k <;> simp [act, hg, wa.symm])
    · cases s
      case kept m t => by_cases h1 : m = a <;> cases k <;> simp [act, hw, hg, h1]
      all_goals (cases k <;> simp [act, hw, hg])
theorem unheard_same (z : Zz) (a : Str) (s : S0) (h : sortOf z a = none) : hear z (sortOf z a) a s = s := by
  rw [h, hear_else ⟨by simp, by simp, by simp, by simp⟩]
theorem others_same (z : Zz) (a : Str) (s : S0) (h : sortOf z a = some ("sudden" : Str) ∨ sortOf z a = some ("faint" : Str) ∨ sortOf z a = some ("soft" : Str)) (w : s.word = "stirring" ∨ s.word = "dozing" ∨ s.word = "up") :
    hear z (sortOf z a) a s = s := by
  obtain ⟨q1, q2, q3, q4, q5, q6, q7, q8, q9, q10⟩ := words_ne
  have ns : s ≠ .asl := by rintro rfl; exact w.elim (fun w => q8 w.symm) fun w => w.elim (fun w => q5 w) fun w => q1 w
  have nk : ∀ m t, s ≠ .kept m t := by rintro m t rfl; exact w.elim (fun w => q8 w.symm) fun w => w.elim (fun w => q5 w) fun w => q1 w
  rcases h with h | h | h <;> rw [h]
  · rw [hear_sudden]; cases s <;> first | exact absurd rfl ns | exact absurd rfl (nk _ _) | rfl
  · rw [hear_faint]; cases s <;> first | exact absurd rfl ns | exact absurd rfl (nk _ _) | rfl
  · rw [hear_soft]; cases s <;> first | exact absurd rfl ns | exact absurd rfl (nk _ _) | rfl
/-- a longer stirring is woken no sooner -/
theorem longer (z : Zz) (t : Int) (a : Str) (s : S0) (h : hear { z with stir := t } (sortOf { z with stir := t } a) a s = .wok) : hear z (sortOf z a) a s = .wok := by
  have e : sortOf { z with stir := t } a = sortOf z a := rfl
  rw [e, hear_act] at h
  rw [hear_act]
  revert h
  generalize kd (sortOf z a) = k
  cases k <;> cases s <;> simp [act]
end Hb
set_option Elab.async false
set_option linter.all false
set_option maxRecDepth 100000
set_option maxHeartbeats 4000000
namespace Hb
open PySem PySem.Spec PyProof.Rows L2
section
variable {K : PySem.W.Frag} {H : Hp} {x y : V} {s t : S0} {Q : VK}
theorem ne_st (hx : StAt K H x s) (hy : StAt K H y t) (os : s.ok) (ot : t.ok) (q : Q (.bl (!decide (s = t))) H) : rNeD K x y H Q :=
  ⟨_, _, TD.dp hx.td, TD.dp hy.td, (S0.shp os).shaped, (S0.shp ot).shaped, by rw [eqv_st]; exact q⟩
theorem eq_st (hx : StAt K H x s) (hy : StAt K H y t) (os : s.ok) (ot : t.ok) (q : Q (.bl (decide (s = t))) H) : rEqD K x y H Q :=
  ⟨_, _, TD.dp hx.td, TD.dp hy.td, (S0.shp os).shaped, (S0.shp ot).shaped, by rw [eqv_st]; exact q⟩
theorem notin_st {S : Addr} {us : List V} {ss : List S0} (hx : StAt K H x s) (os : s.ok) (hS : H S = some (.lst us)) (hs : SsAt K H us ss) (ok : ∀ s ∈ ss, s.ok) (q : Q (.bl (!decide (s ∈ ss))) H) : rNotInD K x (.ref S) H Q :=
  ⟨_, _, TD.dp hx.td, .lst (SqL.of hS) (TDs.dp hs.td), (S0.shp os).shaped, shaped_sts ok, by rw [any_st]; exact q⟩
end
theorem hear_ok {z : Zz} {so : Option Str} {n : Str} {s : S0} (h : s.ok) (hn : PyData.strOk n = true) : (hear z so n s).ok := by
  rw [hear_act]
  generalize kd so = k
  cases s with
  | kept m t =>
    cases k with
    | faint =>
      show (if m = n then S0.kept n 0 else S0.wok).ok
      split
      · exact hn
      · trivial
    | els => exact h
    | soft => trivial
    | loud => trivial
    | sudden => trivial
  | asl => cases k <;> first | exact hn | trivial
  | doz t =>
    cases k with
    | loud =>
      show (if z.loud = ("wake" : Str) then S0.wok else if z.loud = ("again" : Str) then S0.doz z.doze else S0.doz t).ok
      split
      · trivial
      · split <;> trivial
    | soft => trivial
    | faint => trivial
    | sudden => trivial
    | els => trivial
  | up => cases k <;> trivial
  | wok => cases k <;> trivial
  | stir t => cases k <;> trivial
theorem str_mem_map {x : Str} {xs : List Str} (h : x ∈ xs) : V.str x ∈ xs.map V.str := List.mem_map.mpr ⟨x, h, rfl⟩
end Hb
set_option Elab.async false
set_option linter.all false
set_option maxRecDepth 100000
set_option maxHeartbeats 4000000
namespace Hb
open PySem PySem.Spec PyProof.Rows L2
/-! ### houses -/
def nzD : Option Str → PyData
  | none => .none
  | some n => .str n
def nzV : Option Str → V
  | none => .non
  | some n => .str n
abbrev Dr := Int × Int × Option Str
abbrev Fl := Int × Str
structure Hz where
  rooms : Int
  doors : List Dr
  floors : List Fl
  cradles : List Int
def encD (x : Dr) : PyData := .tuple [.int x.1, .int x.2.1, nzD x.2.2]
def encF (x : Fl) : PyData := .tuple [.int x.1, .str x.2]
def encH (h : Hz) : PyData := .tuple [.int h.rooms, .tuple (h.doors.map encD), .tuple (h.floors.map encF), .tuple (h.cradles.map PyData.int)]
section
variable {K : PySem.W.Frag} {H : Hp}
theorem TD.nz_inv {v : V} {n : Option Str} (h : TD K H v (nzD n)) : v = nzV n := by
  cases n with
  | none => cases h; rfl
  | some n => cases h; rfl
theorem TD.nz (n : Option Str) : TD K H (nzV n) (nzD n) := by
  cases n with
  | none => exact .non
  | some n => exact .str n
theorem TD.door_inv {v : V} {x : Dr} (h : TD K H v (encD x)) : ∃ t, v = .ref t ∧ SqT K H t [.int x.1, .int x.2.1, nzV x.2.2] := by
  obtain ⟨t, ys, e, h1, h2⟩ := TD.tup_inv h
  obtain ⟨v1, w1, rfl, a1, h3⟩ := TDs.cons_inv h2
  obtain ⟨v2, w2, rfl, a2, h4⟩ := TDs.cons_inv h3
  obtain ⟨v3, w3, rfl, a3, h5⟩ := TDs.cons_inv h4
  obtain rfl := TDs.nil_inv h5
  rw [TD.int_inv a1, TD.int_inv a2, TD.nz_inv a3] at h1
  exact ⟨t, e, h1⟩
theorem TD.floor_inv {v : V} {x : Fl} (h : TD K H v (encF x)) : ∃ t, v = .ref t ∧ SqT K H t [.int x.1, .str x.2] := by
  obtain ⟨t, ys, e, h1, h2⟩ := TD.tup_inv h
  obtain ⟨v1, w1, rfl, a1, h3⟩ := TDs.cons_inv h2
  obtain ⟨v2, w2, rfl, a2, h4⟩ := TDs.cons_inv h3
  obtain rfl := TDs.nil_inv h4
  rw [TD.int_inv a1, TD.str_inv a2] at h1
  exact ⟨t, e, h1⟩
theorem TD.door {t : Addr} {x : Dr} (h : SqT K H t [.int x.1, .int x.2.1, nzV x.2.2]) : TD K H (.ref t) (encD x) := .tup h (.cons (.int _) (.cons (.int _) (.cons (TD.nz _) .nil)))
theorem TD.floor {t : Addr} {x : Fl} (h : SqT K H t [.int x.1, .str x.2]) : TD K H (.ref t) (encF x) := .tup h (.cons (.int _) (.cons (.str _) .nil))
theorem TDs.at_map {α : Type} {enc : α → PyData} {vs : List V} {xs : List α} {i : Nat} {v : V} (h : TDs K H vs (xs.map enc)) (e : vs[i]? = some v) : ∃ x, xs[i]? = some x ∧ TD K H v (enc x) := by
  obtain ⟨d, h1, h2⟩ := TDs.at h e
  rw [List.getElem?_map] at h1
  obtain ⟨p, h3, h4⟩ := Option.map_eq_some_iff.mp h1
  subst h4
  exact ⟨p, h3, h2⟩
end
structure HIs (K : PySem.W.Frag) (H : Hp) (p : Addr) (h : Hz) (a b c : Addr) (xs ys : List V) : Prop where
  all : SqT K H p [.int h.rooms, .ref a, .ref b, .ref c]
  da : SqT K H a xs
  dx : TDs K H xs (h.doors.map encD)
  fb : SqT K H b ys
  fx : TDs K H ys (h.floors.map encF)
  cc : SqT K H c (h.cradles.map V.int)
def HOne (K : PySem.W.Frag) (H : Hp) (p : Addr) (h : Hz) : Prop := TD K H (.ref p) (encH h)
theorem HOne.inv {K : PySem.W.Frag} {H : Hp} {p : Addr} {h : Hz} (x : HOne K H p h) : ∃ a b c xs ys, HIs K H p h a b c xs ys := by
  obtain ⟨t, ws, e, h1, h2⟩ := TD.tup_inv x
  cases e
  obtain ⟨v1, w1, rfl, a1, h3⟩ := TDs.cons_inv h2
  obtain ⟨v2, w2, rfl, a2, h4⟩ := TDs.cons_inv h3
  obtain ⟨v3, w3, rfl, a3, h5⟩ := TDs.cons_inv h4
  obtain ⟨v4, w4, rfl, a4, h6⟩ := TDs.cons_inv h5
  obtain rfl := TDs.nil_inv h6
  obtain rfl := TD.int_inv a1
  obtain ⟨a, xs, rfl, s1, s2⟩ := TD.tup_inv a2
  obtain ⟨b, ys, rfl, s3, s4⟩ := TD.tup_inv a3
  obtain ⟨c, zs, rfl, s5, s6⟩ := TD.tup_inv a4
  obtain rfl := TDs.ints_inv s6
  exact ⟨a, b, c, xs, ys, h1, s1, s2, s3, s4, s5⟩
theorem HIs.one {K : PySem.W.Frag} {H : Hp} {p : Addr} {h : Hz} {a b c : Addr} {xs ys : List V} (x : HIs K H p h a b c xs ys) : HOne K H p h :=
  .tup x.all (.cons (.int _) (.cons (.tup x.da x.dx) (.cons (.tup x.fb x.fx) (.cons (.tup x.cc (tds_ints _)) .nil))))
def inR (r v : Int) : Prop := 0 ≤ v ∧ v < r
def DrOk (r : Int) (x : Dr) : Prop := inR r x.1 ∧ inR r x.2.1 ∧ x.1 ≠ x.2.1 ∧ ∀ n, x.2.2 = some n → nameB n = true
def FlOk (r : Int) (x : Fl) : Prop := inR r x.1 ∧ nameB x.2 = true
/-- what may be handed to House -/
structure Hin (h : Hz) : Prop where
  r1 : 1 ≤ h.rooms
  d : ∀ x ∈ h.doors, DrOk h.rooms x
  f : ∀ x ∈ h.floors, FlOk h.rooms x
  fnd : (h.floors.map Prod.fst).Nodup
  c : ∀ x ∈ h.cradles, inR h.rooms x
  cnd : h.cradles.Nodup
  fewd : h.doors.length ≤ 1000
  fewf : h.floors.length ≤ 1000
  fewc : h.cradles.length ≤ 1000
def sortF (xs : List Fl) : List Fl := xs.mergeSort (PySem.W.dataLe false encF)
def sortI (xs : List Int) : List Int := xs.mergeSort (PySem.W.dataLe false PyData.int)
theorem sortF_perm (xs : List Fl) : (sortF xs).Perm xs := List.mergeSort_perm _ _
theorem sortI_perm (xs : List Int) : (sortI xs).Perm xs := List.mergeSort_perm _ _
def hFs (a b c : Addr) (h : Hz) : List (Str × V) := [("rooms", .int h.rooms), ("doors", .ref a), ("floors", .ref b), ("cradles", .ref c)]
/-- an object of House -/
def HAt (K : PySem.W.Frag) (C : Addr) (H : Hp) (p : Addr) (h : Hz) : Prop := ∃ dx a b c xs ys, H p = some (.ins C dx (hFs a b c h)) ∧ SqT K H a xs ∧ TDs K H xs (h.doors.map encD) ∧ SqT K H b ys ∧ TDs K H ys ((sortF h.floors).map encF) ∧ SqT K H c ((sortI h.cradles).map V.int)
theorem HAt.keep {K : PySem.W.Frag} {C : Addr} {H H' : Hp} {p : Addr} {h : Hz} (x : HAt K C H p h) (k : TK H H') (e : ∀ o, H p = some o → H' p = some o) : HAt K C H' p h := by
  obtain ⟨dx, a, b, c, xs, ys, h1, h2, h3, h4, h5, h6⟩ := x
  exact ⟨dx, a, b, c, xs, ys, e _ h1, SqT.keep k h2, TDs.keep k h3, SqT.keep k h4, TDs.keep k h5, SqT.keep k h6⟩
theorem HAt.same {K : PySem.W.Frag} {C : Addr} {H H' : Hp} {p : Addr} {h : Hz} (x : HAt K C H p h) (s : Same H H') : HAt K C H' p h := x.keep (Same.tk s) fun o e => s _ _ e
theorem HAt.kp {K : PySem.W.Frag} {C d g : Addr} {H H' : Hp} {p : Addr} {h : Hz} (x : HAt K C H p h) (dl : Deal d g H) (k : Kp d g H H') : HAt K C H' p h := by
  have x2 := x
  obtain ⟨dx, a, b, c, xs, ys, h1, _⟩ := x2
  exact x.keep (dl.tk k) fun o e => k _ _ (dl.ne_d h1 (by intro kvs e; cases e)) (dl.ne_g h1 (by intro xs e; cases e)) e
/-! sorting of what is held in places -/
theorem zip_tdE {K : PySem.W.Frag} {H : Hp} {α : Type} {enc : α → PyData} : ∀ {xs : List V} {ps : List α}, TDs K H xs (ps.map enc) → ∀ z ∈ xs.zip ps, TD K H z.1 (enc z.2)
  | _, [], h => by
    obtain rfl := TDs.nil_inv h
    intro z hz
    cases hz
  | _, p :: ps, h => by
    obtain ⟨v, w, rfl, h1, h2⟩ := TDs.cons_inv h
    intro z hz
    rcases List.mem_cons.mp hz with rfl | hz
    · exact h1
    · exact zip_tdE h2 z hz
theorem tdE_zip {K : PySem.W.Frag} {H : Hp} {α : Type} {enc : α → PyData} : ∀ {zs : List (V × α)}, (∀ z ∈ zs, TD K H z.1 (enc z.2)) → TDs K H (zs.map (·.1)) ((zs.map (·.2)).map enc)
  | [], _ => .nil
  | z :: zs, h => .cons (h z List.mem_cons_self) (tdE_zip fun y hy => h y (List.mem_cons_of_mem _ hy))
theorem sort_zipE {α : Type} (enc : α → PyData) (zs : List (V × α)) : (zs.mergeSort (PySem.W.dataLe false fun z => enc z.2)).map (·.2) = (zs.map (·.2)).mergeSort (PySem.W.dataLe false enc) :=
  PySem.W.sort_maps (fun z : V × α => z.2) fun _ _ _ _ => rfl
theorem alike_F (p q : Fl) : PySem.W.alike (encF p) (encF q) = true := by simp [encF, PySem.W.alike, PySem.W.alikeAll]
theorem depth_F (p : Fl) : (encF p).depth ≤ 60 := by simp [encF, PyData.depth, PyData.depthAll]
end Hb
set_option Elab.async false
set_option linter.all false
set_option maxRecDepth 100000
set_option maxHeartbeats 8000000
namespace Hb
open PySem PySem.Spec PyProof.Rows L2
/-- len(set(xs)), xs a list of unlike texts, or a list or a tuple of unlike ints -/
def tLenSet3 (K : PySem.W.Frag) (ta : TE) : TE := fun σ H Q => ta σ H fun x H1 => ∃ l : Addr, x = .ref l ∧
  ((∃ xs : List Str, SqL K H1 l (xs.map V.str) ∧ xs.Nodup ∧ xs.length ≤ 4000 ∧ Q (.int xs.length) H1) ∨ ∃ ns : List Int, (SqL K H1 l (ns.map V.int) ∨ SqT K H1 l (ns.map V.int)) ∧ ns.Nodup ∧ ns.length ≤ 4000 ∧ Q (.int ns.length) H1)
theorem pe_lenSet3 {X : Cx} {a : Expr} {ta : TE} {p p2 q pos : Pos} (hg : Gl X "len") (hm : X.mg "len" = none) (hg2 : Gl X "set") (hm2 : X.mg "set" = none) (ha : PE X a ta) (calm : X.calm = true := by rfl)
    (na : starEach [a] X.env = (false, eval a X.env) :: starEach [] X.env := by rfl) : PE X (.Call (.Name "len" p) [.Call (.Name "set" p2) [a] [] q] [] pos) (tLenSet3 X.K ta) := by
  refine ⟨fun pins s σ H Q I h => Call_ (ld_blt I hg hm boot_len (callWith_builtin1 (args_cons (Call_ (ld_blt I hg2 hm2 boot_set
    (callWith_type1 (args_cons (thn (ha.run pins s σ H _ I h) fun v z ⟨x, H1, J, r, q⟩ => args_nil ?_) na) na rfl))) rfl) rfl rfl))⟩
  obtain ⟨l, rfl, q⟩ := q
  cases r
  have fin : ∀ (n : Nat) (h' : Heap) (tk : Nat) (κ : Type) (i1 : DecidableEq κ) (i2 : BEq κ) (i3 : LawfulBEq κ) (kd : KeyKind X.prog X.w κ) (S : κ → Bool), n ≤ 4000 → h'.SetOf kd z.heap.objs.size S n → (∀ b o, z.heap.get? b = some o → h'.get? b = some o) → Q (.int n) H1 →
      wpAny (model X.prog X.w) X.A (spliced (backTo pos (starEach [] X.env))) (fun vs y => wpAny (model X.prog X.w) X.A (call (.builtin "len") (Value.ref z.heap.objs.size :: vs)) (EP X pins σ Q) X.xe y) X.xe { z with heap := h', toks := tk } := by
    intro n h' tk κ i1 i2 i3 kd S hn hS hk q
    refine args_nil ?_
    obtain ⟨o, es, ep, t, ho, hex, hd, _, _, _, hf, e⟩ := hS
    have J2 : Inv X pins σ H1 { z with heap := h', toks := tk } := J.kept hk
    exact call_len_set ho hex hd hf (by rw [e] <;> omega) ⟨.int n, H1, J2.tok _, ⟨_, by rw [e]⟩, q⟩
  rcases q with ⟨xs, hq, nd, few, q⟩ | ⟨ns, hq, nd, few, q⟩
  · obtain ⟨its, r, pl, hz⟩ := J.list hq
    exact set_texts (J.ok.hd calm) pl.isList (by simpa using strsAre_of r) nd (by unfold scanBound; omega) fun h' tk hS hk => fin _ h' tk _ inferInstance inferInstance inferInstance _ _ few hS hk q
  · rcases hq with hq | hq
    · obtain ⟨its, r, pl, hz⟩ := J.list hq
      have size : its.toArray.size = ns.length := by rw [List.size_toArray, ← r.length, List.length_map]
      refine call_set_list (J.ok.hd calm) pl.isList (by simpa using RZ.intsAre_vals r) (by rw [size]; unfold scanBound; omega) fun h' tk hS hk => ?_
      rw [size, RZ.firstMet_nodup nd ns.length (Nat.le_refl _)] at hS
      rw [List.take_length] at hS
      exact fin _ h' tk _ inferInstance inferInstance inferInstance _ _ few hS (fun b o e => hk b o (Heap.lt_size e) e) q
    · obtain ⟨its, r, pl, hz⟩ := J.tuple hq
      refine L2.call_set_tupI ns (J.ok.hd calm) (show z.heap.IsTuple l its.toArray from pl) (by simpa using RZ.intsAre_vals r) (by unfold scanBound; omega) fun h' tk c hS hc hk => ?_
      obtain ⟨o, es, ep, t, ho, hex, hd, _, kn, ks, _, hf, e, _⟩ := hS
      have pm : (es.toList.map L2.keyOf).Perm ns := (List.perm_ext_iff_of_nodup kn nd).mpr fun k => by rw [← ks k, decide_eq_true_iff]
      have n1 : es.size = ns.length := by have q := pm.length_eq; rw [List.length_map, Array.length_toList] at q; exact q
      refine args_nil ?_
      have J2 : Inv X pins σ H1 { z with heap := h', toks := tk } := J.kept hk
      exact call_len_set ho hex hd hf (by rw [n1] <;> omega) ⟨.int ns.length, H1, J2.tok _, ⟨_, by rw [n1]⟩, q⟩
end Hb
set_option Elab.async false
set_option linter.all false
set_option maxRecDepth 100000
set_option maxHeartbeats 4000000
namespace Hb
open PySem PySem.Spec PyProof.Rows L2
section
variable {P : Program} {w : World} {K : PySem.W.Frag} {mg : Str → Option Value} {base : Heap}
/-- a class whose __init__ has j + 1 defaults, every argument written -/
def Df1d (K : PySem.W.Frag) (mg : Str → Option Value) (C qual : Str) (st : Stmt) (j : Nat) : Prop := Mk K (He.ga K C) (He.ma K (He.ga K C) "__init__") ∧ mg C = some (.ref (He.ga K C)) ∧
  ∃ fd dvs, dvs.length = j + 1 ∧ FunD K "__init__" qual (defArgs st) (defBody st) (defScope st) dvs [] (He.ma K (He.ga K C) "__init__") fd
theorem mak_mkD {C qual : Str} {st : Stmt} {N ps : List Str} {k j : Nat} {sp : Sp} (D : Df1d K mg C qual st j) (S : FnScope N ps (defScope st))
    (bd : ∀ (T : Addr) (kV doc pm : Value) (an : Option Addr) (cdv ct : Value) (us its : List Value), us.length = ps.length → its.length = j + 1 →
      ∃ k, bindArgs (PySem.W.fnOf "__init__" qual (defArgs st) (defBody st) (defScope st) (.ref T) kV doc pm an cdv ct) ⟨us, []⟩ = seqItems? (.ref T) >>= k ∧ k (some its.toArray) = pure (ps.zip us))
    (len : ∀ vs H Q E, sp vs H Q E → vs.length = ps.length)
    (hbody : ∀ (f : Addr) (cdv : Value) (A : Around) (outer : List Env) (s : Shared) (H : Hp) (vs : List V) (Q : VK) (E : XK), Room k (A.deeper (envOfC qual (defScope st) s.heap.objs.size f cdv)) → sp vs H Q E →
      ∃ t, PSs (cxOf CX0 P w K mg base N qual (defScope st) f cdv A outer s H E).nox (defBody st) t ∧ t { nx := fun _ H' => Q .non H', rt := Q } (start N vs) H) : C8.Mak P w K mg base (k + 1) C (He.ga K C) sp [] := by
  obtain ⟨M, hm, fd, dvs, dl, F⟩ := D
  obtain ⟨ds, r, b⟩ := F.binds1 ps.length (j + 1) (by intro e; rw [e] at dl; cases dl) (by rw [dl, Nat.sub_self, Nat.add_zero]) fun T kV doc pm an cdv ct us its h1 h2 => by
    obtain ⟨k, e1, e2⟩ := bd T kV doc pm an cdv ct us its h1 (by rw [h2, dl])
    exact ⟨k, e1, by rw [e2, List.drop_of_length_le (by rw [h2, dl] <;> exact Nat.le_refl _), List.append_nil]⟩
  rw [List.drop_of_length_le (by rw [dl] <;> exact Nat.le_refl _)] at r
  cases r
  exact ⟨⟨_, fd, ps, [], M, F.ok S len fun cdv A outer s H vs Q E hr h => by
    obtain ⟨t, h1, h2⟩ := hbody _ cdv A outer s H vs Q E hr h
    exact ⟨t, h1.nox, h2⟩, hm, b, .nil⟩⟩
end
end Hb
namespace Hb
open PySem PySem.Spec PyProof.Rows L2
/-- all but the object at x stays -/
def KX (x : Addr) (H H' : Hp) : Prop := ∀ b o, b ≠ x → H b = some o → H' b = some o
theorem KX.refl (x : Addr) (H : Hp) : KX x H H := fun _ _ _ e => e
theorem KX.trans {x : Addr} {H H1 H2 : Hp} (a : KX x H H1) (b : KX x H1 H2) : KX x H H2 := fun c o n e => b c o n (a c o n e)
theorem Same.kx {x : Addr} {H H' : Hp} (s : Same H H') : KX x H H' := fun b o _ e => s b o e
theorem KX.put {x : Addr} {H : Hp} {o : HO} : KX x H (upd H x o) := fun b u n e => by rw [upd_ne n]; exact e
section
variable {K : PySem.W.Frag} {H H' : Hp} {x C dx a : Addr} {fs : List (Str × V)} {xs : List V}
theorem KX.tk (k : KX x H H') (e : H x = some (.ins C dx fs)) : TK H H' :=
  ⟨fun b ys h => k b _ (by rintro rfl; rw [e] at h; cases h) h, fun b o u h => k b _ (by rintro rfl; rw [e] at h; cases h) h⟩
theorem KX.seq (k : KX x H H') (e : H x = some (.ins C dx fs)) (h : SqL K H a xs) : SqL K H' a xs :=
  SqL.keep (k.tk e) h fun q => k a _ (by rintro rfl; rw [e] at q; cases q) q
end
end Hb
set_option Elab.async false
set_option linter.all false
set_option maxRecDepth 100000
set_option maxHeartbeats 4000000
namespace Hb
open PySem PySem.Spec PyProof.Rows L2
/-- a drawn house -/
structure Hok (h : Hz) (r m : Int) (ws : List Str) : Prop where
  r1 : 1 ≤ h.rooms
  r2 : h.rooms ≤ r
  d : ∀ x ∈ h.doors, inR h.rooms x.1 ∧ inR h.rooms x.2.1 ∧ x.1 ≠ x.2.1 ∧ ∀ n, x.2.2 = some n → n ∈ ws
  dm : (h.doors.length : Int) ≤ m
  f : ∀ x ∈ h.floors, inR h.rooms x.1 ∧ x.2 ∈ ws
  fs : (h.floors.map Prod.fst).Pairwise (· < ·)
  fm : (h.floors.length : Int) ≤ h.rooms
  c : ∀ x ∈ h.cradles, inR h.rooms x
  cs : h.cradles.Pairwise (· < ·)
  cm : (h.cradles.length : Int) ≤ h.rooms
theorem nodup_of_lt {xs : List Int} (h : xs.Pairwise (· < ·)) : xs.Nodup := h.imp fun {a b} q e => by subst e; exact absurd q (Int.lt_irrefl _)
theorem Hok.hin {h : Hz} {r m : Int} {ws : List Str} (x : Hok h r m ws) (hr : r ≤ 1000) (hm : m ≤ 1000) (hw : ∀ w ∈ ws, nameB w = true) : Hin h :=
  ⟨x.r1, fun y hy => by obtain ⟨a, b, c, e⟩ := x.d y hy; exact ⟨a, b, c, fun n hn => hw n (e n hn)⟩, fun y hy => ⟨(x.f y hy).1, hw _ (x.f y hy).2⟩, nodup_of_lt x.fs, x.c, nodup_of_lt x.cs,
    by have := x.dm; omega, by have := x.fm; have := x.r2; omega, by have := x.cm; have := x.r2; omega⟩
theorem perm_td {K : PySem.W.Frag} {H : Hp} {α : Type} {enc : α → PyData} {ys vs : List V} (h : ys.Perm vs) : ∀ {ds : List α}, TDs K H vs (ds.map enc) → ∃ es : List α, es.Perm ds ∧ TDs K H ys (es.map enc) := by
  induction h with
  | nil => exact fun {ds} t => ⟨ds, .refl _, t⟩
  | cons x p ih =>
    intro ds t
    cases ds with
    | nil => cases t
    | cons d ds =>
      obtain ⟨v, w, e, t1, t2⟩ := TDs.cons_inv t
      cases e
      obtain ⟨es, pe, te⟩ := ih t2
      exact ⟨d :: es, pe.cons d, .cons t1 te⟩
  | swap x y l =>
    intro ds t
    match ds, t with
    | [], t => cases t
    | [d], t =>
      obtain ⟨v, w, e, t1, t2⟩ := TDs.cons_inv t
      cases e
      cases t2
    | d :: d2 :: ds, t =>
      obtain ⟨v, w, e, t1, t2⟩ := TDs.cons_inv t
      cases e
      obtain ⟨v, w, e, t3, t4⟩ := TDs.cons_inv t2
      cases e
      exact ⟨d2 :: d :: ds, .swap _ _ _, .cons t3 (.cons t1 t4)⟩
  | trans p q ih1 ih2 =>
    intro ds t
    obtain ⟨es, pe, te⟩ := ih2 t
    obtain ⟨fs, pf, tf⟩ := ih1 te
    exact ⟨fs, pf.trans pe, tf⟩
theorem shp_door {x : Dr} (h : ∀ n, x.2.2 = some n → PyData.strOk n = true) : Shp (encD x) := by
  refine shp_tup fun d hd => ?_
  simp only [List.mem_cons, List.not_mem_nil, or_false] at hd
  rcases hd with rfl | rfl | rfl
  · exact ⟨by simp [PyData.canLay0], by simp [PyData.depth]⟩
  · exact ⟨by simp [PyData.canLay0], by simp [PyData.depth]⟩
  · cases e : x.2.2 with
    | none => exact ⟨by simp [nzD, PyData.canLay0], by simp [nzD, PyData.depth]⟩
    | some n => exact ⟨by simp only [nzD, PyData.canLay0]; exact h n e, by simp [nzD, PyData.depth]⟩
end Hb
namespace Hb
open PySem PySem.Spec PyProof.Rows L2
theorem Kp.acc {d g : Addr} {H H' : Hp} {D : Addr} {o : HO} (k : Kp d g H H') (n : H D = none) : Kp d g H (upd H' D o) := fun b u n1 n2 e => by
  rw [upd_ne (ne_of_none e n)]
  exact k b u n1 n2 e
theorem perm_two {α : Type} {ys : List α} {x y : α} (h : ys.Perm [x, y]) : ys = [x, y] ∨ ys = [y, x] := by
  have l := h.length_eq
  match ys, l with
  | [a, b], _ =>
    have m : a ∈ [x, y] := h.mem_iff.mp (by simp)
    simp only [List.mem_cons, List.not_mem_nil, or_false] at m
    rcases m with rfl | rfl
    · have q := (List.perm_cons a).mp h
      have e := List.perm_singleton.mp q
      rw [e]; exact .inl rfl
    · have h2 : [a, b].Perm [a, x] := h.trans (List.Perm.swap _ _ _)
      have q := (List.perm_cons a).mp h2
      have e := List.perm_singleton.mp q
      rw [e]; exact .inr rfl
theorem good_int {K : PySem.W.Frag} {H : Hp} (i : Int) : Good K H (.int i) := ⟨.int i, .int i, by simp [PyData.canLay0], by simp [PyData.depth]⟩
/-- a door's noise, as it is picked -/
theorem noise_of {ws : List Str} {v : V} (h : v ∈ ws.map V.str ++ [V.non]) : ∃ n : Option Str, v = nzV n ∧ ∀ w, n = some w → w ∈ ws := by
  rcases List.mem_append.mp h with h | h
  · obtain ⟨w, hw, rfl⟩ := List.mem_map.mp h
    exact ⟨some w, rfl, fun w' e => by cases e; exact hw⟩
  · rw [List.mem_singleton.mp h]
    exact ⟨none, rfl, fun w e => by cases e⟩
def DrW (r : Int) (ws : List Str) (x : Dr) : Prop := inR r x.1 ∧ inR r x.2.1 ∧ x.1 ≠ x.2.1 ∧ ∀ n, x.2.2 = some n → n ∈ ws
end Hb
namespace Hb
open PySem PySem.Spec PyProof.Rows L2
end Hb
set_option Elab.async false
set_option linter.all false
set_option maxRecDepth 100000
set_option maxHeartbeats 4000000
namespace Hb
open PySem PySem.Spec PyProof.Rows L2
theorem rg_mem {M : Int} {v : V} (h : v ∈ rgV 0 M) : ∃ A : Int, v = .int A ∧ inR M A := by
  obtain ⟨i, hi, rfl⟩ := List.mem_map.mp h
  have := List.mem_range.mp hi
  exact ⟨_, rfl, by omega, by omega⟩
theorem rg_nodup (M : Int) : (rgV 0 M).Nodup := by
  unfold rgV
  refine List.Pairwise.map _ (fun a b h e => h ?_) List.nodup_range
  injection e with e
  omega
theorem take_two {ys : List V} {M : Int} (pm : ys.Perm (rgV 0 M)) (h : 2 ≤ M) : ∃ A B : Int, ys.take 2 = [.int A, .int B] ∧ inR M A ∧ inR M B ∧ A ≠ B := by
  have l := pm.length_eq
  rw [rgV_length] at l
  have nd := pm.nodup_iff.mpr (rg_nodup M)
  match ys, l with
  | [], l => exact absurd l (by simp; omega)
  | [x], l => exact absurd l (by simp; omega)
  | x :: y :: r, _ =>
    obtain ⟨A, rfl, a⟩ := rg_mem (pm.mem_iff.mp (List.mem_cons_self (a := x)))
    obtain ⟨B, rfl, b⟩ := rg_mem (pm.mem_iff.mp (List.mem_cons_of_mem _ (List.mem_cons_self (a := y))))
    refine ⟨A, B, rfl, a, b, fun e => ?_⟩
    subst e
    exact (List.nodup_cons.mp nd).1 List.mem_cons_self
end Hb
set_option Elab.async false
set_option linter.all false
set_option maxRecDepth 100000
set_option maxHeartbeats 4000000
/-! == by a def of the class, whatever stands at its right. -/
namespace Hb
open PySem PySem.Spec PyProof.Rows L2
/-- the class at C has an __eq__ of its own -/
structure EqOf (P : Program) (w : World) (K : PySem.W.Frag) (mg : Str → Option Value) (base : Heap) (k : Nat) (C : Addr) (sp : Sp) : Prop where
  ex : ∃ (f : Addr) (fd : FuncData) (ps : List Str), PySem.W.findIn K (.ref C) "__eq__" = some (some (.ref f)) ∧ PySem.W.isFn K (.ref f) = true ∧ FnOk P w K mg base CX0 k f fd ps sp ∧ Binds K fd ps []
/-- x == y, x of the class at C, y of a type that is known and not below C -/
def rEqOwn (K : PySem.W.Frag) (C : Addr) (sp : Sp) : R2 := fun x y H Q => ∃ (a dx : Addr) (fs : List (Str × V)) (tb : Value), x = .ref a ∧ H a = some (.ins C dx fs) ∧ TyX K H y tb ∧ PySem.W.notFirst K C tb = true ∧ sp [x, y] H Q C8.E0
section
variable {X : Cx} {C : Addr} {k j : Nat} {sp : Sp}
theorem op_eqOwn (c : EqOf X.prog X.w X.K X.mg X.base k C sp) (hr : Room j X.A) (hk : k ≤ j) : OpR X (compareOp .Eq) (rEqOwn X.K C sp) := by
  intro pins s σ H x y v u Q I rx ry h
  obtain ⟨f, fd, ps, hs, hf, F, hb⟩ := c.ex
  obtain ⟨a, dx, fs, tb, rfl, ha, ty, nf, q⟩ := h
  cases (show v = Value.ref a from rx)
  obtain ⟨mA, J, _⟩ := ins_get I.hok ha
  obtain ⟨od, J, _⟩ := J.look
  obtain ⟨m, hF⟩ := I.fr
  obtain ⟨Ph, kit, hP, _⟩ := kit_of I ry ty
  have hj := hr.mono hk
  show wpAny _ _ (richCompare .Eq (.ref a) u) _ _ _
  refine PySem.W.cmp_K (op := .Eq) (tb := tb) hj.units0 hF I.ok.mod.kin J (kit.ty _ _ I.kIn hP) nf hs hf ?_
  refine wpAny_mono (L2.run_fn (dvs := []) (ds := []) F hj hb .nil C8.pass0 I (us := [.ref a, u]) (vs := [.ref a, y]) (.cons rfl (.cons ry .nil)) (by simpa using q)) (fun w s' z => ?_) fun _ _ e => e
  obtain ⟨z', H', I', rz, qz⟩ := z
  exact SlX.cmpback rz ⟨z', H', I', rz, qz⟩
end
section
variable {prog : Program} {w : World} {A : Around} {E : Value → Shared → Prop} {s : Shared} {K : PySem.W.Frag} {x C f : Addr} {b : Value} {ox : Obj} {od : Option Obj}
/-- object's != asks the class's own == -/
theorem ne_body {Q : Fin → Shared → Prop} (hu : A.units < cLine) (X : K.In s.heap) (I : PySem.W.InstAt s.heap x ox C od) (hs : PySem.W.findIn K (.ref C) "__eq__" = some (some (.ref f))) (hf : PySem.W.isFn K (.ref f) = true)
    (h : wpAny (model prog w) A (call (.ref f) [.ref x, b]) (fun v s' => ∃ c, v = .bool c ∧ Q (.done (.ret (.bool (!c)))) s') E s) : wpAny (model prog w) A (Builtin.«object.__ne__» ⟨[.ref x, b], []⟩) Q E s := by
  unfold Builtin.«object.__ne__»
  repeat (first
    | (with_reducible refine wpAny_cRoomFor hu ?_)
    | (refine wpAny_bind (m := callSpecialIfBound? (.ref x) (Str.ofString "__eq__") [b]) (PySem.W.ifBound_K X I hs hf (wpAny_mono h (fun v z hv => by
        obtain ⟨c, rfl, q⟩ := hv
        repeat (first | exact q | exact wpAny_pure q | (refine wpAny_bind (m := truthy (.bool _)) (wpAny_truthy_bool ?_)) | wp_step)) fun _ _ e => e)))
    | wp_step)
theorem ne_bound {Q : Option Value → Shared → Prop} (X : K.In s.heap) (I : PySem.W.InstAt s.heap x ox C od) (hn : PySem.W.findIn K (.ref C) "__ne__" = some (some (.builtin "object.__ne__")))
    (h : wpAny (model prog w) A (call (.builtin "object.__ne__") [.ref x, b]) (fun v => Q (some v)) E s) : wpAny (model prog w) A (callSpecialIfBound? (.ref x) "__ne__" [b]) Q E s := by
  have last : wpAny (model prog w) A (call (.builtin "object.__ne__") ([.ref x] ++ [b]) >>= fun v => pure (some v)) Q E s := wpAny_bind (wpAny_mono h (fun _ _ q => wpAny_pure q) fun _ _ e => e)
  simp only [callSpecialIfBound?, bindSpecialIfBound?]
  refine wpAny_holding (wpAny_bind (wpAny_bind (wpAny_bind (I.type.here ((PySem.W.looks_findIn X hn).here (wpAny_bind (wpAny_askSetting (wpAny_ite ?_))))))))
  split
  · exact wpAny_bind (wpAny_of_eq (F.cmp_object.ne.bind _) (wpAny_pure last))
  · exact wpAny_tryCatch (wpAny_bind (wpAny_of_eq (F.cmp_object.ne.bind _) (wpAny_pure last)))
end
/-- x != y likewise -/
def rNeOwn (K : PySem.W.Frag) (C : Addr) (sp : Sp) : R2 := fun x y H Q => ∃ (a dx : Addr) (fs : List (Str × V)) (tb : Value), x = .ref a ∧ H a = some (.ins C dx fs) ∧ TyX K H y tb ∧ PySem.W.notFirst K C tb = true ∧ sp [x, y] H (fun v H' => ∃ b, v = .bl b ∧ Q (.bl (!b)) H') C8.E0
section
variable {X : Cx} {C : Addr} {k j : Nat} {sp : Sp}
theorem op_neOwn (c : EqOf X.prog X.w X.K X.mg X.base k C sp) (hn : PySem.W.findIn X.K (.ref C) "__ne__" = some (some (.builtin "object.__ne__"))) (hm : PySem.W.mroIn X.K C (.type "object") = some true) (hr : Room j X.A) (hk : k + 1 ≤ j) :
    OpR X (compareOp .NotEq) (rNeOwn X.K C sp) := by
  intro pins s σ H x y v u Q I rx ry h
  obtain ⟨f, fd, ps, hs, hf, FO, hb⟩ := c.ex
  obtain ⟨a, dx, fs, tb, rfl, ha, ty, nf, q⟩ := h
  cases (show v = Value.ref a from rx)
  obtain ⟨mA, J, _⟩ := ins_get I.hok ha
  obtain ⟨od, J, _⟩ := J.look
  obtain ⟨Ph, kit, hP, _⟩ := kit_of I ry ty
  have hj : Room (k + 1) X.A := hr.mono hk
  have X0 := I.kIn
  have tyb := kit.ty (model X.prog X.w) _ X0 hP
  have r2 : Vals [V.ref a, y] [Value.ref a, u] := .cons rfl (.cons ry .nil)
  have go : wpAny (model X.prog X.w) X.A.in1 (call (.ref f) [.ref a, u]) (fun v s' => ∃ b, v = .bool b ∧ EP X pins σ Q (.bool (!b)) s') X.xe s := by
    refine wpAny_call (codeAny_mono (FO.run X.A.in1 X.stack s H ⟨[.ref a, u], []⟩ [.ref a, u] [.ref a, y] _ C8.E0 hj.in1 I.env0.in1 (by
      have l := FO.len _ _ _ _ q
      have z := hb s [.ref a, u] X0 (by simpa using l)
      simpa using z) r2 q) fun r s' hq => ?_)
    cases r with
    | error e => exact (C8.pass0 (E := C8.E0) pins σ H s e s' I hq)
    | ok fl =>
      cases fl with
      | ret w2 =>
        obtain ⟨z, H', I', rz, b, ez, qz⟩ := I.after hq
        subst ez
        cases (show w2 = Value.bool b from rz)
        exact ⟨b, rfl, .bl (!b), H', I', rfl, qz⟩
      | next => exact False.elim hq
      | brk => exact False.elim hq
      | cont => exact False.elim hq
  have one : wpAny (model X.prog X.w) X.A (tryCompare (.ref a) "__ne__" u) (fun r s' => ∃ v, r = some v ∧ EP X pins σ Q v s') X.xe s := by
    unfold tryCompare
    refine wpAny_bind (ne_bound X0 J hn (wpAny_call (codeAny_call_builtin F.cmp_object.ne.plain F.cmpEntry_ne (PySem.W.check_slot F.cmpKind_ne F.cmpSplit_ne (J.type.andThen (PySem.W.looks_mroIn X0 hm)) (F.cmpArgs_ne _ _)
      (ne_body hj.in1.units0 X0 J hs hf (wpAny_mono go (fun v s' hv => ?_) fun _ _ e => e))))))
    obtain ⟨b, rfl, hq⟩ := hv
    exact ⟨b, rfl, wpAny_pure ⟨_, rfl, hq⟩⟩
  show wpAny _ _ (richCompare .NotEq (.ref a) u) _ _ _
  unfold richCompare
  simp only [cmpInfo, oneThing_ref]
  refine wpAny_holding (wpAny_bind (wpAny_cRoomFor hj.units0 (wpAny_bind (J.type.here (wpAny_bind (tyb.here ?_))))))
  split
  · rename_i ne
    have e : PySem.W.subIn X.K tb (.ref C) = some false := by
      have z := nf
      unfold PySem.W.notFirst at z
      rcases Bool.or_eq_true_iff.mp z with z | z
      · exfalso
        have z2 := eq_of_beq z
        subst z2
        simp at ne
      · exact eq_of_beq z
    refine wpAny_bind ((PySem.W.looks_subIn X0 e).here ?_)
    simp only [Bool.false_eq_true, if_false]
    refine wpAny_bind (wpAny_mono one (fun r s1 z => ?_) fun _ _ e => e)
    obtain ⟨v, rfl, z⟩ := z
    exact wpAny_pure z
  · refine wpAny_bind (wpAny_pure ?_)
    simp only [Bool.false_eq_true, if_false]
    refine wpAny_bind (wpAny_mono one (fun r s1 z => ?_) fun _ _ e => e)
    obtain ⟨v, rfl, z⟩ := z
    exact wpAny_pure z
end
end Hb
set_option Elab.async false
set_option linter.all false
set_option maxRecDepth 100000
set_option maxHeartbeats 4000000
/-! str(x) by a def of the class. -/
namespace Hb
open PySem PySem.Spec PyProof.Rows
section
variable {prog : Program} {w : World} {A : Around} {E : Value → Shared → Prop} {s : Shared} {K : PySem.W.Frag} {x C f : Addr} {ox : Obj} {od : Option Obj}
theorem strOf_own {Q : Value → Shared → Prop} (hu : A.units < cLine) (X : K.In s.heap) (I : PySem.W.InstAt s.heap x ox C od) (hs : PySem.W.findIn K (.ref C) "__str__" = some (some (.ref f))) (hf : PySem.W.isFn K (.ref f) = true)
    (h : wpAny (model prog w) A (call (.ref f) [.ref x]) (fun r z => ∃ y t, r = Value.str y t ∧ Q r z) E s) : wpAny (model prog w) A (Builtin.Str.strOf (.ref x)) Q E s := by
  unfold Builtin.Str.strOf
  refine PySem.W.KFB.if_not rfl (wpAny_bind (m := cRoomFor _ _) (wpAny_cRoomFor hu (wpAny_bind (m := callSpecial? (.ref x) (Str.ofString "__str__")) (PySem.W.special_fn X I hs (beq_iff_eq.mp hf) (wpAny_mono h (fun r z hr => ?_) fun _ _ e => e)))))
  obtain ⟨y, t, rfl, q⟩ := hr
  exact wpAny_pure q
theorem call_str_own {Q : Value → Shared → Prop} (hu : A.in1.in1.units < cLine) (X : K.In s.heap) (I : PySem.W.InstAt s.heap x ox C od) (hs : PySem.W.findIn K (.ref C) "__str__" = some (some (.ref f))) (hf : PySem.W.isFn K (.ref f) = true)
    (h : wpAny (model prog w) A.in1.in1 (call (.ref f) [.ref x]) (fun r z => ∃ y t, r = Value.str y t ∧ Q r z) E s) : wpAny (model prog w) A (call (.type "str") [.ref x]) Q E s := by
  refine callType_codes (T := "str") (Bi := Builtin.«object.__init__») (Q₁ := fun r z => ∃ y t, r = Value.str y t ∧ Q r z) PySem.F.called_str (PySem.F.typeCall_str_1 _) PySem.F.entry_object_init ?_ ?_
  · refine codeAny_of_tree ?_
    show wpAny _ A.in1.in1 (do checkBuiltinCall "str.__new__" ⟨[.type "str", .ref x], []⟩; again (.builtin "str.__new__" ⟨[.type "str", .ref x], []⟩)) _ _ s
    refine wpAny_bind (wpAny_of_eq (PySem.F.newCall_str_1 _) (wpAny_pure ⟨plainId_quiet (by decide +kernel) _, codeAny_builtin PySem.F.entry_str_new ?_⟩))
    rw [Around.under_plainId (by decide +kernel) _, str_new_tree (.ref x)]
    refine wpAny_bind (wpAny_pure (wpAny_bind (wpAny_of_eq isSubtype_str_str (wpAny_bind (wpAny_mono (strOf_own hu X I hs hf (wpAny_mono h (fun r z hr => ?_) fun _ _ e => e)) (fun r z q => wpAny_pure q) fun _ _ e => e)))))
    obtain ⟨y, t, rfl, q⟩ := hr
    exact ⟨y, t, rfl, y, t, rfl, q⟩
  · rintro obj z ⟨y, t, rfl, q⟩
    exact ⟨typeIs_str _ _ _, PySem.F.args_object_init_2 _ _, object_init_meets PySem.F.called_str.init.lookup PySem.F.called_str.made (by decide) prog w A.in1 _ z ⟨typeIs_str _ _ _, rfl, q⟩⟩
end
end Hb
namespace Hb
open PySem PySem.Spec PyProof.Rows L2
/-- the class at C has a __str__ of its own -/
structure StrOf (P : Program) (w : World) (K : PySem.W.Frag) (mg : Str → Option Value) (base : Heap) (k : Nat) (C : Addr) (sp : Sp) : Prop where
  ex : ∃ (f : Addr) (fd : FuncData) (ps : List Str), PySem.W.findIn K (.ref C) "__str__" = some (some (.ref f)) ∧ PySem.W.isFn K (.ref f) = true ∧ FnOk P w K mg base CX0 k f fd ps sp ∧ Binds K fd ps []
def rStrOwn (C : Addr) (sp : Sp) : List V → Hp → VK → Prop := fun xs H Q => ∃ (a dx : Addr) (fs : List (Str × V)), xs = [.ref a] ∧ H a = some (.ins C dx fs) ∧ sp [.ref a] H (fun v H' => ∃ y, v = .str y ∧ Q v H') C8.E0
section
variable {X : Cx} {C : Addr} {k j : Nat} {sp : Sp}
theorem call_strOwn (c : StrOf X.prog X.w X.K X.mg X.base k C sp) (hr : Room j X.A) (hk : k + 2 ≤ j) : CallR X (.type "str") (rStrOwn C sp) := by
  intro pins s σ H xs us Q I r h
  obtain ⟨f, fd, ps, hs, hf, FO, hb⟩ := c.ex
  obtain ⟨a, dx, fs, rfl, ha, q⟩ := h
  rw [Vals.ref1 r]
  obtain ⟨mA, J, _⟩ := ins_get I.hok ha
  obtain ⟨od, J, _⟩ := J.look
  have X0 := I.kIn
  have hj : Room (k + 2) X.A := hr.mono hk
  have h2 : Room k X.A.in1.in1 := (show Room (k + 1) X.A.in1 from hj.in1).in1
  have r2 : Vals [V.ref a] [Value.ref a] := .cons rfl .nil
  refine call_str_own h2.units0 X0 J hs hf (wpAny_call (codeAny_mono (FO.run X.A.in1.in1 X.stack s H ⟨[.ref a], []⟩ [.ref a] [.ref a] _ C8.E0 h2 I.env0.in1.in1 (by
      have l := FO.len _ _ _ _ q
      have z := hb s [.ref a] X0 (by simpa using l)
      simpa using z) r2 q) fun r s' hq => ?_))
  cases r with
  | error e => exact (C8.pass0 (E := C8.E0) pins σ H s e s' I hq)
  | ok fl =>
    cases fl with
    | ret w2 =>
      obtain ⟨z, H', I', rz, y, ez, qz⟩ := I.after hq
      subst ez
      obtain ⟨t, e⟩ := (show ∃ t, w2 = Value.str y t from rz)
      subst e
      exact ⟨y, t, rfl, .str y, H', I', ⟨t, rfl⟩, qz⟩
    | next => exact False.elim hq
    | brk => exact False.elim hq
    | cont => exact False.elim hq
end
end Hb
set_option Elab.async false
set_option linter.all false
set_option maxRecDepth 100000
set_option maxHeartbeats 4000000
namespace Hb
open PySem PySem.Spec PyProof.Rows L2
/-! ### any values: data whose lists are not the deal's -/
mutual
inductive VD (K : PySem.W.Frag) (N : Addr → Prop) (H : Hp) : V → PyData → Prop
  | non : VD K N H .non .none
  | bl (b : Bool) : VD K N H (.bl b) (.bool b)
  | int (i : Int) : VD K N H (.int i) (.int i)
  | str (x : Str) : VD K N H (.str x) (.str x)
  | lst {a : Addr} {xs : List V} {ds : List PyData} : H a = some (.lst xs) → N a → VDs K N H xs ds → VD K N H (.ref a) (.list ds)
  | tup {a : Addr} {xs : List V} {ds : List PyData} : SqT K H a xs → VDs K N H xs ds → VD K N H (.ref a) (.tuple ds)
inductive VDs (K : PySem.W.Frag) (N : Addr → Prop) (H : Hp) : List V → List PyData → Prop
  | nil : VDs K N H [] []
  | cons {v : V} {vs : List V} {e : PyData} {ds : List PyData} : VD K N H v e → VDs K N H vs ds → VDs K N H (v :: vs) (e :: ds)
end
section
variable {K : PySem.W.Frag} {N M : Addr → Prop} {H H' : Hp}
/-- the lists stay -/
def LK (N : Addr → Prop) (H H' : Hp) : Prop := ∀ a xs, N a → H a = some (.lst xs) → H' a = some (.lst xs)
mutual
theorem VD.keep (t : TK H H') (k : LK N H H') (m : ∀ a o, H a = some o → N a → M a) : ∀ {v : V} {e : PyData}, VD K N H v e → VD K M H' v e
  | _, _, .non => .non
  | _, _, .bl b => .bl b
  | _, _, .int i => .int i
  | _, _, .str x => .str x
  | _, _, .lst h n hs => .lst (k _ _ n h) (m _ _ h n) (VDs.keep t k m hs)
  | _, _, .tup h hs => .tup (SqT.keep t h) (VDs.keep t k m hs)
theorem VDs.keep (t : TK H H') (k : LK N H H') (m : ∀ a o, H a = some o → N a → M a) : ∀ {vs : List V} {ds : List PyData}, VDs K N H vs ds → VDs K M H' vs ds
  | _, _, .nil => .nil
  | _, _, .cons h hs => .cons (VD.keep t k m h) (VDs.keep t k m hs)
end
mutual
theorem VD.dp : ∀ {v : V} {e : PyData}, VD K N H v e → Dp K H v e
  | _, _, .non => .non
  | _, _, .bl b => .bl b
  | _, _, .int i => .int i
  | _, _, .str x => .str x
  | _, _, .lst h _ hs => .lst (SqL.of h) (VDs.dp hs)
  | _, _, .tup h hs => .tup h (VDs.dp hs)
theorem VDs.dp : ∀ {vs : List V} {ds : List PyData}, VDs K N H vs ds → DpAll K H vs ds
  | _, _, .nil => .nil
  | _, _, .cons h hs => .cons (VD.dp h) (VDs.dp hs)
end
theorem VDs.app : ∀ {vs ws : List V} {ds es : List PyData}, VDs K N H vs ds → VDs K N H ws es → VDs K N H (vs ++ ws) (ds ++ es)
  | _, _, _, _, .nil, h => h
  | _, _, _, _, .cons h hs, h2 => .cons h (VDs.app hs h2)
theorem VDs.length : ∀ {vs : List V} {ds : List PyData}, VDs K N H vs ds → vs.length = ds.length
  | _, _, .nil => rfl
  | _, _, .cons _ hs => congrArg Nat.succ (VDs.length hs)
theorem depthAll_le {n : Nat} : ∀ {ds : List PyData}, (∀ e ∈ ds, e.depth ≤ n) → PyData.depthAll ds ≤ n
  | [], _ => by simp [PyData.depthAll]
  | d :: ds, h => by
    have h1 := h d List.mem_cons_self
    have h2 := depthAll_le (ds := ds) fun e he => h e (List.mem_cons_of_mem _ he)
    simp only [PyData.depthAll]
    omega
/-- the types that any values have -/
def anyTy : List String := ["NoneType", "bool", "int", "str", "list", "tuple"]
theorem VD.ty {v : V} {e : PyData} (h : VD K N H v e) : ∃ t ∈ anyTy, TyX K H v (.type t) := by
  cases h with
  | non => exact ⟨"NoneType", by decide, .base .non⟩
  | bl b => exact ⟨"bool", by decide, .base (.bl b)⟩
  | int i => exact ⟨"int", by decide, .base (.int i)⟩
  | str x => exact ⟨"str", by decide, .base (.str x)⟩
  | lst h => exact ⟨"list", by decide, ty_lst (SqL.of h)⟩
  | tup h => exact ⟨"tuple", by decide, ty_tup h⟩
end
theorem sub_any {K : PySem.W.Frag} {C : Addr} : ∀ t ∈ anyTy, PySem.W.notFirst K C (.type t) = true := by
  have one : ∀ (t : String) (ts : List Value), fastBuiltinMro t = some ts → ts.contains (Value.ref C) = false → PySem.W.notFirst K C (.type t) = true := fun t ts e n => by
    have q : PySem.W.subIn K (.type t) (.ref C) = some false := by
      show (fastBuiltinMro t).map (·.contains (.ref C)) = some false
      rw [e]
      exact congrArg some n
    unfold PySem.W.notFirst
    rw [q]
    simp
  intro t h
  simp only [anyTy, List.mem_cons, List.not_mem_nil, or_false] at h
  rcases h with rfl | rfl | rfl | rfl | rfl | rfl
  · exact one "NoneType" [.type "NoneType", .type "object"] (by decide +kernel) (by first | rfl | simp)
  · exact one "bool" [.type "bool", .type "int", .type "object"] (by decide +kernel) (by first | rfl | simp)
  · exact one "int" [.type "int", .type "object"] (by decide +kernel) (by first | rfl | simp)
  · exact one "str" [.type "str", .type "object"] (by decide +kernel) (by first | rfl | simp)
  · exact one "list" [.type "list", .type "object"] (by decide +kernel) (by first | rfl | simp)
  · exact one "tuple" [.type "tuple", .type "object"] (by decide +kernel) (by first | rfl | simp)
end Hb
set_option Elab.async false
set_option linter.all false
set_option maxRecDepth 100000
set_option maxHeartbeats 4000000
/-! A class that a local name holds, called. -/
namespace Hb
open PySem PySem.Spec PyProof.Rows L2
/-- c(..), the i-th place holds the class at C -/
def tMakeL (i : Nat) (C : Addr) (sp : Sp) (t : TA) : TE := fun σ H Q => σ[i]? = some (some (.ref C)) ∧ tMake C sp [] C8.E0 t σ H Q
section
variable {X : Cx} {k j i : Nat} {C : Addr} {sp : Sp} {x y : Str} {p pos : Pos} {e : Expr} {es : List Expr} {t : TA}
theorem pe_mkL (c : C8.Mak X.prog X.w X.K X.mg X.base k y C sp []) (hr : Room j X.A) (hk : k + 1 ≤ j) (hN : X.N[i]? = some x) (hv : Vis X.env.scope x) (ha : PA X (e :: es) t) (d1 : (x == ("__debug__" : Str)) = false := by decide) (d2 : (x == ("__classdict__" : Str)) = false := by decide)
    (n1 : starEach (e :: es) X.env = (false, eval e X.env) :: starEach es X.env := by rfl) (n2 : (backTo pos (starEach es X.env)).any (·.1) = false := by rfl) : PE X (.Call (.Name x p) (e :: es) [] pos) (tMakeL i C sp t) := by
  obtain ⟨f, fd, ps, ds, M, F, _, b, d⟩ := c.ex
  refine ⟨fun pins s σ H Q I ⟨at_, q⟩ => wpAny_Call_Name_kw (thn ((pe_var (pos := p) hN hv d1 d2).run pins s σ H (fun v G => v = .ref C ∧ G = H) I ⟨_, at_, rfl, rfl⟩) ?_)⟩
  rintro u s1 ⟨v, G, J, r, rfl, rfl⟩
  obtain rfl : u = Value.ref C := r
  exact PySem.W.callWith_K (h₀ := X.base) J.ok.mod.kin M.kp (thn (ha.run pos pins s1 σ _ _ J q) fun us s2 ⟨vs, H2, J2, r2, q2⟩ => ⟨J2.kIn, run_make M F (hr.mono hk) b d C8.pass0 J2 r2 q2⟩) n1 n2
end
end Hb
set_option Elab.async false
set_option linter.all false
set_option maxRecDepth 100000
set_option maxHeartbeats 4000000
/-! xs[a:b:c] of a list. -/
namespace Hb
open PySem PySem.Spec PyProof.Rows L2
/-- what such a slice picks -/
def pickV {α : Type} (xs : List α) (lo hi st : Option Int) : List α := (sliceRange (sliceBounds lo hi st xs.length).1 (sliceBounds lo hi st xs.length).2.1 (sliceBounds lo hi st xs.length).2.2).filterMap (xs[·]?)
theorem vals_pick {xs : List V} {us : List Value} (r : Vals xs us) : ∀ is : List Nat, Vals (is.filterMap (xs[·]?)) (is.filterMap (us[·]?))
  | [] => .nil
  | i :: is => by
    have ih := vals_pick r is
    cases h : xs[i]? with
    | none =>
      have l := r.length
      have h2 : us[i]? = none := List.getElem?_eq_none_iff.mpr (by have := List.getElem?_eq_none_iff.mp h; omega)
      rw [List.filterMap_cons, List.filterMap_cons]
      simp only [h, h2]
      exact ih
    | some x =>
      obtain ⟨u, hu, ru⟩ := r.get h
      rw [List.filterMap_cons, List.filterMap_cons]
      simp only [h, hu]
      exact .cons ru ih
def tSl3 (K : PySem.W.Frag) (te : TE) (tl th tc : TO) : TE := fun σ H Q => te σ H fun x H1 => tl σ H1 fun lo H2 => th σ H2 fun hi H3 => tc σ H3 fun st H4 => ∃ (a : Addr) (xs : List V), x = .ref a ∧ SqL K H4 a xs ∧ st ≠ some 0 ∧ (pickV xs lo hi st).length ≤ sizeLine ∧
  ∀ p, H4 p = none → Q (.ref p) (upd H4 p (.lst (pickV xs lo hi st)))
section
variable {X : Cx} {e c : Expr} {lo hi : Option Expr} {te : TE} {tl th tc : TO} {p2 pos : Pos}
theorem pe_slice3 (he : PE X e te) (hl : PO X lo tl) (hu : PO X hi th) (hc : PO X (some c) tc) : PE X (.Subscript e (.Slice lo hi (some c) p2) pos) (tSl3 X.K te tl th tc) := by
  refine ⟨fun pins s σ H Q I h => Subscript_ (thn (he.run pins s σ H _ I h) fun v s1 ⟨x, H1, I1, r1, q1⟩ => wpAny_Slice (thn (hl.run pins s1 σ H1 _ I1 q1) fun vl s2 ⟨l, H2, I2, pl, q2⟩ => thn (hu.run pins s2 σ H2 _ I2 q2) fun vu s3 ⟨u, H3, I3, pu, q3⟩ => thn (hc.run pins s3 σ H3 _ I3 q3) fun vt s4 ⟨st, H4, I4, pt, q4⟩ => ?_))⟩
  obtain ⟨a, xs, rfl, hx, n0, few, q⟩ := q4
  obtain rfl : v = Value.ref a := r1
  have J : Inv X pins σ H4 { s4 with heap := s4.heap.push { cls := .type "slice", data := .fields #[vl, vu, vt] } } := I4.kept (t' := s4.toks) fun b ob z => Heap.get?_push_of_some _ z
  obtain ⟨its, r, ht, hz⟩ := J.list hx
  have len := r.length
  show wpAny (model X.prog X.w) X.A (subscriptTail e (.Slice lo hi (some c) p2) (.ref a) (.ref s4.heap.objs.size)) (EP X pins σ Q) X.xe { s4 with heap := s4.heap.push { cls := .type "slice", data := .fields #[vl, vu, vt] } }
  refine tail_any (T := "list") (ops := [.ref a, .ref s4.heap.objs.size]) ht.isList.typeIs slot_list_getitem.lookup (wpAny_getItem_list_slice ht.isList (Heap.IsSliceOf.new ..) pl pu pt n0 ?_ (by rw [List.size_toArray] <;> omega)) (by first | rfl | (unfold subscripted; rfl) | simp [subscripted])
  have e1 : slicePick its.toArray l u st = (pickV its l u st).toArray := by
    unfold slicePick pickV
    simp only [List.size_toArray, List.getElem?_toArray]
  have vp : Vals (pickV xs l u st) (pickV its l u st) := by
    unfold pickV
    rw [len]
    exact vals_pick r _
  rw [e1]
  refine ⟨.ref _, _, J.laid (t' := s4.toks) (o := .lst (pickV xs l u st)) (fun b ob z => Heap.get?_push_of_some _ z) (Nat.le_refl _) ?_, rfl, q _ (J.hok.fresh (Nat.le_refl _))⟩
  exact ⟨few, _, 0, vp, Heap.get?_push_size _ rfl⟩
end
end Hb
set_option Elab.async false
set_option linter.all false
set_option maxRecDepth 100000
set_option maxHeartbeats 8000000
/-! Sets of texts, with the order of their table. -/
namespace Hb
open PySem PySem.Spec PyProof.Rows L2
def keyS (e : Int × Value) : Str := match e.2 with | .str k _ => k | _ => Str.empty
def GoodS (P : Program) (w : World) (e : Int × Value) : Prop := ∃ k tk, e.2 = Value.str k tk ∧ e.1 = (PySem.strKind P w).hash k
/-- the set of texts at a: its members are l, unlike ones -/
structure SetTx (P : Program) (w : World) (h : Heap) (a : Addr) (l : List Str) (o : Obj) (es : Array (Int × Value)) (ep : Nat) (t : SetTable) : Prop where
  ho : h.get? a = some o
  ex : o.ExactSet
  hd : o.data = .set es ep t
  good : ∀ e ∈ es.toList, GoodS P w e
  mem : (es.toList.map keyS).Perm l
  few : es.size < scanBound
  fits : t.fits es.size = true
  ris : Ris t.place.toList
  led : w.params.followText "set-order" = true ∨ t.led = true
def SetT (P : Program) (w : World) (h : Heap) (a : Addr) (l : List Str) : Prop := ∃ o es ep t, SetTx P w h a l o es ep t
section
variable {P : Program} {w : World} {A : Around} {E : Value → Shared → Prop} {s : Shared} {h h' : Heap} {a : Addr} {l m : List Str}
theorem SetT.at (R : SetT P w h a l) (k : ∀ o, h.get? a = some o → h'.get? a = some o) : SetT P w h' a l := by
  obtain ⟨o, es, ep, t, x⟩ := R
  exact ⟨o, es, ep, t, k o x.ho, x.ex, x.hd, x.good, x.mem, x.few, x.fits, x.ris, x.led⟩
theorem SetT.perm (R : SetT P w h a l) (p : l.Perm m) : SetT P w h a m := by
  obtain ⟨o, es, ep, t, x⟩ := R
  exact ⟨o, es, ep, t, x.ho, x.ex, x.hd, x.good, x.mem.trans p, x.few, x.fits, x.ris, x.led⟩
theorem goodS_is {e : Int × Value} (g : GoodS P w e) (k : Str) : (PySem.strKind P w).is k e.2 = true ↔ keyS e = k := by
  obtain ⟨j, tk, e1, _⟩ := g
  have z := strKind_is P w j tk
  unfold keyS
  rw [e1]
  constructor
  · intro q
    exact (PySem.strKind P w).inj _ _ _ z q
  · rintro rfl
    exact z
theorem elemsS {l : List (Int × Value)} (g : ∀ e ∈ l, GoodS P w e) : ElemsOf (PySem.strKind P w) l := fun e he => by
  obtain ⟨k, tk, e1, e2⟩ := g e he
  exact ⟨⟨k, by rw [e1]; exact strKind_is P w k tk, e2⟩, by rw [e1] <;> rfl⟩
/-- what is laid into the table, and the table laid anew where it is too full -/
theorem add_text_tail {g : Bool → Sem Unit} (hg : ∀ (b : Bool) (z : Shared) (Q' : Unit → Shared → Prop), Q' () z → wpAny (model P w) A (g b) Q' E z) {o : Obj} {es : Array (Int × Value)} {ep : Nat} {t : SetTable} (ho : s.heap.get? a = some o) (hex : o.ExactSet) (hd : o.data = .set es ep t)
    {es1 : Array (Int × Value)} {t2 : SetTable} (g1 : ∀ e ∈ es1.toList, GoodS P w e) (m1 : (es1.toList.map keyS).Perm l) (b1 : es1.size < scanBound) (f2 : t2.fits es1.size = true) (r2 : Ris t2.place.toList) (l2 : w.params.followText "set-order" = true ∨ t2.led = true) {dummy : Bool} {R : Option Bool → Shared → Prop}
    (hR : ∀ h', Heap.SameBut a s.heap h' → SetT P w h' a l → R (some true) { s with heap := h' }) :
    wpAny (model P w) A (do
        storeSet a es1 t2
        if (!dummy && t2.tooFull) = true then do
            g (relayAll t2 es1 (SetTable.grown es1.size)).2.2
            storeSet a (relayAll t2 es1 (SetTable.grown es1.size)).1 (relayAll t2 es1 (SetTable.grown es1.size)).2.1
            pure (some true)
          else pure (some true)) R E s := by
  have o1 := store_at (es' := es1) (t' := t2) ho hd
  have same1 := Heap.SameBut.update s.heap a (Obj.putSet es1 t2)
  refine wpAny_bind (wpAny_storeSet_of ho hd (?_ : wpAny _ _ _ _ _ _) (fits_of_scanBound b1))
  split
  · have z1 := relayAll_perm t2 es1 (SetTable.grown es1.size)
    have z2 := relayAll_fits t2 es1 (SetTable.grown es1.size)
    have z3 := relayAll_ris t2 es1 (SetTable.grown es1.size)
    have z4 := relayAll_led t2 es1 (SetTable.grown es1.size)
    generalize relayAll t2 es1 (SetTable.grown es1.size) = Y at z1 z2 z3 z4 ⊢
    obtain ⟨es2, t3, gave⟩ := Y
    simp only at z1 z2 z3 z4 ⊢
    have sz : es2.size = es1.size := by rw [← Array.length_toList, z1.length_eq, Array.length_toList]
    have b2 : es2.size < scanBound := sz ▸ b1
    refine wpAny_bind (hg _ _ _ (wpAny_bind (wpAny_storeSet_of o1 rfl (wpAny_pure (hR _ (same1.trans (Heap.SameBut.update _ a _)) ?_)) (fits_of_scanBound b2))))
    exact ⟨_, es2, _, t3, store_at (es' := es2) (t' := t3) o1 rfl, hex, rfl, fun e he => g1 e (z1.mem_iff.mp he), (z1.map keyS).trans m1, b2, z2, z3, l2.imp id fun z => by rw [z4]; exact z⟩
  · exact wpAny_pure (hR _ same1 ⟨_, es1, _, t2, o1, hex, rfl, g1, m1, b1, f2, r2, l2⟩)
theorem add_text {k : Str} {tk : Tok} {Q : Bool → Shared → Prop} (R : SetT P w s.heap a l) (nd : l.Nodup) (room : l.length + 1 < scanBound) (hQ : ∀ h' b, Heap.SameBut a s.heap h' → SetT P w h' a (if k ∈ l then l else k :: l) → Q b { s with heap := h' }) :
    wpAny (model P w) A (setAddHashed a (.str k tk) ((PySem.strKind P w).hash k)) Q E s := by
  obtain ⟨o, es, ep, t, ho, hex, hd, g, pm, hb, hf, hr, hl⟩ := R
  have key : (PySem.strKind P w).is k (.str k tk) = true := strKind_is P w k tk
  have hsc : (Value.str k tk).scannable = true := rfl
  have hel := elemsS g
  unfold setAddHashed setAddHashedIn
  refine wpAny_holding (wpAny_bind (wpAny_setState_of ho hd hf (?_ : wpAny _ _ _ _ _ _)))
  dsimp only
  rw [byScan_of hsc hb hel]
  simp only [↓reduceIte]
  unfold setAddByScan
  refine wpAny_bind (wpAny_bind (wpAny_rule (wpAny_bind (wpAny_setScan_of key ho hd hf hel ?_))))
  cases fi : List.findIdx? (fun e => (PySem.strKind P w).is k e.2) es.toList with
  | some j =>
    dsimp only
    obtain ⟨hj, pj, _⟩ := List.findIdx?_eq_some_iff_getElem.mp fi
    have inl : k ∈ l := pm.mem_iff.mp (List.mem_map.mpr ⟨_, List.getElem_mem hj, (goodS_is (g _ (List.getElem_mem hj)) k).mp pj⟩)
    refine wpAny_pure (wpAny_pure (hQ s.heap _ (Heap.SameBut.refl a s.heap) ?_))
    rw [if_pos inl]
    exact ⟨o, es, ep, t, ho, hex, hd, g, pm, hb, hf, hr, hl⟩
  | none =>
    dsimp only
    have notl : k ∉ l := fun z => by
      obtain ⟨e, he, q⟩ := List.mem_map.mp (pm.mem_iff.mpr z)
      have c := List.findIdx?_eq_none_iff.mp fi e he
      rw [(goodS_is (g e he) k).mpr q] at c
      cases c
    have gw : ∀ (b : Bool) {z : Shared} {Q' : Unit → Shared → Prop}, Q' () z → wpAny (model P w) A (match b with | true => rule "set.scan.the-table-gave-way" | false => pure ()) Q' E z := fun b z Q' q => by
      cases b
      · exact wpAny_pure q
      · exact wpAny_rule q
    have y1 := layNew_perm t es ((PySem.strKind P w).hash k) (.str k tk)
    have y2 := layNew_fits t es ((PySem.strKind P w).hash k) (.str k tk)
    have y3 := layNew_ris t es ((PySem.strKind P w).hash k) (.str k tk) hr
    have y4 := layNew_led t es ((PySem.strKind P w).hash k) (.str k tk)
    generalize layNew t es ((PySem.strKind P w).hash k) (.str k tk) = Y at y1 y2 y3 y4 ⊢
    obtain ⟨es1, t1, dummy, gave⟩ := Y
    simp only at y1 y2 y3 y4 ⊢
    rw [Array.toList_push] at y1
    have pc : es1.toList.Perm (((PySem.strKind P w).hash k, Value.str k tk) :: es.toList) := y1.trans (List.perm_append_singleton _ _)
    have g1 : ∀ e ∈ es1.toList, GoodS P w e := fun e he => (List.mem_cons.mp (pc.mem_iff.mp he)).elim (fun z => by rw [z]; exact ⟨k, tk, rfl, rfl⟩) (g e)
    have m1 : (es1.toList.map keyS).Perm (k :: l) := (pc.map keyS).trans (pm.cons k)
    have lenl : es.size = l.length := by rw [← pm.length_eq, List.length_map, Array.length_toList]
    have b1 : es1.size < scanBound := by rw [← Array.length_toList, pc.length_eq, List.length_cons, Array.length_toList, lenl]; exact room
    have l1 : w.params.followText "set-order" = true ∨ t1.led = true := hl.imp id fun z => by rw [y4]; exact z
    have fin : ∀ h', Heap.SameBut a s.heap h' → SetT P w h' a (k :: l) → Q true { s with heap := h' } := fun h' sb r => hQ h' true sb (by rw [if_neg notl]; exact r)
    refine wpAny_bind (gw _ ?_)
    split
    · refine wpAny_bind ?_
      rw [hashByValue_scannable 8 hsc]
      refine wpAny_pure (add_text_tail (fun b z Q' q => gw b q) ho hex hd g1 m1 b1 ?_ ?_ ?_ fun h' sb r => ?_)
      · first | (split <;> first | exact y2 | exact SetTable.fits_plain_off y2) | exact y2
      · first | (split <;> exact y3) | exact y3
      · first | (split <;> exact l1) | exact l1
      · dsimp only
        exact wpAny_pure (fin h' sb r)
    · refine wpAny_bind (wpAny_pure ?_)
      simp only [↓reduceIte]
      refine add_text_tail (fun b z Q' q => gw b q) ho hex hd g1 m1 b1 y2 y3 l1 fun h' sb r => ?_
      dsimp only
      exact wpAny_pure (fin h' sb r)
end
end Hb
set_option Elab.async false
set_option linter.all false
set_option maxRecDepth 100000
set_option maxHeartbeats 8000000
/-! set(texts) with repeats; sorted of such a set. -/
namespace Hb
open PySem PySem.Spec PyProof.Rows
/-- the unlike ones -/
def Uniq (l xs : List Str) : Prop := l.Nodup ∧ l.length ≤ xs.length ∧ ∀ k, k ∈ l ↔ k ∈ xs
theorem Uniq.more {l xs : List Str} {k : Str} (u : Uniq l xs) : Uniq (if k ∈ l then l else k :: l) (xs ++ [k]) := by
  obtain ⟨a, b, c⟩ := u
  by_cases h : k ∈ l
  · rw [if_pos h]
    refine ⟨a, by rw [List.length_append]; exact Nat.le_trans b (Nat.le_add_right _ _), fun j => ?_⟩
    rw [List.mem_append, List.mem_singleton, c j]
    exact ⟨.inl, fun z => z.elim id fun e => by rw [e]; exact (c k).mp h⟩
  · rw [if_neg h]
    refine ⟨List.nodup_cons.mpr ⟨h, a⟩, by rw [List.length_append]; exact Nat.succ_le_succ b, fun j => ?_⟩
    rw [List.mem_append, List.mem_singleton, List.mem_cons, c j]
    exact Or.comm
section
variable {prog : Program} {w : World} {A : Around} {R : Result → Shared → Prop} {I : Addr} {fp wr : List Addr} {G : Array GenState → Array GenState → Prop} {n : Nat} {P : Nat → Value → Prop} {Z : Nat → Shared → Prop}
theorem turns_any (W : WalksS prog w A.in1 I fp wr G n P Z) (S : Addr) (apart : S ∉ fp) (xs : List Str) (len : xs.length = n) (few : n + 1 < scanBound)
    (told : ∀ i v, P i v → ∃ t, v = .str (xs.getD i Str.empty) t) : ∀ (left i : Nat) (s : Shared), n - i = left → i ≤ n → Z i s →
      (∃ l, SetT prog w s.heap S l ∧ Uniq l (xs.take i)) →
      (∀ s' l, Moved (S :: wr) G s s' → SetT prog w s'.heap S l → Uniq l xs → R (.ok (.ret .none)) s') →
      codeAny (model prog w) A (.builtin "set.update.loop" ⟨[.ref S, .ref I], []⟩) R s := by
  have nwr : S ∉ wr := fun h => apart (W.sub _ h)
  have up : ∀ b ∈ wr, b ∈ S :: wr := fun b hb => List.mem_cons_of_mem _ hb
  intro left
  induction left with
  | zero =>
    intro i s hk hi hst ⟨l, hS, u⟩ hR
    obtain rfl : i = n := by omega
    refine codeAny_builtin PyProof.Rows.F.entry_set_update_loop (by
      rw [Around.under_plainId PyProof.Rows.F.plain_set_update_loop _]; show wpAny _ A.in1 (pyNext (.ref I) >>= _) _ _ s
      refine wpAny_bind (W.done s _ _ hst fun s' hm => ?_); show wpAny _ A.in1 (ret Value.none) _ _ s'
      refine wpAny_pure (hR s' l (hm.mono up) (hS.at fun o e => hm.heap S o nwr e) ?_)
      rw [← len, List.take_length] at u
      exact u)
  | succ left ih =>
    intro i s hk hi hst ⟨l, hS, u⟩ hR
    have lt : i < n := by omega
    have lt2 : i < xs.length := by omega
    refine codeAny_builtin PyProof.Rows.F.entry_set_update_loop (by
      rw [Around.under_plainId PyProof.Rows.F.plain_set_update_loop _]; show wpAny _ A.in1 (pyNext (.ref I) >>= _) _ _ s
      refine wpAny_bind (W.item i s _ _ lt hst fun v s' hP hst' hm => ?_)
      obtain ⟨t, rfl⟩ := told i v hP
      have hS' : SetT prog w s'.heap S l := hS.at fun o e => hm.heap S o nwr e
      have ll := u.2.1
      rw [List.length_take] at ll
      show wpAny _ A.in1 (holding [Value.str (xs.getD i Str.empty) t] (setAdd S (.str (xs.getD i Str.empty) t)) >>= _) _ _ s'
      refine wpAny_bind (wpAny_holding ?_); unfold setAdd
      refine wpAny_holding (wpAny_bind ((PySem.strKind prog w).pyHash (k := xs.getD i Str.empty) (strKind_is _ _ _ _) ?_))
      refine add_text (s := { s' with toks := s'.toks + 1 }) (l := l) hS' u.1 (by omega) fun h' b same hS2 => ?_
      have u2 : Uniq (if xs.getD i Str.empty ∈ l then l else xs.getD i Str.empty :: l) (xs.take (i + 1)) := by
        rw [more_text xs lt2]
        exact u.more
      refine wpAny_pure ⟨plainId_quiet PyProof.Rows.F.plain_set_update_loop _, ih (i + 1) _ (by omega) lt (W.frame _ s' _ _ hst' (Nat.le_succ _) fun b hb o e => ?_) ⟨_, hS2, u2⟩ fun s'' l2 hm2 hS4 u4 => ?_⟩
      · rw [same.2 b (fun h : b = S => apart (h ▸ hb))]; exact e
      · refine hR s'' l2 (Moved.trans W.gtrans ((hm.mono up).then_heap (Nat.le_succ _) fun b o hb e => ?_) hm2) hS4 u4
        rw [same.2 b (fun h : b = S => hb (by rw [h]; exact List.mem_cons_self))]; exact e)
end
section
variable {prog : Program} {w : World} {A : Around} {E : Value → Shared → Prop} {s : Shared}
abbrev newSet (w : World) : Obj := { cls := .type "set", dict := none, data := .set #[] 0 (.fresh 0 0 (!w.params.followText "set-order")) }
theorem setT_new {h : Heap} {a : Addr} (ho : h.get? a = some (newSet w)) : SetT prog w h a [] :=
  ⟨_, #[], 0, _, ho, ⟨rfl, rfl, rfl⟩, rfl, (fun e he => by simp at he), List.Perm.refl _, (by decide), (by rfl), List.Pairwise.nil, by
    show _ ∨ (!w.params.followText "set-order") = true
    cases w.params.followText "set-order" <;> simp⟩
/-- set(xs) of a list of texts -/
theorem set_textsR {l : Addr} {its : Array Value} {xs : List Str} {Q : Value → Shared → Prop} (calm : A.handled = none) (at_ : s.heap.IsList l its) (are : StrsAre its.toList xs) (few : xs.length + 1 < scanBound)
    (k : ∀ (h' : Heap) (tk : Nat) (us : List Str), SetT prog w h' s.heap.objs.size us → Uniq us xs → (∀ b o, s.heap.get? b = some o → h'.get? b = some o) → Q (.ref s.heap.objs.size) { s with heap := h', toks := tk }) :
    wpAny (model prog w) A (call (.type "set") [.ref l]) Q E s := by
  have size : its.size = xs.length := by have q := are.length; rw [Array.length_toList] at q; exact q
  obtain ⟨c, tl, mro⟩ := F.called_set.mro
  have f1 := F.called_set.made; have f2 := F.called_set.sub; have f3 := F.called_set.notType; have f4 := F.called_set.canCreate; have f5 := F.typeCall_set_1 (.ref l)
  refine wpAny_call (codeAny_of_tree (by
    show wpAny _ _ (callAny (.type "set") _) _ _ _
    refine wpAny_pure ⟨Code.quiet_builtin _ (by decide +kernel), codeAny_builtin F.entry_type_call ?_⟩
    rw [Around.under_plain (weight_type_call_type "set" [.ref l] []) rfl]
    repeat (any_goals (first | assumption | wp_step))
    refine codeAny_mono (L2.code_set_led1 (.ref l) (E := E) (Q₁ := fun v z => v = .ref s.heap.objs.size ∧ z = { s with heap := s.heap.push (newSet w) }) ⟨rfl, rfl⟩) fun r z hr => ?_
    match r, hr with
    | .error e, hr => exact hr
    | .ok .next, hr => exact hr.elim
    | .ok .brk, hr => exact hr.elim
    | .ok .cont, hr => exact hr.elim
    | .ok (.ret v), ⟨e1, e2⟩ =>
      subst e1 e2
      have mine : (s.heap.push (newSet w)).get? s.heap.objs.size = some (newSet w) := Heap.get?_push_size _ rfl
      have kind : Shared.TypeIs { s with heap := s.heap.push (newSet w) } (.ref s.heap.objs.size) "set" := ⟨_, mine, rfl⟩
      have f6 := F.called_set.init.lookup; have f7 := F.called_set.init.bind (.ref s.heap.objs.size)
      repeat (any_goals (first | assumption | wp_step))
      refine codeAny_mono (codeAny_call_builtin (R := wants (fun r z => r = .none ∧ ∃ h' tk us, z = { s with heap := h', toks := tk } ∧
        SetT prog w h' s.heap.objs.size us ∧ Uniq us xs ∧ ∀ b o, s.heap.get? b = some o → h'.get? b = some o) E) F.called_set.init.plain F.entry_set_init (check_set_init_1 kind ?_)) fun r2 z2 hr2 => ?_
      · obtain ⟨⟨ocls, odict, odata, oslots⟩, ho, hc, nl, hd⟩ := at_
        simp only at hc hd; subst hc hd
        have ho2 : (s.heap.push (newSet w)).get? l = some { cls := .type "list", dict := odict, data := .seq its nl, slots := oslots } := Heap.get?_push_of_some _ ho
        have g1 := F.sub_list_set; have g2 := F.sub_list_frozenset; have g3 : (Value.type "list" == Value.type "dict") = false := by decide
        have ml : (s.heap.push (newSet w)).IsList l its := ⟨_, ho2, rfl, nl, rfl⟩
        unfold Builtin.«set.__init__» noKeywords Builtin.Frozenset.updateFrom
        generalize hI : pyIter = It
        wp_walk
        subst hI
        have lo : l < s.heap.objs.size := Heap.lt_size ho
        have far : l ≠ (s.heap.push (newSet w)).objs.size := by rw [Heap.size_push]; exact Nat.ne_of_lt (Nat.lt_succ_of_lt lo)
        refine wpAny_pyIter_list ml (wpAny_bind (wpAny_runValue (turns_any ((Walks.list (by simp [calm]) _ l far its).toS) s.heap.objs.size (by
            rw [Heap.size_push]; simp only [List.mem_cons, List.not_mem_nil, or_false, not_or]
            exact ⟨Nat.ne_of_lt (Nat.lt_succ_self _), Nat.ne_of_gt lo⟩) xs size.symm (by omega) (fun i v hv => SS.strs_at are i v (by rw [Array.getElem?_toList]; exact hv)) (its.size - 0) 0 _ (by omega) (Nat.zero_le _)
          ⟨⟨_, Heap.get?_push_size _ rfl, rfl, rfl⟩, (ml.push _)⟩ ?zer ?fin1)))
        case zer =>
          have e0 : ((s.heap.push (newSet w)).push { cls := .type "list_iterator", data := .fields #[.ref l, .int 0 0] }).get? s.heap.objs.size = some (newSet w) := Heap.get?_push_of_some _ mine
          exact ⟨[], setT_new e0, List.nodup_nil, Nat.zero_le _, fun k => by simp⟩
        case fin1 =>
          rintro ⟨h', g', d', tk', os'⟩ us hm hS hu
          obtain rfl : g' = s.gens := hm.gens
          obtain rfl : d' = s.drawn := hm.drawn
          obtain rfl : os' = s.os := hm.os
          show wpAny _ _ _ _ _ _
          refine wpAny_pure (by
            show wpAny _ _ (ret Value.none) _ _ _
            refine wpAny_pure ⟨rfl, h', tk', us, rfl, hS, hu, fun b o e => hm.heap b o ?_ (Heap.get?_push_of_some _ (Heap.get?_push_of_some _ e))⟩
            have lb := Heap.lt_size e
            rw [Heap.size_push]; simp only [List.mem_cons, List.not_mem_nil, or_false, not_or]
            exact ⟨Nat.ne_of_lt lb, Nat.ne_of_lt (Nat.lt_succ_of_lt lb)⟩)
      · match r2, hr2 with
        | .error e, h => exact h
        | .ok .next, h => exact h.elim
        | .ok .brk, h => exact h.elim
        | .ok .cont, h => exact h.elim
        | .ok (.ret v), ⟨e1, h', tk, us, e2, hS, hu, hk⟩ =>
          subst e1 e2
          repeat (any_goals (first | assumption | wp_step))
          exact k _ _ _ hS hu hk))
end
end Hb
set_option Elab.async false
set_option linter.all false
set_option maxRecDepth 100000
set_option maxHeartbeats 8000000
/-! sorted(set(texts)). -/
namespace Hb
open PySem PySem.Spec PyProof.Rows
section
variable {P : Program} {w : World} {A : Around} {E : Value → Shared → Prop} {s : Shared} {a : Addr} {l : List Str}
theorem strs_of : ∀ vs : List Value, (∀ v ∈ vs, ∃ k tk, v = Value.str k tk) → ∃ ss, StrsAre vs ss ∧ vs.map (fun v => match v with | .str k _ => k | _ => Str.empty) = ss
  | [], _ => ⟨[], .nil, rfl⟩
  | v :: vs, h => by
    obtain ⟨k, tk, rfl⟩ := h v List.mem_cons_self
    obtain ⟨ss, h1, h2⟩ := strs_of vs fun u hu => h u (List.mem_cons_of_mem _ hu)
    exact ⟨k :: ss, .cons k tk h1, by rw [List.map_cons, h2]⟩
theorem sorted_setT {Q : Value → Shared → Prop} (R : SetT P w s.heap a l) (calm : A.handled = none) (few : l.length < 64)
    (hQ : ∀ s' p (out : Array Value) (c : Nat) (ns : List Str), (∀ b o, s.heap.get? b = some o → s'.heap.get? b = some o) → s'.gens = s.gens → s'.os = s.os → s.heap.objs.size ≤ p →
      s'.heap.get? p = some (seqObj "list" out c) → StrsAre out.toList ns → sortedS ns = true → ns.Perm l → Q (.ref p) s') : wpAny (model P w) A (call (.builtin "sorted") [.ref a]) Q E s := by
  obtain ⟨o, es, ep, t, x⟩ := R
  have lenl : es.size = l.length := by rw [← x.mem.length_eq, List.length_map, Array.length_toList]
  refine Calls.call_function_entry kind_sorted plain_sorted entry_sorted (args_sorted1 _) ?_
  unfold Builtin.«sorted»
  refine wpAny_bind (m := checkCount "sorted" 1 1 _) (wpAny_pure (wpAny_bind (L2.collect_set (A := A.in1) calm ⟨o, x.ho, x.ex.1, x.hd⟩ x.fits x.few x.ris x.led fun s1 vs k1 hz g1 o1 pm => ?_)))
  have hvl : vs.length = l.length := by rw [pm.length_eq, List.length_map, Array.length_toList]; exact lenl
  obtain ⟨ss, hS, e⟩ := strs_of vs fun v hv => by
    obtain ⟨e, he, q⟩ := List.mem_map.mp (pm.mem_iff.mp hv)
    obtain ⟨k, tk, h1, _⟩ := x.good e he
    exact ⟨k, tk, by rw [← q]; exact h1⟩
  have ps : ss.Perm l := by
    have q := pm.map (fun v => match v with | Value.str k _ => k | _ => Str.empty)
    rw [e, List.map_map] at q
    exact q.trans x.mem
  have v64 : vs.length < 64 := by rw [hvl]; exact few
  refine wpAny_bind (wpAny_newList ?_ (by rw [hvl, sizeLine_eq]; omega))
  have hoL : (s1.heap.push (seqObj "list" vs.toArray 0)).get? s1.heap.objs.size = some (seqObj "list" vs.toArray 0) := Heap.get?_push_size _ rfl
  refine wpAny_bind (wpAny_holding (wpAny_call_entry slot_list_sort ⟨_, hoL, rfl⟩ entry_list_sort (list_sort_treeK strKind_oneLt hoL hS.keysOf (fun v₁ v₂ rest e => keyKind_strs (by rw [← e]; exact hS)) v64 fun st' a1 a2 => ⟨_, rfl, ?_⟩) (args_list_sort _)))
  obtain ⟨ss', b1, b2, b3⟩ := sorted_out_str hS a1 a2
  obtain ⟨c, hc⟩ := sortedHeap_at (vs := vs) (out := (arrOf st').map (·.2)) hoL
  refine wpAny_pure ⟨_, rfl, hQ _ s1.heap.objs.size _ c ss' (fun b u e => ?_) g1 o1 hz hc b1 b3 (b2.trans ps)⟩
  have q := k1 b u e
  have lt := Heap.lt_size q
  show (sortedHeap (s1.heap.push (seqObj "list" vs.toArray 0)) s1.heap.objs.size vs _).get? b = some u
  rw [sortedHeap_old (Nat.ne_of_lt lt) (by rw [size_push']; exact Nat.lt_succ_of_lt lt)]
  exact Heap.get?_push_of_some _ q
end
end Hb
namespace Hb
open PySem PySem.Spec PyProof.Rows L2
/-- sorted(set(xs)), xs a list of texts -/
def tSortSet (K : PySem.W.Frag) (ta : TE) : TE := fun σ H Q => ta σ H fun x H1 => ∃ (l : Addr) (xs : List Str), x = .ref l ∧ SqL K H1 l (xs.map V.str) ∧ xs.length < 64 ∧
  ∀ (ns : List Str) (p : Addr), ns.Nodup → (∀ k, k ∈ ns ↔ k ∈ xs) → sortedS ns = true → H1 p = none → Q (.ref p) (upd H1 p (.lst (ns.map V.str)))
theorem pe_sortSet {X : Cx} {a : Expr} {ta : TE} {p p2 q pos : Pos} (hg : Gl X "sorted") (hm : X.mg "sorted" = none) (hg2 : Gl X "set") (hm2 : X.mg "set" = none) (ha : PE X a ta) (calm : X.calm = true := by rfl)
    (na : starEach [a] X.env = (false, eval a X.env) :: starEach [] X.env := by rfl) : PE X (.Call (.Name "sorted" p) [.Call (.Name "set" p2) [a] [] q] [] pos) (tSortSet X.K ta) := by
  refine ⟨fun pins s σ H Q I h => Call_ (ld_blt I hg hm boot_sorted (callWith_builtin1 (args_cons (Call_ (ld_blt I hg2 hm2 boot_set
    (callWith_type1 (args_cons (thn (ha.run pins s σ H _ I h) fun v z ⟨x, H1, J, r, q⟩ => args_nil ?_) na) na rfl))) rfl) rfl rfl))⟩
  obtain ⟨l, xs, rfl, hq, few, q⟩ := q
  cases r
  obtain ⟨its, rv, pl, hz⟩ := J.list hq
  refine set_textsR (J.ok.hd calm) pl.isList (by simpa using strsAre_of rv) (by unfold scanBound; omega) fun h' tk us hS hu hk => args_nil ?_
  have J2 : Inv X pins σ H1 { z with heap := h', toks := tk } := J.kept hk
  refine sorted_setT hS (J.ok.hd calm) (Nat.lt_of_le_of_lt hu.2.1 few) fun s' p out c ns k1 g1 o1 lt at_ hs so pm => ?_
  have nl : (ns.map V.str).length ≤ sizeLine := by rw [List.length_map, pm.length_eq, sizeLine_eq]; have := hu.2.1; omega
  have free : H1 p = none := J2.hok.fresh lt
  have J3 : Inv X pins σ (upd H1 p (.lst (ns.map V.str))) { { z with heap := h', toks := tk } with heap := s'.heap, gens := s'.gens, drawn := s'.drawn, toks := s'.toks } :=
    J2.call (ch := []) (Un.laid k1 lt free) (J2.hok.laid k1 lt ⟨nl, out.toList, c, vals_of_strs hs, at_⟩) (by rw [g1]; exact J2.bare) fun _ y => nomatch y
  have e : s' = { { z with heap := h', toks := tk } with heap := s'.heap, gens := s'.gens, drawn := s'.drawn, toks := s'.toks } := by
    cases s'
    cases z
    cases o1
    rfl
  rw [e]
  exact ⟨.ref p, _, J3, rfl, q ns p (pm.nodup_iff.mpr hu.1) (fun k => pm.mem_iff.trans (hu.2.2 k)) so free⟩
end Hb
set_option Elab.async false
set_option linter.all false
set_option maxRecDepth 100000
set_option maxHeartbeats 4000000
/-! len(x) by a def of the class. -/
namespace Hb
open PySem PySem.Spec PyProof.Rows
section
variable {prog : Program} {w : World} {A : Around} {E : Value → Shared → Prop} {s : Shared} {K : PySem.W.Frag} {x C f : Addr} {ox : Obj} {od : Option Obj}
theorem lenBody_own {Q : Value → Shared → Prop} (X : K.In s.heap) (I : PySem.W.InstAt s.heap x ox C od) (hs : PySem.W.findIn K (.ref C) "__len__" = some (some (.ref f))) (hf : PySem.W.isFn K (.ref f) = true)
    (h : wpAny (model prog w) A (call (.ref f) [.ref x]) (fun r z => ∃ (n : Int) (t : Tok), r = Value.int n t ∧ 0 ≤ n ∧ n < 2 ^ 63 ∧ ∀ t' tk, Q (.int n t') { z with toks := tk }) E s) : wpAny (model prog w) A (Builtin.«len» ⟨[.ref x], []⟩) (fun fin s' => ∃ r, fin = .done (.ret r) ∧ Q r s') E s := by
  unfold Builtin.«len»
  refine wpAny_bind (m := oneArg "len" _) (wpAny_pure ?_)
  refine wpAny_bind (m := callSpecial? (.ref x) (Str.ofString "__len__")) (PySem.W.special_fn X I hs (beq_iff_eq.mp hf) (wpAny_mono h (fun r z hr => ?_) fun _ _ e => e))
  obtain ⟨n, t, rfl, h0, h1, q⟩ := hr
  refine wpAny_bind (wpAny_holding (wpAny_pure ?_))
  refine wpAny_bind (wpAny_letGo ?_)
  show wpAny _ _ (if n < 0 then _ else _) _ _ _
  rw [if_neg (by omega)]
  show wpAny _ _ (if n ≥ 2 ^ 63 then _ else _) _ _ _
  rw [if_neg (by omega)]
  exact wpAny_bind (wpAny_mkInt (wpAny_pure ⟨_, rfl, q _ _⟩))
end
end Hb
namespace Hb
open PySem PySem.Spec PyProof.Rows L2
/-- the class at C has a __len__ of its own -/
structure LenOf (P : Program) (w : World) (K : PySem.W.Frag) (mg : Str → Option Value) (base : Heap) (k : Nat) (C : Addr) (sp : Sp) : Prop where
  ex : ∃ (f : Addr) (fd : FuncData) (ps : List Str), PySem.W.findIn K (.ref C) "__len__" = some (some (.ref f)) ∧ PySem.W.isFn K (.ref f) = true ∧ FnOk P w K mg base CX0 k f fd ps sp ∧ Binds K fd ps []
def rLenOwn (C : Addr) (sp : Sp) : List V → Hp → VK → Prop := fun xs H Q => ∃ (a dx : Addr) (fs : List (Str × V)), xs = [.ref a] ∧ H a = some (.ins C dx fs) ∧ sp [.ref a] H (fun v H' => ∃ n : Int, v = .int n ∧ 0 ≤ n ∧ n < 2 ^ 63 ∧ Q v H') C8.E0
section
variable {X : Cx} {C : Addr} {k j : Nat} {sp : Sp}
theorem call_lenOwn (c : LenOf X.prog X.w X.K X.mg X.base k C sp) (hr : Room j X.A) (hk : k + 1 ≤ j) : CallR X (.builtin "len") (rLenOwn C sp) := by
  intro pins s σ H xs us Q I r h
  obtain ⟨f, fd, ps, hs, hf, FO, hb⟩ := c.ex
  obtain ⟨a, dx, fs, rfl, ha, q⟩ := h
  rw [Vals.ref1 r]
  obtain ⟨mA, J, _⟩ := ins_get I.hok ha
  obtain ⟨od, J, _⟩ := J.look
  have X0 := I.kIn
  have hj : Room (k + 1) X.A := hr.mono hk
  have h2 : Room k X.A.in1 := hj.in1
  have r2 : Vals [V.ref a] [Value.ref a] := .cons rfl .nil
  refine Calls.call_function_entry kind_len plain_len entry_len (args_len1 _) ?_
  refine lenBody_own X0 J hs hf (wpAny_call (codeAny_mono (FO.run X.A.in1 X.stack s H ⟨[.ref a], []⟩ [.ref a] [.ref a] _ C8.E0 h2 I.env0.in1 (by
      have l := FO.len _ _ _ _ q
      have z := hb s [.ref a] X0 (by simpa using l)
      simpa using z) r2 q) fun r s' hq => ?_))
  cases r with
  | error e => exact (C8.pass0 (E := C8.E0) pins σ H s e s' I hq)
  | ok fl =>
    cases fl with
    | ret w2 =>
      obtain ⟨z, H', I', rz, n, ez, n0, n1, qz⟩ := I.after hq
      subst ez
      obtain ⟨t, e⟩ := (show ∃ t, w2 = Value.int n t from rz)
      subst e
      exact ⟨n, t, rfl, n0, n1, fun t' tk => ⟨.int n, H', I'.tok tk, ⟨t', rfl⟩, qz⟩⟩
    | next => exact False.elim hq
    | brk => exact False.elim hq
    | cont => exact False.elim hq
end
end Hb
set_option Elab.async false
set_option linter.all false
set_option maxRecDepth 100000
set_option maxHeartbeats 4000000
/-! Defs that stand behind a record of a class (a property's getter, a classmethod's def), in a head's facts. -/
namespace He
open PySem PySem.Spec PyProof.Rows L2
def fnP (K : PySem.W.Frag) (a : Addr) : FnW := match K.lookup a with
  | some ⟨_, _, .func fd, _⟩ => some (fd.name, fd.qualname, fd.params, fd.body, fd.scope, fd.globals, fd.closure, fd.builtins)
  | _ => none
/-- the first thing of the record of the class T at C.m -/
def rp (K : PySem.W.Frag) (T : String) (C : Addr) (m : Str) : Addr := match PySem.W.recIn K (ma K C m) T with
  | some (.ref g :: _) => g
  | _ => 0
def okP (K : PySem.W.Frag) (a : Addr) (d : DefD) : Bool := PySem.W.keepIn K (.ref a) && (match K.lookup a with
  | some ⟨_, _, .func fd, _⟩ => PySem.W.codeIn K fd.code d.qual && (dflB K fd.defaults (d.dvs K) && kwdB K fd.kwdefaults (d.kws K))
  | _ => false)
theorem funP {K : PySem.W.Frag} {a : Addr} {d : DefD} (e : fnP K a = d.val) (c : okP K a d = true) : ∃ fd, FunD K d.name d.qual d.params d.body d.scope (d.dvs K) (d.kws K) a fd := by
  obtain ⟨kp, c2⟩ := ba c
  unfold fnP at e
  cases q : K.lookup a with
  | none =>
    rw [q] at c2
    cases c2
  | some o =>
    obtain ⟨oc, od, dt, osl⟩ := o
    rw [q] at c2 e
    cases dt with
    | func fd =>
      obtain ⟨n1, n2, n3, n4, n5, n6, n7, n8, n9, n10, n11, n12, n13, n14, n15⟩ := fd
      have e2 : (some (n1, n2, n3, n4, n5, n6, n7, n15) : FnW) = some (d.name, d.qual, d.params, .stmts d.body, d.scope, mainGlobals, [], builtinsNs) := e
      simp only [Option.some.injEq, Prod.mk.injEq] at e2
      obtain ⟨h1, h2, h3, h4, h5, h6, h7, h8⟩ := e2
      subst h1 h2 h3 h4 h5 h6 h7 h8
      have c3 : (PySem.W.codeIn K n13 d.qual && (dflB K n8 (d.dvs K) && kwdB K n9 (d.kws K))) = true := c2
      obtain ⟨k1, k2⟩ := ba c3
      obtain ⟨k3, k4⟩ := ba k2
      exact ⟨_, ⟨oc, od, n8, n9, n10, n11, n12, n13, n14, osl, rfl, q, k1, dflB_ok k3, kwdB_ok k4⟩, kp⟩
    | _ => cases e
abbrev Dp := (PySem.W.Frag → Addr) × DefD
abbrev AlY : Type := AlX × List FnW
def obsY (n : Nat) (fa : List Fa) (fn : List DefD) (ex : PySem.W.Frag → Bool) (fp : List Dp) (g : Addr → Option Obj) : AlY := (obsX n fa fn [] [] ex g, fp.map fun p => fnP (frT g (asD g n)) (p.1 (frT g (asD g n))))
def valY (fn : List DefD) (fp : List Dp) (w : World) : AlY := (valX fn [] w, fp.map fun p => p.2.val)
structure SaysY (fa : List Fa) (fn : List DefD) (ex : PySem.W.Frag → Bool) (fp : List Dp) (w : World) (h : Heap) (K : PySem.W.Frag) : Prop where
  x : SaysX fa fn [] [] ex w h K
  p : fp.map (fun p => fnP K (p.1 K)) = fp.map fun p => p.2.val
def hookY (n : Nat) (fa : List Fa) (fn : List DefD) (ex : PySem.W.Frag → Bool) (fp : List Dp) : PySem.W.Hook where
  α := AlY
  obs := fun s => obsY n fa fn ex fp s.heap.get?
  val := fun w => valY fn fp w
  says := fun w h => ∃ K : PySem.W.Frag, K.In h ∧ SaysY fa fn ex fp w h K
  of := fun _ _ e => ⟨_, frT_in, saysX_of (congrArg (fun z : AlY => z.1) e), congrArg (fun z : AlY => z.2) e⟩
  keeps := fun _ _ _ ⟨K, hK, c⟩ k => ⟨K, PySem.W.Frag.In.keeps hK k, ⟨⟨c.x.t, c.x.more, c.x.hd, c.x.out, fun p hp => k _ _ (c.x.empty p hp)⟩, c.p⟩⟩
theorem obsY_eq {n : Nat} {fa : List Fa} {fn : List DefD} {ex : PySem.W.Frag → Bool} {fp : List Dp} {g : Addr → Option Obj} {s : Shared} (h : ∀ a, g a = s.heap.get? a) : obsY n fa fn ex fp g = (hookY n fa fn ex fp).obs s := by
  have e : g = s.heap.get? := funext h
  rw [e] <;> rfl
/-- the i-th of them -/
theorem def_p {K : PySem.W.Frag} {fp : List Dp} (c : fp.map (fun p => fnP K (p.1 K)) = fp.map fun p => p.2.val) (i : Nat) {p : Dp} (h : fp[i]? = some p) (ok : okP K (p.1 K) p.2 = true) :
    ∃ fd, FunD K p.2.name p.2.qual p.2.params p.2.body p.2.scope (p.2.dvs K) (p.2.kws K) (p.1 K) fd := by
  have e2 : (fp.map fun p => fnP K (p.1 K))[i]? = (fp.map fun p => p.2.val)[i]? := by rw [c]
  rw [List.getElem?_map, List.getElem?_map, h] at e2
  exact funP (Option.some.inj e2) ok
/-! what the class must have -/
def propB (K : PySem.W.Frag) (C : Addr) (f : Str) : Bool := eqO (PySem.W.findIn K (.ref C) f) (some (some (.ref (ma K C f)))) && (eqO (PySem.W.specialIn K (.ref (ma K C f)) "__get__") (some (some (.builtin "property.__get__"))) && (decide (PySem.W.takesIn K (.ref (ma K C f)) = some true) &&
  (match PySem.W.recIn K (ma K C f) "property" with
  | some (.ref g :: _) => true
  | _ => false)))
theorem prop_ok {K : PySem.W.Frag} {C : Addr} {f : Str} (h : propB K C f = true) : PropOf K C f (ma K C f) (rp K "property" C f) := by
  obtain ⟨h1, h⟩ := ba h
  obtain ⟨h2, h⟩ := ba h
  obtain ⟨h3, h4⟩ := ba h
  refine ⟨eqO_ok h1, eqO_ok h2, of_decide_eq_true h3, ?_⟩
  unfold rp
  split at h4
  · rename_i g rest e
    rw [e]
    exact ⟨_, rfl⟩
  · cases h4
end He
set_option Elab.async false
set_option linter.all false
set_option maxRecDepth 100000
set_option maxHeartbeats 4000000
/-! Mathematics of houses: sorted things, shown things, mended houses. -/
namespace Hb
open PySem PySem.Spec PyProof.Rows L2
abbrev leS (a b : Str) : Prop := ltCps b.cps.toList a.cps.toList = false
theorem ltS_iff (a b : Str) : ltCps a.cps.toList b.cps.toList = true ↔ a.cps.toList < b.cps.toList := by rw [ltCps_eq]; exact decide_eq_true_iff
theorem leS_iff (a b : Str) : leS a b ↔ ¬ b.cps.toList < a.cps.toList := by unfold leS; rw [ltCps_eq]; exact decide_eq_false_iff_not
theorem leS_trans {a b c : Str} (h1 : leS a b) (h2 : leS b c) : leS a c := by
  rw [leS_iff] at *
  rw [List.not_lt] at *
  exact List.le_trans h1 h2
theorem leS_antisymm {a b : Str} (h1 : leS a b) (h2 : leS b a) : a = b := by
  rw [leS_iff] at *
  rw [List.not_lt] at *
  have e := List.le_antisymm h1 h2
  obtain ⟨⟨x⟩⟩ := a
  obtain ⟨⟨y⟩⟩ := b
  simp only at e
  subst e
  rfl
theorem leS_total (a b : Str) : leS a b ∨ leS b a := by
  rw [leS_iff, leS_iff, List.not_lt, List.not_lt]
  exact List.le_total _ _
theorem risingS_pw : ∀ (p : Str) (l : List Str), risingS p l = true → (p :: l).Pairwise leS
  | p, [], _ => List.pairwise_singleton _ _
  | p, x :: r, h => by
    have h2 : (!ltCps x.cps.toList p.cps.toList && risingS x r) = true := h
    obtain ⟨h3, h4⟩ := Bool.and_eq_true_iff.mp h2
    have h5 : leS p x := by simpa using h3
    have ih := risingS_pw x r h4
    refine List.pairwise_cons.mpr ⟨fun y hy => ?_, ih⟩
    rcases List.mem_cons.mp hy with rfl | hy
    · exact h5
    · exact leS_trans h5 (List.rel_of_pairwise_cons ih hy)
theorem sortedS_pw : ∀ {l : List Str}, sortedS l = true → l.Pairwise leS
  | [], _ => .nil
  | x :: r, h => risingS_pw x r h
theorem pw_unique {α : Type} {r : α → α → Prop} (anti : ∀ a b, r a b → r b a → a = b) : ∀ {l m : List α}, l.Pairwise r → m.Pairwise r → l.Nodup → m.Nodup → (∀ k, k ∈ l ↔ k ∈ m) → l = m
  | [], m, _, _, _, _, h => by
    cases m with
    | nil => rfl
    | cons y m => exact absurd ((h y).mpr List.mem_cons_self) (by simp)
  | x :: l, [], _, _, _, _, h => absurd ((h x).mp List.mem_cons_self) (by simp)
  | x :: l, y :: m, p1, p2, n1, n2, h => by
    obtain ⟨a1, b1⟩ := List.pairwise_cons.mp p1
    obtain ⟨a2, b2⟩ := List.pairwise_cons.mp p2
    obtain ⟨c1, d1⟩ := List.nodup_cons.mp n1
    obtain ⟨c2, d2⟩ := List.nodup_cons.mp n2
    have e : x = y := by
      rcases List.mem_cons.mp ((h x).mp List.mem_cons_self) with e | hx
      · exact e
      · rcases List.mem_cons.mp ((h y).mpr List.mem_cons_self) with e | hy
        · exact e.symm
        · exact anti x y (a1 y hy) (a2 x hx)
    subst e
    have ih := pw_unique anti b1 b2 d1 d2 fun k => by
      have hk := h k
      simp only [List.mem_cons] at hk
      by_cases e : k = x
      · subst e; exact ⟨fun q => absurd q c1, fun q => absurd q c2⟩
      · exact ⟨fun q => (hk.mp (.inr q)).resolve_left e, fun q => (hk.mpr (.inr q)).resolve_left e⟩
    rw [ih]
theorem sorted_unique {l m : List Str} (h1 : sortedS l = true) (h2 : sortedS m = true) (n1 : l.Nodup) (n2 : m.Nodup) (h : ∀ k, k ∈ l ↔ k ∈ m) : l = m :=
  pw_unique (fun _ _ => leS_antisymm) (sortedS_pw h1) (sortedS_pw h2) n1 n2 h
/-! what is sorted stays -/
theorem sort_id {α : Type} {le : α → α → Bool} {l : List α} (h : l.Pairwise fun a b => le a b = true) : l.mergeSort le = l := List.mergeSort_of_pairwise h
theorem leF {a b : Fl} (h : a.1 < b.1) : PySem.W.dataLe false encF a b = true := by
  have n : ¬ b.1 < a.1 := by omega
  simp [PySem.W.dataLe, PySem.W.sortLe, encF, PySem.W.keyToks, PySem.W.keyToksAll, PyProof.Rows.listOrd, PyProof.Rows.lexLt, PyProof.Rows.itemOrd, PyProof.Rows.itemLt, n, h]
theorem leI {a b : Int} (h : a < b) : PySem.W.dataLe false PyData.int a b = true := by
  have n : ¬ b < a := by omega
  simp [PySem.W.dataLe, PySem.W.sortLe, PySem.W.keyToks, PyProof.Rows.listOrd, PyProof.Rows.lexLt, PyProof.Rows.itemOrd, PyProof.Rows.itemLt, n, h]
theorem sortF_id {l : List Fl} (h : (l.map Prod.fst).Pairwise (· < ·)) : sortF l = l := sort_id ((List.pairwise_map.mp h).imp fun q => leF q)
theorem sortI_id {l : List Int} (h : l.Pairwise (· < ·)) : sortI l = l := sort_id (h.imp fun q => leI q)
theorem sortF_sortF (l : List Fl) : sortF (sortF l) = sortF l := sort_id (List.pairwise_mergeSort (PySem.W.sortLe_total _ _ _).trans (fun a b => Bool.or_eq_true_iff.mpr ((PySem.W.sortLe_total _ _ _).total a b)) l)
/-! what is shown is short -/
theorem piled_le {n : Nat} : ∀ {ts : List Str}, (∀ t ∈ ts, t.length ≤ n) → piled ts ≤ (n + 2) * ts.length
  | [], _ => by simp [piled]
  | t :: ts, h => by
    have h1 := h t List.mem_cons_self
    have h2 := piled_le (ts := ts) fun x hx => h x (List.mem_cons_of_mem _ hx)
    rw [piled_cons, List.length_cons, Nat.mul_add]
    omega
theorem tupleText_le (ts : List Str) : (tupleText ts).length ≤ piled ts + 3 := by
  unfold tupleText
  rw [Str.length_append, Str.length_append]
  have a : (("(" : Str)).length = 1 := rfl
  have b : ((if ts.length == 1 then ",)" else ")" : String) : Str).length ≤ 2 := by split <;> decide
  cases ts with
  | nil => rw [a]; simp only [piled_nil]; have : (Str.join ", " ([] : List Str)).length = 0 := rfl; omega
  | cons t r =>
    have := join_length_add (t :: r) (by simp)
    rw [a]
    omega
theorem shownAll_len : ∀ ds : List PyData, (PyData.shownAll ds).length = ds.length
  | [] => rfl
  | d :: ds => by simp only [PyData.shownAll, List.length_cons, shownAll_len ds]
theorem shownAll_le {n : Nat} : ∀ {ds : List PyData}, (∀ d ∈ ds, d.shown.length ≤ n) → ∀ t ∈ PyData.shownAll ds, t.length ≤ n
  | [], _, t, h => by simp [PyData.shownAll] at h
  | d :: ds, h0, t, h => by
    simp only [PyData.shownAll, List.mem_cons] at h
    rcases h with rfl | h
    · exact h0 d List.mem_cons_self
    · exact shownAll_le (fun e he => h0 e (List.mem_cons_of_mem _ he)) t h
theorem tup_le {n m : Nat} {ds : List PyData} (h : ∀ d ∈ ds, d.shown.length ≤ n) (hm : ds.length ≤ m) : (PyData.tuple ds).shown.length ≤ (n + 2) * m + 3 := by
  simp only [PyData.shown]
  have a := tupleText_le (PyData.shownAll ds)
  have b := piled_le (shownAll_le h)
  rw [shownAll_len] at b
  have c := Nat.mul_le_mul_left (n + 2) hm
  omega
end Hb
set_option Elab.async false
set_option linter.all false
set_option maxRecDepth 100000
set_option maxHeartbeats 4000000
/-! Methods, comparisons, properties of a class, from the head's facts. -/
namespace Hb
open PySem PySem.Spec PyProof.Rows L2
section
variable {P : Program} {w : World} {K : PySem.W.Frag} {mg : Str → Option Value} {base : Heap}
/-- a method without defaults -/
def Dm (K : PySem.W.Frag) (C m qual : Str) (st : Stmt) : Prop := Meth K (He.ga K C) m (He.ma K (He.ga K C) m) ∧ ∃ fd, FunD K m qual (defArgs st) (defBody st) (defScope st) [] [] (He.ma K (He.ga K C) m) fd
/-- a property -/
def Dprop (K : PySem.W.Frag) (C m qual : Str) (st : Stmt) : Prop := PropOf K (He.ga K C) m (He.ma K (He.ga K C) m) (He.rp K "property" (He.ga K C) m) ∧ ∃ fd, FunD K m qual (defArgs st) (defBody st) (defScope st) [] [] (He.rp K "property" (He.ga K C) m) fd
variable {C m qual : Str} {st : Stmt} {ps : List Str} {k : Nat} {sp : Sp}
abbrev BdN (m qual : Str) (st : Stmt) (ps : List Str) : Prop := ∀ (kV doc pm : Value) (an : Option Addr) (cdv ct : Value) (us : List Value), us.length = ps.length → bindArgs (PySem.W.fnOf m qual (defArgs st) (defBody st) (defScope st) .none kV doc pm an cdv ct) ⟨us, []⟩ = pure (ps.zip us)
theorem met_ (D : Dm K C m qual st) (c : Cls K (He.ga K C)) (bd : BdN m qual st ps) (ok : ∀ {f : Addr} {fd : FuncData}, FunD K m qual (defArgs st) (defBody st) (defScope st) [] [] f fd → FnOk P w K mg base CX0 k f fd ps sp) : C8.Met P w K mg base k (He.ga K C) m sp [] := by
  obtain ⟨hm, fd, F⟩ := D
  exact ⟨⟨_, fd, ps, [], c, hm, ok F, F.bindsN bd, .nil⟩⟩
theorem eqOf_ (D : Dm K C "__eq__" qual st) (bd : BdN "__eq__" qual st ps) (ok : ∀ {f : Addr} {fd : FuncData}, FunD K "__eq__" qual (defArgs st) (defBody st) (defScope st) [] [] f fd → FnOk P w K mg base CX0 k f fd ps sp) : EqOf P w K mg base k (He.ga K C) sp := by
  obtain ⟨hm, fd, F⟩ := D
  exact ⟨⟨_, fd, ps, hm.at_, hm.fn, ok F, F.bindsN bd⟩⟩
theorem lenOf_ (D : Dm K C "__len__" qual st) (bd : BdN "__len__" qual st ps) (ok : ∀ {f : Addr} {fd : FuncData}, FunD K "__len__" qual (defArgs st) (defBody st) (defScope st) [] [] f fd → FnOk P w K mg base CX0 k f fd ps sp) : LenOf P w K mg base k (He.ga K C) sp := by
  obtain ⟨hm, fd, F⟩ := D
  exact ⟨⟨_, fd, ps, hm.at_, hm.fn, ok F, F.bindsN bd⟩⟩
theorem strOf_ (D : Dm K C "__str__" qual st) (bd : BdN "__str__" qual st ps) (ok : ∀ {f : Addr} {fd : FuncData}, FunD K "__str__" qual (defArgs st) (defBody st) (defScope st) [] [] f fd → FnOk P w K mg base CX0 k f fd ps sp) : StrOf P w K mg base k (He.ga K C) sp := by
  obtain ⟨hm, fd, F⟩ := D
  exact ⟨⟨_, fd, ps, hm.at_, hm.fn, ok F, F.bindsN bd⟩⟩
/-- the class at C has a property -/
structure GetOf (P : Program) (w : World) (K : PySem.W.Frag) (mg : Str → Option Value) (base : Heap) (k : Nat) (C : Addr) (m : Str) (sp : Sp) : Prop where
  ex : ∃ (p g : Addr) (fd : FuncData) (ps : List Str), PropOf K C m p g ∧ FnOk P w K mg base CX0 k g fd ps sp ∧ Binds K fd ps []
theorem getOf_ (D : Dprop K C m qual st) (bd : BdN m qual st ps) (ok : ∀ {f : Addr} {fd : FuncData}, FunD K m qual (defArgs st) (defBody st) (defScope st) [] [] f fd → FnOk P w K mg base CX0 k f fd ps sp) : GetOf P w K mg base k (He.ga K C) m sp := by
  obtain ⟨hp, fd, F⟩ := D
  exact ⟨⟨_, _, fd, ps, hp, ok F, F.bindsN bd⟩⟩
end
theorem pe_get {X : Cx} {C : Addr} {m : Str} {k j : Nat} {sp : Sp} (c : GetOf X.prog X.w X.K X.mg X.base k C m sp) (cl : Cls X.K C) (hr : Room j X.A) (hk : k + 1 ≤ j) {e : Expr} {ta : TE} {pos : Pos} (he : PE X e ta)
    (hab : attributeBase e m X.env (eval e X.env) = eval e X.env := by rfl) : PE X (.Attribute e m pos) (tProp C sp [] C8.E0 ta) := by
  obtain ⟨p, g, fd, ps, hp, F, b⟩ := c.ex
  exact pe_prop he cl hp F (hr.mono hk) b .nil C8.pass0 hab
end Hb
set_option Elab.async false
set_option linter.all false
set_option maxRecDepth 100000
set_option maxHeartbeats 4000000
/-! A class whose __init__ has defaults, called with all arguments and with none of these; sorted permutations. -/
namespace He
open PySem PySem.Spec PyProof.Rows L2
def nilB (K : PySem.W.Frag) (a : Addr) : Bool := match K.lookup a with
  | some ⟨.type c, _, .seq its _, _⟩ => decide (c = "tuple") && its.isEmpty
  | _ => false
theorem nilB_ok {K : PySem.W.Frag} {a : Addr} (h : nilB K a = true) (H : Hp) : SqT K H a [] := by
  unfold nilB at h
  split at h
  · rename_i c d its n sl e
    obtain ⟨h1, h2⟩ := ba h
    have e1 : c = "tuple" := of_decide_eq_true h1
    have e2 : its = #[] := Array.isEmpty_iff.mp h2
    subst e1 e2
    exact .inr ⟨_, #[], n, e, rfl, rfl, Nat.zero_le _, .nil⟩
  · cases h
end He
namespace Hb
open PySem PySem.Spec PyProof.Rows L2
section
variable {P : Program} {w : World} {K : PySem.W.Frag} {mg : Str → Option Value} {base : Heap}
def Df1v (K : PySem.W.Frag) (mg : Str → Option Value) (C qual : Str) (st : Stmt) (dvs : List V) : Prop := Mk K (He.ga K C) (He.ma K (He.ga K C) "__init__") ∧ mg C = some (.ref (He.ga K C)) ∧
  ∃ fd, FunD K "__init__" qual (defArgs st) (defBody st) (defScope st) dvs [] (He.ma K (He.ga K C) "__init__") fd
theorem mak_mkD2 {C qual : Str} {st : Stmt} {N ps : List Str} {k n : Nat} {sp : Sp} {dvs : List V} (hd : dvs ≠ []) (hn : n + dvs.length = ps.length) (D : Df1v K mg C qual st dvs) (S : FnScope N ps (defScope st))
    (bd : ∀ (T : Addr) (kV doc pm : Value) (an : Option Addr) (cdv ct : Value) (us its : List Value), us.length = ps.length → its.length = dvs.length →
      ∃ k, bindArgs (PySem.W.fnOf "__init__" qual (defArgs st) (defBody st) (defScope st) (.ref T) kV doc pm an cdv ct) ⟨us, []⟩ = seqItems? (.ref T) >>= k ∧ k (some its.toArray) = pure (ps.zip us))
    (bp : ∀ (T : Addr) (kV doc pm : Value) (an : Option Addr) (cdv ct : Value) (us its : List Value), us.length = n → its.length = dvs.length →
      ∃ k, bindArgs (PySem.W.fnOf "__init__" qual (defArgs st) (defBody st) (defScope st) (.ref T) kV doc pm an cdv ct) ⟨us, []⟩ = seqItems? (.ref T) >>= k ∧ k (some its.toArray) = pure (ps.zip (us ++ its)))
    (len : ∀ vs H Q E, sp vs H Q E → vs.length = ps.length)
    (hbody : ∀ (f : Addr) (cdv : Value) (A : Around) (outer : List Env) (s : Shared) (H : Hp) (vs : List V) (Q : VK) (E : XK), Room k (A.deeper (envOfC qual (defScope st) s.heap.objs.size f cdv)) → sp vs H Q E →
      ∃ t, PSs (cxOf CX0 P w K mg base N qual (defScope st) f cdv A outer s H E).nox (defBody st) t ∧ t { nx := fun _ H' => Q .non H', rt := Q } (start N vs) H) :
    C8.Mak P w K mg base (k + 1) C (He.ga K C) sp [] ∧ C8.Mak P w K mg base (k + 1) C (He.ga K C) sp dvs := by
  obtain ⟨M, hm, fd, F⟩ := D
  have ok : FnOk P w K mg base CX0 (k + 1) (He.ma K (He.ga K C) "__init__") fd ps sp := F.ok S len fun cdv A outer s H vs Q E hr h => by
    obtain ⟨t, h1, h2⟩ := hbody _ cdv A outer s H vs Q E hr h
    exact ⟨t, h1.nox, h2⟩
  constructor
  · obtain ⟨ds, r, b⟩ := F.binds1 ps.length dvs.length hd (by rw [Nat.sub_self, Nat.add_zero]) fun T kV doc pm an cdv ct us its h1 h2 => by
      obtain ⟨k, e1, e2⟩ := bd T kV doc pm an cdv ct us its h1 h2
      exact ⟨k, e1, by rw [e2, List.drop_of_length_le (by rw [h2] <;> exact Nat.le_refl _), List.append_nil]⟩
    rw [List.drop_of_length_le (Nat.le_refl _)] at r
    cases r
    exact ⟨⟨_, fd, ps, [], M, ok, hm, b, .nil⟩⟩
  · obtain ⟨ds, r, b⟩ := F.binds1 n 0 hd (by rw [Nat.sub_zero]; exact hn) fun T kV doc pm an cdv ct us its h1 h2 => by
      obtain ⟨k, e1, e2⟩ := bp T kV doc pm an cdv ct us its h1 h2
      exact ⟨k, e1, by rw [e2, List.drop_zero]⟩
    rw [List.drop_zero] at r
    exact ⟨⟨_, fd, ps, ds, M, ok, hm, b, r⟩⟩
end
/-! sorted permutations -/
theorem data_total {a b : PyData} (h1 : (listOrd itemOrd).blt (PySem.W.keyToks b) (PySem.W.keyToks a) = false) (h2 : (listOrd itemOrd).blt (PySem.W.keyToks a) (PySem.W.keyToks b) = false) : PySem.W.keyToks a = PySem.W.keyToks b := (listOrd itemOrd).total _ _ h2 h1
theorem le_blt {α : Type} {enc : α → PyData} {a b : α} (h : PySem.W.dataLe false enc a b = true) : (listOrd itemOrd).blt (PySem.W.keyToks (enc b)) (PySem.W.keyToks (enc a)) = false := by
  have z : (!(listOrd itemOrd).blt (PySem.W.keyToks (enc b)) (PySem.W.keyToks (enc a))) = true := h
  simpa using z
theorem sort_pw {α : Type} (enc : α → PyData) (l : List α) : (l.mergeSort (PySem.W.dataLe false enc)).Pairwise fun a b => PySem.W.dataLe false enc a b = true :=
  List.pairwise_mergeSort (PySem.W.sortLe_total _ _ _).trans (fun a b => Bool.or_eq_true_iff.mpr ((PySem.W.sortLe_total _ _ _).total a b)) l
theorem encF_toks {a b : Fl} (e : PySem.W.keyToks (encF a) = PySem.W.keyToks (encF b)) : a = b := by
  obtain ⟨a1, ⟨⟨a2⟩⟩⟩ := a
  obtain ⟨b1, ⟨⟨b2⟩⟩⟩ := b
  simp [encF, PySem.W.keyToks, PySem.W.keyToksAll] at e
  rw [e.1, e.2]
theorem sortF_perm_eq {es fs : List Fl} (p : es.Perm fs) (a : (fs.map Prod.fst).Pairwise (· < ·)) : sortF es = fs := by
  have nd : fs.Nodup := (List.pairwise_map.mp a).imp fun {x y} q e => by subst e; exact absurd q (Int.lt_irrefl _)
  have ps := (sortF_perm es).trans p
  exact pw_unique (r := fun x y => PySem.W.dataLe false encF x y = true) (fun x y h1 h2 => encF_toks (data_total (le_blt h1) (le_blt h2))) (sort_pw encF es) ((List.pairwise_map.mp a).imp fun q => leF q) (ps.nodup_iff.mpr nd) nd fun k => ps.mem_iff
theorem sortI_perm_eq {es fs : List Int} (p : es.Perm fs) (a : fs.Pairwise (· < ·)) : sortI es = fs := by
  have nd : fs.Nodup := a.imp fun {x y} q e => by subst e; exact absurd q (Int.lt_irrefl _)
  have ps := (sortI_perm es).trans p
  refine pw_unique (r := fun x y => PySem.W.dataLe false PyData.int x y = true) (fun x y h1 h2 => ?_) (sort_pw PyData.int es) (a.imp fun q => leI q) (ps.nodup_iff.mpr nd) nd fun k => ps.mem_iff
  have e := data_total (le_blt h1) (le_blt h2)
  simp [PySem.W.keyToks] at e
  exact e
end Hb
set_option Elab.async false
set_option linter.all false
set_option maxRecDepth 100000
set_option maxHeartbeats 4000000
/-! Calls without arguments; data that equals itself. -/
namespace Hb
open PySem PySem.Spec PyProof.Rows L2
theorem pe_c0 {X : Cx} {k j : Nat} {x : Str} {sp : Sp} {dvs : List V} {p pos : Pos} (c : C8.Cal X.prog X.w X.K X.mg X.base k x sp dvs) (hr : Room j X.A) (hk : k ≤ j) (hg : Gl X x) (hdb : (x == ("__debug__" : Str)) = false := by decide) :
    PE X (.Call (.Name x p) [] [] pos) (tCall sp dvs C8.E0 tNil) := by
  obtain ⟨f, fd, ps, ds, F, hm, kp, b, d⟩ := c.ex
  exact pe_call0 F (hr.mono hk) hg hm kp b d C8.pass0 hdb
mutual
theorem alike_self : ∀ d : PyData, d.canLay0 = true → PySem.W.alike d d = true
  | .none, _ => rfl
  | .bool _, _ => rfl
  | .int _, _ => rfl
  | .str _, _ => rfl
  | .list xs, h => by
    simp only [PyData.canLay0] at h
    simp only [PySem.W.alike]
    exact alikeAll_self xs h
  | .tuple xs, h => by
    simp only [PyData.canLay0] at h
    simp only [PySem.W.alike]
    exact alikeAll_self xs h
  | .dict _, h => by simp [PyData.canLay0] at h
theorem alikeAll_self : ∀ ds : List PyData, PyData.canLayAll0 ds = true → PySem.W.alikeAll ds ds = true
  | [], _ => rfl
  | d :: ds, h => by
    simp only [PyData.canLayAll0, Bool.and_eq_true] at h
    simp only [PySem.W.alikeAll, alike_self d h.1, alikeAll_self ds h.2, Bool.and_self]
end
theorem eqv_self {d : PyData} (h : SeqAt.shaped d = true) : PyData.eqv d d = true := PySem.W.eqv_refl_alike d (alike_self d (SeqAt.canLay_of_shaped h))
section
variable {K : PySem.W.Frag} {H : Hp} {Q : VK} {x y : V} {d : PyData}
theorem ne_data (hx : Dp K H x d) (hy : Dp K H y d) (s : SeqAt.shaped d = true) (q : Q (.bl false) H) : rNeD K x y H Q := ⟨d, d, hx, hy, s, s, by rw [eqv_self s]; exact q⟩
theorem eq_data (hx : Dp K H x d) (hy : Dp K H y d) (s : SeqAt.shaped d = true) (q : Q (.bl true) H) : rEqD K x y H Q := ⟨d, d, hx, hy, s, s, by rw [eqv_self s]; exact q⟩
end
theorem shaped_of {d : PyData} (h : Shp d) : SeqAt.shaped d = true := h.shaped
/-- tuples and lists of such -/
theorem Shp.tup {n : Nat} {ds : List PyData} (h : ∀ d ∈ ds, d.canLay0 = true ∧ d.depth ≤ n) (hn : n + 1 ≤ 60) : (PyData.tuple ds).canLay0 = true ∧ (PyData.tuple ds).depth ≤ n + 1 := by
  have g : PyData.canLayAll0 ds = true ∧ PyData.depthAll ds ≤ n := by
    induction ds with
    | nil => exact ⟨by simp [PyData.canLayAll0], by simp [PyData.depthAll]⟩
    | cons d ds ih =>
      obtain ⟨h1, h2⟩ := ih fun e he => h e (List.mem_cons_of_mem _ he)
      obtain ⟨h3, h4⟩ := h d List.mem_cons_self
      exact ⟨by simp [PyData.canLayAll0, h1, h3], by simp only [PyData.depthAll]; omega⟩
  exact ⟨by simp only [PyData.canLay0]; exact g.1, by simp only [PyData.depth]; have := g.2; omega⟩
theorem Shp.lst {n : Nat} {ds : List PyData} (h : ∀ d ∈ ds, d.canLay0 = true ∧ d.depth ≤ n) (hn : n + 1 ≤ 60) : (PyData.list ds).canLay0 = true ∧ (PyData.list ds).depth ≤ n + 1 := by
  obtain ⟨a, b⟩ := Shp.tup h hn
  simp only [PyData.canLay0, PyData.depth] at a b ⊢
  exact ⟨a, b⟩
end Hb
set_option Elab.async false
set_option linter.all false
set_option maxRecDepth 100000
set_option maxHeartbeats 4000000
/-! A law's def run where it is called from: nothing is being shown there, so that what repr gives is known. -/
namespace Hb
open PySem PySem.Spec PyProof.Rows L2
/-- a law's body, where the law is called from -/
def BodyG (P : Program) (w : World) (K : PySem.W.Frag) (mg : Str → Option Value) (N : List Str) (sc : Scope) (body : List Stmt) (k n : Nat) : Prop :=
  ∀ (base : Heap) (f a : Addr) (cdv : Value) (s : Shared) (H : Hp) (ns : List Int), ns.length ≤ n → SqL K H a (ns.map V.int) → Room k (callerA.deeper (envOfC "law" sc s.heap.objs.size f cdv)) →
    ∃ t, PSs (cxOf CX0 P w K mg base N "law" sc f cdv callerA [] s H E0).nox body t ∧ t { nx := fun _ _ => False, rt := fun v _ => v = .bl true } (start N [.ref a]) H
section
variable {P : Program} {w : World} {K : PySem.W.Frag} {mg mb : Str → Option Value} {k n : Nat} {fa a : Addr} {fd : FuncData} {x : Str} {N : List Str} {sc : Scope} {body : List Stmt} {params : Arguments} {s1 : Shared} {vs : List Value} {ns : List Int}
/-- from the heap in which the script alone may be tracked -/
theorem run_law {H : Hp} {base : Heap} (F : FunD K "law" "law" params body sc [] [] fa fd) (S : FnScope N [x] sc) (hr : Room (k + 1) callerA) (hbind : ∀ (s : Shared) (u : Value), BindsTo s fd ⟨[u], []⟩ [(x, u)])
    (B : BodyG P w K mg N sc body k n) (e0 : Env0 P w K mg base callerA [] s1 H) (hq : SqL K H a (ns.map V.int)) (hn : ns.length ≤ n) (only : Only H) :
    codeAny (model P w) callerA (.call (.ref fa) ⟨[.ref a], []⟩) (fun r s' => r = .ok (.ret (.bool true)) ∧ OldK s1.heap s'.heap ∧ s'.os = s1.os ∧ AllBare s'.gens) s1 := by
  obtain ⟨oc, od, dV, kV, doc, pm, an, cdv, ct, osl, rfl, lk, hcd, _, _⟩ := F.ex
  have KX : K.In s1.heap := e0.mod.kin.keeps fun b o e => (e0.bs b o e).1
  have lim : s1.heap.NoLimit := e0.mod.nolimit.keeps fun b o e => (e0.bs b o e).1
  have kinds : ∀ y ∈ ([x] : List Str).zip [Value.ref a], sc.names.lookup y.1 = some .local ∨ (sc.names.lookup y.1 = some .cell ∧ ((cellsFrom (s1.heap.objs.size + 1) sc.names []).lookup y.1).isSome = true) := by
    rintro ⟨m, v⟩ hy
    exact (S.par m (List.of_mem_zip hy).1).imp id fun q => ⟨q, PySem.W.cellsFrom_some _ _ _ (.inl q)⟩
  refine codeAny_call_function hr.depth (KX _ _ lk) rfl S.co S.gen rfl (PySem.W.codeRec_of KX hcd) (hbind s1 (.ref a) _ _ _ _ ?_)
  refine wpAny_newFunctionEnv_cells S.kind kinds fun env he z y => ?_
  subst he
  obtain ⟨t, ht, hb⟩ := B base fa a cdv s1 H ns hn hq (hr.deeper _)
  have I : Inv (cxOf CX0 P w K mg base N "law" sc fa cdv callerA [] s1 H E0) [] (start N [.ref a]) H z := inv_start S hr.hd e0 rfl (.cons rfl .nil) y
  refine ⟨lim.keeps y.toInCall.keep, codeAny_func (wpAny_mono (ht.run [] z (start N [.ref a]) H _ (I.wish _) hb) (fun fl s' hs0 => ?_) fun e s' hs => False.elim hs)⟩
  have hs := hs0.unwish
  cases fl with
  | brk => obtain ⟨_, _, _, q⟩ := hs; exact False.elim q
  | cont => obtain ⟨_, _, _, q⟩ := hs; exact False.elim q
  | next => obtain ⟨_, _, _, q⟩ := hs; exact False.elim q
  | ret u =>
    obtain ⟨v, σ', H', J, rv, q⟩ := hs
    have q2 : v = V.bl true := q
    subst q2
    obtain rfl : u = Value.bool true := rv
    refine ⟨rfl, OldK.of_keep fun b o e => ?_, J.os, J.bare⟩
    cases r : H b with
    | none => exact J.base.keep b o e r (by intro z; cases z) (by intro z; cases z)
    | some u =>
      rcases only b with z | ⟨ob, xs, z⟩
      · rw [r] at z; cases z
      · have z2 := J.base.frzs b ob _ z
        obtain ⟨e1, _⟩ := e0.hok b _ z
        obtain ⟨e2, _⟩ := J.hok b _ z2
        rw [e] at e1; cases e1
        exact e2
/-- from the heap behind the top: the script's list alone is tracked, where the written part has it not -/
theorem run_top (F : FunD K "law" "law" params body sc [] [] fa fd) (S : FnScope N [x] sc) (hr : Room (k + 1) callerA) (hbind : ∀ (s : Shared) (u : Value), BindsTo s fd ⟨[u], []⟩ [(x, u)])
    (B : BodyG P w K mg N sc body k n) (KX : K.In s1.heap) (hns : s1.heap.Ns mainGlobals mg) (hb : s1.heap.Ns builtinsNs mb) (hbb : ∀ x : Str, x ≠ "__name__" → mb x = bootBuiltins x) (hlim : s1.heap.NoLimit) (hg : s1.gens = #[])
    (ha : s1.heap.get? a = some { cls := .type "list", data := .seq vs.toArray }) (hi : IntsAre vs ns) (hn : ns.length ≤ n) (hl : n ≤ sizeLine) :
    codeAny (model P w) callerA (.call (.ref fa) ⟨[.ref a], []⟩) (fun r s' => r = .ok (.ret (.bool true)) ∧ OldK s1.heap s'.heap ∧ s'.os = s1.os ∧ AllBare s'.gens) s1 := by
  have rv := vals_ints hi
  have len := hi.length
  have few : ns.length ≤ sizeLine := Nat.le_trans hn hl
  have go : ∀ H : Hp, Only H → SqL K H a (ns.map V.int) → HOk P w H s1.heap → (∀ b, H b ≠ none → b = a ∧ K.lookup a = none) → codeAny (model P w) callerA (.call (.ref fa) ⟨[.ref a], []⟩) (fun r s' => r = .ok (.ret (.bool true)) ∧ OldK s1.heap s'.heap ∧ s'.os = s1.os ∧ AllBare s'.gens) s1 := by
    intro H only hq hok hA
    have none_of : ∀ b : Addr, b ≠ a → H b = none := fun b ne => by
      cases q : H b with
      | none => rfl
      | some u => exact absurd (hA b (by rw [q]; intro z; cases z)).1 ne
    have low : ∀ {b : Addr} {o : Obj}, s1.heap.get? b = some o → H b = none → (hidT s1.heap H).get? b = some o := fun e q => hidT_get e q
    have dct : ∀ {b : Addr} {m : Str → Option Value}, s1.heap.Ns b m → (hidT s1.heap H).Ns b m := by
      rintro b m ⟨o, es, ep, e, d, r⟩
      refine ⟨o, es, ep, low e (none_of b fun q => ?_), d, r⟩
      subst q
      rw [ha] at e
      cases e
      cases d
    have kin : K.In (hidT s1.heap H) := fun b o e => by
      refine low (KX b o e) ?_
      cases q : H b with
      | none => rfl
      | some u =>
        obtain ⟨rfl, z⟩ := hA b (by rw [q]; intro z; cases z)
        rw [z] at e; cases e
    obtain ⟨mc, l1, l2⟩ := hlim
    exact run_law (H := H) (base := hidT s1.heap H) F S hr hbind B ⟨rfl, ⟨kin, dct hns, ⟨mb, dct hb, hbb⟩, ⟨mc, dct l1, l2⟩⟩, fun b o e => of_hidT e, Nat.le_of_eq (hidT_size _ _), trivial, fun b z => (nomatch z), hok, .of_eq hg⟩ hq hn only
  cases lk : K.lookup a with
  | some o =>
    obtain rfl : o = { cls := .type "list", data := .seq vs.toArray } := by
      have e := KX a o lk
      rw [ha] at e
      exact (Option.some.inj e).symm
    exact go (fun _ => none) (fun _ => Or.inl rfl) (Or.inr ⟨_, vs.toArray, _, lk, rfl, rfl, rfl, by rw [List.size_toArray, len]; exact few, by simpa using rv⟩) (fun b u z => nomatch (show (none : Option HO) = some u from z)) fun b z => absurd rfl z
  | none =>
    let u : HO := .frz { cls := .type "list", data := .seq vs.toArray } (.lst (ns.map V.int))
    have at_ : ∀ b, (upd (fun _ => none) a u) b = if b = a then some u else none := fun b => by
      by_cases e : b = a
      · subst e; rw [if_pos rfl]; exact upd_same
      · rw [if_neg e]; exact upd_ne e
    refine go (upd (fun _ => none) a u) (fun b => ?_) (Or.inl (Or.inr ⟨_, upd_same⟩)) (fun b v z => ?_) fun b z => ⟨?_, lk⟩
    · rw [at_]; split
      · exact Or.inr ⟨_, _, rfl⟩
      · exact Or.inl rfl
    · rw [at_] at z
      by_cases e : b = a
      · rw [if_pos e] at z
        cases z
        subst e
        exact ⟨ha, by rw [List.length_map]; exact few, vs, _, rv, ha⟩
      · rw [if_neg e] at z; cases z
    · apply Classical.byContradiction
      intro e
      rw [at_, if_neg e] at z
      exact z rfl
end
open PySem PySem.Spec PyProof.Rows
/-- the walk behind the top, from the body of the law's def -/
theorem walk_ofG {l : PySem.W.OpenLaw} {n k : Nat} {q : Program} {loose : List Str} {XP : (Str → Option Value) → Heap → Prop} {YP : World → Heap → Prop} {d : DefRec} {x : Str}
    (hn : l.most = some n) (hl : n ≤ sizeLine) (hdf : d.params.defaults = []) (hr : Room (k + 1) callerA)
    (F : ∀ (w : World) (mg : Str → Option Value) (fa : Addr) (h : Heap), YP w h → h.Ns mainGlobals mg → mg d.name = some (.ref fa) →
      ∃ (K : PySem.W.Frag) (fd : FuncData) (N : List Str) (sc : Scope) (body : List Stmt) (params : Arguments), K.In h ∧ FunD K "law" "law" params body sc [] [] fa fd ∧ FnScope N [x] sc ∧
        (∀ (s : Shared) (u : Value), BindsTo s fd ⟨[u], []⟩ [(x, u)]) ∧ BodyG l.prog w K mg N sc body k n) :
    PySem.W.WalkO q loose XP YP l.row.toRowW d [] (fun f vs => PySem.call f vs) := by
  refine Att.attach_call hn hdf fun w s0 s1 mg mb fa o pm cd doc a vs ns G Y ho hd hcd hmg hobj hi hlen hg => ?_
  obtain ⟨K, fd, N, sc, body, params, KX, f, S, hb, B⟩ := F w mg fa _ Y G.T.g hmg
  exact run_top f S hr hb B KX G.T.g G.T.b G.T.builtins G.T.nolimit hg hobj hi hlen hl
end Hb
set_option Elab.async false
set_option linter.all false
set_option maxRecDepth 100000
set_option maxHeartbeats 8000000
namespace Hb
open PySem PySem.Spec PyProof.Rows L2
section
variable {X : Cx}
/-- repr of an object that is data -/
def rReprD (K : PySem.W.Frag) : List V → Hp → VK → Prop := fun vs H Q => ∃ (a : Addr) (d : PyData), vs = [.ref a] ∧ Dp K H (.ref a) d ∧ d.showable = true ∧ d.hasDict = false ∧ d.depth ≤ 60 ∧ d.shown.length ≤ sizeLine ∧ Q (.str d.shown) H
theorem cr_reprD (hg : X.A.guards = some []) (hu : X.A.units + 64 < cLine) : CallR X (.builtin "repr") (rReprD X.K) := by
  intro pins s σ H vs us Q I r h
  obtain ⟨a, d, rfl, hd, hs, hk, hz, hl, q⟩ := h
  rw [Vals.ref1 r]
  obtain ⟨as, rd⟩ := L2.Dp.reads I d _ (.ref a) hd rfl
  refine repr_of_reads' rd hs (fun e => by rw [hk] at e; cases e) hg (by omega) (fun _ _ e => e) (fun h' u tk k => ?_) hl
  exact ⟨.str d.shown, H, I.kept k, ⟨u, rfl⟩, q⟩
end
end Hb
set_option Elab.async false
set_option linter.all false
set_option maxRecDepth 100000
set_option maxHeartbeats 4000000
/-! The text, by places. -/
namespace Lw
open PySem PySem.Spec PyProof.Rows L2 Hb
def top (i : Nat) : Stmt := PySem.Challenge.pw_hushsteps_k06_noises_that_are_mended.main.body.getD i (.Pass ⟨0, 0, 0, 0⟩)
abbrev s_is_whole : Stmt := (top 7)
abbrev N_is_whole : List Str := ["value"]
theorem sc_is_whole : FnScope N_is_whole ["value"] (defScope s_is_whole) := C8.fnScope_by (by decide +kernel)
theorem bd_is_whole : ∀ (kV doc pm : Value) (an : Option Addr) (cdv ct : Value) (us : List Value), us.length = (["value"] : List Str).length → bindArgs (PySem.W.fnOf "is_whole" "is_whole" (defArgs s_is_whole) (defBody s_is_whole) (defScope s_is_whole) .none kV doc pm an cdv ct) ⟨us, []⟩ = pure ((["value"] : List Str).zip us) :=
  fun _ _ _ _ _ _ us hl => match us, hl with | [_], _ => rfl
abbrev s_is_positive : Stmt := (top 8)
abbrev N_is_positive : List Str := ["value"]
theorem sc_is_positive : FnScope N_is_positive ["value"] (defScope s_is_positive) := C8.fnScope_by (by decide +kernel)
theorem bd_is_positive : ∀ (kV doc pm : Value) (an : Option Addr) (cdv ct : Value) (us : List Value), us.length = (["value"] : List Str).length → bindArgs (PySem.W.fnOf "is_positive" "is_positive" (defArgs s_is_positive) (defBody s_is_positive) (defScope s_is_positive) .none kV doc pm an cdv ct) ⟨us, []⟩ = pure ((["value"] : List Str).zip us) :=
  fun _ _ _ _ _ _ us hl => match us, hl with | [_], _ => rfl
abbrev s_is_name : Stmt := (top 9)
abbrev N_is_name : List Str := ["value", "letter"]
theorem sc_is_name : FnScope N_is_name ["value"] (defScope s_is_name) := C8.fnScope_by (by decide +kernel)
theorem bd_is_name : ∀ (kV doc pm : Value) (an : Option Addr) (cdv ct : Value) (us : List Value), us.length = (["value"] : List Str).length → bindArgs (PySem.W.fnOf "is_name" "is_name" (defArgs s_is_name) (defBody s_is_name) (defScope s_is_name) .none kV doc pm an cdv ct) ⟨us, []⟩ = pure ((["value"] : List Str).zip us) :=
  fun _ _ _ _ _ _ us hl => match us, hl with | [_], _ => rfl
abbrev s_is_row : Stmt := (top 10)
abbrev N_is_row : List Str := ["value"]
theorem sc_is_row : FnScope N_is_row ["value"] (defScope s_is_row) := C8.fnScope_by (by decide +kernel)
theorem bd_is_row : ∀ (kV doc pm : Value) (an : Option Addr) (cdv ct : Value) (us : List Value), us.length = (["value"] : List Str).length → bindArgs (PySem.W.fnOf "is_row" "is_row" (defArgs s_is_row) (defBody s_is_row) (defScope s_is_row) .none kV doc pm an cdv ct) ⟨us, []⟩ = pure ((["value"] : List Str).zip us) :=
  fun _ _ _ _ _ _ us hl => match us, hl with | [_], _ => rfl
abbrev s_is_tuple_of : Stmt := (top 11)
abbrev N_is_tuple_of : List Str := ["value", "many"]
theorem sc_is_tuple_of : FnScope N_is_tuple_of ["value", "many"] (defScope s_is_tuple_of) := C8.fnScope_by (by decide +kernel)
theorem bd_is_tuple_of : ∀ (kV doc pm : Value) (an : Option Addr) (cdv ct : Value) (us : List Value), us.length = (["value", "many"] : List Str).length → bindArgs (PySem.W.fnOf "is_tuple_of" "is_tuple_of" (defArgs s_is_tuple_of) (defBody s_is_tuple_of) (defScope s_is_tuple_of) .none kV doc pm an cdv ct) ⟨us, []⟩ = pure ((["value", "many"] : List Str).zip us) :=
  fun _ _ _ _ _ _ us hl => match us, hl with | [_, _], _ => rfl
abbrev s_are_unlike : Stmt := (top 12)
abbrev N_are_unlike : List Str := ["things"]
theorem sc_are_unlike : FnScope N_are_unlike ["things"] (defScope s_are_unlike) := C8.fnScope_by (by decide +kernel)
theorem bd_are_unlike : ∀ (kV doc pm : Value) (an : Option Addr) (cdv ct : Value) (us : List Value), us.length = (["things"] : List Str).length → bindArgs (PySem.W.fnOf "are_unlike" "are_unlike" (defArgs s_are_unlike) (defBody s_are_unlike) (defScope s_are_unlike) .none kV doc pm an cdv ct) ⟨us, []⟩ = pure ((["things"] : List Str).zip us) :=
  fun _ _ _ _ _ _ us hl => match us, hl with | [_], _ => rfl
abbrev s_is_room : Stmt := (top 16)
abbrev N_is_room : List Str := ["rooms", "value"]
theorem sc_is_room : FnScope N_is_room ["rooms", "value"] (defScope s_is_room) := C8.fnScope_by (by decide +kernel)
theorem bd_is_room : ∀ (kV doc pm : Value) (an : Option Addr) (cdv ct : Value) (us : List Value), us.length = (["rooms", "value"] : List Str).length → bindArgs (PySem.W.fnOf "is_room" "is_room" (defArgs s_is_room) (defBody s_is_room) (defScope s_is_room) .none kV doc pm an cdv ct) ⟨us, []⟩ = pure ((["rooms", "value"] : List Str).zip us) :=
  fun _ _ _ _ _ _ us hl => match us, hl with | [_, _], _ => rfl
abbrev s_is_door : Stmt := (top 17)
abbrev N_is_door : List Str := ["rooms", "value", "one", "other", "noise"]
theorem sc_is_door : FnScope N_is_door ["rooms", "value"] (defScope s_is_door) := C8.fnScope_by (by decide +kernel)
theorem bd_is_door : ∀ (kV doc pm : Value) (an : Option Addr) (cdv ct : Value) (us : List Value), us.length = (["rooms", "value"] : List Str).length → bindArgs (PySem.W.fnOf "is_door" "is_door" (defArgs s_is_door) (defBody s_is_door) (defScope s_is_door) .none kV doc pm an cdv ct) ⟨us, []⟩ = pure ((["rooms", "value"] : List Str).zip us) :=
  fun _ _ _ _ _ _ us hl => match us, hl with | [_, _], _ => rfl
abbrev s_is_floor : Stmt := (top 18)
abbrev N_is_floor : List Str := ["rooms", "value"]
theorem sc_is_floor : FnScope N_is_floor ["rooms", "value"] (defScope s_is_floor) := C8.fnScope_by (by decide +kernel)
theorem bd_is_floor : ∀ (kV doc pm : Value) (an : Option Addr) (cdv ct : Value) (us : List Value), us.length = (["rooms", "value"] : List Str).length → bindArgs (PySem.W.fnOf "is_floor" "is_floor" (defArgs s_is_floor) (defBody s_is_floor) (defScope s_is_floor) .none kV doc pm an cdv ct) ⟨us, []⟩ = pure ((["rooms", "value"] : List Str).zip us) :=
  fun _ _ _ _ _ _ us hl => match us, hl with | [_, _], _ => rfl
abbrev s_are_doors : Stmt := (top 19)
abbrev N_are_doors : List Str := ["rooms", "value", "door"]
theorem sc_are_doors : FnScope N_are_doors ["rooms", "value"] (defScope s_are_doors) := C8.fnScope_by (by decide +kernel)
theorem bd_are_doors : ∀ (kV doc pm : Value) (an : Option Addr) (cdv ct : Value) (us : List Value), us.length = (["rooms", "value"] : List Str).length → bindArgs (PySem.W.fnOf "are_doors" "are_doors" (defArgs s_are_doors) (defBody s_are_doors) (defScope s_are_doors) .none kV doc pm an cdv ct) ⟨us, []⟩ = pure ((["rooms", "value"] : List Str).zip us) :=
  fun _ _ _ _ _ _ us hl => match us, hl with | [_, _], _ => rfl
abbrev s_are_floors : Stmt := (top 20)
abbrev N_are_floors : List Str := ["rooms", "value", "floor"]
theorem sc_are_floors : FnScope N_are_floors ["rooms", "value"] (defScope s_are_floors) := C8.fnScope_by (by decide +kernel)
theorem bd_are_floors : ∀ (kV doc pm : Value) (an : Option Addr) (cdv ct : Value) (us : List Value), us.length = (["rooms", "value"] : List Str).length → bindArgs (PySem.W.fnOf "are_floors" "are_floors" (defArgs s_are_floors) (defBody s_are_floors) (defScope s_are_floors) .none kV doc pm an cdv ct) ⟨us, []⟩ = pure ((["rooms", "value"] : List Str).zip us) :=
  fun _ _ _ _ _ _ us hl => match us, hl with | [_, _], _ => rfl
abbrev s_are_cradles : Stmt := (top 21)
abbrev N_are_cradles : List Str := ["rooms", "value", "room"]
theorem sc_are_cradles : FnScope N_are_cradles ["rooms", "value"] (defScope s_are_cradles) := C8.fnScope_by (by decide +kernel)
theorem bd_are_cradles : ∀ (kV doc pm : Value) (an : Option Addr) (cdv ct : Value) (us : List Value), us.length = (["rooms", "value"] : List Str).length → bindArgs (PySem.W.fnOf "are_cradles" "are_cradles" (defArgs s_are_cradles) (defBody s_are_cradles) (defScope s_are_cradles) .none kV doc pm an cdv ct) ⟨us, []⟩ = pure ((["rooms", "value"] : List Str).zip us) :=
  fun _ _ _ _ _ _ us hl => match us, hl with | [_, _], _ => rfl
abbrev s_House_init : Stmt := (inClass (top 28) 0)
abbrev N_House_init : List Str := ["self", "rooms", "doors", "floors", "cradles"]
theorem sc_House_init : FnScope N_House_init ["self", "rooms", "doors", "floors", "cradles"] (defScope s_House_init) := C8.fnScope_by (by decide +kernel)
theorem bd_House_init : ∀ (kV doc pm : Value) (an : Option Addr) (cdv ct : Value) (us : List Value), us.length = (["self", "rooms", "doors", "floors", "cradles"] : List Str).length → bindArgs (PySem.W.fnOf "__init__" "House.__init__" (defArgs s_House_init) (defBody s_House_init) (defScope s_House_init) .none kV doc pm an cdv ct) ⟨us, []⟩ = pure ((["self", "rooms", "doors", "floors", "cradles"] : List Str).zip us) :=
  fun _ _ _ _ _ _ us hl => match us, hl with | [_, _, _, _, _], _ => rfl
theorem bk_House_init : ∀ (T : Addr) (kV doc pm : Value) (an : Option Addr) (cdv ct : Value) (us its : List Value), us.length = (["self", "rooms", "doors", "floors", "cradles"] : List Str).length → its.length = 2 → ∃ k, bindArgs (PySem.W.fnOf "__init__" "House.__init__" (defArgs s_House_init) (defBody s_House_init) (defScope s_House_init) (.ref T) kV doc pm an cdv ct) ⟨us, []⟩ = seqItems? (.ref T) >>= k ∧ k (some its.toArray) = pure ((["self", "rooms", "doors", "floors", "cradles"] : List Str).zip us) :=
  fun _ _ _ _ _ _ _ us its h1 h2 => match us, its, h1, h2 with | [_, _, _, _, _], [_, _], _, _ => ⟨_, rfl, rfl⟩
theorem bkp_House_init : ∀ (T : Addr) (kV doc pm : Value) (an : Option Addr) (cdv ct : Value) (us its : List Value), us.length = 3 → its.length = 2 → ∃ k, bindArgs (PySem.W.fnOf "__init__" "House.__init__" (defArgs s_House_init) (defBody s_House_init) (defScope s_House_init) (.ref T) kV doc pm an cdv ct) ⟨us, []⟩ = seqItems? (.ref T) >>= k ∧ k (some its.toArray) = pure ((["self", "rooms", "doors", "floors", "cradles"] : List Str).zip (us ++ its)) :=
  fun _ _ _ _ _ _ _ us its h1 h2 => match us, its, h1, h2 with | [_, _, _], [_, _], _, _ => ⟨_, rfl, rfl⟩
theorem bkp1_House_init : ∀ (T : Addr) (kV doc pm : Value) (an : Option Addr) (cdv ct : Value) (us its : List Value), us.length = 4 → its.length = 2 → ∃ k, bindArgs (PySem.W.fnOf "__init__" "House.__init__" (defArgs s_House_init) (defBody s_House_init) (defScope s_House_init) (.ref T) kV doc pm an cdv ct) ⟨us, []⟩ = seqItems? (.ref T) >>= k ∧ k (some its.toArray) = pure ((["self", "rooms", "doors", "floors", "cradles"] : List Str).zip (us ++ its.drop 1)) :=
  fun _ _ _ _ _ _ _ us its h1 h2 => match us, its, h1, h2 with | [_, _, _, _], [_, _], _, _ => ⟨_, rfl, rfl⟩
abbrev s_House_eq : Stmt := (inClass (top 28) 5)
abbrev N_House_eq : List Str := ["self", "other"]
theorem sc_House_eq : FnScope N_House_eq ["self", "other"] (defScope s_House_eq) := C8.fnScope_by (by decide +kernel)
theorem bd_House_eq : ∀ (kV doc pm : Value) (an : Option Addr) (cdv ct : Value) (us : List Value), us.length = (["self", "other"] : List Str).length → bindArgs (PySem.W.fnOf "__eq__" "House.__eq__" (defArgs s_House_eq) (defBody s_House_eq) (defScope s_House_eq) .none kV doc pm an cdv ct) ⟨us, []⟩ = pure ((["self", "other"] : List Str).zip us) :=
  fun _ _ _ _ _ _ us hl => match us, hl with | [_, _], _ => rfl
abbrev s_House_len : Stmt := (inClass (top 28) 4)
abbrev N_House_len : List Str := ["self"]
theorem sc_House_len : FnScope N_House_len ["self"] (defScope s_House_len) := C8.fnScope_by (by decide +kernel)
theorem bd_House_len : ∀ (kV doc pm : Value) (an : Option Addr) (cdv ct : Value) (us : List Value), us.length = (["self"] : List Str).length → bindArgs (PySem.W.fnOf "__len__" "House.__len__" (defArgs s_House_len) (defBody s_House_len) (defScope s_House_len) .none kV doc pm an cdv ct) ⟨us, []⟩ = pure ((["self"] : List Str).zip us) :=
  fun _ _ _ _ _ _ us hl => match us, hl with | [_], _ => rfl
abbrev s_House_mended : Stmt := (inClass (top 28) 3)
abbrev N_House_mended : List Str := ["self", "names", "doors", "one", "other", "noise", "floors", "room"]
theorem sc_House_mended : FnScope N_House_mended ["self", "names"] (defScope s_House_mended) := C8.fnScope_by (by decide +kernel)
theorem bd_House_mended : ∀ (kV doc pm : Value) (an : Option Addr) (cdv ct : Value) (us : List Value), us.length = (["self", "names"] : List Str).length → bindArgs (PySem.W.fnOf "mended" "House.mended" (defArgs s_House_mended) (defBody s_House_mended) (defScope s_House_mended) .none kV doc pm an cdv ct) ⟨us, []⟩ = pure ((["self", "names"] : List Str).zip us) :=
  fun _ _ _ _ _ _ us hl => match us, hl with | [_, _], _ => rfl
abbrev s_House_noises : Stmt := (inClass (top 28) 2)
abbrev N_House_noises : List Str := ["self", "of_doors", "one", "other", "noise", "of_floors", "room"]
theorem sc_House_noises : FnScope N_House_noises ["self"] (defScope s_House_noises) := C8.fnScope_by (by decide +kernel)
theorem bd_House_noises : ∀ (kV doc pm : Value) (an : Option Addr) (cdv ct : Value) (us : List Value), us.length = (["self"] : List Str).length → bindArgs (PySem.W.fnOf "noises" "House.noises" (defArgs s_House_noises) (defBody s_House_noises) (defScope s_House_noises) .none kV doc pm an cdv ct) ⟨us, []⟩ = pure ((["self"] : List Str).zip us) :=
  fun _ _ _ _ _ _ us hl => match us, hl with | [_], _ => rfl
abbrev s_deal : Stmt := (top 30)
abbrev N_deal : List Str := ["_law_script", "_law_base", "_law_cells", "_law_cell", "_law_mixed_here", "_law_great"]
theorem sc_deal : FnScope N_deal ["_law_script", "_law_base"] (defScope s_deal) := C8.fnScope_by (by decide +kernel)
theorem bd_deal : ∀ (kV doc pm : Value) (an : Option Addr) (cdv ct : Value) (us : List Value), us.length = (["_law_script", "_law_base"] : List Str).length → bindArgs (PySem.W.fnOf "_law_deal" "_law_deal" (defArgs s_deal) (defBody s_deal) (defScope s_deal) .none kV doc pm an cdv ct) ⟨us, []⟩ = pure ((["_law_script", "_law_base"] : List Str).zip us) :=
  fun _ _ _ _ _ _ us hl => match us, hl with | [_, _], _ => rfl
abbrev s_draw : Stmt := (top 31)
abbrev N_draw : List Str := ["_law_deal_here", "_law_many", "_law_digit", "_law_first", "_law_second"]
theorem sc_draw : FnScope N_draw ["_law_deal_here", "_law_many"] (defScope s_draw) := C8.fnScope_by (by decide +kernel)
theorem bd_draw : ∀ (kV doc pm : Value) (an : Option Addr) (cdv ct : Value) (us : List Value), us.length = (["_law_deal_here", "_law_many"] : List Str).length → bindArgs (PySem.W.fnOf "_law_draw" "_law_draw" (defArgs s_draw) (defBody s_draw) (defScope s_draw) .none kV doc pm an cdv ct) ⟨us, []⟩ = pure ((["_law_deal_here", "_law_many"] : List Str).zip us) :=
  fun _ _ _ _ _ _ us hl => match us, hl with | [_, _], _ => rfl
abbrev s_pick : Stmt := (top 32)
abbrev N_pick : List Str := ["_law_deal_here", "_law_some"]
theorem sc_pick : FnScope N_pick ["_law_deal_here", "_law_some"] (defScope s_pick) := C8.fnScope_by (by decide +kernel)
theorem bd_pick : ∀ (kV doc pm : Value) (an : Option Addr) (cdv ct : Value) (us : List Value), us.length = (["_law_deal_here", "_law_some"] : List Str).length → bindArgs (PySem.W.fnOf "_law_pick" "_law_pick" (defArgs s_pick) (defBody s_pick) (defScope s_pick) .none kV doc pm an cdv ct) ⟨us, []⟩ = pure ((["_law_deal_here", "_law_some"] : List Str).zip us) :=
  fun _ _ _ _ _ _ us hl => match us, hl with | [_, _], _ => rfl
abbrev s_mixed : Stmt := (top 33)
abbrev N_mixed : List Str := ["_law_deal_here", "_law_some", "_law_left", "_law_found"]
theorem sc_mixed : FnScope N_mixed ["_law_deal_here", "_law_some"] (defScope s_mixed) := C8.fnScope_by (by decide +kernel)
theorem bd_mixed : ∀ (kV doc pm : Value) (an : Option Addr) (cdv ct : Value) (us : List Value), us.length = (["_law_deal_here", "_law_some"] : List Str).length → bindArgs (PySem.W.fnOf "_law_mixed" "_law_mixed" (defArgs s_mixed) (defBody s_mixed) (defScope s_mixed) .none kV doc pm an cdv ct) ⟨us, []⟩ = pure ((["_law_deal_here", "_law_some"] : List Str).zip us) :=
  fun _ _ _ _ _ _ us hl => match us, hl with | [_, _], _ => rfl
abbrev s_words : Stmt := (top 34)
abbrev N_words : List Str := ["_law_deal_here", "_law_many"]
theorem sc_words : FnScope N_words ["_law_deal_here", "_law_many"] (defScope s_words) := C8.fnScope_by (by decide +kernel)
theorem bd_words : ∀ (kV doc pm : Value) (an : Option Addr) (cdv ct : Value) (us : List Value), us.length = (["_law_deal_here", "_law_many"] : List Str).length → bindArgs (PySem.W.fnOf "_law_words" "_law_words" (defArgs s_words) (defBody s_words) (defScope s_words) .none kV doc pm an cdv ct) ⟨us, []⟩ = pure ((["_law_deal_here", "_law_many"] : List Str).zip us) :=
  fun _ _ _ _ _ _ us hl => match us, hl with | [_, _], _ => rfl
abbrev s_drawn_house : Stmt := (top 35)
abbrev N_drawn_house : List Str := ["_law_deal_here", "_law_rooms", "_law_doors", "_law_words_here", "_law_many", "_law_found", "_law_other", "_law_pair", "_law_more", "_law_floors", "_law_room", "_law_cradles"]
theorem sc_drawn_house : FnScope N_drawn_house ["_law_deal_here", "_law_rooms", "_law_doors", "_law_words_here"] (defScope s_drawn_house) := C8.fnScope_by (by decide +kernel)
theorem bd_drawn_house : ∀ (kV doc pm : Value) (an : Option Addr) (cdv ct : Value) (us : List Value), us.length = (["_law_deal_here", "_law_rooms", "_law_doors", "_law_words_here"] : List Str).length → bindArgs (PySem.W.fnOf "_law_drawn_house" "_law_drawn_house" (defArgs s_drawn_house) (defBody s_drawn_house) (defScope s_drawn_house) .none kV doc pm an cdv ct) ⟨us, []⟩ = pure ((["_law_deal_here", "_law_rooms", "_law_doors", "_law_words_here"] : List Str).zip us) :=
  fun _ _ _ _ _ _ us hl => match us, hl with | [_, _, _, _], _ => rfl
abbrev s_house_of : Stmt := (top 36)
abbrev N_house_of : List Str := ["_law_one"]
theorem sc_house_of : FnScope N_house_of ["_law_one"] (defScope s_house_of) := C8.fnScope_by (by decide +kernel)
theorem bd_house_of : ∀ (kV doc pm : Value) (an : Option Addr) (cdv ct : Value) (us : List Value), us.length = (["_law_one"] : List Str).length → bindArgs (PySem.W.fnOf "_law_house_of" "_law_house_of" (defArgs s_house_of) (defBody s_house_of) (defScope s_house_of) .none kV doc pm an cdv ct) ⟨us, []⟩ = pure ((["_law_one"] : List Str).zip us) :=
  fun _ _ _ _ _ _ us hl => match us, hl with | [_], _ => rfl
abbrev s_law : Stmt := (top 37)
abbrev N_law : List Str := ["_law_script", "_law_deal_here", "_law_turn", "_law_words_here", "_law_one", "_law_made", "_law_names", "_law_doors", "_law_a", "_law_b", "_law_noise", "_law_due", "_law_floor", "_law_handed", "_law_less", "_law_left", "_law_name", "_law_some"]
theorem sc_law : FnScope N_law ["_law_script"] (defScope s_law) := C8.fnScope_by (by decide +kernel)
theorem bd_law : ∀ (kV doc pm : Value) (an : Option Addr) (cdv ct : Value) (us : List Value), us.length = (["_law_script"] : List Str).length → bindArgs (PySem.W.fnOf "law" "law" (defArgs s_law) (defBody s_law) (defScope s_law) .none kV doc pm an cdv ct) ⟨us, []⟩ = pure ((["_law_script"] : List Str).zip us) :=
  fun _ _ _ _ _ _ us hl => match us, hl with | [_], _ => rfl
/-- what the module's names stand for -/
structure Tx (K : PySem.W.Frag) (mg : Str → Option Value) : Prop where
  n_len : mg "len" = none
  n_set : mg "set" = none
  n_abs : mg "abs" = none
  n_min : mg "min" = none
  n_int : mg "int" = none
  n_str : mg "str" = none
  n_bool : mg "bool" = none
  n_list : mg "list" = none
  n_tuple : mg "tuple" = none
  n_dict : mg "dict" = none
  n_isinstance : mg "isinstance" = none
  n_all : mg "all" = none
  n_sorted : mg "sorted" = none
  n_range : mg "range" = none
  n_repr : mg "repr" = none
  s_LETTERS : ∃ t, mg "LETTERS" = some (.str "abcdefghijklmnopqrstuvwxyz" t)
  g_House : mg "House" = some (.ref (He.ga K "House"))
  i_any : ∀ t ∈ anyTy, PySem.W.kitOne K (.type t) (.ref (He.ga K "House")) = some false
  k_class : PySem.W.findIn K (.ref (He.ga K "House")) "__class__" = some (some (.builtin "object.__class__"))
  k_get : PySem.W.specialIn K (.builtin "object.__class__") "__get__" = some (some (.builtin "getset_descriptor.__get__"))
  k_takes : PySem.W.takesIn K (.builtin "object.__class__") = some true
  k_obj : PySem.W.mroIn K (He.ga K "House") (.type "object") = some true
  f_ne : PySem.W.findIn K (.ref (He.ga K "House")) "__ne__" = some (some (.builtin "object.__ne__"))
  cls : Cls K (He.ga K "House")
  a_rooms : NoAttr K (He.ga K "House") "rooms"
  a_doors : NoAttr K (He.ga K "House") "doors"
  a_floors : NoAttr K (He.ga K "House") "floors"
  a_cradles : NoAttr K (He.ga K "House") "cradles"
end Lw
set_option Elab.async false
set_option linter.all false
set_option maxRecDepth 100000
set_option maxHeartbeats 4000000
namespace Lw
open PySem PySem.Spec PyProof.Rows L2 Hb
def spDraw : Sp := fun vs H Q _ => ∃ (d g : Addr) (many : Int), vs = [.ref d, .int many] ∧ Deal d g H ∧ 0 < many ∧ many < 1000000 ∧
  ∀ (H' : Hp) (r : Int), Deal d g H' → Kp d g H H' → 0 ≤ r → r < many → Q (.int r) H'
def lenAt (g : Addr) (H : Hp) : Nat := match H g with
  | some (.lst xs) => xs.length
  | _ => 0
theorem lenAt_of {g : Addr} {H : Hp} {xs : List V} (h : H g = some (.lst xs)) : lenAt g H = xs.length := by unfold lenAt; rw [h]
section
variable {P : Program} {w : World} {K : PySem.W.Frag} {mg : Str → Option Value} {base : Heap}
theorem c_draw (D : Df K mg "_law_draw" s_draw) (T : Tx K mg) : C8.Cal P w K mg base 1 "_law_draw" spDraw [] := by
  refine cal_mk D sc_draw bd_draw (fun vs H Q E h => ?_) fun f cdv A outer s H vs Q E hr h => ?_
  · obtain ⟨d, g, many, rfl, _⟩ := h
    rfl
  · obtain ⟨d, g, many, rfl, ⟨ns, now, mixed, turn, x⟩, m0, m1, k⟩ := h
    have hu := hu_of hr
    refine ⟨_, (pss_cons (ps_while PassesOwn.never (PW.pt (pw_and (pt_cmpR op_eq (pe_dget hu (pv 0) pe_str (fun _ _ => rfl)) pe_int (by first | exact nomark _ | rfl)) (pw_and1 (pt_cmpR op_gt (pe_callB call_len (by rfl) T.n_len (by decide +kernel) (pa_cons (pe_dget hu (pv 0) pe_str (fun _ _ => rfl)) pa_nil)) pe_int (by first | exact nomark _ | rfl)))))
 (pss_one (ps_dput hu (pv 0) pe_str (pe_bm0 PySem.F.plainAttrs_list PySem.F.slot_list_pop PySem.F.type_list_pop mt_pop (pe_dget hu (pv 0) pe_str (fun _ _ => rfl))) rfl)))
 (pss_cons (ps_if (pt_cmpR op_gt (pe_dget hu (pv 0) pe_str (fun _ _ => rfl)) pe_int (by first | exact nomark _ | rfl))
 (pss_cons (ps_set (i := 2) sc_draw.nd rfl (Or.inl rfl) (pe_op op_mod (pe_callTy call_int1 (by rfl) T.n_int (by decide +kernel) (pa_cons (pe_dget hu (pv 0) pe_str (fun _ _ => rfl)) pa_nil)) (pv 1)))
 (pss_cons (ps_dput hu (pv 0) pe_str (pe_op op_fdiv (pe_dget hu (pv 0) pe_str (fun _ _ => rfl)) (pv 1)) rfl)
 (pss_one (ps_ret (pv 2)))))
 pss_nil)
 (pss_cons (ps_dput hu (pv 0) pe_str (pe_op op_add (pe_dget hu (pv 0) pe_str (fun _ _ => rfl)) pe_int) rfl)
 (pss_cons (ps_set (i := 3) sc_draw.nd rfl (Or.inl rfl) (pe_op op_mod (pe_callTy call_int1 (by rfl) T.n_int (by decide +kernel) (pa_cons (pe_op op_add (pe_op op_mul (pe_dget hu (pv 0) pe_str (fun _ _ => rfl)) pe_int) (pe_op op_mul (pe_dget hu (pv 0) pe_str (fun _ _ => rfl)) pe_int)) pa_nil)) pe_int))
 (pss_cons (ps_set (i := 4) sc_draw.nd rfl (Or.inl rfl) (pe_op op_mod (pe_callTy call_int1 (by rfl) T.n_int (by decide +kernel) (pa_cons (pe_op op_add (pe_op op_mul (pv 3) (pv 3)) (pe_op op_mul (pe_dget hu (pv 0) pe_str (fun _ _ => rfl)) pe_int)) pa_nil)) pe_int))
 (pss_cons (ps_dput hu (pv 0) pe_str (pe_op op_add (pe_op op_mod (pe_callTy call_int1 (by rfl) T.n_int (by decide +kernel) (pa_cons (pe_op op_add (pe_op op_mul (pv 4) pe_int) (pv 3)) pa_nil)) pe_int) pe_int) rfl)
 (pss_one (ps_ret (pe_op op_mod (pe_callTy call_int1 (by rfl) T.n_int (by decide +kernel) (pa_cons (pe_op op_add (pe_op op_fdiv (pv 4) pe_int) (pv 3)) pa_nil)) (pv 1)))))))))), ?_⟩
    refine cut_seq (fun σ' H' => σ' = start N_draw [.ref d, .int many] ∧ Deal d g H' ∧ Kp d g H H') ?rest fun rest => while_by (fun σ H' => σ = start N_draw [.ref d, .int many] ∧ Deal d g H' ∧ Kp d g H H') (fun _ H' => lenAt g H') ⟨rfl, ⟨ns, now, mixed, turn, x⟩, Kp.refl _ _ _⟩ ?_ ?_
    case rest =>
      rintro σ H1 ⟨rfl, ⟨ns, now, mixed, turn, x⟩, kp⟩
      refine ⟨_, rfl, d, _, rfl, DGet.k (k := Sum.inr "now") x.d, _, _, rfl, rfl, _, rfl, ?_⟩
      refine ite2 (fun h0 => ?_) (fun h0 => ?_)
      · have h1 : 0 < now := of_decide_eq_true h0
        refine ⟨_, rfl, d, _, rfl, DGet.k (k := Sum.inr "now") x.d, .inl ⟨_, rfl, _, rfl, _, _, rfl, rfl, m0, ?_⟩⟩
        refine ⟨_, rfl, d, _, rfl, DGet.k (k := Sum.inr "now") x.d, _, rfl, _, _, rfl, rfl, ⟨m0, by omega⟩, ?_⟩
        refine ⟨_, rfl, d, _, rfl, DPut.k (k := Sum.inr "now") x.d (by show 4 < sizeLine; decide), _, rfl, ?_⟩
        rw [show putK (dealKV g now mixed turn) (Sum.inr "now") (V.int (now / many)) = dealKV g (now / many) mixed turn from rfl]
        exact k _ _ ⟨ns, now / many, mixed, turn, ⟨upd_same, by rw [upd_ne x.ne.symm]; exact x.g, x.few, x.pos, Int.ediv_nonneg x.now (Int.le_of_lt m0)⟩⟩ (kp.trans Kp.put_d) (Int.emod_nonneg _ (by omega)) (Int.emod_lt_of_pos _ m0)
      · refine ⟨_, rfl, d, _, rfl, DGet.k (k := Sum.inr "turn") x.d, _, _, rfl, rfl, _, rfl, d, _, rfl, DPut.k (k := Sum.inr "turn") x.d (by show 4 < sizeLine; decide), ?_⟩
        rw [show putK (dealKV g now mixed turn) (Sum.inr "turn") (V.int (turn + 1)) = dealKV g now mixed (turn + 1) from rfl]
        have y : Dl d g (upd H1 d (.dK (dealKV g now mixed (turn + 1)))) ns now mixed (turn + 1) := ⟨upd_same, by rw [upd_ne x.ne.symm]; exact x.g, x.few, x.pos, x.now⟩
        refine ⟨_, rfl, d, _, rfl, DGet.k (k := Sum.inr "mixed") y.d, _, _, rfl, rfl, .inr (by decide), _, rfl, d, _, rfl, DGet.k (k := Sum.inr "turn") y.d, _, _, rfl, rfl, .inr (by decide), _, _, rfl, rfl, .inl ⟨_, rfl, _, _, rfl, rfl, (by show (0 : Int) < 2147483629; decide), ?_⟩⟩
        have f0 : 0 ≤ (mixed * 48271 + (turn + 1) * 69621) % 2147483629 := by omega
        have f1 : (mixed * 48271 + (turn + 1) * 69621) % 2147483629 < 2147483629 := by omega
        refine ⟨_, rfl, _, rfl, _, _, rfl, rfl, .inl ⟨by omega, by omega⟩, _, rfl, d, _, rfl, DGet.k (k := Sum.inr "turn") y.d, _, _, rfl, rfl, .inr (by decide), _, _, rfl, rfl, .inl ⟨_, rfl, _, _, rfl, rfl, (by show (0 : Int) < 2147483563; decide), ?_⟩⟩
        refine ⟨_, rfl, _, _, rfl, rfl, .inr (by decide), _, rfl, _, _, rfl, rfl, .inl ⟨_, rfl, _, _, rfl, rfl, (by show (0 : Int) < 2147483647; decide), _, _, rfl, rfl, _, rfl, d, _, rfl, DPut.k (k := Sum.inr "mixed") y.d (by show 4 < sizeLine; decide), ?_⟩⟩
        refine ⟨_, rfl, _, _, rfl, rfl, ⟨by decide, by decide⟩, _, rfl, _, _, rfl, rfl, .inl ⟨_, rfl, _, rfl, _, _, rfl, rfl, m0, ?_⟩⟩
        exact k _ _ ⟨ns, now, _, turn + 1, ⟨Eq.trans upd_same (congrArg (fun z => some (HO.dK z)) (put_mixed _ _ _ _ _)), by rw [upd_ne x.ne.symm]; exact y.g, x.few, x.pos, x.now⟩⟩ (kp.trans (Kp.trans Kp.put_d Kp.put_d)) (Int.emod_nonneg _ (by omega)) (Int.emod_lt_of_pos _ m0)
    · rintro σ H1 ⟨rfl, ⟨ns, now, mixed, turn, x⟩, kp⟩
      have nl : lenAt g H1 = ns.length := by rw [lenAt_of x.g, List.length_map]
      refine ⟨_, rfl, d, _, rfl, DGet.k (k := Sum.inr "now") x.d, rfl, _, rfl, ?_⟩
      refine ite2 (fun h0 => ?_) (fun h0 => ?_)
      · refine ⟨_, rfl, d, _, rfl, DGet.k (k := Sum.inr "great") x.d, _, _, rfl, .inl ⟨_, SqL.of x.g, rfl⟩, _, _, rfl, rfl, _, rfl, ?_⟩
        refine ite2 (fun h1 => ?_) (fun h1 => ?_)
        · have h1' := of_decide_eq_true h1
          rw [List.length_map] at h1'
          have hlt : ns.length - 1 < ns.length := by omega
          refine ⟨_, rfl, d, _, rfl, DGet.k (k := Sum.inr "great") x.d, .inl ⟨rfl, _, SqL.of x.g⟩, g, _, V.int (ns[ns.length - 1]), rfl, rfl, x.g, by rw [List.length_map, List.getElem?_map, List.getElem?_eq_getElem hlt] <;> rfl, ?_⟩
          refine ⟨_, rfl, d, _, rfl, DPut.k (k := Sum.inr "now") (Eq.trans (upd_ne x.ne) x.d) (by show 4 < sizeLine; decide), ?_⟩
          rw [show putK (dealKV g now mixed turn) (Sum.inr "now") (V.int ns[ns.length - 1]) = dealKV g (ns[ns.length - 1]) mixed turn from rfl]
          rw [show (ns.map V.int).dropLast = ns.dropLast.map V.int by rw [List.map_dropLast]]
          have y : Dl d g (upd (upd H1 g (.lst (ns.dropLast.map V.int))) d (.dK (dealKV g (ns[ns.length - 1]) mixed turn))) ns.dropLast (ns[ns.length - 1]) mixed turn :=
            ⟨upd_same, by rw [upd_ne x.ne.symm]; exact upd_same, by rw [List.length_dropLast]; have := x.few; omega, fun n hn => x.pos n ((List.dropLast_sublist _).subset hn), x.pos _ (List.getElem_mem hlt)⟩
          refine ⟨⟨rfl, ⟨_, _, _, _, y⟩, kp.trans (Kp.trans Kp.put_g Kp.put_d)⟩, ?_⟩
          rw [nl, lenAt_of y.g, List.length_map, List.length_dropLast]
          omega
        · exact rest _ _ ⟨rfl, ⟨ns, now, mixed, turn, x⟩, kp⟩
      · exact rest _ _ ⟨rfl, ⟨ns, now, mixed, turn, x⟩, kp⟩
    · intro σ H1 Q1 Q2 hq hc
      obtain ⟨v1, e1, a1, v2, e2, g1, s1, b1, eb, hc⟩ := hc
      refine ⟨v1, e1, a1, v2, e2, g1, s1, b1, eb, ?_⟩
      cases b1 with
      | false =>
        rw [if_neg Bool.false_ne_true] at hc
        exact iteF (hq _ _ hc)
      | true =>
        rw [if_pos rfl] at hc
        obtain ⟨v1, e1, a1, v2, e2, g1, v3, n3, e3, l3, i3, j3, e4, e5, b3, e6, hc⟩ := hc
        exact iteT ⟨v1, e1, a1, v2, e2, g1, v3, n3, e3, l3, i3, j3, e4, e5, b3, e6, hq _ _ hc⟩
end
end Lw
set_option Elab.async false
set_option linter.all false
set_option maxRecDepth 100000
set_option maxHeartbeats 4000000
namespace Lw
open PySem PySem.Spec PyProof.Rows L2 Hb
/-- one of them -/
def spPick (K : PySem.W.Frag) : Sp := fun vs H Q _ => ∃ (d g l : Addr) (xs : List V), vs = [.ref d, .ref l] ∧ Deal d g H ∧ ((H l = some (.lst xs) ∧ l ≠ g) ∨ SqT K H l xs) ∧ xs ≠ [] ∧ xs.length < 1000000 ∧
  ∀ (H' : Hp) (v : V), v ∈ xs → Deal d g H' → Kp d g H H' → Q v H'
/-- all of them in some order, a new list -/
def spMixed (K : PySem.W.Frag) : Sp := fun vs H Q _ => ∃ (d g l : Addr) (xs : List V), vs = [.ref d, .ref l] ∧ Deal d g H ∧ (SqL K H l xs ∨ SqT K H l xs) ∧ xs.length < 1000000 ∧ (∀ v ∈ xs, Hb.Good K H v) ∧
  ∀ (H' : Hp) (p : Addr) (ys : List V), Deal d g H' → Kp d g H H' → H p = none → H' p = some (.lst ys) → p ≠ g → ys.Perm xs → Q (.ref p) H'
section
variable {P : Program} {w : World} {K : PySem.W.Frag} {mg : Str → Option Value} {base : Heap}
theorem c_pick (D : Df K mg "_law_pick" s_pick) (T : Tx K mg) (c_draw : C8.Cal P w K mg base 1 "_law_draw" spDraw []) : C8.Cal P w K mg base 2 "_law_pick" (spPick K) [] := by
  refine cal_mk D sc_pick bd_pick (fun vs H Q E h => ?_) fun f cdv A outer s H vs Q E hr h => ?_
  · obtain ⟨d, g, l, xs, rfl, _⟩ := h
    rfl
  · obtain ⟨d, g, l, xs, rfl, dl, hl, ne, few, k⟩ := h
    have n0 : 0 < xs.length := List.length_pos_iff.mpr ne
    refine ⟨_, (pss_one (ps_ret (pe_ix ix_seq (pv 1) (C8.pe_c c_draw hr (by decide) rfl (pa_cons (pv 0) (pa_cons (pe_callB call_len (by rfl) T.n_len (by decide +kernel) (pa_cons (pv 1) pa_nil)) pa_nil))) (fun _ _ => rfl)))), ?_⟩
    refine ⟨_, rfl, _, rfl, _, rfl, .ref l, xs.length, rfl, ?_, d, g, xs.length, rfl, dl, by omega, by omega, fun H1 r d1 k1 r0 r1 => ?_⟩
    · rcases hl with ⟨h, _⟩ | h
      · exact .inl ⟨_, SqL.of h, rfl⟩
      · exact .inr ⟨_, h, rfl⟩
    · have hlt : r.toNat < xs.length := by omega
      have at_ : atI xs r = some xs[r.toNat] := by
        have q := atI_nat (xs := xs) (j := r.toNat) (List.getElem?_eq_getElem hlt)
        rw [show ((r.toNat : Nat) : Int) = r by omega] at q
        exact q
      have fin : Q xs[r.toNat] H1 := k _ _ (List.getElem_mem hlt) d1 k1
      rcases hl with ⟨h, n⟩ | h
      · exact .inl ⟨l, xs, r, _, rfl, rfl, SqL.of (k1 l _ (dl.ne_d h (by intro kvs q; cases q)) n h), at_, fin⟩
      · exact .inr (.inl ⟨l, xs, r, _, rfl, rfl, SqT.keep (dl.tk k1) h, at_, fin⟩)
theorem c_mixed (D : Df K mg "_law_mixed" s_mixed) (T : Tx K mg) (c_draw : C8.Cal P w K mg base 1 "_law_draw" spDraw []) : C8.Cal P w K mg base 2 "_law_mixed" (spMixed K) [] := by
  refine cal_mk D sc_mixed bd_mixed (fun vs H Q E h => ?_) fun f cdv A outer s H vs Q E hr h => ?_
  · obtain ⟨d, g, l, xs, rfl, _⟩ := h
    rfl
  · obtain ⟨d, g, l0, xs, rfl, dl, hl, few, good, k⟩ := h
    refine ⟨_, (pss_cons (ps_par (i := 2) (j := 3) (by rfl) sc_mixed.nd rfl rfl (by decide) rfl rfl (pa_cons (pe_callTy call_list_of (by rfl) T.n_list (by decide +kernel) (pa_cons (pv 1) pa_nil)) (pa_cons (pe_lst pa_nil) pa_nil)) (by rfl))
 (pss_cons (ps_while PassesOwn.never (pt_cmpR (op_neD hr.units) (pv 2) (pe_lst pa_nil) (by first | exact nomark _ | rfl))
 (pss_one (ps_expr (pe_bm PySem.F.plainAttrs_list PySem.F.slot_list_append PySem.F.type_list_append mt_append (pv 3) (pa_cons (pe_bm PySem.F.plainAttrs_list PySem.F.slot_list_pop PySem.F.type_list_pop mt_popAt (pv 2) (pa_cons (C8.pe_c c_draw hr (by decide) rfl (pa_cons (pv 0) (pa_cons (pe_callB call_len (by rfl) T.n_len (by decide +kernel) (pa_cons (pv 2) pa_nil)) pa_nil))) pa_nil)) pa_nil)))))
 (pss_one (ps_ret (pv 3))))), ?_⟩
    refine ⟨_, rfl, _, _, rfl, hl, fun l nl => ?_⟩
    refine ⟨Nat.zero_le _, fun q nq => ?_⟩
    have nlq : l ≠ q := ne_of_none upd_same nq
    have d1 := (dl.new nl).new nq (o := .lst [])
    have k0 : Same H (upd (upd H l (.lst xs)) q (.lst [])) := (Same.new nl).trans (Same.new nq)
    have nq2 := nq
    rw [upd_ne nlq.symm] at nq2
    refine ⟨_, _, rfl, ?_⟩
    refine while_by (fun σ H' => σ = [some (.ref d), some (.ref l0), some (.ref l), some (.ref q)] ∧ Deal d g H' ∧ Kp d g H H' ∧ ∃ ls fs, H' l = some (.lst ls) ∧ H' q = some (.lst fs) ∧ (fs ++ ls).Perm xs) (fun _ H' => lenAt l H')
      ⟨rfl, d1, Hb.Same.kp k0, xs, [], by rw [upd_ne nlq, upd_same], upd_same, List.Perm.refl _⟩ ?_ ?_
    · rintro σ H1 ⟨rfl, d1, k1, ls, fs, hL, hF, pm⟩
      have gl : ∀ v ∈ ls, Hb.Good K H1 v := fun v hv => (good v (pm.mem_iff.mp (List.mem_append_right _ hv))).keep (dl.tk k1)
      obtain ⟨ds, td, shp⟩ := goods gl
      refine ⟨_, rfl, Nat.zero_le _, fun p np => ?_⟩
      have s1 : Same H1 (upd H1 p (.lst [])) := Same.new np
      refine ⟨.list ds, .list [], .lst (SqL.of (s1 _ _ hL)) (TDs.dp (TDs.keep (Same.tk s1) td)), .lst (SqL.of upd_same) .nil, shaped_list shp, shaped_list (fun d h => by cases h), _, rfl, ?_⟩
      rw [eqv_nil]
      have d2 : Deal d g (upd H1 p (.lst [])) := d1.same s1
      cases ls with
      | nil =>
        cases td
        refine iteF ⟨_, rfl, ?_⟩
        refine k _ q fs d2 (k1.trans (Hb.Same.kp s1)) ?_ (s1 _ _ hF) ((dl.new nl).free nq).2 (by simpa using pm)
        exact nq2
      | cons y0 ls =>
        cases td with
        | cons t1 t2 =>
          refine iteT ?_
          have len : (y0 :: ls).length = ls.length + 1 := rfl
          have pl := pm.length_eq
          rw [List.length_append] at pl
          refine ⟨_, rfl, .inl ⟨rfl, _, SqL.of (s1 _ _ hF)⟩, _, rfl, .inl ⟨rfl, _, SqL.of (s1 _ _ hL)⟩, _, rfl, _, rfl, .ref l, _, rfl, .inl ⟨_, SqL.of (s1 _ _ hL), rfl⟩, d, g, _, rfl, d2, by omega, by omega, fun H2 r d3 k3 r0 r1 => ?_⟩
          have nld : l ≠ d := d2.ne_d (s1 _ _ hL) (by intro kvs e; cases e)
          have nlg : l ≠ g := (dl.free nl).2
          have nqg : q ≠ g := ((dl.new nl).free nq).2
          have nqd : q ≠ d := d2.ne_d (s1 _ _ hF) (by intro kvs e; cases e)
          have hL2 := k3 l _ nld nlg (s1 _ _ hL)
          have hF2 := k3 q _ nqd nqg (s1 _ _ hF)
          have hlt : r.toNat < (y0 :: ls).length := by omega
          refine ⟨l, _, r, r.toNat, _, rfl, rfl, hL2, by omega, by omega, seqIx r0 r1, List.getElem?_eq_getElem hlt, ?_⟩
          refine ⟨q, _, _, rfl, rfl, Eq.trans (upd_ne nlq.symm) hF2, by have := sizeLine_eq; omega, ?_⟩
          have pe := perm_erase (xs := y0 :: ls) (k := r.toNat) (y := (y0 :: ls)[r.toNat]) (List.getElem?_eq_getElem hlt)
          refine ⟨⟨rfl, (d3.set nld nlg).set nqd nqg, fun b o n1 n2 e => ?_, _, _, Eq.trans (upd_ne nlq) upd_same, upd_same, ?_⟩, ?_⟩
          · rw [upd_ne (ne_of_none e nq2), upd_ne (ne_of_none e nl)]
            exact k3 b o n1 n2 (s1 _ _ (k1 b o n1 n2 e))
          · rw [List.append_assoc]
            exact (List.Perm.append_left fs pe).trans pm
          · rw [lenAt_of hL, lenAt_of (Eq.trans (upd_ne nlq) upd_same), List.length_eraseIdx_of_lt hlt]
            omega
    · rintro σ H1 Q1 Q2 hq ⟨v, e, z, hc⟩
      refine ⟨v, e, z, fun p np => ?_⟩
      obtain ⟨a, b, h1, h2, h3, h4, b5, e6, hc⟩ := hc p np
      exact ⟨a, b, h1, h2, h3, h4, b5, e6, hq _ _ hc⟩
end
end Lw
set_option Elab.async false
set_option linter.all false
set_option maxRecDepth 100000
set_option maxHeartbeats 4000000
namespace Lw
open PySem PySem.Spec PyProof.Rows L2 Hb
def eight : List Str := ["gate", "crk", "a", "zzzz", "door", "up", "tick", "loud"]
def spWords : Sp := fun vs H Q _ => ∃ (d g : Addr) (many : Int), vs = [.ref d, .int many] ∧ Deal d g H ∧ 0 ≤ many ∧ many ≤ 8 ∧
  ∀ (H' : Hp) (p : Addr) (ws : List Str), Deal d g H' → Kp d g H H' → H p = none → H' p = some (.lst (ws.map V.str)) → p ≠ g → ws.Nodup → (∀ w ∈ ws, w ∈ eight) → ws.length = many.toNat → Q (.ref p) H'
def unS : V → Str
  | .str x => x
  | _ => Str.empty
theorem unS_map (xs : List Str) : (xs.map V.str).map unS = xs := by
  rw [List.map_map]
  exact List.map_id xs
theorem strs_perm {ys : List V} {xs : List Str} (h : ys.Perm (xs.map V.str)) : ∃ zs : List Str, ys = zs.map V.str ∧ zs.Perm xs := by
  refine ⟨ys.map unS, ?_, by have := h.map unS; rw [unS_map] at this; exact this⟩
  rw [List.map_map]
  refine (List.map_id ys).symm.trans (List.map_congr_left fun v hv => ?_)
  obtain ⟨x, _, rfl⟩ := List.mem_map.mp (h.mem_iff.mp hv)
  rfl
theorem eight_nodup : eight.Nodup := by decide +kernel
theorem eight_ok : ∀ w ∈ eight, PyData.strOk w = true := by decide +kernel
theorem good_str {K : PySem.W.Frag} {H : Hp} {x : Str} (h : PyData.strOk x = true) : Hb.Good K H (.str x) := ⟨.str x, .str x, by simp only [PyData.canLay0]; exact h, by simp [PyData.depth]⟩
theorem cut_take (xs : List V) {i : Int} (h0 : 0 ≤ i) : cutV xs none (some i) = xs.take i.toNat := by
  have a : ¬ i < 0 := by omega
  simp [cutV, HT.sIx, a]
section
variable {P : Program} {w : World} {K : PySem.W.Frag} {mg : Str → Option Value} {base : Heap}
theorem c_words (D : Df K mg "_law_words" s_words) (T : Tx K mg) (c_mixed : C8.Cal P w K mg base 2 "_law_mixed" (spMixed K) []) : C8.Cal P w K mg base 3 "_law_words" spWords [] := by
  refine cal_mk D sc_words bd_words (fun vs H Q E h => ?_) fun f cdv A outer s H vs Q E hr h => ?_
  · obtain ⟨d, g, many, rfl, _⟩ := h
    rfl
  · obtain ⟨d, g, many, rfl, dl, m0, m1, k⟩ := h
    refine ⟨_, (pss_one (ps_ret (pe_slice sl_list (C8.pe_c c_mixed hr (by decide) rfl (pa_cons (pv 0) (pa_cons (pe_lst (pa_cons pe_str (pa_cons pe_str (pa_cons pe_str (pa_cons pe_str (pa_cons pe_str (pa_cons pe_str (pa_cons pe_str (pa_cons pe_str pa_nil))))))))) pa_nil))) po_none (po_some (pv 1))))), ?_⟩
    refine ⟨_, rfl, by show 8 ≤ sizeLine; decide, fun l nl => ?_⟩
    have dl2 := dl.new nl (o := .lst (eight.map V.str))
    refine ⟨d, g, l, eight.map V.str, rfl, dl2, .inl (SqL.of upd_same), by show 8 < 1000000; decide, fun v hv => ?_, fun H1 p ys d1 k1 np hp pg pm => ?_⟩
    · obtain ⟨x, hx, rfl⟩ := List.mem_map.mp hv
      exact good_str (eight_ok x hx)
    · obtain ⟨zs, rfl, pm2⟩ := strs_perm pm
      refine ⟨_, rfl, _, rfl, p, _, rfl, SqL.of hp, fun q nq => ?_⟩
      rw [show cutV (zs.map V.str) none (some many) = (zs.take many.toNat).map V.str by rw [cut_take _ m0, List.map_take]]
      have nH : H q = none := by
        have q1 := Kp.free k1 d1 nq
        exact (Same.new nl).free q1
      refine k _ q _ (d1.new nq) (((Hb.Same.kp (Same.new nl)).trans k1).trans (Hb.Same.kp (Same.new nq))) nH upd_same (d1.free nq).2 ((pm2.nodup_iff.mpr eight_nodup).sublist (List.take_sublist _ _)) (fun w hw => pm2.mem_iff.mp (List.mem_of_mem_take hw)) ?_
      rw [List.length_take, pm2.length_eq]
      show min many.toNat 8 = many.toNat
      omega
def absV1 : V → Option V
  | .int n => some (.int (if n < 0 then -n else n))
  | _ => none
def bigV : V → Option V
  | .int n => if 1000000000000000000 ≤ n then some (.int n) else none
  | _ => none
theorem cut_all {xs : List V} (h : xs.length ≤ 63) : cutV xs (some 0) (some 63) = xs := by
  have e : min 63 xs.length = xs.length := by omega
  simp [cutV, HT.sIx, e]
/-- the deal -/
def spDeal (K : PySem.W.Frag) : Sp := fun vs H Q _ => ∃ (a : Addr) (ns : List Int), vs = [.ref a, .int 0] ∧ SqL K H a (ns.map V.int) ∧ ns.length ≤ 63 ∧
  ∀ (H' : Hp) (d g : Addr), Deal d g H' → Same H H' → H d = none → H g = none → Q (.ref d) H'
theorem c_deal (D : Df K mg "_law_deal" s_deal) (T : Tx K mg) : C8.Cal P w K mg base 1 "_law_deal" (spDeal K) [] := by
  refine cal_mk D sc_deal bd_deal (fun vs H Q E h => ?_) fun f cdv A outer s H vs Q E hr h => ?_
  · obtain ⟨a, ns, rfl, _⟩ := h
    rfl
  · obtain ⟨a, ns, rfl, hS, few, k⟩ := h
    refine ⟨_, (pss_cons (ps_setLc (i := 2) (own := [("_law_cell", 3)]) (by rfl) sc_deal.nd rfl rfl (sw_true rfl rfl rfl (by decide +kernel)) (pi_list (pe_slice sl_list (pv 0) (po_some (pv 1)) (po_some pe_int))) (blkOk_by (N := N_deal) (sc := defScope s_deal) (by decide +kernel)) (fun _ _ _ _ _ => (pg_name (i := 3) sc_deal.nd rfl (Or.inl rfl))) (fun _ _ _ _ _ => pts_nil) (fun _ _ _ _ _ => (pe_callB call_abs (by rfl) T.n_abs (by decide +kernel) (pa_cons (pv 3) pa_nil))))
 (pss_cons (ps_set (i := 4) sc_deal.nd rfl (Or.inl rfl) (pe_op op_add pe_int (pv 1)))
 (pss_cons (ps_for PassesOwn.never rfl (pi_list (pv 2)) (pg_name (i := 3) sc_deal.nd rfl (Or.inl rfl))
 (pss_one (ps_set (i := 4) sc_deal.nd rfl (Or.inl rfl) (pe_op op_mod (pe_callTy call_int1 (by rfl) T.n_int (by decide +kernel) (pa_cons (pe_op op_add (pe_op op_mul (pv 4) pe_int) (pv 3)) pa_nil)) pe_int))))
 (pss_cons (ps_setLc (i := 5) (own := [("_law_cell", 3)]) (by rfl) sc_deal.nd rfl rfl (sw_true rfl rfl rfl (by decide +kernel)) (pi_list (pv 2)) (blkOk_by (N := N_deal) (sc := defScope s_deal) (by decide +kernel)) (fun _ _ _ _ _ => (pg_name (i := 3) sc_deal.nd rfl (Or.inl rfl))) (fun _ _ _ _ _ => (pts_one (pt_cmpR op_ge (pv 3) (pe_op op_pow pe_int pe_int) (by first | exact nomark _ | rfl)))) (fun _ _ _ _ _ => (pv 3)))
 (pss_one (ps_ret (pe_disp (pps_cons pe_str (pe_revL (pv 5)) (pps_cons pe_str pe_int (pps_cons pe_str (pe_op op_add (pv 4) pe_int) (pps_cons pe_str pe_int pps_nil)))) (by rfl) (by rfl) (fun z => by cases z) (by decide)))))))), ?_⟩
    have line := sizeLine_eq
    refine ⟨_, rfl, _, rfl, _, rfl, _, rfl, a, _, rfl, hS, fun p np => ?_⟩
    rw [show cutV (ns.map V.int) (some 0) (some 63) = ns.map V.int from cut_all (by rw [List.length_map]; exact few)]
    refine ⟨p, rfl, ⟨_, SqL.of upd_same⟩, fun D nD => lc_listP (xs := ns.map V.int) absV1 (by rw [List.length_map]; omega) (fun acc => SqL.laid (SqL.of upd_same) nD) ?_ ?_⟩
    · intro x hx acc N hl hN _
      obtain ⟨n, _, rfl⟩ := List.mem_map.mp hx
      refine ⟨rfl, yes_ ⟨_, rfl, n, rfl, acc, upd_same, hl, by rw [upd_upd]; exact hN _ rfl⟩⟩
    · rw [filterMap_ints (fun n => some (if n < 0 then -n else n)) ns absV1 (fun _ => rfl), List.filterMap_eq_map']
      have s1 : Same H (upd (upd H p (.lst (ns.map V.int))) D (.lst ((ns.map fun n => if n < 0 then -n else n).map V.int))) := (Same.new np).trans (Same.new nD)
      generalize hms : (ns.map fun n => if n < 0 then -n else n) = ms at s1 ⊢
      have few2 : ms.length ≤ 63 := by rw [← hms, List.length_map]; exact few
      generalize hH : upd (upd H p (.lst (ns.map V.int))) D (.lst (ms.map V.int)) = H2 at s1 ⊢
      have hD : H2 D = some (.lst (ms.map V.int)) := by rw [← hH]; exact upd_same
      refine ⟨_, rfl, _, _, rfl, rfl, ?_⟩
      refine ⟨_, rfl, D, rfl, ⟨_, SqL.of hD⟩, for_list (K := K) (a := D) (xs := ms.map V.int) (fun _ σ H' => ∃ z v, σ = [some (.ref a), some (.int 0), some (.ref D), v, some (.int z), none] ∧ H' = H2) ⟨_, none, rfl, rfl⟩ (fun _ _ _ _ ⟨_, _, _, e⟩ => by rw [e]; exact SqL.of hD) ?_ ?_⟩
      · rintro i x σ H' hx ⟨z, v, rfl, rfl⟩
        obtain ⟨n, _, rfl⟩ := List.mem_map.mp (List.mem_of_getElem? hx)
        exact ⟨_, rfl, _, _, rfl, rfl, .inr (by decide), _, rfl, _, _, rfl, rfl, .inl ⟨_, rfl, _, _, rfl, rfl, (by show (0 : Int) < 2147483647; decide), _, _, rfl, rfl⟩⟩
      · rintro σ H' ⟨z, v, rfl, rfl⟩
        refine ⟨_, rfl, D, rfl, ⟨_, SqL.of hD⟩, fun G nG => lc_listP (xs := ms.map V.int) bigV (by rw [List.length_map]; omega) (fun acc => SqL.laid (SqL.of hD) nG) ?_ ?_⟩
        · intro x hx acc N hl hN hN2
          obtain ⟨n, _, rfl⟩ := List.mem_map.mp hx
          refine ⟨rfl, _, rfl, _, _, rfl, rfl, ⟨by decide, by decide, by decide⟩, _, _, rfl, rfl, _, rfl, ?_⟩
          refine ite2 (fun q => ?_) (fun q => ?_)
          · have q' : (1000000000000000000 : Int) ≤ n := of_decide_eq_true q
            refine ⟨_, rfl, acc, upd_same, hl, ?_⟩
            rw [upd_upd]
            exact hN _ (by show (if _ then _ else _) = _; rw [if_pos q'])
          · have q' : ¬ (1000000000000000000 : Int) ≤ n := fun z => q (decide_eq_true z)
            exact hN2 (by show (if _ then _ else _) = _; rw [if_neg q'])
        · rw [filterMap_ints (fun n => if 1000000000000000000 ≤ n then some n else none) ms bigV (fun n => by show (if _ then _ else _) = _; split <;> simp_all)]
          have big : ∀ n ∈ ms.filterMap (fun n => if 1000000000000000000 ≤ n then some n else none), (0 : Int) ≤ n := fun n hn => by
            obtain ⟨m, _, e⟩ := List.mem_filterMap.mp hn
            by_cases q : (1000000000000000000 : Int) ≤ m
            · rw [if_pos q] at e
              cases e
              omega
            · rw [if_neg q] at e
              cases e
          have bl : (ms.filterMap (fun n => if 1000000000000000000 ≤ n then some n else none)).length ≤ 63 := Nat.le_trans (List.length_filterMap_le _ _) few2
          generalize ms.filterMap (fun n => if 1000000000000000000 ≤ n then some n else none) = gs at big bl ⊢
          intro d nd
          have ndG : d ≠ G := fun q => by rw [q, upd_same] at nd; cases nd
          have nd2 := nd
          rw [upd_ne ndG] at nd2
          refine ⟨_, rfl, G, _, rfl, SqL.of (Eq.trans (upd_ne ndG.symm) upd_same), fun g ng => ?_⟩
          have ngd : g ≠ d := fun q => by rw [q, upd_same] at ng; cases ng
          have ng2 := ng
          rw [upd_ne ngd] at ng2
          have ngG : g ≠ G := fun q => by rw [q, upd_same] at ng2; cases ng2
          rw [upd_ne ngG] at ng2
          refine ⟨_, rfl, _, _, rfl, rfl, Eq.trans (upd_ne ngd.symm) upd_same, dealKV g 0 (z + 1) 0, rfl, by show 4 ≤ 15; decide, ?_⟩
          rw [show mergeK [] (dealKV g 0 (z + 1) 0) = dealKV g 0 (z + 1) 0 from rfl]
          refine k _ d g ⟨gs.reverse, 0, z + 1, 0, ⟨upd_same, ?_, by rw [List.length_reverse]; exact bl, fun n hn => big n (List.mem_reverse.mp hn), by decide⟩⟩ ?_ (s1.free nd2) (s1.free ng2)
          · rw [upd_ne ngd, upd_same, List.map_reverse]
          · refine fun b o e => ?_
            have e1 := s1 b o e
            rw [upd_ne (ne_of_none e1 nd2), upd_ne (ne_of_none e1 ng2), upd_ne (ne_of_none e1 nd2), upd_ne (ne_of_none e1 nG)]
            exact e1
end
end Lw
set_option Elab.async false
set_option linter.all false
set_option maxRecDepth 100000
set_option maxHeartbeats 4000000
namespace Lw
open PySem PySem.Spec PyProof.Rows L2 Hb
def spWhole : Sp := fun vs H Q _ => ∃ i : Int, vs = [.int i] ∧ Q (.bl true) H
def spPos : Sp := fun vs H Q _ => ∃ i : Int, vs = [.int i] ∧ Q (.bl (decide (1 ≤ i))) H
def spName : Sp := fun vs H Q _ => ∃ x : Str, vs = [.str x] ∧ x.length ≤ 1000 ∧ ∀ H', Same H H' → Q (.bl (nameB x)) H'
section
variable {P : Program} {w : World} {K : PySem.W.Frag} {mg : Str → Option Value} {base : Heap}
theorem c_is_whole (D : Df K mg "is_whole" s_is_whole) (T : Tx K mg) : C8.Cal P w K mg base 1 "is_whole" spWhole [] := by
  refine cal_mk D sc_is_whole bd_is_whole (fun vs H Q E h => ?_) fun f cdv A outer s H vs Q E hr h => ?_
  · obtain ⟨i, rfl, _⟩ := h
    rfl
  · obtain ⟨i, rfl, k⟩ := h
    refine ⟨_, (pss_one (ps_ret (pe_and (pe_callB call_isi (by rfl) T.n_isinstance (by decide +kernel) (pa_cons (pv 0) (pa_cons (pe_bltn (v := .ty "int") (u := .type "int") rfl T.n_int (by decide +kernel) rfl) pa_nil))) (pe_one (pe_not (pe_callB call_isi (by rfl) T.n_isinstance (by decide +kernel) (pa_cons (pv 0) (pa_cons (pe_bltn (v := .ty "bool") (u := .type "bool") rfl T.n_bool (by decide +kernel) rfl) pa_nil)))))))), ?_⟩
    refine ⟨_, rfl, _, _, _, _, true, rfl, .ty _, .base (.int i), kit_ty (by decide +kernel), _, rfl, iteT ?_⟩
    exact ⟨_, rfl, _, _, _, _, false, rfl, .ty _, .base (.int i), kit_ty (by decide +kernel), _, rfl, k⟩
theorem c_is_positive (D : Df K mg "is_positive" s_is_positive) (T : Tx K mg) (c_is_whole : C8.Cal P w K mg base 1 "is_whole" spWhole []) : C8.Cal P w K mg base 2 "is_positive" spPos [] := by
  refine cal_mk D sc_is_positive bd_is_positive (fun vs H Q E h => ?_) fun f cdv A outer s H vs Q E hr h => ?_
  · obtain ⟨i, rfl, _⟩ := h
    rfl
  · obtain ⟨i, rfl, k⟩ := h
    refine ⟨_, (pss_one (ps_ret (pe_and (C8.pe_c c_is_whole hr (by decide) rfl (pa_cons (pv 0) pa_nil)) (pe_one (pe_cmpR op_ge (pv 0) pe_int (by first | exact nomark _ | rfl)))))), ?_⟩
    exact ⟨_, rfl, i, rfl, _, rfl, iteT ⟨_, rfl, _, _, rfl, rfl, k⟩⟩
theorem c_is_name (D : Df K mg "is_name" s_is_name) (T : Tx K mg) : C8.Cal P w K mg base 1 "is_name" spName [] := by
  refine cal_mk D sc_is_name bd_is_name (fun vs H Q E h => ?_) fun f cdv A outer s H vs Q E hr h => ?_
  · obtain ⟨i, rfl, _⟩ := h
    rfl
  · obtain ⟨x, rfl, few, k⟩ := h
    obtain ⟨tL, hLETTERS⟩ := T.s_LETTERS
    have line := sizeLine_eq
    refine ⟨_, (pss_cons (ps_if (PW.pt (pw_or (pt_not (pt_val (pe_callB call_isi (by rfl) T.n_isinstance (by decide +kernel) (pa_cons (pv 0) (pa_cons (pe_bltn (v := .ty "str") (u := .type "str") rfl T.n_str (by decide +kernel) rfl) pa_nil))))) (pw_or1 (pt_not (pt_chain op_le op_le pe_int (pe_callB call_len (by rfl) T.n_len (by decide +kernel) (pa_cons (pv 0) pa_nil)) pe_int)))))
 (pss_one (ps_ret pe_bl))
 pss_nil)
 (pss_one (ps_ret (pe_callB (cr_all rfl) (by rfl) T.n_all (by decide +kernel) (pa_cons (pe_lc (own := [("letter", 1)]) (by rfl) sc_is_name.nd (pi_str (pv 0)) (blkOk_by (N := N_is_name) (sc := defScope s_is_name) (by decide +kernel)) (fun _ _ _ _ _ => (pg_name (i := 1) sc_is_name.nd rfl (Or.inl rfl))) (fun _ _ _ _ _ => pts_nil) (fun _ _ _ _ _ => (pe_cmpR op_in_sign (pv 1) (pe_glob (v := .str "abcdefghijklmnopqrstuvwxyz") rfl hLETTERS ⟨_, rfl⟩) (by first | exact nomark _ | rfl)))) pa_nil))))), ?_⟩
    refine ⟨_, rfl, _, _, _, _, true, rfl, .ty _, .base (.str x), kit_ty (by decide +kernel), _, rfl, iteF ?_⟩
    refine ⟨_, rfl, .str x, x.length, rfl, ⟨by omega, rfl⟩, _, _, rfl, rfl, _, rfl, ?_⟩
    by_cases h1 : (1 : Int) ≤ (x.length : Nat)
    · rw [decide_eq_true h1]
      refine iteT ⟨_, _, rfl, rfl, _, rfl, ?_⟩
      by_cases h2 : ((x.length : Nat) : Int) ≤ 4
      · rw [decide_eq_true h2]
        refine iteF ⟨_, rfl, x, rfl, fun D nD => lc_it (walk_str (z := x)) (fun i H' => H' = upd H D (.lst (((x.cps.toList.take i).map isLetter).map V.bl))) (by simp) (fun _ _ _ _ => trivial) ?_ ?_⟩
        · rintro i v H' H2 hi rfl ⟨e, c, hc, rfl⟩
          subst e
          refine ⟨rfl, yes_ ⟨_, rfl, c, _, rfl, rfl, _, upd_same, ?_, ?_⟩⟩
          · rw [List.length_map, List.length_map, List.length_take]
            have el : x.cps.toList.length = x.length := by simp [Str.length]
            omega
          · rw [upd_upd]
            have hc2 : x.cps.toList[i]? = some c := by rw [Array.getElem?_toList]; exact hc
            show upd H D _ = upd H D _
            rw [List.take_add_one, hc2]
            simp [isLetter]
        · rintro H' rfl
          have el : x.cps.size = x.cps.toList.length := by simp
          refine ⟨D, x.cps.toList.map isLetter, rfl, SqL.of (by rw [el, List.take_length]; exact upd_same), ?_⟩
          have e : (x.cps.toList.map isLetter).all id = nameB x := by
            have q : decide (1 ≤ x.length ∧ x.length ≤ 4) = true := decide_eq_true ⟨by omega, by omega⟩
            rw [nameB, q, List.all_map]
            rfl
          rw [e]
          exact k _ (Same.new nD)
      · rw [decide_eq_false h2]
        refine iteT ?_
        have q : nameB x = false := by
          have q : decide (1 ≤ x.length ∧ x.length ≤ 4) = false := decide_eq_false (by omega)
          rw [nameB, q, Bool.false_and]
        have k2 := k H (Same.refl H)
        rw [q] at k2
        exact k2
    · rw [decide_eq_false h1]
      refine iteF ⟨_, rfl, iteT ?_⟩
      have q : nameB x = false := by
        have q : decide (1 ≤ x.length ∧ x.length ≤ 4) = false := decide_eq_false (by omega)
        rw [nameB, q, Bool.false_and]
      have k2 := k H (Same.refl H)
      rw [q] at k2
      exact k2
def spRow (K : PySem.W.Frag) : Sp := fun vs H Q _ => ∃ (a : Addr) (xs : List V), vs = [.ref a] ∧ (SqL K H a xs ∨ SqT K H a xs) ∧ ∀ H', Same H H' → Q (.bl true) H'
theorem c_is_row (D : Df K mg "is_row" s_is_row) (T : Tx K mg) : C8.Cal P w K mg base 1 "is_row" (spRow K) [] := by
  refine cal_mk D sc_is_row bd_is_row (fun vs H Q E h => ?_) fun f cdv A outer s H vs Q E hr h => ?_
  · obtain ⟨a, xs, rfl, _⟩ := h
    rfl
  · obtain ⟨a, xs, rfl, hq, k⟩ := h
    refine ⟨_, (pss_one (ps_ret (pe_callB call_isiT (by rfl) T.n_isinstance (by decide +kernel) (pa_cons (pv 0) (pa_cons (pe_tup (pa_cons (pe_bltn (v := .ty "list") (u := .type "list") rfl T.n_list (by decide +kernel) rfl) (pa_cons (pe_bltn (v := .ty "tuple") (u := .type "tuple") rfl T.n_tuple (by decide +kernel) rfl) pa_nil))) pa_nil))))), ?_⟩
    refine ⟨_, rfl, by show 2 ≤ sizeLine; decide, fun p np => ?_⟩
    rcases hq with h | h
    · exact ⟨_, p, _, _, _, true, rfl, upd_same, .cons (.ty _) (.cons (.ty _) .nil), ty_lst (SqL.laid h np), kitAny_cons (kit_ty (b := "list") (r := true) (by decide +kernel)) (fun z => by cases z) (fun _ => rfl), k _ (Same.new np)⟩
    · exact ⟨_, p, _, _, _, true, rfl, upd_same, .cons (.ty _) (.cons (.ty _) .nil), ty_tup (SqT.laid h np), kitAny_cons (kit_ty (b := "list") (r := false) (by decide +kernel)) (fun _ => kitAny_cons (kit_ty (b := "tuple") (r := true) (by decide +kernel)) (fun z => by cases z) (fun _ => rfl)) (fun z => by cases z), k _ (Same.new np)⟩
def spTupOf (K : PySem.W.Frag) : Sp := fun vs H Q _ => ∃ (a : Addr) (xs : List V) (n : Int), vs = [.ref a, .int n] ∧ SqT K H a xs ∧ Q (.bl (decide (((xs.length : Nat) : Int) = n))) H
theorem c_is_tuple_of (D : Df K mg "is_tuple_of" s_is_tuple_of) (T : Tx K mg) : C8.Cal P w K mg base 1 "is_tuple_of" (spTupOf K) [] := by
  refine cal_mk D sc_is_tuple_of bd_is_tuple_of (fun vs H Q E h => ?_) fun f cdv A outer s H vs Q E hr h => ?_
  · obtain ⟨a, xs, n, rfl, _⟩ := h
    rfl
  · obtain ⟨a, xs, n, rfl, hq, k⟩ := h
    refine ⟨_, (pss_one (ps_ret (pe_and (pe_callB call_isi (by rfl) T.n_isinstance (by decide +kernel) (pa_cons (pv 0) (pa_cons (pe_bltn (v := .ty "tuple") (u := .type "tuple") rfl T.n_tuple (by decide +kernel) rfl) pa_nil))) (pe_one (pe_cmpR op_eq (pe_callB call_len (by rfl) T.n_len (by decide +kernel) (pa_cons (pv 0) pa_nil)) (pv 1) (by first | exact nomark _ | rfl)))))), ?_⟩
    refine ⟨_, rfl, _, _, _, _, true, rfl, .ty _, ty_tup hq, kit_ty (by decide +kernel), _, rfl, iteT ?_⟩
    refine ⟨_, rfl, .ref a, xs.length, rfl, .inr ⟨_, hq, rfl⟩, _, rfl, rfl, ?_⟩
    have e : decide (V.int ((xs.length : Nat) : Int) = V.int n) = decide (((xs.length : Nat) : Int) = n) := by
      by_cases q : ((xs.length : Nat) : Int) = n
      · rw [q]; simp
      · rw [decide_eq_false q, decide_eq_false (fun z => q (by injection z))]
    rw [e]
    exact k
def spUnlike (K : PySem.W.Frag) : Sp := fun vs H Q _ => ∃ (a : Addr), vs = [.ref a] ∧ ((∃ xs : List Str, SqL K H a (xs.map V.str) ∧ xs.Nodup ∧ xs.length ≤ 4000) ∨ ∃ ns : List Int, (SqL K H a (ns.map V.int) ∨ SqT K H a (ns.map V.int)) ∧ ns.Nodup ∧ ns.length ≤ 4000) ∧ Q (.bl true) H
theorem c_are_unlike (D : Df K mg "are_unlike" s_are_unlike) (T : Tx K mg) : C8.Cal P w K mg base 1 "are_unlike" (spUnlike K) [] := by
  refine cal_mk D sc_are_unlike bd_are_unlike (fun vs H Q E h => ?_) fun f cdv A outer s H vs Q E hr h => ?_
  · obtain ⟨a, rfl, _⟩ := h
    rfl
  · obtain ⟨a, rfl, hq, k⟩ := h
    refine ⟨_, (pss_one (ps_ret (pe_cmpR op_eq (Hb.pe_lenSet3 rfl T.n_len rfl T.n_set (pv 0)) (pe_callB call_len (by rfl) T.n_len (by decide +kernel) (pa_cons (pv 0) pa_nil)) (by first | exact nomark _ | rfl)))), ?_⟩
    rcases hq with ⟨xs, hq, nd, few⟩ | ⟨xs, hq, nd, few⟩
    · refine ⟨_, rfl, a, rfl, .inl ⟨xs, hq, nd, few, _, rfl, .ref a, _, rfl, .inl ⟨_, hq, rfl⟩, rfl, ?_⟩⟩
      rw [List.length_map, decide_eq_true rfl]
      exact k
    · refine ⟨_, rfl, a, rfl, .inr ⟨xs, hq, nd, few, _, rfl, .ref a, _, rfl, hq.imp (fun hq => ⟨_, hq, rfl⟩) (fun hq => ⟨_, hq, rfl⟩), rfl, ?_⟩⟩
      rw [List.length_map, decide_eq_true rfl]
      exact k
theorem name_short {x : Str} (h : nameB x = true) : x.length ≤ 4 := by
  have h1 := (Bool.and_eq_true_iff.mp h).1
  exact (of_decide_eq_true h1).2
end
end Lw
set_option Elab.async false
set_option linter.all false
set_option maxRecDepth 100000
set_option maxHeartbeats 4000000
namespace Lw
open PySem PySem.Spec PyProof.Rows L2 Hb
def spRoom : Sp := fun vs H Q _ => ∃ r v : Int, vs = [.int r, .int v] ∧ inR r v ∧ Q (.bl true) H
section
variable {P : Program} {w : World} {K : PySem.W.Frag} {mg : Str → Option Value} {base : Heap}
theorem c_is_room (D : Df K mg "is_room" s_is_room) (T : Tx K mg) (c_is_whole : C8.Cal P w K mg base 1 "is_whole" spWhole []) : C8.Cal P w K mg base 2 "is_room" spRoom [] := by
  refine cal_mk D sc_is_room bd_is_room (fun vs H Q E h => ?_) fun f cdv A outer s H vs Q E hr h => ?_
  · obtain ⟨r, v, rfl, _⟩ := h
    rfl
  · obtain ⟨r, v, rfl, ⟨i0, i1⟩, k⟩ := h
    refine ⟨_, (pss_one (ps_ret (pe_and (C8.pe_c c_is_whole hr (by decide) rfl (pa_cons (pv 1) pa_nil)) (pe_one (pe_chain op_le op_lt pe_int (pv 1) (pv 0)))))), ?_⟩
    refine ⟨_, rfl, v, rfl, _, rfl, iteT ?_⟩
    refine ⟨_, rfl, _, _, rfl, rfl, _, rfl, ?_⟩
    rw [decide_eq_true i0]
    refine iteT ⟨_, rfl, _, _, rfl, rfl, ?_⟩
    show Q (V.bl (decide (v < r))) H
    rw [decide_eq_true i1]
    exact k
def spDoor (K : PySem.W.Frag) : Sp := fun vs H Q _ => ∃ (r : Int) (t : Addr) (x : Dr), vs = [.int r, .ref t] ∧ SqT K H t [.int x.1, .int x.2.1, nzV x.2.2] ∧ DrOk r x ∧ ∀ H', Same H H' → Q (.bl true) H'
theorem c_is_door (D : Df K mg "is_door" s_is_door) (T : Tx K mg) (c_is_tuple_of : C8.Cal P w K mg base 1 "is_tuple_of" (spTupOf K) []) (c_is_room : C8.Cal P w K mg base 2 "is_room" spRoom []) (c_is_name : C8.Cal P w K mg base 1 "is_name" spName []) :
    C8.Cal P w K mg base 3 "is_door" (spDoor K) [] := by
  refine cal_mk D sc_is_door bd_is_door (fun vs H Q E h => ?_) fun f cdv A outer s H vs Q E hr h => ?_
  · obtain ⟨r, t, x, rfl, _⟩ := h
    rfl
  · obtain ⟨r, t, x, rfl, ht, ok, k⟩ := h
    refine ⟨_, (pss_cons (ps_if (pt_not (pt_val (C8.pe_c c_is_tuple_of hr (by decide) rfl (pa_cons (pv 1) (pa_cons pe_int pa_nil)))))
 (pss_one (ps_ret pe_bl))
 pss_nil)
 (pss_cons (ps_asg (pv 1) (pg_tup (by rfl) (pgs_cons (pg_name (i := 2) sc_is_door.nd rfl (Or.inl rfl)) (pgs_cons (pg_name (i := 3) sc_is_door.nd rfl (Or.inl rfl)) (pgs_cons (pg_name (i := 4) sc_is_door.nd rfl (Or.inl rfl)) pgs_nil)))))
 (pss_cons (ps_if (PW.pt (pw_or (pt_not (pt_val (C8.pe_c c_is_room hr (by decide) rfl (pa_cons (pv 0) (pa_cons (pv 2) pa_nil))))) (pw_or (pt_not (pt_val (C8.pe_c c_is_room hr (by decide) rfl (pa_cons (pv 0) (pa_cons (pv 3) pa_nil))))) (pw_or1 (pt_cmpR op_eq (pv 2) (pv 3) (by first | exact nomark _ | rfl))))))
 (pss_one (ps_ret pe_bl))
 pss_nil)
 (pss_one (ps_ret (pe_or (pe_cmpR op_isN (pv 4) pe_non (by first | exact nomark _ | rfl)) (pe_one (C8.pe_c c_is_name hr (by decide) rfl (pa_cons (pv 4) pa_nil))))))))), ?_⟩
    refine ⟨_, rfl, t, _, 3, rfl, ht, _, rfl, iteF ?_⟩
    obtain ⟨o1, o2, o3, o4⟩ := ok
    refine ⟨_, rfl, t, _, rfl, ht, rfl, _, _, rfl, _, _, rfl, _, _, rfl, rfl, ?_⟩
    refine ⟨_, rfl, _, rfl, r, x.1, rfl, o1, _, rfl, iteF ⟨_, rfl, _, rfl, r, x.2.1, rfl, o2, _, rfl, iteF ⟨_, rfl, _, rfl, rfl, _, rfl, ?_⟩⟩⟩
    rw [decide_eq_false (show ¬ V.int x.1 = V.int x.2.1 from fun q => o3 (by injection q))]
    refine iteF ?_
    obtain ⟨x1, x2, nz⟩ := x
    cases nz with
    | none => exact ⟨_, rfl, rfl, _, rfl, iteT (k _ (Same.refl H))⟩
    | some n =>
      have nb := o4 n rfl
      refine ⟨_, rfl, rfl, _, rfl, iteF ⟨_, rfl, n, rfl, Nat.le_trans (name_short nb) (by decide), fun H1 s1 => ?_⟩⟩
      rw [nb]
      exact k H1 s1
def spFloor (K : PySem.W.Frag) : Sp := fun vs H Q _ => ∃ (r : Int) (t : Addr) (x : Fl), vs = [.int r, .ref t] ∧ SqT K H t [.int x.1, .str x.2] ∧ FlOk r x ∧ ∀ H', Same H H' → Q (.bl true) H'
theorem c_is_floor (D : Df K mg "is_floor" s_is_floor) (T : Tx K mg) (c_is_tuple_of : C8.Cal P w K mg base 1 "is_tuple_of" (spTupOf K) []) (c_is_room : C8.Cal P w K mg base 2 "is_room" spRoom []) (c_is_name : C8.Cal P w K mg base 1 "is_name" spName []) :
    C8.Cal P w K mg base 3 "is_floor" (spFloor K) [] := by
  refine cal_mk D sc_is_floor bd_is_floor (fun vs H Q E h => ?_) fun f cdv A outer s H vs Q E hr h => ?_
  · obtain ⟨r, t, x, rfl, _⟩ := h
    rfl
  · obtain ⟨r, t, x, rfl, ht, ok, k⟩ := h
    refine ⟨_, (pss_one (ps_ret (pe_and (C8.pe_c c_is_tuple_of hr (by decide) rfl (pa_cons (pv 1) (pa_cons pe_int pa_nil))) (pe_and (C8.pe_c c_is_room hr (by decide) rfl (pa_cons (pv 0) (pa_cons (pe_ix ix_tup (pv 1) pe_int (fun _ _ => rfl)) pa_nil))) (pe_one (C8.pe_c c_is_name hr (by decide) rfl (pa_cons (pe_ix ix_tup (pv 1) pe_int (fun _ _ => rfl)) pa_nil))))))), ?_⟩
    obtain ⟨h1, h2⟩ := ok
    refine ⟨_, rfl, t, _, 2, rfl, ht, _, rfl, iteT ?_⟩
    refine ⟨_, rfl, _, rfl, t, _, 0, .int x.1, rfl, rfl, ht, rfl, r, x.1, rfl, h1, _, rfl, iteT ?_⟩
    refine ⟨_, rfl, t, _, 1, .str x.2, rfl, rfl, ht, rfl, x.2, rfl, Nat.le_trans (name_short h2) (by decide), fun H1 s1 => ?_⟩
    rw [h2]
    exact k H1 s1
def spDoors (K : PySem.W.Frag) : Sp := fun vs H Q _ => ∃ (r : Int) (a : Addr) (xs : List V) (ds : List Dr), vs = [.int r, .ref a] ∧ (SqL K H a xs ∨ SqT K H a xs) ∧ TDs K H xs (ds.map encD) ∧ (∀ x ∈ ds, DrOk r x) ∧ ds.length ≤ 1000 ∧ ∀ H', Same H H' → Q (.bl true) H'
theorem c_are_doors (D : Df K mg "are_doors" s_are_doors) (T : Tx K mg) (c_is_row : C8.Cal P w K mg base 1 "is_row" (spRow K) []) (c_is_door : C8.Cal P w K mg base 3 "is_door" (spDoor K) []) :
    C8.Cal P w K mg base 4 "are_doors" (spDoors K) [] := by
  refine cal_mk D sc_are_doors bd_are_doors (fun vs H Q E h => ?_) fun f cdv A outer s H vs Q E hr h => ?_
  · obtain ⟨r, a, xs, ds, rfl, _⟩ := h
    rfl
  · obtain ⟨r, a, xs, ds, rfl, hq, td, ok, few, k⟩ := h
    have line := sizeLine_eq
    have len : xs.length = ds.length := by rw [td.length, List.length_map]
    refine ⟨_, (pss_one (ps_ret (pe_and (C8.pe_c c_is_row hr (by decide) rfl (pa_cons (pv 1) pa_nil)) (pe_one (pe_callB (cr_all rfl) (by rfl) T.n_all (by decide +kernel) (pa_cons (pe_lc (own := [("door", 2)]) (by rfl) sc_are_doors.nd (pi_seq (pv 1)) (blkOk_by (N := N_are_doors) (sc := defScope s_are_doors) (by decide +kernel)) (fun _ _ _ _ _ => (pg_name (i := 2) sc_are_doors.nd rfl (Or.inl rfl))) (fun _ _ _ _ _ => pts_nil) (fun _ _ _ _ _ => (C8.pe_c c_is_door hr (by decide) rfl (pa_cons (pv 0) (pa_cons (pv 2) pa_nil))))) pa_nil)))))), ?_⟩
    refine ⟨_, rfl, a, xs, rfl, hq, fun H1 s1 => ⟨_, rfl, iteT ?_⟩⟩
    have hq1 : SqL K H1 a xs ∨ SqT K H1 a xs := hq.imp (Same.seq s1) (SqT.keep (Same.tk s1))
    refine ⟨_, rfl, a, xs, rfl, hq1, fun J G hG wk D nD => lc_it wk (fun i H' => Same H1 H' ∧ H' D = some (.lst (List.replicate i (.bl true)))) ⟨Same.new nD, upd_same⟩ (fun i H' _ p => hG _ p.1) ?_ ?_⟩
    · rintro i x H' H2 hi ⟨s2, hD⟩ ⟨rfl, hx⟩
      obtain ⟨p, hp, tdp⟩ := TDs.at_map (TDs.keep (Same.tk (s1.trans s2)) td) hx
      obtain ⟨t, rfl, ht⟩ := TD.door_inv tdp
      refine ⟨rfl, yes_ ⟨_, rfl, _, rfl, r, t, p, rfl, ht, ok p (List.mem_of_getElem? hp), fun H3 s3 => ?_⟩⟩
      refine ⟨_, s3 _ _ hD, by rw [List.length_replicate]; omega, Hb.Same.acc (s2.trans s3) nD, ?_⟩
      rw [upd_same, List.replicate_succ']
    · rintro H2 ⟨s2, hD⟩
      refine ⟨D, List.replicate xs.length true, rfl, SqL.of (by rw [hD, List.map_replicate]), ?_⟩
      rw [show (List.replicate xs.length true).all id = true by simp]
      exact k _ (s1.trans s2)
def spFloors (K : PySem.W.Frag) : Sp := fun vs H Q _ => ∃ (r : Int) (a : Addr) (xs : List V) (ds : List Fl), vs = [.int r, .ref a] ∧ (SqL K H a xs ∨ SqT K H a xs) ∧ TDs K H xs (ds.map encF) ∧ (∀ x ∈ ds, FlOk r x) ∧ (ds.map Prod.fst).Nodup ∧ ds.length ≤ 1000 ∧ ∀ H', Same H H' → Q (.bl true) H'
theorem c_are_floors (D : Df K mg "are_floors" s_are_floors) (T : Tx K mg) (c_is_row : C8.Cal P w K mg base 1 "is_row" (spRow K) []) (c_is_floor : C8.Cal P w K mg base 3 "is_floor" (spFloor K) [])
    (c_are_unlike : C8.Cal P w K mg base 1 "are_unlike" (spUnlike K) []) : C8.Cal P w K mg base 4 "are_floors" (spFloors K) [] := by
  refine cal_mk D sc_are_floors bd_are_floors (fun vs H Q E h => ?_) fun f cdv A outer s H vs Q E hr h => ?_
  · obtain ⟨r, a, xs, ds, rfl, _⟩ := h
    rfl
  · obtain ⟨r, a, xs, ds, rfl, hq, td, ok, nd, few, k⟩ := h
    have line := sizeLine_eq
    have len : xs.length = ds.length := by rw [td.length, List.length_map]
    refine ⟨_, (pss_cons (ps_if (PW.pt (pw_or (pt_not (pt_val (C8.pe_c c_is_row hr (by decide) rfl (pa_cons (pv 1) pa_nil)))) (pw_or1 (pt_not (pt_val (pe_callB (cr_all rfl) (by rfl) T.n_all (by decide +kernel) (pa_cons (pe_lc (own := [("floor", 2)]) (by rfl) sc_are_floors.nd (pi_seq (pv 1)) (blkOk_by (N := N_are_floors) (sc := defScope s_are_floors) (by decide +kernel)) (fun _ _ _ _ _ => (pg_name (i := 2) sc_are_floors.nd rfl (Or.inl rfl))) (fun _ _ _ _ _ => pts_nil) (fun _ _ _ _ _ => (C8.pe_c c_is_floor hr (by decide) rfl (pa_cons (pv 0) (pa_cons (pv 2) pa_nil))))) pa_nil)))))))
 (pss_one (ps_ret pe_bl))
 pss_nil)
 (pss_one (ps_ret (C8.pe_c c_are_unlike hr (by decide) rfl (pa_cons (pe_lc (own := [("floor", 2)]) (by rfl) sc_are_floors.nd (pi_seq (pv 1)) (blkOk_by (N := N_are_floors) (sc := defScope s_are_floors) (by decide +kernel)) (fun _ _ _ _ _ => (pg_name (i := 2) sc_are_floors.nd rfl (Or.inl rfl))) (fun _ _ _ _ _ => pts_nil) (fun _ _ _ _ _ => (pe_ix (show IxR _ (rIxT K) from ix_tup) (pv 2) pe_int (fun _ _ => rfl)))) pa_nil))))), ?_⟩
    refine ⟨_, rfl, a, xs, rfl, hq, fun H1 s1 => ⟨_, rfl, iteF ?_⟩⟩
    have hq1 : SqL K H1 a xs ∨ SqT K H1 a xs := hq.imp (Same.seq s1) (SqT.keep (Same.tk s1))
    refine ⟨_, rfl, a, xs, rfl, hq1, fun J G hG wk D nD => lc_it wk (fun i H' => Same H1 H' ∧ H' D = some (.lst (List.replicate i (.bl true)))) ⟨Same.new nD, upd_same⟩ (fun i H' _ p => hG _ p.1) ?_ ?_⟩
    · rintro i x H' H2 hi ⟨s2, hD⟩ ⟨rfl, hx⟩
      obtain ⟨p, hp, tdp⟩ := TDs.at_map (TDs.keep (Same.tk (s1.trans s2)) td) hx
      obtain ⟨t, rfl, ht⟩ := TD.floor_inv tdp
      refine ⟨rfl, yes_ ⟨_, rfl, _, rfl, r, t, p, rfl, ht, ok p (List.mem_of_getElem? hp), fun H3 s3 => ?_⟩⟩
      refine ⟨_, s3 _ _ hD, by rw [List.length_replicate]; omega, Hb.Same.acc (s2.trans s3) nD, ?_⟩
      rw [upd_same, List.replicate_succ']
    · rintro H2 ⟨s2, hD⟩
      refine ⟨D, List.replicate xs.length true, rfl, SqL.of (by rw [hD, List.map_replicate]), ?_⟩
      rw [show (List.replicate xs.length true).all id = true by simp]
      refine ⟨_, rfl, iteF ?_⟩
      have hq2 : SqL K H2 a xs ∨ SqT K H2 a xs := hq1.imp (Same.seq s2) (SqT.keep (Same.tk s2))
      have s12 := s1.trans s2
      refine ⟨_, rfl, a, xs, rfl, hq2, fun J G hG wk D2 nD2 => lc_it wk (fun i H' => H' = upd H2 D2 (.lst (((ds.take i).map Prod.fst).map V.int))) (by simp) (fun i H' _ p => by rw [p]; exact hG _ (Same.new nD2)) ?_ ?_⟩
      · rintro i x H' H3 hi rfl ⟨e, hx⟩
        subst e
        have s3 : Same H2 (upd H2 D2 (.lst (((ds.take i).map Prod.fst).map V.int))) := Same.new nD2
        obtain ⟨p, hp, tdp⟩ := TDs.at_map (TDs.keep (Same.tk (s12.trans s3)) td) hx
        obtain ⟨t, rfl, ht⟩ := TD.floor_inv tdp
        refine ⟨rfl, yes_ ⟨_, rfl, t, _, 0, .int p.1, rfl, rfl, ht, rfl, _, upd_same, ?_, ?_⟩⟩
        · rw [List.length_map, List.length_map, List.length_take]
          omega
        · rw [upd_upd]
          show upd H2 D2 _ = upd H2 D2 _
          rw [List.take_add_one, hp]
          simp
      · rintro H3 rfl
        rw [len, List.take_length]
        exact ⟨D2, rfl, .inr ⟨ds.map Prod.fst, .inl (SqL.of upd_same), nd, by rw [List.length_map]; omega⟩, k _ (s12.trans (Same.new nD2))⟩
def spCradles (K : PySem.W.Frag) : Sp := fun vs H Q _ => ∃ (r : Int) (a : Addr) (ns : List Int), vs = [.int r, .ref a] ∧ (SqL K H a (ns.map V.int) ∨ SqT K H a (ns.map V.int)) ∧ (∀ x ∈ ns, inR r x) ∧ ns.Nodup ∧ ns.length ≤ 1000 ∧ ∀ H', Same H H' → Q (.bl true) H'
theorem c_are_cradles (D : Df K mg "are_cradles" s_are_cradles) (T : Tx K mg) (c_is_row : C8.Cal P w K mg base 1 "is_row" (spRow K) []) (c_is_room : C8.Cal P w K mg base 2 "is_room" spRoom [])
    (c_are_unlike : C8.Cal P w K mg base 1 "are_unlike" (spUnlike K) []) : C8.Cal P w K mg base 3 "are_cradles" (spCradles K) [] := by
  refine cal_mk D sc_are_cradles bd_are_cradles (fun vs H Q E h => ?_) fun f cdv A outer s H vs Q E hr h => ?_
  · obtain ⟨r, a, ns, rfl, _⟩ := h
    rfl
  · obtain ⟨r, a, ns, rfl, hq, ok, nd, few, k⟩ := h
    have line := sizeLine_eq
    refine ⟨_, (pss_one (ps_ret (pe_and (C8.pe_c c_is_row hr (by decide) rfl (pa_cons (pv 1) pa_nil)) (pe_and (pe_callB (cr_all rfl) (by rfl) T.n_all (by decide +kernel) (pa_cons (pe_lc (own := [("room", 2)]) (by rfl) sc_are_cradles.nd (pi_seq (pv 1)) (blkOk_by (N := N_are_cradles) (sc := defScope s_are_cradles) (by decide +kernel)) (fun _ _ _ _ _ => (pg_name (i := 2) sc_are_cradles.nd rfl (Or.inl rfl))) (fun _ _ _ _ _ => pts_nil) (fun _ _ _ _ _ => (C8.pe_c c_is_room hr (by decide) rfl (pa_cons (pv 0) (pa_cons (pv 2) pa_nil))))) pa_nil)) (pe_one (C8.pe_c c_are_unlike hr (by decide) rfl (pa_cons (pv 1) pa_nil))))))), ?_⟩
    refine ⟨_, rfl, a, _, rfl, hq, fun H1 s1 => ⟨_, rfl, iteT ?_⟩⟩
    have hq1 : SqL K H1 a (ns.map V.int) ∨ SqT K H1 a (ns.map V.int) := hq.imp (Same.seq s1) (SqT.keep (Same.tk s1))
    refine ⟨_, rfl, a, _, rfl, hq1, fun J G hG wk D nD => lc_it wk (fun i H' => Same H1 H' ∧ H' D = some (.lst (List.replicate i (.bl true)))) ⟨Same.new nD, upd_same⟩ (fun i H' _ p => hG _ p.1) ?_ ?_⟩
    · rintro i x H' H2 hi ⟨s2, hD⟩ ⟨rfl, hx⟩
      obtain ⟨n, hn, rfl⟩ := List.mem_map.mp (List.mem_of_getElem? hx)
      refine ⟨rfl, yes_ ⟨_, rfl, _, rfl, r, n, rfl, ok n hn, _, hD, by rw [List.length_replicate]; rw [List.length_map] at hi; omega, Hb.Same.acc s2 nD, ?_⟩⟩
      rw [upd_same, List.replicate_succ']
    · rintro H2 ⟨s2, hD⟩
      refine ⟨D, List.replicate (ns.map V.int).length true, rfl, SqL.of (by rw [hD, List.map_replicate]), ?_⟩
      rw [show (List.replicate (ns.map V.int).length true).all id = true by simp]
      have hq2 : SqL K H2 a (ns.map V.int) ∨ SqT K H2 a (ns.map V.int) := hq1.imp (Same.seq s2) (SqT.keep (Same.tk s2))
      refine ⟨_, rfl, iteT ⟨_, rfl, a, rfl, .inr ⟨ns, hq2, nd, by omega⟩, k _ (s1.trans s2)⟩⟩
end
end Lw
set_option Elab.async false
set_option linter.all false
set_option maxRecDepth 100000
set_option maxHeartbeats 4000000
namespace Lw
open PySem PySem.Spec PyProof.Rows L2 Hb
theorem alike_I (p q : Int) : PySem.W.alike (PyData.int p) (PyData.int q) = true := by simp [PySem.W.alike]
theorem depth_I (p : Int) : (PyData.int p).depth ≤ 60 := by simp [PyData.depth]
def spHInit (K : PySem.W.Frag) (C : Addr) : Sp := fun vs H Q _ => ∃ (x dx a b c : Addr) (xs ys : List V) (h : Hz), vs = [.ref x, .int h.rooms, .ref a, .ref b, .ref c] ∧ H x = some (.ins C dx []) ∧
  (SqL K H a xs ∨ SqT K H a xs) ∧ TDs K H xs (h.doors.map encD) ∧ (SqL K H b ys ∨ SqT K H b ys) ∧ TDs K H ys (h.floors.map encF) ∧ (SqL K H c (h.cradles.map V.int) ∨ SqT K H c (h.cradles.map V.int)) ∧
  Hin h ∧ ∀ H', (∀ b o, b ≠ x → H b = some o → H' b = some o) → HAt K C H' x h → Q .non H'
section
variable {P : Program} {w : World} {K : PySem.W.Frag} {mg : Str → Option Value} {base : Heap}
theorem m_House_mk (D : Df1d K mg "House" "House.__init__" s_House_init 1) (T : Tx K mg) (c_is_positive : C8.Cal P w K mg base 2 "is_positive" spPos []) (c_are_doors : C8.Cal P w K mg base 4 "are_doors" (spDoors K) [])
    (c_are_floors : C8.Cal P w K mg base 4 "are_floors" (spFloors K) []) (c_are_cradles : C8.Cal P w K mg base 3 "are_cradles" (spCradles K) []) :
    C8.Mak P w K mg base 5 "House" (He.ga K "House") (spHInit K (He.ga K "House")) [] := by
  refine mak_mkD D sc_House_init bk_House_init (fun vs H Q E h => ?_) fun f cdv A outer s H vs Q E hr h => ?_
  · obtain ⟨x, dx, a, b, c, xs, ys, h, rfl, _⟩ := h
    rfl
  · obtain ⟨x, dx, a, b, c, xs, ys, h, rfl, hx, hd, tdd, hf, tdf, hc, hi, k⟩ := h
    refine ⟨_, (pss_cons (ps_if (pt_not (pt_val (C8.pe_c c_is_positive hr (by decide) rfl (pa_cons (pv 1) pa_nil))))
 (pss_one ps_never)
 pss_nil)
 (pss_cons (ps_if (pt_not (pt_val (C8.pe_c c_are_doors hr (by decide) rfl (pa_cons (pv 1) (pa_cons (pv 2) pa_nil)))))
 (pss_one ps_never)
 pss_nil)
 (pss_cons (ps_if (pt_not (pt_val (C8.pe_c c_are_floors hr (by decide) rfl (pa_cons (pv 1) (pa_cons (pv 3) pa_nil)))))
 (pss_one ps_never)
 pss_nil)
 (pss_cons (ps_if (pt_not (pt_val (C8.pe_c c_are_cradles hr (by decide) rfl (pa_cons (pv 1) (pa_cons (pv 4) pa_nil)))))
 (pss_one ps_never)
 pss_nil)
 (pss_cons (ps_fld (pv 0) (pv 1) rfl)
 (pss_cons (ps_fld (pv 0) (pe_callTy call_tuple_of (by rfl) T.n_tuple (by decide +kernel) (pa_cons (pv 2) pa_nil)) rfl)
 (pss_cons (ps_fld (pv 0) (pe_callTy call_tuple_of (by rfl) T.n_tuple (by decide +kernel) (pa_cons (pe_callB (cr_sortedAny encF hr.units) (by rfl) T.n_sorted (by decide +kernel) (pa_cons (pv 3) pa_nil)) pa_nil)) rfl)
 (pss_one (ps_fld (pv 0) (pe_callTy call_tuple_of (by rfl) T.n_tuple (by decide +kernel) (pa_cons (pe_callB (cr_sortedAny PyData.int hr.units) (by rfl) T.n_sorted (by decide +kernel) (pa_cons (pv 4) pa_nil)) pa_nil)) rfl))))))))), ?_⟩
    refine ⟨_, rfl, h.rooms, rfl, _, rfl, ?_⟩
    rw [decide_eq_true hi.r1]
    refine iteF ⟨_, rfl, _, rfl, h.rooms, a, xs, h.doors, rfl, hd, tdd, hi.d, hi.fewd, fun H1 s1 => ⟨_, rfl, iteF ?_⟩⟩
    have hf1 : SqL K H1 b ys ∨ SqT K H1 b ys := hf.imp (Same.seq s1) (SqT.keep (Same.tk s1))
    refine ⟨_, rfl, _, rfl, h.rooms, b, ys, h.floors, rfl, hf1, TDs.keep (Same.tk s1) tdf, hi.f, hi.fnd, hi.fewf, fun H2 s2 => ⟨_, rfl, iteF ?_⟩⟩
    have s12 := s1.trans s2
    have hc2 : SqL K H2 c (h.cradles.map V.int) ∨ SqT K H2 c (h.cradles.map V.int) := hc.imp (Same.seq s12) (SqT.keep (Same.tk s12))
    refine ⟨_, rfl, _, rfl, h.rooms, c, h.cradles, rfl, hc2, hi.c, hi.cnd, hi.fewc, fun H3 s3 => ⟨_, rfl, iteF ?_⟩⟩
    have s13 := s12.trans s3
    refine ⟨_, rfl, _, rfl, x, _, dx, [], rfl, s13 _ _ hx, T.cls, T.a_rooms, by decide, ?_⟩
    have kx4 : KX x H (upd H3 x (.ins (He.ga K "House") dx (putF "rooms" (.int h.rooms) []))) := (Hb.Same.kx s13).trans KX.put
    have hx4 : upd H3 x (.ins (He.ga K "House") dx (putF "rooms" (.int h.rooms) [])) x = some (.ins (He.ga K "House") dx [("rooms", .int h.rooms)]) := upd_same
    generalize upd H3 x (.ins (He.ga K "House") dx (putF "rooms" (.int h.rooms) [])) = H4 at kx4 hx4 ⊢
    dsimp only
    refine cut_seq (fun σ H' => σ = L2.start N_House_init [.ref x, .int h.rooms, .ref a, .ref b, .ref c] ∧ ∃ t, KX x H H' ∧ H' x = some (.ins (He.ga K "House") dx [("rooms", .int h.rooms), ("doors", .ref t)]) ∧ SqT K H' t xs) ?_ fun rest => ?_
    · rintro σ H5 ⟨rfl, t, kx5, hx5, ht⟩
      have tk5 := kx5.tk hx
      have hf5 : SqL K H5 b ys ∨ SqT K H5 b ys := hf.imp (fun q => kx5.seq hx q) (SqT.keep tk5)
      have tdf5 := TDs.keep tk5 tdf
      have len : ys.length = h.floors.length := by rw [tdf.length, List.length_map]
      have ztd := zip_tdE tdf5
      refine ⟨_, rfl, b, ys.zip h.floors, rfl, by rw [zip_fst len]; exact hf5, fun y hy => TD.dp (ztd y hy), PySem.W.AllAlike.of (fun b b' => alike_F b.2 b'.2), PySem.W.Sortable.tuples (fun b => ⟨_, _, rfl⟩), fun y _ => depth_F y.2, fun p np => ?_⟩
      generalize hzs : (ys.zip h.floors).mergeSort (PySem.W.dataLe false fun y => encF y.2) = zs
      have pz : zs.Perm (ys.zip h.floors) := by rw [← hzs]; exact List.mergeSort_perm _ _
      have snd : zs.map (·.2) = sortF h.floors := by rw [← hzs, sort_zipE, zip_snd len]; rfl
      have tds : TDs K H5 (zs.map (·.1)) ((sortF h.floors).map encF) := by
        rw [← snd]
        exact tdE_zip fun y hy => ztd y (pz.mem_iff.mp hy)
      have s6 : Same H5 (upd H5 p (.lst (zs.map (·.1)))) := Same.new np
      refine ⟨p, _, rfl, .inl ⟨SqL.of upd_same, fun t2 nt2 => ?_⟩⟩
      have s7 := s6.trans (Same.new nt2 (o := .tup (zs.map (·.1))))
      have ht7 : upd (upd H5 p (.lst (zs.map (·.1)))) t2 (.tup (zs.map (·.1))) t2 = some (.tup (zs.map (·.1))) := upd_same
      generalize upd (upd H5 p (.lst (zs.map (·.1)))) t2 (.tup (zs.map (·.1))) = H7 at s7 ht7 ⊢
      have hx7 := s7 _ _ hx5
      refine ⟨_, rfl, x, _, dx, _, rfl, hx7, T.cls, T.a_floors, by show 2 < 1000; decide, ?_⟩
      have hx8 : upd H7 x (.ins (He.ga K "House") dx (putF "floors" (.ref t2) [("rooms", .int h.rooms), ("doors", .ref t)])) x = some (.ins (He.ga K "House") dx [("rooms", .int h.rooms), ("doors", .ref t), ("floors", .ref t2)]) := upd_same
      have kx58 : KX x H5 (upd H7 x (.ins (He.ga K "House") dx (putF "floors" (.ref t2) [("rooms", .int h.rooms), ("doors", .ref t)]))) := (Hb.Same.kx s7).trans KX.put
      have ht8 : SqT K (upd H7 x (.ins (He.ga K "House") dx (putF "floors" (.ref t2) [("rooms", .int h.rooms), ("doors", .ref t)]))) t2 (zs.map (·.1)) := SqT.keep (KX.tk KX.put hx7) (SqT.of ht7)
      have td8 : TDs K (upd H7 x (.ins (He.ga K "House") dx (putF "floors" (.ref t2) [("rooms", .int h.rooms), ("doors", .ref t)]))) (zs.map (·.1)) ((sortF h.floors).map encF) := TDs.keep (kx58.tk hx5) tds
      generalize upd H7 x (.ins (He.ga K "House") dx (putF "floors" (.ref t2) [("rooms", .int h.rooms), ("doors", .ref t)])) = H8 at hx8 kx58 ht8 td8 ⊢
      have kx8 := kx5.trans kx58
      have tk8 := kx8.tk hx
      have hc8 : SqL K H8 c (h.cradles.map V.int) ∨ SqT K H8 c (h.cradles.map V.int) := hc.imp (fun q => kx8.seq hx q) (SqT.keep tk8)
      have tdc : TDs K H8 (h.cradles.map V.int) (h.cradles.map PyData.int) := tds_ints _
      have zc := zip_tdE tdc
      have lenc : (h.cradles.map V.int).length = h.cradles.length := List.length_map _
      refine ⟨_, rfl, c, (h.cradles.map V.int).zip h.cradles, rfl, by rw [zip_fst lenc]; exact hc8, fun y hy => TD.dp (zc y hy), PySem.W.AllAlike.of (fun b b' => alike_I b.2 b'.2), PySem.W.Sortable.others (fun b => ⟨(by intro e; cases e), (by intro xs e; cases e)⟩), fun y _ => depth_I y.2, fun p2 np2 => ?_⟩
      generalize hzc : ((h.cradles.map V.int).zip h.cradles).mergeSort (PySem.W.dataLe false fun y => PyData.int y.2) = cs
      have pc : cs.Perm ((h.cradles.map V.int).zip h.cradles) := by rw [← hzc]; exact List.mergeSort_perm _ _
      have sndc : cs.map (·.2) = sortI h.cradles := by rw [← hzc, sort_zipE, zip_snd lenc]; rfl
      have tdcs : TDs K H8 (cs.map (·.1)) ((sortI h.cradles).map PyData.int) := by
        rw [← sndc]
        exact tdE_zip fun y hy => zc y (pc.mem_iff.mp hy)
      have ec := TDs.ints_inv tdcs
      rw [ec]
      have s9 : Same H8 (upd H8 p2 (.lst ((sortI h.cradles).map V.int))) := Same.new np2
      refine ⟨p2, _, rfl, .inl ⟨SqL.of upd_same, fun t3 nt3 => ?_⟩⟩
      have s10 := s9.trans (Same.new nt3 (o := .tup ((sortI h.cradles).map V.int)))
      have ht10 : upd (upd H8 p2 (.lst ((sortI h.cradles).map V.int))) t3 (.tup ((sortI h.cradles).map V.int)) t3 = some (.tup ((sortI h.cradles).map V.int)) := upd_same
      generalize upd (upd H8 p2 (.lst ((sortI h.cradles).map V.int))) t3 (.tup ((sortI h.cradles).map V.int)) = H9 at s10 ht10 ⊢
      have hx10 := s10 _ _ hx8
      refine ⟨_, rfl, x, _, dx, _, rfl, hx10, T.cls, T.a_cradles, by show 3 < 1000; decide, ?_⟩
      have kx9 : KX x H8 (upd H9 x (.ins (He.ga K "House") dx (putF "cradles" (.ref t3) [("rooms", .int h.rooms), ("doors", .ref t), ("floors", .ref t2)]))) := (Hb.Same.kx s10).trans KX.put
      have tk9 := kx9.tk hx8
      refine k _ (kx8.trans kx9) ⟨dx, t, t2, t3, xs, zs.map (·.1), upd_same, ?_, TDs.keep ((kx8.trans kx9).tk hx) tdd, SqT.keep tk9 ht8, TDs.keep tk9 td8, SqT.keep (KX.tk KX.put hx10) (SqT.of ht10)⟩
      exact SqT.keep tk9 (SqT.keep (kx58.tk hx5) ht)
    · have hx' := hx4
      rcases hd with hd | hd
      · refine ⟨_, rfl, a, xs, rfl, .inl ⟨kx4.seq hx hd, fun t nt => ?_⟩⟩
        have s5 : Same H4 (upd H4 t (.tup xs)) := Same.new nt
        have hx5 := s5 _ _ hx4
        refine ⟨_, rfl, x, _, dx, _, rfl, hx5, T.cls, T.a_doors, by show 1 < 1000; decide, rest _ _ ⟨rfl, t, (kx4.trans (Hb.Same.kx s5)).trans KX.put, upd_same, SqT.keep (KX.tk KX.put hx5) (SqT.of upd_same)⟩⟩
      · refine ⟨_, rfl, a, xs, rfl, .inr ⟨SqT.keep (kx4.tk hx) hd, ?_⟩⟩
        exact ⟨_, rfl, x, _, dx, _, rfl, hx4, T.cls, T.a_doors, by show 1 < 1000; decide, rest _ _ ⟨rfl, a, kx4.trans KX.put, upd_same, SqT.keep (KX.tk KX.put hx4) (SqT.keep (kx4.tk hx) hd)⟩⟩
end
end Lw
set_option Elab.async false
set_option linter.all false
set_option maxRecDepth 100000
set_option maxHeartbeats 8000000
namespace Lw
open PySem PySem.Spec PyProof.Rows L2 Hb
def spHouse (K : PySem.W.Frag) : Sp := fun vs H Q _ => ∃ (d g l : Addr) (r m : Int) (ws : List Str), vs = [.ref d, .int r, .int m, .ref l] ∧ Deal d g H ∧ H l = some (.lst (ws.map V.str)) ∧ l ≠ g ∧ 1 ≤ r ∧ r ≤ 20 ∧ r ≤ m + 1 ∧ m ≤ 100 ∧ ws ≠ [] ∧ ws.length ≤ 100 ∧ (∀ w ∈ ws, PyData.strOk w = true) ∧
  ∀ (H' : Hp) (p : Addr) (h : Hz), Deal d g H' → Kp d g H H' → H p = none → HOne K H' p h → Hok h r m ws → Q (.ref p) H'
section
variable {P : Program} {w : World} {K : PySem.W.Frag} {mg : Str → Option Value} {base : Heap}
theorem c_drawn_house (D : Df K mg "_law_drawn_house" s_drawn_house) (T : Tx K mg) (c_draw : C8.Cal P w K mg base 1 "_law_draw" spDraw []) (c_pick : C8.Cal P w K mg base 2 "_law_pick" (spPick K) [])
    (c_mixed : C8.Cal P w K mg base 2 "_law_mixed" (spMixed K) []) : C8.Cal P w K mg base 3 "_law_drawn_house" (spHouse K) [] := by
  refine cal_mk D sc_drawn_house bd_drawn_house (fun vs H Q E h => ?_) fun f cdv A outer s H vs Q E hr h => ?_
  · obtain ⟨d, g, l, r, m, ws, rfl, _⟩ := h
    rfl
  · obtain ⟨d, g, l, r, m, ws, rfl, dl, hl, lg, r1, r2, rm, m1, wne, wfew, wok, k⟩ := h
    have line := sizeLine_eq
    refine ⟨_, (pss_cons (ps_par (i := 4) (j := 5) (by rfl) sc_drawn_house.nd rfl rfl (by decide) rfl rfl (pa_cons (pe_op op_add pe_int (C8.pe_c c_draw hr (by decide) rfl (pa_cons (pv 0) (pa_cons (pv 1) pa_nil)))) (pa_cons (pe_lst pa_nil) pa_nil)) (by rfl))
 (pss_cons (ps_for PassesOwn.never rfl (pi_range2 (by rfl) T.n_range (pa_cons pe_int (pa_cons (pv 4) pa_nil))) (pg_name (i := 6) sc_drawn_house.nd rfl (Or.inl rfl))
 (pss_cons (ps_set (i := 7) sc_drawn_house.nd rfl (Or.inl rfl) (C8.pe_c c_mixed hr (by decide) rfl (pa_cons (pv 0) (pa_cons (pe_lst (pa_cons (pv 6) (pa_cons (C8.pe_c c_draw hr (by decide) rfl (pa_cons (pv 0) (pa_cons (pv 6) pa_nil))) pa_nil))) pa_nil))))
 (pss_one (ps_expr (pe_bm PySem.F.plainAttrs_list PySem.F.slot_list_append PySem.F.type_list_append mt_append (pv 5) (pa_cons (pe_tup (pa_cons (pe_ix ix_list (pv 7) pe_int (fun _ _ => rfl)) (pa_cons (pe_ix ix_list (pv 7) pe_int (fun _ _ => rfl)) (pa_cons (C8.pe_c c_pick hr (by decide) rfl (pa_cons (pv 0) (pa_cons (pe_op op_cat (pv 3) (pe_lst (pa_cons pe_non pa_nil))) pa_nil))) pa_nil)))) pa_nil))))))
 (pss_cons (ps_for PassesOwn.never rfl (pi_range1 (by rfl) T.n_range (pa_cons (pe_ifExp (pt_cmpR op_gt (pv 4) pe_int (by first | exact nomark _ | rfl)) (C8.pe_c c_draw hr (by decide) rfl (pa_cons (pv 0) (pa_cons (pe_op op_add (pe_op op_sub (pv 2) (pv 4)) pe_int) pa_nil))) pe_int) pa_nil)) (pg_name (i := 8) sc_drawn_house.nd rfl (Or.inl rfl))
 (pss_cons (ps_set (i := 7) sc_drawn_house.nd rfl (Or.inl rfl) (pe_slice sl_list (C8.pe_c c_mixed hr (by decide) rfl (pa_cons (pv 0) (pa_cons (L2.pe_listRg rfl (by rfl) T.n_list (L2.prg_1 (by rfl) T.n_range (pv 4))) pa_nil))) po_none (po_some pe_int)))
 (pss_one (ps_expr (pe_bm PySem.F.plainAttrs_list PySem.F.slot_list_append PySem.F.type_list_append mt_append (pv 5) (pa_cons (pe_tup (pa_cons (pe_ix ix_list (pv 7) pe_int (fun _ _ => rfl)) (pa_cons (pe_ix ix_list (pv 7) pe_int (fun _ _ => rfl)) (pa_cons (C8.pe_c c_pick hr (by decide) rfl (pa_cons (pv 0) (pa_cons (pe_op op_cat (pv 3) (pe_lst (pa_cons pe_non pa_nil))) pa_nil))) pa_nil)))) pa_nil))))))
 (pss_cons (ps_setLc (i := 9) (own := [("_law_room", 10)]) (by rfl) sc_drawn_house.nd rfl rfl (sw_true rfl rfl rfl (by decide +kernel)) (pi_range1 (by rfl) T.n_range (pa_cons (pv 4) pa_nil)) (blkOk_by (N := N_drawn_house) (sc := defScope s_drawn_house) (by decide +kernel)) (fun _ _ _ _ _ => (pg_name (i := 10) sc_drawn_house.nd rfl (Or.inl rfl))) (fun _ _ _ _ _ => (pts_one (pt_cmpR op_eq (C8.pe_c c_draw hr (by decide) rfl (pa_cons (pv 0) (pa_cons pe_int pa_nil))) pe_int (by first | exact nomark _ | rfl)))) (fun _ _ _ _ _ => (pe_tup (pa_cons (pv 10) (pa_cons (C8.pe_c c_pick hr (by decide) rfl (pa_cons (pv 0) (pa_cons (pv 3) pa_nil))) pa_nil)))))
 (pss_cons (ps_setLc (i := 11) (own := [("_law_room", 10)]) (by rfl) sc_drawn_house.nd rfl rfl (sw_true rfl rfl rfl (by decide +kernel)) (pi_range1 (by rfl) T.n_range (pa_cons (pv 4) pa_nil)) (blkOk_by (N := N_drawn_house) (sc := defScope s_drawn_house) (by decide +kernel)) (fun _ _ _ _ _ => (pg_name (i := 10) sc_drawn_house.nd rfl (Or.inl rfl))) (fun _ _ _ _ _ => (pts_one (pt_cmpR op_eq (C8.pe_c c_draw hr (by decide) rfl (pa_cons (pv 0) (pa_cons pe_int pa_nil))) pe_int (by first | exact nomark _ | rfl)))) (fun _ _ _ _ _ => (pv 10)))
 (pss_one (ps_ret (pe_tup (pa_cons (pv 4) (pa_cons (pe_callTy call_tuple_of (by rfl) T.n_tuple (by decide +kernel) (pa_cons (C8.pe_c c_mixed hr (by decide) rfl (pa_cons (pv 0) (pa_cons (pv 5) pa_nil))) pa_nil)) (pa_cons (pe_callTy call_tuple_of (by rfl) T.n_tuple (by decide +kernel) (pa_cons (pv 9) pa_nil)) (pa_cons (pe_callTy call_tuple_of (by rfl) T.n_tuple (by decide +kernel) (pa_cons (pv 11) pa_nil)) pa_nil)))))))))))), ?_⟩
    refine ⟨_, rfl, _, rfl, d, g, r, rfl, dl, by omega, by omega, fun H1 r0 dl1 k1 a0 a1 => ⟨_, _, rfl, rfl, ?_⟩⟩
    refine ⟨Nat.zero_le _, fun F nF => ⟨_, _, rfl, ?_⟩⟩
    obtain ⟨M, hM⟩ : ∃ M : Int, 1 + r0 = M := ⟨_, rfl⟩
    have M1 : 1 ≤ M := by omega
    have Mr : M ≤ r := by omega
    change tSeq _ _ _ [some (.ref d), some (.int r), some (.int m), some (.ref l), some (.int (1 + r0)), some (.ref F), none, none, none, none, none, none] _
    rw [hM]
    have nF0 : H F = none := k1.free dl1 nF
    have Fd := (dl1.free nF).1
    have Fg := (dl1.free nF).2
    have hF0 : upd H1 F (.lst []) F = some (.lst []) := upd_same
    have dl2 : Deal d g (upd H1 F (.lst [])) := dl1.new nF
    have k2 : Kp d g H (upd H1 F (.lst [])) := k1.acc nF0
    generalize upd H1 F (.lst []) = H2 at hF0 dl2 k2 ⊢
    have hlA : ∀ {H' : Hp}, Kp d g H H' → H' l = some (.lst (ws.map V.str)) := fun k => k _ _ (dl.ne_d hl (by intro kvs e; cases e)) lg hl
    refine ⟨_, rfl, 1, M, rfl, ⟨by decide, by decide, by omega, by omega⟩, for_range (lo := 1) (n := (M - 1).toNat) (fun i σ H' => (∃ v6 v7, σ = [some (.ref d), some (.int r), some (.int m), some (.ref l), some (.int M), some (.ref F), v6, v7, none, none, none, none]) ∧ Deal d g H' ∧ Kp d g H H' ∧ ∃ (vs : List V) (ds : List Dr), H' F = some (.lst vs) ∧ TDs K H' vs (ds.map encD) ∧ (∀ x ∈ ds, DrW M ws x) ∧ ds.length = i)
      ⟨⟨_, _, rfl⟩, dl2, k2, [], [], hF0, .nil, (fun x h => by cases h), rfl⟩ ?_ ?_⟩
    · rintro i σ H3 hi ⟨⟨v6, v7, rfl⟩, dl3, k3, vs, ds, hF, td, ok, len⟩
      refine ⟨_, rfl, _, rfl, _, rfl, _, rfl, d, g, (1 + i), rfl, dl3, by omega, by omega, fun H4 b dl4 k4 b0 b1 => ⟨by show 2 ≤ sizeLine; decide, fun q nq => ?_⟩⟩
      refine ⟨d, g, q, _, rfl, dl4.new nq, .inl (SqL.of upd_same), by show 2 < 1000000; decide, (fun v hv => ?_), fun H5 pp ys dl5 k5 np hpp pg pm => ?_⟩
      · simp only [List.mem_cons, List.not_mem_nil, or_false] at hv
        rcases hv with rfl | rfl <;> exact good_int _
      obtain ⟨A, B, rfl, iA, iB, nAB⟩ : ∃ A B : Int, ys = [.int A, .int B] ∧ inR M A ∧ inR M B ∧ A ≠ B := by
        rcases perm_two pm with e | e
        · exact ⟨_, _, e, ⟨by omega, by omega⟩, ⟨by omega, by omega⟩, by omega⟩
        · exact ⟨_, _, e, ⟨by omega, by omega⟩, ⟨by omega, by omega⟩, by omega⟩
      have k35 : Kp d g H3 H5 := k4.trans ((Hb.Same.kp (Same.new nq)).trans k5)
      refine ⟨_, rfl, .inl ⟨rfl, _, SqL.of (k35 F _ Fd Fg hF)⟩, _, rfl, pp, _, 0, _, rfl, rfl, SqL.of hpp, rfl, _, rfl, pp, _, 1, _, rfl, rfl, SqL.of hpp, rfl, ?_⟩
      refine ⟨_, rfl, _, rfl, by show 1 ≤ sizeLine; decide, fun u nu => ⟨l, u, _, _, rfl, rfl, (Same.new nu) _ _ (hlA (k3.trans k35)), upd_same, by show (ws.map V.str).length + 1 ≤ sizeLine; rw [List.length_map]; omega, fun t nt => ?_⟩⟩
      have dlu := dl5.new nu (o := .lst [.non])
      have dlt := dlu.new nt (o := .lst (ws.map V.str ++ [.non]))
      refine ⟨d, g, t, _, rfl, dlt, .inl ⟨upd_same, (dlu.free nt).2⟩, by simp, by rw [List.length_append, List.length_map]; show ws.length + 1 < 1000000; omega, fun H6 v hv dl6 k6 => ⟨by show 3 ≤ sizeLine; decide, fun w nw => ?_⟩⟩
      obtain ⟨nz, rfl, hnz⟩ := noise_of hv
      have k36 : Kp d g H3 H6 := k35.trans ((Hb.Same.kp ((Same.new nu).trans (Same.new nt))).trans k6)
      have s7 : Same H6 (upd H6 w (.tup [.int A, .int B, nzV nz])) := Same.new nw
      have hF7 := s7 _ _ (k36 F _ Fd Fg hF)
      have tdl := td.length
      rw [List.length_map] at tdl
      refine ⟨F, vs, _, rfl, rfl, hF7, by omega, ⟨_, _, rfl⟩, (dl6.new nw).set Fd Fg, (((k3.trans k36).trans (Hb.Same.kp s7)).acc nF0), vs ++ [.ref w], ds ++ [(A, B, nz)], upd_same, ?_, ?_, ?_⟩
      · rw [List.map_append]
        exact TDs.app (TDs.keep (tk_acc hF7) (TDs.keep (Same.tk s7) (TDs.keep (dl3.tk k36) td))) (.cons (TD.keep (tk_acc hF7) (TD.door (x := (A, B, nz)) (SqT.of upd_same))) .nil)
      · intro x hx
        rcases List.mem_append.mp hx with hx | hx
        · exact ok x hx
        · rw [List.mem_singleton.mp hx]
          exact ⟨iA, iB, nAB, hnz⟩
      · rw [List.length_append, len]
        show _ + 1 = _
        omega
    · rintro σ H3 ⟨⟨v6, v7, rfl⟩, dl3, k3, vs, ds, hF, td, ok, len⟩
      dsimp only
      refine cut_seq (fun σ H' => (∃ v6 v7 v8, σ = [some (.ref d), some (.int r), some (.int m), some (.ref l), some (.int M), some (.ref F), v6, v7, v8, none, none, none]) ∧ Deal d g H' ∧ Kp d g H H' ∧ ∃ (vs : List V) (ds : List Dr), H' F = some (.lst vs) ∧ TDs K H' vs (ds.map encD) ∧ (∀ x ∈ ds, DrW M ws x) ∧ (ds.length : Int) ≤ m) ?_ fun rest => ?_
      · clear hF td ok len vs ds dl3 k3 v6 v7
        rintro σ H9 ⟨⟨v6, v7, v8, rfl⟩, dl9, k9, vs, ds, hF, td, ok, len⟩
        have wne2 : ws.map V.str ≠ [] := fun e => wne (List.map_eq_nil_iff.mp e)
        have wfew2 : (ws.map V.str).length < 1000000 := by rw [List.length_map]; omega
        -- floors
        refine ⟨_, rfl, M, rfl, by omega, by omega, fun D nD => lc_range (lo := 0) (n := M.toNat) (fun i H' => Deal d g H' ∧ Kp d g H9 H' ∧ ∃ (acc : List V) (fs : List Fl), H' D = some (.lst acc) ∧ TDs K H' acc (fs.map encF) ∧ (∀ x ∈ fs, 0 ≤ x.1 ∧ x.1 < (i : Nat) ∧ x.2 ∈ ws) ∧ (fs.map Prod.fst).Pairwise (· < ·) ∧ fs.length ≤ i)
          ⟨dl9.new nD, Hb.Same.kp (Same.new nD), [], [], upd_same, .nil, (fun x h => by cases h), .nil, Nat.le_refl _⟩ ?_ ?_⟩
        · rintro i H' hi ⟨dlA, kA, acc, fs, hD, tdf, okf, srt, fl⟩
          have Dd := (dl9.free nD).1
          have Dg := (dl9.free nD).2
          refine ⟨rfl, ?_⟩
          refine ⟨_, rfl, d, g, 2, rfl, dlA, by decide, by decide, fun HB e dlB kB b0 b1 => ⟨rfl, _, rfl, ?_⟩⟩
          by_cases ez : e = 0
          · rw [decide_eq_true (show V.int e = V.int 0 by rw [ez])]
            refine iteT ⟨_, rfl, _, rfl, _, rfl, d, g, l, ws.map V.str, rfl, dlB, .inl ⟨hlA (k9.trans (kA.trans kB)), lg⟩, wne2, wfew2, fun HC v hv dlC kC => ⟨by show 2 ≤ sizeLine; decide, fun q nq => ?_⟩⟩
            obtain ⟨wd, hwd, rfl⟩ := List.mem_map.mp hv
            have kAC : Kp d g H' HC := kB.trans kC
            have s1 : Same HC (upd HC q (.tup [.int (0 + (i : Nat)), .str wd])) := Same.new nq
            have hD1 := s1 _ _ (kAC D _ Dd Dg hD)
            have al := tdf.length
            rw [List.length_map] at al
            refine ⟨acc, hD1, by omega, (dlC.new nq).set Dd Dg, (((kA.trans kAC).trans (Hb.Same.kp s1)).acc nD), acc ++ [.ref q], fs ++ [((0 + (i : Nat) : Int), wd)], upd_same, ?_, ?_, ?_, ?_⟩
            · rw [List.map_append]
              exact TDs.app (TDs.keep (tk_acc hD1) (TDs.keep (Same.tk s1) (TDs.keep (dlA.tk kAC) tdf))) (.cons (TD.keep (tk_acc hD1) (TD.floor (x := ((0 + (i : Nat) : Int), wd)) (SqT.of upd_same))) .nil)
            · intro x hx
              rcases List.mem_append.mp hx with hx | hx
              · obtain ⟨a, b, c⟩ := okf x hx
                exact ⟨a, by omega, c⟩
              · rw [List.mem_singleton.mp hx]
                exact ⟨by show (0 : Int) ≤ 0 + (i : Nat); omega, by show (0 : Int) + (i : Nat) < ((i + 1 : Nat) : Int); omega, hwd⟩
            · rw [List.map_append]
              refine List.pairwise_append.mpr ⟨srt, List.pairwise_singleton _ _, fun a ha b hb => ?_⟩
              obtain ⟨x, hx, rfl⟩ := List.mem_map.mp ha
              have hb2 : b = 0 + (i : Nat) := by simpa using hb
              have := (okf x hx).2.1
              omega
            · rw [List.length_append]
              show _ + 1 ≤ _
              omega
          · rw [decide_eq_false (show ¬ V.int e = V.int 0 from fun q => ez (by injection q))]
            exact iteF ⟨dlB, kA.trans kB, acc, fs, kB D _ Dd Dg hD, TDs.keep (dlA.tk kB) tdf, fun x hx => ⟨(okf x hx).1, by have := (okf x hx).2.1; omega, (okf x hx).2.2⟩, srt, by omega⟩
        · rintro H' ⟨dlA, kA, acc, fs, hD, tdf, okf, srt, fl⟩
          have Dd := (dl9.free nD).1
          have Dg := (dl9.free nD).2
          have al := tdf.length
          rw [List.length_map] at al
          -- cradles
          refine ⟨_, rfl, M, rfl, by omega, by omega, fun D2 nD2 => lc_range (lo := 0) (n := M.toNat) (fun i H2 => Deal d g H2 ∧ Kp d g H' H2 ∧ ∃ cs : List Int, H2 D2 = some (.lst (cs.map V.int)) ∧ (∀ x ∈ cs, 0 ≤ x ∧ x < (i : Nat)) ∧ cs.Pairwise (· < ·) ∧ cs.length ≤ i)
            ⟨dlA.new nD2, Hb.Same.kp (Same.new nD2), [], upd_same, (fun x h => by cases h), .nil, Nat.le_refl _⟩ ?_ ?_⟩
          · rintro i H2 hi ⟨dlC, kC, cs, hC, okc, srtc, cl⟩
            have D2d := (dlA.free nD2).1
            have D2g := (dlA.free nD2).2
            refine ⟨rfl, ?_⟩
            refine ⟨_, rfl, d, g, 2, rfl, dlC, by decide, by decide, fun HB e dlB kB b0 b1 => ⟨rfl, _, rfl, ?_⟩⟩
            by_cases ez : e = 0
            · rw [decide_eq_true (show V.int e = V.int 0 by rw [ez])]
              refine iteT ⟨_, rfl, _, kB D2 _ D2d D2g hC, by rw [List.length_map]; omega, dlB.set D2d D2g, (kC.trans kB).acc nD2, cs ++ [(0 + (i : Nat) : Int)], ?_, ?_, ?_, ?_⟩
              · rw [upd_same, List.map_append]
                rfl
              · intro x hx
                rcases List.mem_append.mp hx with hx | hx
                · obtain ⟨a, b⟩ := okc x hx
                  exact ⟨a, by omega⟩
                · rw [List.mem_singleton.mp hx]
                  exact ⟨by omega, by omega⟩
              · refine List.pairwise_append.mpr ⟨srtc, List.pairwise_singleton _ _, fun a ha b hb => ?_⟩
                have hb2 : b = 0 + (i : Nat) := by simpa using hb
                have := (okc a ha).2
                omega
              · rw [List.length_append]
                show _ + 1 ≤ _
                omega
            · rw [decide_eq_false (show ¬ V.int e = V.int 0 from fun q => ez (by injection q))]
              exact iteF ⟨dlB, kC.trans kB, cs, kB D2 _ D2d D2g hC, fun x hx => ⟨(okc x hx).1, by have := (okc x hx).2; omega⟩, srtc, by omega⟩
          · rintro H2 ⟨dlC, kC, cs, hC, okc, srtc, cl⟩
            have D2d := (dlA.free nD2).1
            have D2g := (dlA.free nD2).2
            have k92 := kA.trans kC
            have hF2 := k92 F _ Fd Fg hF
            have td2 := TDs.keep (dl9.tk k92) td
            have vl := td.length
            rw [List.length_map] at vl
            refine ⟨_, rfl, _, rfl, _, rfl, d, g, F, vs, rfl, dlC, .inl (SqL.of hF2), by omega, (fun v hv => ?_), fun H3 p ys dl3 k3 np hp pg pm => ⟨p, ys, rfl, .inl ⟨SqL.of hp, fun t1 nt1 => ?_⟩⟩⟩
            · obtain ⟨i, hi⟩ := List.mem_iff_getElem?.mp hv
              obtain ⟨x, hx, tx⟩ := TDs.at_map td2 hi
              exact ⟨_, tx, shp_door fun n hn => wok n ((ok x (List.mem_of_getElem? hx)).2.2.2 n hn)⟩
            obtain ⟨es, pe, tde⟩ := perm_td pm (TDs.keep (dlC.tk k3) td2)
            have s1 : Same H3 (upd H3 t1 (.tup ys)) := Same.new nt1
            have hD3 := k3 D _ Dd Dg (kC D _ Dd Dg hD)
            have hC3 := k3 D2 _ D2d D2g hC
            refine ⟨_, rfl, D, acc, rfl, .inl ⟨SqL.of (s1 _ _ hD3), fun t2 nt2 => ?_⟩⟩
            have s2 : Same _ (upd (upd H3 t1 (.tup ys)) t2 (.tup acc)) := Same.new nt2
            refine ⟨_, rfl, D2, _, rfl, .inl ⟨SqL.of (s2 _ _ (s1 _ _ hC3)), fun t3 nt3 => ?_⟩⟩
            have s3 : Same _ (upd (upd (upd H3 t1 (.tup ys)) t2 (.tup acc)) t3 (.tup (cs.map V.int))) := Same.new nt3
            refine ⟨by show 4 ≤ sizeLine; decide, fun u nu => ?_⟩
            have s4 : Same _ (upd (upd (upd (upd H3 t1 (.tup ys)) t2 (.tup acc)) t3 (.tup (cs.map V.int))) u (.tup [.int M, .ref t1, .ref t2, .ref t3])) := Same.new nu
            have h1 := s4 _ _ (s3 _ _ (s2 _ _ (upd_same (H := H3) (a := t1) (o := .tup ys))))
            have h2 := s4 _ _ (s3 _ _ (upd_same (H := upd H3 t1 (.tup ys)) (a := t2) (o := .tup acc)))
            have h3 := s4 _ _ (upd_same (H := upd (upd H3 t1 (.tup ys)) t2 (.tup acc)) (a := t3) (o := .tup (cs.map V.int)))
            have s14 := ((s1.trans s2).trans s3).trans s4
            have kall : Kp d g H H3 := (k9.trans k92).trans k3
            have tk9 : TK H' H2 := dlA.tk kC
            have tdf3 := TDs.keep (dlC.tk k3) (TDs.keep tk9 tdf)
            have nu3 : H3 u = none := ((s1.trans s2).trans s3).free nu
            refine k _ u ⟨M, es, fs, cs⟩ (dl3.same s14) (kall.trans (Hb.Same.kp s14)) (kall.free dl3 nu3) (HIs.one ⟨SqT.of upd_same, SqT.of h1, TDs.keep (Same.tk s14) tde, SqT.of h2, TDs.keep (Same.tk s14) tdf3, SqT.of h3⟩) ⟨M1, Mr, fun x hx => ok x (pe.mem_iff.mp hx), ?_, fun x hx => ⟨⟨(okf x hx).1, ?_⟩, (okf x hx).2.2⟩, srt, ?_, fun x hx => ⟨(okc x hx).1, ?_⟩, srtc, ?_⟩
            · show ((es.length : Nat) : Int) ≤ m
              rw [pe.length_eq]
              exact len
            · show x.1 < M
              have := (okf x hx).2.1
              omega
            · show ((fs.length : Nat) : Int) ≤ M
              omega
            · show x < M
              have := (okc x hx).2
              omega
            · show ((cs.length : Nat) : Int) ≤ M
              omega
      · refine ⟨_, rfl, _, _, rfl, rfl, _, rfl, ite2 (fun h => ?_) (fun h => ?_)⟩
        · have M2 : 1 < M := of_decide_eq_true h
          refine ⟨_, rfl, _, rfl, _, rfl, _, _, rfl, rfl, _, _, rfl, rfl, d, g, m - M + 2, rfl, dl3, by omega, by omega, fun H3b n0 dl3b k3b n00 n01 => ?_⟩
          refine ⟨n0, rfl, by omega, by omega, for_range (lo := 0) (n := n0.toNat) (fun i σ H' => (∃ v6 v7 v8, σ = [some (.ref d), some (.int r), some (.int m), some (.ref l), some (.int M), some (.ref F), v6, v7, v8, none, none, none]) ∧ Deal d g H' ∧ Kp d g H H' ∧ ∃ (vs : List V) (ds : List Dr), H' F = some (.lst vs) ∧ TDs K H' vs (ds.map encD) ∧ (∀ x ∈ ds, DrW M ws x) ∧ ds.length = (M - 1).toNat + i)
            ⟨⟨_, _, _, rfl⟩, dl3b, k3.trans k3b, vs, ds, k3b F _ Fd Fg hF, TDs.keep (dl3.tk k3b) td, ok, len⟩ ?_ (fun σ H' ⟨a, b, c, vs, ds, e1, e2, e3, e4⟩ => rest _ _ ⟨a, b, c, vs, ds, e1, e2, e3, by omega⟩)⟩
          clear hF td ok len vs ds dl3 k3 v6 v7 k3b dl3b rest
          rintro i σ H3 hi ⟨⟨v6, v7, v8, rfl⟩, dl3, k3, vs, ds, hF, td, ok, len⟩
          refine ⟨_, rfl, _, rfl, M, rfl, RgOk.of_le (by decide) (by omega) (by decide) (by omega), fun q nq => ?_⟩
          refine ⟨d, g, q, _, rfl, dl3.new nq, .inl (SqL.of upd_same), by rw [rgV_length]; omega, (fun v hv => ?_), fun H4 p4 ys dl4 k4 np4 hp4 pg4 pm => ?_⟩
          · obtain ⟨A, rfl, _⟩ := rg_mem hv
            exact good_int _
          refine ⟨_, rfl, p4, _, rfl, SqL.of hp4, fun pp npp => ?_⟩
          rw [cut_take _ (by decide)]
          obtain ⟨A, B, eAB, iA, iB, nAB⟩ := take_two pm M2
          have eAB2 : ys.take (2 : Int).toNat = [.int A, .int B] := eAB
          rw [eAB2]
          have k35 : Kp d g H3 (upd H4 pp (.lst [.int A, .int B])) := ((Hb.Same.kp (Same.new nq)).trans k4).trans (Hb.Same.kp (Same.new npp))
          have dl5 : Deal d g (upd H4 pp (.lst [.int A, .int B])) := dl4.new npp
          have hpp : upd H4 pp (.lst [.int A, .int B]) pp = some (.lst [.int A, .int B]) := upd_same
          generalize upd H4 pp (.lst [.int A, .int B]) = H5 at k35 dl5 hpp ⊢
          refine ⟨_, rfl, .inl ⟨rfl, _, SqL.of (k35 F _ Fd Fg hF)⟩, _, rfl, pp, _, 0, _, rfl, rfl, SqL.of hpp, rfl, _, rfl, pp, _, 1, _, rfl, rfl, SqL.of hpp, rfl, ?_⟩
          refine ⟨_, rfl, _, rfl, by show 1 ≤ sizeLine; decide, fun u nu => ⟨l, u, _, _, rfl, rfl, (Same.new nu) _ _ (hlA (k3.trans k35)), upd_same, by show (ws.map V.str).length + 1 ≤ sizeLine; rw [List.length_map]; omega, fun t nt => ?_⟩⟩
          have dlu := dl5.new nu (o := .lst [.non])
          have dlt := dlu.new nt (o := .lst (ws.map V.str ++ [.non]))
          refine ⟨d, g, t, _, rfl, dlt, .inl ⟨upd_same, (dlu.free nt).2⟩, by simp, by rw [List.length_append, List.length_map]; show ws.length + 1 < 1000000; omega, fun H6 v hv dl6 k6 => ⟨by show 3 ≤ sizeLine; decide, fun w nw => ?_⟩⟩
          obtain ⟨nz, rfl, hnz⟩ := noise_of hv
          have k36 : Kp d g H3 H6 := k35.trans ((Hb.Same.kp ((Same.new nu).trans (Same.new nt))).trans k6)
          have s7 : Same H6 (upd H6 w (.tup [.int A, .int B, nzV nz])) := Same.new nw
          have hF7 := s7 _ _ (k36 F _ Fd Fg hF)
          have tdl := td.length
          rw [List.length_map] at tdl
          refine ⟨F, vs, _, rfl, rfl, hF7, by omega, ⟨_, _, _, rfl⟩, (dl6.new nw).set Fd Fg, (((k3.trans k36).trans (Hb.Same.kp s7)).acc nF0), vs ++ [.ref w], ds ++ [(A, B, nz)], upd_same, ?_, ?_, ?_⟩
          · rw [List.map_append]
            exact TDs.app (TDs.keep (tk_acc hF7) (TDs.keep (Same.tk s7) (TDs.keep (dl3.tk k36) td))) (.cons (TD.keep (tk_acc hF7) (TD.door (x := (A, B, nz)) (SqT.of upd_same))) .nil)
          · intro x hx
            rcases List.mem_append.mp hx with hx | hx
            · exact ok x hx
            · rw [List.mem_singleton.mp hx]
              exact ⟨iA, iB, nAB, hnz⟩
          · rw [List.length_append, len]
            show _ + 1 = _
            omega
        · have M2 : ¬ 1 < M := fun q => h (decide_eq_true q)
          refine ⟨0, rfl, by decide, by decide, for_range (lo := 0) (n := 0) (fun i σ H' => σ = [some (.ref d), some (.int r), some (.int m), some (.ref l), some (.int M), some (.ref F), v6, v7, none, none, none, none] ∧ H' = H3) ⟨rfl, rfl⟩ (fun i σ H' hi => absurd hi (Nat.not_lt_zero _)) (fun σ H' ⟨e1, e2⟩ => ?_)⟩
          subst e1 e2
          exact rest _ _ ⟨⟨_, _, _, rfl⟩, dl3, k3, vs, ds, hF, td, ok, by omega⟩
end
end Lw
set_option Elab.async false
set_option linter.all false
set_option maxRecDepth 100000
set_option maxHeartbeats 4000000
namespace Lw
open PySem PySem.Spec PyProof.Rows L2 Hb
def spHouseOf (K : PySem.W.Frag) (C : Addr) : Sp := fun vs H Q _ => ∃ (o : Addr) (h : Hz), vs = [.ref o] ∧ HOne K H o h ∧ Hin h ∧ ∀ H' p, Same H H' → H p = none → HAt K C H' p h → Q (.ref p) H'
section
variable {P : Program} {w : World} {K : PySem.W.Frag} {mg : Str → Option Value} {base : Heap}
theorem c_house_of (D : Df K mg "_law_house_of" s_house_of) (T : Tx K mg) (m_House : C8.Mak P w K mg base 5 "House" (He.ga K "House") (spHInit K (He.ga K "House")) []) :
    C8.Cal P w K mg base 7 "_law_house_of" (spHouseOf K (He.ga K "House")) [] := by
  refine cal_mk D sc_house_of bd_house_of (fun vs H Q E h => ?_) fun f cdv A outer s H vs Q E hr h => ?_
  · obtain ⟨o, h, rfl, _⟩ := h
    rfl
  · obtain ⟨o, h, rfl, ho, hi, k⟩ := h
    obtain ⟨a, b, c, xs, ys, hO⟩ := ho.inv
    refine ⟨_, (pss_one (ps_ret (C8.pe_mk m_House hr (by decide) rfl (pa_cons (pe_ix ix_tup (pv 0) pe_int (fun _ _ => rfl)) (pa_cons (pe_ix ix_tup (pv 0) pe_int (fun _ _ => rfl)) (pa_cons (pe_ix ix_tup (pv 0) pe_int (fun _ _ => rfl)) (pa_cons (pe_ix ix_tup (pv 0) pe_int (fun _ _ => rfl)) pa_nil))))))), ?_⟩
    refine ⟨_, rfl, o, _, 0, _, rfl, rfl, hO.all, rfl, _, rfl, o, _, 1, _, rfl, rfl, hO.all, rfl, _, rfl, o, _, 2, _, rfl, rfl, hO.all, rfl, _, rfl, o, _, 3, _, rfl, rfl, hO.all, rfl, ?_⟩
    intro x dx nx ndx ne
    have s1 : Same H (upd (upd H dx (.own x)) x (.ins (He.ga K "House") dx [])) := fun b u e => by
      rw [upd_ne (ne_of_none e nx), upd_ne (ne_of_none e ndx)]
      exact e
    have tk := Same.tk s1
    exact ⟨x, dx, a, b, c, xs, ys, h, rfl, upd_same, .inr (SqT.keep tk hO.da), TDs.keep tk hO.dx, .inr (SqT.keep tk hO.fb), TDs.keep tk hO.fx, .inr (SqT.keep tk hO.cc), hi, fun H' kp hz => ⟨rfl, k H' x (fun b u e => kp b u (ne_of_none e nx) (s1 b u e)) nx hz⟩⟩
end
end Lw
set_option Elab.async false
set_option linter.all false
set_option maxRecDepth 100000
set_option maxHeartbeats 8000000
namespace Lw
open PySem PySem.Spec PyProof.Rows L2 Hb
theorem eqv_all {α : Type} [DecidableEq α] {enc : α → PyData} (h : ∀ x y, PyData.eqv (enc x) (enc y) = decide (x = y)) : ∀ ps qs : List α, PyData.eqvAll (ps.map enc) (qs.map enc) = decide (ps = qs)
  | [], [] => by simp [PyData.eqvAll]
  | [], q :: qs => by simp [PyData.eqvAll]
  | p :: ps, [] => by simp [PyData.eqvAll]
  | p :: ps, q :: qs => by
    rw [List.map_cons, List.map_cons, PyData.eqvAll, h, eqv_all h ps qs]
    by_cases h1 : p = q <;> by_cases h2 : ps = qs <;> simp [h1, h2]
theorem eqv_tup {α : Type} [DecidableEq α] {enc : α → PyData} (h : ∀ x y, PyData.eqv (enc x) (enc y) = decide (x = y)) (ps qs : List α) : PyData.eqv (.tuple (ps.map enc)) (.tuple (qs.map enc)) = decide (ps = qs) := by
  rw [PyData.eqv, eqv_all h]
theorem eqv_nz (a b : Option Str) : PyData.eqv (nzD a) (nzD b) = decide (a = b) := by
  cases a <;> cases b <;> simp [nzD, PyData.eqv, beq_dec]
theorem eqv_D (x y : Dr) : PyData.eqv (encD x) (encD y) = decide (x = y) := by
  obtain ⟨a, b, n⟩ := x
  obtain ⟨c, d, m⟩ := y
  simp [Hb.encD, PyData.eqv, PyData.eqvAll, beq_dec, eqv_nz, Prod.ext_iff]
theorem eqv_F (x y : Fl) : PyData.eqv (encF x) (encF y) = decide (x = y) := by
  obtain ⟨a, n⟩ := x
  obtain ⟨c, m⟩ := y
  simp [encF, PyData.eqv, PyData.eqvAll, beq_dec, Prod.ext_iff]
theorem eqv_I (x y : Int) : PyData.eqv (.int x) (.int y) = decide (x = y) := by simp [PyData.eqv, beq_dec]
/-- names that may be compared -/
def HShp (h : Hz) : Prop := (∀ x ∈ h.doors, ∀ n, x.2.2 = some n → PyData.strOk n = true) ∧ ∀ x ∈ h.floors, PyData.strOk x.2 = true
theorem shaped_D {h : Hz} (s : HShp h) : SeqAt.shaped (.tuple (h.doors.map Hb.encD)) = true := shaped_tup fun d hd => by
  obtain ⟨x, hx, rfl⟩ := List.mem_map.mp hd
  exact shp_door (s.1 x hx)
theorem shaped_F {h : Hz} (s : HShp h) : SeqAt.shaped (.tuple ((sortF h.floors).map encF)) = true := shaped_tup fun d hd => by
  obtain ⟨x, hx, rfl⟩ := List.mem_map.mp hd
  refine shp_tup fun e he => ?_
  simp only [List.mem_cons, List.not_mem_nil, or_false] at he
  rcases he with rfl | rfl
  · exact ⟨by simp [PyData.canLay0], by simp [PyData.depth]⟩
  · exact ⟨by simp only [PyData.canLay0]; exact s.2 x ((sortF_perm _).mem_iff.mp hx), by simp [PyData.depth]⟩
theorem shaped_C (h : Hz) : SeqAt.shaped (.tuple ((sortI h.cradles).map PyData.int)) = true := shaped_tup fun d hd => by
  obtain ⟨x, hx, rfl⟩ := List.mem_map.mp hd
  exact ⟨by simp [PyData.canLay0], by simp [PyData.depth]⟩
/-- alike houses -/
def hEq (h k : Hz) : Bool := decide (h.rooms = k.rooms) && (decide (h.doors = k.doors) && (decide (sortF h.floors = sortF k.floors) && decide (sortI h.cradles = sortI k.cradles)))
def spEqH (K : PySem.W.Frag) (C : Addr) : Sp := fun vs H Q _ => ∃ (p : Addr) (y : V) (h : Hz), vs = [.ref p, y] ∧ HAt K C H p h ∧ HShp h ∧ ((∃ q k, y = .ref q ∧ HAt K C H q k ∧ HShp k ∧ Q (.bl (hEq h k)) H) ∨ ∃ t ∈ anyTy, TyX K H y (.type t) ∧ Q (.bl false) H)
section
variable {P : Program} {w : World} {K : PySem.W.Frag} {mg : Str → Option Value} {base : Heap}
theorem ok_eq {f : Addr} {fd : FuncData} (F : FunD K "__eq__" "House.__eq__" (defArgs s_House_eq) (defBody s_House_eq) (defScope s_House_eq) [] [] f fd) (T : Tx K mg) : FnOk P w K mg base CX0 1 f fd ["self", "other"] (spEqH K (He.ga K "House")) := by
  refine F.ok sc_House_eq (fun vs H Q E h => ?_) fun cdv A outer s H vs Q E hr h => ?_
  · obtain ⟨p, y, z, rfl, _⟩ := h
    rfl
  · obtain ⟨p, y, z, rfl, hz, ok, h⟩ := h
    suffices go : ∃ t, PSs (cxOf CX0 P w K mg base N_House_eq "House.__eq__" (defScope s_House_eq) f cdv A outer s H E).nox (defBody s_House_eq) t ∧ t { nx := fun _ H' => Q .non H', rt := Q } (start N_House_eq [.ref p, y]) H by
      obtain ⟨t, h1, h2⟩ := go
      exact ⟨t, h1.nox, h2⟩
    refine ⟨_, (pss_one (ps_ret (pe_and (pe_callB call_isi (by rfl) T.n_isinstance (by decide +kernel) (pa_cons (pv 1) (pa_cons (pe_glob (v := .ref _) rfl T.g_House rfl) pa_nil))) (pe_and (pe_cmpR op_eq (pe_fld (pv 0) rfl) (pe_fld (pv 1) rfl) (by first | exact nomark _ | rfl)) (pe_and (pe_cmpR (op_eqD hr.units) (pe_fld (pv 0) rfl) (pe_fld (pv 1) rfl) (by first | exact nomark _ | rfl)) (pe_and (pe_cmpR (op_eqD hr.units) (pe_fld (pv 0) rfl) (pe_fld (pv 1) rfl) (by first | exact nomark _ | rfl)) (pe_one (pe_cmpR (op_eqD hr.units) (pe_fld (pv 0) rfl) (pe_fld (pv 1) rfl) (by first | exact nomark _ | rfl))))))))), ?_⟩
    rcases h with ⟨q, z2, rfl, hz2, ok2, k⟩ | ⟨t, ht, ty, k⟩
    · obtain ⟨dx, a, b, c, xs, ys, hp, s1, t1, s2, t2, s3⟩ := hz
      obtain ⟨dy, a2, b2, c2, xs2, ys2, hq, r1, u1, r2, u2, r3⟩ := hz2
      refine ⟨_, rfl, .ref q, .ref _, .ref (He.ga K "House"), .ref (He.ga K "House"), true, rfl, .own _, .base (.ins hq T.cls T.k_class T.k_get T.k_takes T.k_obj), if_pos (beq_self_eq_true _), _, rfl, iteT ?_⟩
      refine ⟨_, rfl, p, _, dx, _, _, rfl, hp, T.cls, T.a_rooms, rfl, _, rfl, q, _, dy, _, _, rfl, hq, T.cls, T.a_rooms, rfl, rfl, _, rfl, ?_⟩
      unfold hEq at k
      by_cases e1 : z.rooms = z2.rooms
      · rw [decide_eq_true e1] at k
        rw [decide_eq_true (show V.int z.rooms = V.int z2.rooms by rw [e1])]
        refine iteT ⟨_, rfl, p, _, dx, _, _, rfl, hp, T.cls, T.a_doors, rfl, _, rfl, q, _, dy, _, _, rfl, hq, T.cls, T.a_doors, rfl, _, _, TD.dp (.tup s1 t1), TD.dp (.tup r1 u1), shaped_D ok, shaped_D ok2, _, rfl, ?_⟩
        rw [eqv_tup eqv_D]
        by_cases e2 : z.doors = z2.doors
        · rw [decide_eq_true e2] at k ⊢
          refine iteT ⟨_, rfl, p, _, dx, _, _, rfl, hp, T.cls, T.a_floors, rfl, _, rfl, q, _, dy, _, _, rfl, hq, T.cls, T.a_floors, rfl, _, _, TD.dp (.tup s2 t2), TD.dp (.tup r2 u2), shaped_F ok, shaped_F ok2, _, rfl, ?_⟩
          rw [eqv_tup eqv_F]
          by_cases e3 : sortF z.floors = sortF z2.floors
          · rw [decide_eq_true e3] at k ⊢
            refine iteT ⟨_, rfl, p, _, dx, _, _, rfl, hp, T.cls, T.a_cradles, rfl, _, rfl, q, _, dy, _, _, rfl, hq, T.cls, T.a_cradles, rfl, _, _, TD.dp (.tup s3 (tds_ints _)), TD.dp (.tup r3 (tds_ints _)), shaped_C z, shaped_C z2, ?_⟩
            rw [eqv_tup eqv_I]
            exact k
          · rw [decide_eq_false e3] at k ⊢
            exact iteF k
        · rw [decide_eq_false e2] at k ⊢
          exact iteF k
      · rw [decide_eq_false e1] at k
        rw [decide_eq_false (show ¬ V.int z.rooms = V.int z2.rooms from fun q => e1 (by injection q))]
        exact iteF k
    · exact ⟨_, rfl, y, .ref _, _, _, false, rfl, .own _, ty, T.i_any t ht, _, rfl, iteF k⟩
end
end Lw
set_option Elab.async false
set_option linter.all false
set_option maxRecDepth 100000
set_option maxHeartbeats 8000000
namespace Lw
open PySem PySem.Spec PyProof.Rows L2 Hb
def nmOk (ns : List Str) : Option Str → Option Str
  | some n => if n ∈ ns then none else some n
  | none => none
def lessH (h : Hz) (ns : List Str) : Hz := ⟨h.rooms, h.doors.map fun x => (x.1, x.2.1, nmOk ns x.2.2), (sortF h.floors).filter fun x => decide (x.2 ∉ ns), sortI h.cradles⟩
theorem flat_strs (ns : List Str) : (ns.map V.str).all flatV = true := by
  induction ns with
  | nil => rfl
  | cons n ns ih => rw [List.map_cons, List.all_cons, ih]; rfl
theorem inV_non (ns : List Str) : inV .non (ns.map V.str) = false := by
  induction ns with
  | nil => rfl
  | cons n ns ih =>
    unfold inV at ih ⊢
    rw [List.map_cons, List.any_cons, ih]
    rfl
theorem less_in {h : Hz} (hi : Hin h) (ns : List Str) : Hin (lessH h ns) := by
  have sub : (lessH h ns).floors.Sublist (sortF h.floors) := List.filter_sublist
  have pm := sortF_perm h.floors
  refine ⟨hi.r1, fun x hx => ?_, fun x hx => hi.f x (pm.mem_iff.mp (sub.subset hx)), ((pm.map Prod.fst).nodup_iff.mpr hi.fnd).sublist (sub.map _), fun x hx => hi.c x ((sortI_perm _).mem_iff.mp hx), (sortI_perm _).nodup_iff.mpr hi.cnd, ?_, ?_, ?_⟩
  · obtain ⟨y, hy, rfl⟩ := List.mem_map.mp hx
    obtain ⟨a, b, c, e⟩ := hi.d y hy
    refine ⟨a, b, c, fun n hn => ?_⟩
    cases q : y.2.2 with
    | none => simp [q, nmOk] at hn
    | some m =>
      simp only [q, nmOk] at hn
      by_cases hm : m ∈ ns
      · rw [if_pos hm] at hn; cases hn
      · rw [if_neg hm] at hn
        cases hn
        exact e _ q
  · show (h.doors.map _).length ≤ 1000
    rw [List.length_map]; exact hi.fewd
  · exact Nat.le_trans sub.length_le (by rw [pm.length_eq]; exact hi.fewf)
  · show (sortI h.cradles).length ≤ 1000
    rw [(sortI_perm _).length_eq]; exact hi.fewc
end Lw
set_option Elab.async false
set_option linter.all false
set_option maxRecDepth 100000
set_option maxHeartbeats 8000000
namespace Lw
open PySem PySem.Spec PyProof.Rows L2 Hb
def spMended (K : PySem.W.Frag) (C : Addr) : Sp := fun vs H Q _ => ∃ (p l : Addr) (h : Hz) (ns : List Str), vs = [.ref p, .ref l] ∧ HAt K C H p h ∧ Hin h ∧ (SqL K H l (ns.map V.str) ∨ SqT K H l (ns.map V.str)) ∧ ns.length ≤ 1000 ∧ ∀ H' q, Same H H' → H q = none → HAt K C H' q (lessH h ns) → Q (.ref q) H'
section
variable {P : Program} {w : World} {K : PySem.W.Frag} {mg : Str → Option Value} {base : Heap}
theorem ok_mended {f : Addr} {fd : FuncData} (F : FunD K "mended" "House.mended" (defArgs s_House_mended) (defBody s_House_mended) (defScope s_House_mended) [] [] f fd) (T : Tx K mg) (m_House : C8.Mak P w K mg base 5 "House" (He.ga K "House") (spHInit K (He.ga K "House")) []) :
    FnOk P w K mg base CX0 7 f fd ["self", "names"] (spMended K (He.ga K "House")) := by
  refine F.ok sc_House_mended (fun vs H Q E h => ?_) fun cdv A outer s H vs Q E hr h => ?_
  · obtain ⟨p, l, h, ns, rfl, _⟩ := h
    rfl
  · obtain ⟨p, l, h, ns, rfl, hp, hi, hl, few, k⟩ := h
    suffices go : ∃ t, PSs (cxOf CX0 P w K mg base N_House_mended "House.mended" (defScope s_House_mended) f cdv A outer s H E).nox (defBody s_House_mended) t ∧ t { nx := fun _ H' => Q .non H', rt := Q } (start N_House_mended [.ref p, .ref l]) H by
      obtain ⟨t, h1, h2⟩ := go
      exact ⟨t, h1.nox, h2⟩
    refine ⟨_, (pss_cons (ps_setLc (i := 2) (own := [("one", 3), ("other", 4), ("noise", 5)]) (g := gTup K 3 (gCons (gName 3) (gCons (gName 4) (gCons (gName 5) gNil)))) (by rfl) sc_House_mended.nd rfl rfl (sw_true rfl rfl rfl (by decide +kernel)) (pi_tup (pe_fld (pv 0) rfl)) (blkOk_by (N := N_House_mended) (sc := defScope s_House_mended) (by decide +kernel)) (fun _ _ _ _ _ => (pg_tup (by rfl) (pgs_cons (pg_name (i := 3) sc_House_mended.nd rfl (Or.inl rfl)) (pgs_cons (pg_name (i := 4) sc_House_mended.nd rfl (Or.inl rfl)) (pgs_cons (pg_name (i := 5) sc_House_mended.nd rfl (Or.inl rfl)) pgs_nil))))) (fun _ _ _ _ _ => pts_nil) (fun _ _ _ _ _ => (pe_tup (pa_cons (pv 3) (pa_cons (pv 4) (pa_cons (pe_ifExp (pt_cmpR (show OpR _ _ (rIn K false) from op_in_seq) (pv 5) (pv 1) (by first | exact nomark _ | rfl)) pe_non (pv 5)) pa_nil))))))
 (pss_cons (ps_setLc (i := 6) (own := [("noise", 5), ("room", 7)]) (g := gTup K 2 (gCons (gName 7) (gCons (gName 5) gNil))) (by rfl) sc_House_mended.nd rfl rfl (sw_true rfl rfl rfl (by decide +kernel)) (pi_tup (pe_fld (pv 0) rfl)) (blkOk_by (N := N_House_mended) (sc := defScope s_House_mended) (by decide +kernel)) (fun _ _ _ _ _ => (pg_tup (by rfl) (pgs_cons (pg_name (i := 7) sc_House_mended.nd rfl (Or.inl rfl)) (pgs_cons (pg_name (i := 5) sc_House_mended.nd rfl (Or.inl rfl)) pgs_nil)))) (fun _ _ _ _ _ => (pts_one (pt_cmpR (show OpR _ _ (rIn K true) from op_notIn_seq) (pv 5) (pv 1) (by first | exact nomark _ | rfl)))) (fun _ _ _ _ _ => (pe_tup (pa_cons (pv 7) (pa_cons (pv 5) pa_nil)))))
 (pss_one (ps_ret (C8.pe_mk m_House hr (by decide) rfl (pa_cons (pe_fld (pv 0) rfl) (pa_cons (pv 2) (pa_cons (pv 6) (pa_cons (pe_fld (pv 0) rfl) pa_nil))))))))), ?_⟩
    obtain ⟨dx, a, b, c, xs, ys, hO, sa, ta, sb, tb, sc⟩ := hp
    have line := sizeLine_eq
    have xl : xs.length = h.doors.length := by rw [ta.length, List.length_map]
    have yl : ys.length = (sortF h.floors).length := by rw [tb.length, List.length_map]
    have yfew : (sortF h.floors).length ≤ 1000 := by rw [(sortF_perm _).length_eq]; exact hi.fewf
    have xfew := hi.fewd
    refine ⟨_, rfl, p, _, dx, _, _, rfl, hO, T.cls, T.a_doors, rfl, a, rfl, ⟨_, sa⟩, fun D nD => lc_tup (xs := xs) (fun i H' => Same H H' ∧ ∃ acc, H' D = some (.lst acc) ∧ TDs K H' acc (((h.doors.take i).map fun x => (x.1, x.2.1, nmOk ns x.2.2)).map Hb.encD)) ⟨Same.new nD, [], upd_same, .nil⟩
      (fun i H' _ e => SqT.keep (Same.tk e.1) sa) (fun i x H' hx ⟨s1, acc, hD, td⟩ => ?_) (fun H1 ⟨s1, acc, hD, td⟩ => ?_)⟩
    · obtain ⟨⟨da, db, dn⟩, hd, tdx⟩ := TDs.at_map (TDs.keep (Same.tk s1) ta) hx
      obtain ⟨t, rfl, ht⟩ := TD.door_inv tdx
      have al := td.length
      rw [List.length_map, List.length_map, List.length_take] at al
      have put : ∀ q, H' q = none → ∃ acc', upd H' q (.tup [.int da, .int db, nzV (nmOk ns dn)]) D = some (.lst acc') ∧ acc'.length < sizeLine ∧ (Same H (upd (upd H' q (.tup [.int da, .int db, nzV (nmOk ns dn)])) D (.lst (acc' ++ [.ref q]))) ∧
          ∃ acc2, upd (upd H' q (.tup [.int da, .int db, nzV (nmOk ns dn)])) D (.lst (acc' ++ [.ref q])) D = some (.lst acc2) ∧ TDs K (upd (upd H' q (.tup [.int da, .int db, nzV (nmOk ns dn)])) D (.lst (acc' ++ [.ref q]))) acc2 (((h.doors.take (i + 1)).map fun x => (x.1, x.2.1, nmOk ns x.2.2)).map Hb.encD)) := fun q nq => by
        have s2 : Same H' (upd H' q (.tup [.int da, .int db, nzV (nmOk ns dn)])) := Same.new nq
        have hD2 := s2 _ _ hD
        refine ⟨acc, hD2, by omega, Hb.Same.acc (s1.trans s2) nD, acc ++ [.ref q], upd_same, ?_⟩
        rw [List.take_add_one, hd, List.map_append, List.map_append]
        exact TDs.app (TDs.keep (tk_acc hD2) (TDs.keep (Same.tk s2) td)) (.cons (TD.keep (tk_acc hD2) (TD.door (x := (da, db, nmOk ns dn)) (SqT.of upd_same))) .nil)
      refine ⟨t, _, rfl, ht, rfl, _, _, rfl, _, _, rfl, _, _, rfl, rfl, rfl, yes_ ⟨_, rfl, _, rfl, _, rfl, _, rfl, ?_⟩⟩
      have hl' : SqL K H' l (ns.map V.str) ∨ SqT K H' l (ns.map V.str) := hl.imp (Same.seq s1) (SqT.keep (Same.tk s1))
      cases dn with
      | none =>
        refine ⟨l, _, rfl, hl', rfl, flat_strs ns, _, rfl, ?_⟩
        rw [if_neg Bool.false_ne_true]
        show if inV V.non (ns.map V.str) = true then _ else _
        rw [inV_non]
        exact iteF ⟨_, rfl, by show 3 ≤ sizeLine; decide, fun q nq => put q nq⟩
      | some w =>
        refine ⟨l, _, rfl, hl', rfl, flat_strs ns, _, rfl, ?_⟩
        rw [if_neg Bool.false_ne_true]
        show if inV (V.str w) (ns.map V.str) = true then _ else _
        rw [inV_strs]
        by_cases hw : w ∈ ns
        · rw [show nmOk ns (some w) = none from if_pos hw] at put
          rw [decide_eq_true hw]
          exact iteT ⟨by show 3 ≤ sizeLine; decide, fun q nq => put q nq⟩
        · rw [show nmOk ns (some w) = some w from if_neg hw] at put
          rw [decide_eq_false hw]
          exact iteF ⟨_, rfl, by show 3 ≤ sizeLine; decide, fun q nq => put q nq⟩
    · rw [xl, List.take_length] at td
      refine ⟨_, rfl, p, _, dx, _, _, rfl, s1 _ _ hO, T.cls, T.a_floors, rfl, b, rfl, ⟨_, SqT.keep (Same.tk s1) sb⟩, fun D2 nD2 => lc_tup (xs := ys) (fun i H' => Same H1 H' ∧ ∃ acc, H' D2 = some (.lst acc) ∧ TDs K H' acc ((((sortF h.floors).take i).filter fun x => decide (x.2 ∉ ns)).map encF)) ⟨Same.new nD2, [], upd_same, .nil⟩
        (fun i H' _ e => SqT.keep (Same.tk (s1.trans e.1)) sb) (fun i x H' hx ⟨s2, acc2, hD2, td2⟩ => ?_) (fun H2 ⟨s2, acc2, hD2, td2⟩ => ?_)⟩
      · have s12 := s1.trans s2
        obtain ⟨⟨fr, fw⟩, hf, tdx⟩ := TDs.at_map (TDs.keep (Same.tk s12) tb) hx
        obtain ⟨t, rfl, ht⟩ := TD.floor_inv tdx
        have al := td2.length
        rw [List.length_map] at al
        have al2 : ((((sortF h.floors).take i).filter fun x => decide (x.2 ∉ ns))).length ≤ 1000 := Nat.le_trans (List.length_filter_le _ _) (by rw [List.length_take]; omega)
        have hl' : SqL K H' l (ns.map V.str) ∨ SqT K H' l (ns.map V.str) := hl.imp (Same.seq s12) (SqT.keep (Same.tk s12))
        have nx : ((sortF h.floors).take (i + 1)).filter (fun x => decide (x.2 ∉ ns)) = ((sortF h.floors).take i).filter (fun x => decide (x.2 ∉ ns)) ++ if fw ∈ ns then [] else [(fr, fw)] := by
          rw [List.take_add_one, hf, List.filter_append]
          by_cases hw : fw ∈ ns <;> simp [hw]
        refine ⟨t, _, rfl, ht, rfl, _, _, rfl, _, _, rfl, rfl, rfl, ?_⟩
        refine ⟨_, rfl, _, rfl, l, _, rfl, hl', rfl, flat_strs ns, _, rfl, ?_⟩
        rw [if_pos rfl, inV_strs]
        by_cases hw : fw ∈ ns
        · rw [decide_eq_true hw]
          rw [if_pos hw, List.append_nil] at nx
          refine iteF ⟨s2, acc2, hD2, ?_⟩
          rw [nx]
          exact td2
        · rw [decide_eq_false hw]
          rw [if_neg hw] at nx
          refine iteT ⟨_, rfl, _, rfl, by show 2 ≤ sizeLine; decide, fun q nq => ?_⟩
          have s3 : Same H' (upd H' q (.tup [.int fr, .str fw])) := Same.new nq
          have hD3 := s3 _ _ hD2
          refine ⟨acc2, hD3, by omega, Hb.Same.acc (s2.trans s3) nD2, acc2 ++ [.ref q], upd_same, ?_⟩
          rw [nx, List.map_append]
          exact TDs.app (TDs.keep (tk_acc hD3) (TDs.keep (Same.tk s3) td2)) (.cons (TD.keep (tk_acc hD3) (TD.floor (x := (fr, fw)) (SqT.of upd_same))) .nil)
      · rw [yl, List.take_length] at td2
        have s12 := s1.trans s2
        refine ⟨_, rfl, p, _, dx, _, _, rfl, s12 _ _ hO, T.cls, T.a_rooms, rfl, _, rfl, _, rfl, _, rfl, p, _, dx, _, _, rfl, s12 _ _ hO, T.cls, T.a_cradles, rfl, ?_⟩
        intro x dx' nx ndx ne
        have s3 : Same H2 (upd (upd H2 dx' (.own x)) x (.ins (He.ga K "House") dx' [])) := fun b u e => by
          rw [upd_ne (ne_of_none e nx), upd_ne (ne_of_none e ndx)]
          exact e
        have tk := Same.tk s3
        have s13 := s12.trans s3
        exact ⟨x, dx', D, D2, c, acc, acc2, lessH h ns, rfl, upd_same, .inl (SqL.of (s3 _ _ (s2 _ _ hD))), TDs.keep (Same.tk (s2.trans s3)) td, .inl (SqL.of (s3 _ _ hD2)), TDs.keep tk td2, .inr (SqT.keep (Same.tk s13) sc), less_in hi ns,
          fun H' kp hz => ⟨rfl, k H' x (fun b u e => kp b u (ne_of_none (s12 _ _ e) nx) (s13 b u e)) (s12.free nx) hz⟩⟩
end
end Lw
set_option Elab.async false
set_option linter.all false
set_option maxRecDepth 100000
set_option maxHeartbeats 8000000
namespace Lw
open PySem PySem.Spec PyProof.Rows L2 Hb
def nzOf (h : Hz) : List Str := h.doors.filterMap (fun x => x.2.2) ++ (sortF h.floors).map Prod.snd
def spNoises (K : PySem.W.Frag) (C : Addr) : Sp := fun vs H Q _ => ∃ (p : Addr) (h : Hz), vs = [.ref p] ∧ HAt K C H p h ∧ Hin h ∧ (nzOf h).length < 64 ∧
  ∀ H' t (ns : List Str), Same H H' → H t = none → SqT K H' t (ns.map V.str) → ns.Nodup → (∀ k, k ∈ ns ↔ k ∈ nzOf h) → sortedS ns = true → Q (.ref t) H'
section
variable {P : Program} {w : World} {K : PySem.W.Frag} {mg : Str → Option Value} {base : Heap}
theorem ok_noises {f : Addr} {fd : FuncData} (F : FunD K "noises" "House.noises" (defArgs s_House_noises) (defBody s_House_noises) (defScope s_House_noises) [] [] f fd) (T : Tx K mg) : FnOk P w K mg base CX0 1 f fd ["self"] (spNoises K (He.ga K "House")) := by
  refine F.ok sc_House_noises (fun vs H Q E h => ?_) fun cdv A outer s H vs Q E hr h => ?_
  · obtain ⟨p, h, rfl, _⟩ := h
    rfl
  · obtain ⟨p, h, rfl, hp, hi, few, k⟩ := h
    obtain ⟨dx, a, b, c, xs, ys, hO, sa, ta, sb, tb, sc⟩ := hp
    have line := sizeLine_eq
    have xl : xs.length = h.doors.length := by rw [ta.length, List.length_map]
    have yl : ys.length = (sortF h.floors).length := by rw [tb.length, List.length_map]
    have yfew : (sortF h.floors).length ≤ 1000 := by rw [(sortF_perm _).length_eq]; exact hi.fewf
    suffices go : ∃ t, PSs (cxOf CX0 P w K mg base N_House_noises "House.noises" (defScope s_House_noises) f cdv A outer s H E).nox (defBody s_House_noises) t ∧ t { nx := fun _ H' => Q .non H', rt := Q } (start N_House_noises [.ref p]) H by
      obtain ⟨t, h1, h2⟩ := go
      exact ⟨t, h1.nox, h2⟩
    refine ⟨_, (pss_cons (ps_setLc (i := 1) (own := [("one", 2), ("other", 3), ("noise", 4)]) (g := gTup K 3 (gCons (gName 2) (gCons (gName 3) (gCons (gName 4) gNil)))) (by rfl) sc_House_noises.nd rfl rfl (sw_true rfl rfl rfl (by decide +kernel)) (pi_tup (pe_fld (pv 0) rfl)) (blkOk_by (N := N_House_noises) (sc := defScope s_House_noises) (by decide +kernel)) (fun _ _ _ _ _ => (pg_tup (by rfl) (pgs_cons (pg_name (i := 2) sc_House_noises.nd rfl (Or.inl rfl)) (pgs_cons (pg_name (i := 3) sc_House_noises.nd rfl (Or.inl rfl)) (pgs_cons (pg_name (i := 4) sc_House_noises.nd rfl (Or.inl rfl)) pgs_nil))))) (fun _ _ _ _ _ => (pts_one (pt_cmpR op_notN (pv 4) pe_non (by first | exact nomark _ | rfl)))) (fun _ _ _ _ _ => (pv 4)))
 (pss_cons (ps_setLc (i := 5) (own := [("noise", 4), ("room", 6)]) (g := gTup K 2 (gCons (gName 6) (gCons (gName 4) gNil))) (by rfl) sc_House_noises.nd rfl rfl (sw_true rfl rfl rfl (by decide +kernel)) (pi_tup (pe_fld (pv 0) rfl)) (blkOk_by (N := N_House_noises) (sc := defScope s_House_noises) (by decide +kernel)) (fun _ _ _ _ _ => (pg_tup (by rfl) (pgs_cons (pg_name (i := 6) sc_House_noises.nd rfl (Or.inl rfl)) (pgs_cons (pg_name (i := 4) sc_House_noises.nd rfl (Or.inl rfl)) pgs_nil)))) (fun _ _ _ _ _ => pts_nil) (fun _ _ _ _ _ => (pv 4)))
 (pss_one (ps_ret (pe_callTy call_tuple_of (by rfl) T.n_tuple (by decide +kernel) (pa_cons (Hb.pe_sortSet rfl T.n_sorted rfl T.n_set (pe_op op_cat (pv 1) (pv 5))) pa_nil)))))), ?_⟩
    refine ⟨_, rfl, p, _, dx, _, _, rfl, hO, T.cls, T.a_doors, rfl, a, rfl, ⟨_, sa⟩, fun D nD => lc_tup (xs := xs) (fun i H' => Same H H' ∧ H' D = some (.lst (((h.doors.take i).filterMap (fun x => x.2.2)).map V.str))) ⟨Same.new nD, upd_same⟩
      (fun i H' _ e => SqT.keep (Same.tk e.1) sa) (fun i x H' hx ⟨s1, hD⟩ => ?_) (fun H1 ⟨s1, hD⟩ => ?_)⟩
    · obtain ⟨⟨da, db, dn⟩, hd, tdx⟩ := TDs.at_map (TDs.keep (Same.tk s1) ta) hx
      obtain ⟨t, rfl, ht⟩ := TD.door_inv tdx
      refine ⟨t, _, rfl, ht, rfl, _, _, rfl, _, _, rfl, _, _, rfl, rfl, rfl, ?_⟩
      have nx : (h.doors.take (i + 1)).filterMap (fun x => x.2.2) = (h.doors.take i).filterMap (fun x => x.2.2) ++ dn.toList := by
        rw [List.take_add_one, hd, List.filterMap_append]
        cases dn <;> rfl
      have al : ((h.doors.take i).filterMap (fun x => x.2.2)).length ≤ i := Nat.le_trans (List.length_filterMap_le _ _) (by rw [List.length_take]; omega)
      have al2 : i < xs.length := (List.getElem?_eq_some_iff.mp hx).1
      have al3 := hi.fewd
      refine ⟨_, rfl, rfl, _, rfl, ?_⟩
      cases dn with
      | none =>
        refine iteF ⟨s1, ?_⟩
        rw [nx, hD]
        simp
      | some n =>
        refine iteT ⟨_, rfl, _, hD, by rw [List.length_map]; omega, Hb.Same.acc s1 nD, ?_⟩
        rw [upd_same, nx]
        simp [nzV]
    · rw [xl, List.take_length] at hD
      refine ⟨_, rfl, p, _, dx, _, _, rfl, s1 _ _ hO, T.cls, T.a_floors, rfl, b, rfl, ⟨_, SqT.keep (Same.tk s1) sb⟩, fun D2 nD2 => lc_tup (xs := ys) (fun i H' => Same H1 H' ∧ H' D2 = some (.lst ((((sortF h.floors).take i).map Prod.snd).map V.str))) ⟨Same.new nD2, upd_same⟩
        (fun i H' _ e => SqT.keep (Same.tk (s1.trans e.1)) sb) (fun i x H' hx ⟨s2, hD2⟩ => ?_) (fun H2 ⟨s2, hD2⟩ => ?_)⟩
      · have s12 := s1.trans s2
        obtain ⟨⟨fr, fw⟩, hf, tdx⟩ := TDs.at_map (TDs.keep (Same.tk s12) tb) hx
        obtain ⟨t, rfl, ht⟩ := TD.floor_inv tdx
        have al2 : i < ys.length := (List.getElem?_eq_some_iff.mp hx).1
        have al3 := yfew
        refine ⟨t, _, rfl, ht, rfl, _, _, rfl, _, _, rfl, rfl, rfl, yes_ ⟨_, rfl, _, hD2, by rw [List.length_map, List.length_map, List.length_take]; omega, Hb.Same.acc s2 nD2, ?_⟩⟩
        rw [upd_same, List.take_add_one, hf]
        simp
      · rw [yl, List.take_length] at hD2
        have s12 := s1.trans s2
        have few2 : (h.doors.filterMap (fun x => x.2.2)).length + ((sortF h.floors).map Prod.snd).length < 64 := by rw [← List.length_append]; exact few
        refine ⟨_, rfl, _, rfl, D, D2, _, _, rfl, rfl, s2 _ _ hD, hD2, by rw [List.length_map, List.length_map]; omega, fun q nq => ⟨q, nzOf h, rfl, SqL.of (by rw [upd_same, nzOf, List.map_append]), few, fun ns r nd mem so nr => ⟨r, _, rfl, .inl ⟨SqL.of upd_same, fun t nt => ?_⟩⟩⟩⟩
        have s3 := (s12.trans (Same.new nq (o := .lst ((h.doors.filterMap (fun x => x.2.2)).map V.str ++ ((sortF h.floors).map Prod.snd).map V.str)))).trans (Same.new nr (o := .lst (ns.map V.str)))
        exact k _ t ns (s3.trans (Same.new nt)) (s3.free nt) (SqT.of upd_same) nd mem so
def spLenH (K : PySem.W.Frag) (C : Addr) : Sp := fun vs H Q _ => ∃ (p : Addr) (h : Hz), vs = [.ref p] ∧ HAt K C H p h ∧ Hin h ∧ Q (.int h.doors.length) H
theorem ok_len {f : Addr} {fd : FuncData} (F : FunD K "__len__" "House.__len__" (defArgs s_House_len) (defBody s_House_len) (defScope s_House_len) [] [] f fd) (T : Tx K mg) : FnOk P w K mg base CX0 1 f fd ["self"] (spLenH K (He.ga K "House")) := by
  refine F.ok sc_House_len (fun vs H Q E h => ?_) fun cdv A outer s H vs Q E hr h => ?_
  · obtain ⟨p, h, rfl, _⟩ := h
    rfl
  · obtain ⟨p, h, rfl, hp, hi, k⟩ := h
    obtain ⟨dx, a, b, c, xs, ys, hO, sa, ta, sb, tb, sc⟩ := hp
    have line := sizeLine_eq
    have xl : xs.length = h.doors.length := by rw [ta.length, List.length_map]
    suffices go : ∃ t, PSs (cxOf CX0 P w K mg base N_House_len "House.__len__" (defScope s_House_len) f cdv A outer s H E).nox (defBody s_House_len) t ∧ t { nx := fun _ H' => Q .non H', rt := Q } (start N_House_len [.ref p]) H by
      obtain ⟨t, h1, h2⟩ := go
      exact ⟨t, h1.nox, h2⟩
    refine ⟨_, (pss_one (ps_ret (pe_callB call_len (by rfl) T.n_len (by decide +kernel) (pa_cons (pe_fld (pv 0) rfl) pa_nil)))), ?_⟩
    refine ⟨_, rfl, p, _, dx, _, _, rfl, hO, T.cls, T.a_doors, rfl, _, _, rfl, .inr ⟨_, sa, xl.symm⟩, k⟩
end
end Lw
set_option Elab.async false
set_option linter.all false
set_option maxRecDepth 100000
set_option maxHeartbeats 8000000
namespace Lw
open PySem PySem.Spec PyProof.Rows L2 Hb
/-! mended houses -/
theorem nm_congr {as bs : List Str} (h : ∀ k, k ∈ as ↔ k ∈ bs) (n : Option Str) : nmOk as n = nmOk bs n := by
  cases n with
  | none => rfl
  | some n => by_cases e : n ∈ as
              · simp only [nmOk, if_pos e, if_pos ((h n).mp e)]
              · simp only [nmOk, if_neg e, if_neg (fun q => e ((h n).mpr q))]
theorem less_congr {h : Hz} {as bs : List Str} (e : ∀ k, k ∈ as ↔ k ∈ bs) : lessH h as = lessH h bs := by
  unfold lessH
  congr 1
  · exact List.map_congr_left fun x _ => by rw [nm_congr e]
  · exact List.filter_congr fun x _ => by simp [e]
/-- floors and cradles ascending -/
structure Asc (h : Hz) : Prop where
  f : (h.floors.map Prod.fst).Pairwise (· < ·)
  c : h.cradles.Pairwise (· < ·)
theorem less_asc {h : Hz} (a : Asc h) (ns : List Str) : lessH h ns = ⟨h.rooms, h.doors.map fun x => (x.1, x.2.1, nmOk ns x.2.2), h.floors.filter fun x => decide (x.2 ∉ ns), h.cradles⟩ := by
  unfold lessH
  rw [sortF_id a.f, sortI_id a.c]
theorem asc_less {h : Hz} (a : Asc h) (ns : List Str) : Asc (lessH h ns) := by
  rw [less_asc a]
  exact ⟨a.f.sublist (List.filter_sublist.map _), a.c⟩
theorem nm_nil (n : Option Str) : nmOk [] n = n := by
  cases n with
  | none => rfl
  | some n => rfl
theorem less_nil {h : Hz} (a : Asc h) : lessH h [] = h := by
  rw [less_asc a]
  have e1 : (h.doors.map fun x => (x.1, x.2.1, nmOk [] x.2.2)) = h.doors := (List.map_congr_left fun x _ => by rw [nm_nil]; rfl).trans (List.map_id h.doors)
  have e2 : (h.floors.filter fun x => decide (x.2 ∉ ([] : List Str))) = h.floors := List.filter_eq_self.mpr fun x _ => by simp
  rw [e1, e2]
theorem nm_nm (as bs : List Str) (n : Option Str) : nmOk bs (nmOk as n) = nmOk (as ++ bs) n := by
  cases n with
  | none => rfl
  | some n =>
    by_cases e : n ∈ as
    · simp [nmOk, e]
    · by_cases e2 : n ∈ bs <;> simp [nmOk, e, e2]
theorem less_less {h : Hz} (a : Asc h) (as bs : List Str) : lessH (lessH h as) bs = lessH h (as ++ bs) := by
  rw [less_asc (asc_less a as), less_asc a, less_asc a]
  congr 1
  · rw [List.map_map]
    exact List.map_congr_left fun x _ => by simp [nm_nm]
  · rw [List.filter_filter]
    exact List.filter_congr fun x _ => by
      by_cases e : x.2 ∈ as <;> by_cases e2 : x.2 ∈ bs <;> simp [e, e2]
theorem nz_asc {h : Hz} (a : Asc h) : nzOf h = h.doors.filterMap (fun x => x.2.2) ++ h.floors.map Prod.snd := by
  unfold nzOf
  rw [sortF_id a.f]
theorem mem_nz {h : Hz} (a : Asc h) (k : Str) : k ∈ nzOf h ↔ (∃ x ∈ h.doors, x.2.2 = some k) ∨ ∃ x ∈ h.floors, x.2 = k := by
  rw [nz_asc a, List.mem_append, List.mem_filterMap, List.mem_map]
theorem mem_nz_less {h : Hz} (a : Asc h) (ns : List Str) (k : Str) : k ∈ nzOf (lessH h ns) ↔ k ∈ nzOf h ∧ k ∉ ns := by
  rw [mem_nz (asc_less a ns), mem_nz a, less_asc a]
  constructor
  · rintro (⟨x, hx, e⟩ | ⟨x, hx, e⟩)
    · obtain ⟨y, hy, rfl⟩ := List.mem_map.mp hx
      cases q : y.2.2 with
      | none => simp [q, nmOk] at e
      | some m =>
        by_cases hm : m ∈ ns
        · simp [q, nmOk, hm] at e
        · simp only [q, nmOk, if_neg hm, Option.some.injEq] at e
          subst e
          exact ⟨.inl ⟨y, hy, q⟩, hm⟩
    · obtain ⟨h1, h2⟩ := List.mem_filter.mp hx
      subst e
      exact ⟨.inr ⟨x, h1, rfl⟩, of_decide_eq_true h2⟩
  · rintro ⟨⟨x, hx, e⟩ | ⟨x, hx, e⟩, hk⟩
    · exact .inl ⟨_, List.mem_map.mpr ⟨x, hx, rfl⟩, by simp [e, nmOk, hk]⟩
    · subst e
      exact .inr ⟨x, List.mem_filter.mpr ⟨hx, decide_eq_true hk⟩, rfl⟩
theorem hEq_refl (h : Hz) : hEq h h = true := by simp [hEq]
/-- a mended house is the house just if nothing was to be mended -/
theorem less_same {h : Hz} (a : Asc h) (ns : List Str) : hEq (lessH h ns) h = decide (∀ k ∈ nzOf h, k ∉ ns) := by
  have b := asc_less a ns
  have e : hEq (lessH h ns) h = (decide ((h.doors.map fun x => (x.1, x.2.1, nmOk ns x.2.2)) = h.doors) && decide ((h.floors.filter fun x => decide (x.2 ∉ ns)) = h.floors)) := by
    unfold hEq
    rw [sortF_id b.f, sortI_id b.c, sortF_id a.f, sortI_id a.c, less_asc a]
    simp
  rw [e]
  by_cases q : ∀ k ∈ nzOf h, k ∉ ns
  · rw [decide_eq_true q]
    have e1 : (h.doors.map fun x => (x.1, x.2.1, nmOk ns x.2.2)) = h.doors := by
      refine (List.map_congr_left fun x hx => ?_).trans (List.map_id h.doors)
      obtain ⟨x1, x2, n⟩ := x
      cases n with
      | none => rfl
      | some n =>
        have := q n ((mem_nz a n).mpr (.inl ⟨_, hx, rfl⟩))
        simp [nmOk, this]
    have e2 : (h.floors.filter fun x => decide (x.2 ∉ ns)) = h.floors := List.filter_eq_self.mpr fun x hx => decide_eq_true (q x.2 ((mem_nz a x.2).mpr (.inr ⟨x, hx, rfl⟩)))
    rw [e1, e2]
    simp
  · rw [decide_eq_false q]
    apply Bool.eq_false_iff.mpr
    intro z
    obtain ⟨z1, z2⟩ := Bool.and_eq_true_iff.mp z
    have z1 := of_decide_eq_true z1
    have z2 := of_decide_eq_true z2
    refine q fun k hk hn => ?_
    rcases (mem_nz a k).mp hk with ⟨x, hx, e⟩ | ⟨x, hx, e⟩
    · obtain ⟨i, hi⟩ := List.mem_iff_getElem?.mp hx
      have z3 := congrArg (fun l : List Dr => l[i]?) z1
      rw [List.getElem?_map, hi] at z3
      have z4 := Option.some.inj z3
      have z5 : nmOk ns x.2.2 = x.2.2 := congrArg (fun y : Dr => y.2.2) z4
      rw [e] at z5
      simp [nmOk, hn] at z5
    · subst e
      have := List.filter_eq_self.mp z2 x hx
      exact of_decide_eq_true this hn
/-! what a house shows -/
theorem eight_shown : ∀ n ∈ eight, (PyData.str n).shown.length ≤ 8 := by decide +kernel
theorem few_shown : ∀ i : Fin 64, (PyData.int (i.val : Int)).shown.length ≤ 8 ∧ (PyData.int (i.val : Int)).showable = true := by decide +kernel
theorem int_shown {i : Int} (h0 : 0 ≤ i) (h1 : i < 64) : (PyData.int i).shown.length ≤ 8 ∧ (PyData.int i).showable = true := by
  obtain ⟨n, rfl⟩ := Int.eq_ofNat_of_zero_le h0
  exact few_shown ⟨n, by omega⟩
/-- data whose text is at most n signs -/
structure Sh (n : Nat) (d : PyData) : Prop where
  le : d.shown.length ≤ n
  sh : d.showable = true
  nd : d.hasDict = false
theorem showableAll_of : ∀ {ds : List PyData}, (∀ d ∈ ds, d.showable = true) → PyData.showableAll ds = true
  | [], _ => rfl
  | d :: ds, h => by simp only [PyData.showableAll, h d List.mem_cons_self, showableAll_of fun e he => h e (List.mem_cons_of_mem _ he), Bool.and_self]
theorem hasDictAll_of : ∀ {ds : List PyData}, (∀ d ∈ ds, d.hasDict = false) → PyData.hasDictAll ds = false
  | [], _ => rfl
  | d :: ds, h => by simp only [PyData.hasDictAll, h d List.mem_cons_self, hasDictAll_of fun e he => h e (List.mem_cons_of_mem _ he), Bool.or_self]
theorem Sh.tup {n m k : Nat} {ds : List PyData} (h : ∀ d ∈ ds, Sh n d) (hm : ds.length ≤ m) (hk : (n + 2) * m + 3 ≤ k) : Sh k (.tuple ds) :=
  ⟨Nat.le_trans (tup_le (fun d hd => (h d hd).le) hm) hk, by simp only [PyData.showable]; exact showableAll_of fun d hd => (h d hd).sh, by simp only [PyData.hasDict]; exact hasDictAll_of fun d hd => (h d hd).nd⟩
theorem Sh.int {i : Int} (h0 : 0 ≤ i) (h1 : i < 64) : Sh 8 (.int i) := ⟨(int_shown h0 h1).1, (int_shown h0 h1).2, rfl⟩
theorem Sh.mono {n m : Nat} {d : PyData} (h : Sh n d) (e : n ≤ m) : Sh m d := ⟨Nat.le_trans h.le e, h.sh, h.nd⟩
theorem Sh.nz {n : Option Str} (h : ∀ k, n = some k → k ∈ eight) : Sh 8 (nzD n) := by
  cases n with
  | none => exact ⟨by decide, rfl, rfl⟩
  | some k => exact ⟨eight_shown k (h k rfl), rfl, rfl⟩
/-- a house with few things -/
structure Few (h : Hz) : Prop where
  r : 0 ≤ h.rooms ∧ h.rooms < 64
  d : ∀ x ∈ h.doors, (0 ≤ x.1 ∧ x.1 < 64) ∧ (0 ≤ x.2.1 ∧ x.2.1 < 64) ∧ ∀ k, x.2.2 = some k → k ∈ eight
  dm : h.doors.length ≤ 30
  f : ∀ x ∈ h.floors, (0 ≤ x.1 ∧ x.1 < 64) ∧ x.2 ∈ eight
  fm : h.floors.length ≤ 30
  c : ∀ x ∈ h.cradles, 0 ≤ x ∧ x < 64
  cm : h.cradles.length ≤ 64
theorem Few.sh {h : Hz} (x : Few h) : Sh 100000 (encH h) := by
  refine Sh.tup (n := 3000) (m := 4) (fun d hd => ?_) (by simp) (by decide)
  simp only [List.mem_cons, List.not_mem_nil, or_false] at hd
  rcases hd with rfl | rfl | rfl | rfl
  · exact (Sh.int x.r.1 x.r.2).mono (by decide)
  · refine Sh.tup (n := 40) (m := 64) (fun e he => ?_) (by rw [List.length_map]; exact Nat.le_trans x.dm (by decide)) (by decide)
    obtain ⟨y, hy, rfl⟩ := List.mem_map.mp he
    obtain ⟨a, b, c⟩ := x.d y hy
    refine Sh.tup (n := 8) (m := 3) (fun e he => ?_) (by simp) (by decide)
    simp only [List.mem_cons, List.not_mem_nil, or_false] at he
    rcases he with rfl | rfl | rfl
    · exact Sh.int a.1 a.2
    · exact Sh.int b.1 b.2
    · exact Sh.nz c
  · refine Sh.tup (n := 40) (m := 64) (fun e he => ?_) (by rw [List.length_map]; exact Nat.le_trans x.fm (by decide)) (by decide)
    obtain ⟨y, hy, rfl⟩ := List.mem_map.mp he
    obtain ⟨a, c⟩ := x.f y hy
    refine Sh.tup (n := 8) (m := 3) (fun e he => ?_) (by simp) (by decide)
    simp only [List.mem_cons, List.not_mem_nil, or_false] at he
    rcases he with rfl | rfl
    · exact Sh.int a.1 a.2
    · exact ⟨eight_shown _ c, rfl, rfl⟩
  · refine Sh.tup (n := 8) (m := 64) (fun e he => ?_) (by rw [List.length_map]; exact x.cm) (by decide)
    obtain ⟨y, hy, rfl⟩ := List.mem_map.mp he
    exact Sh.int (x.c y hy).1 (x.c y hy).2
theorem depth_enc (h : Hz) : (encH h).depth ≤ 60 := by
  have d1 : PyData.depthAll (h.doors.map Hb.encD) ≤ 2 := depthAll_le fun e he => by
    obtain ⟨y, _, rfl⟩ := List.mem_map.mp he
    obtain ⟨a, b, n⟩ := y
    cases n <;> simp [Hb.encD, nzD, PyData.depth, PyData.depthAll]
  have d2 : PyData.depthAll (h.floors.map encF) ≤ 2 := depthAll_le fun e he => by
    obtain ⟨y, _, rfl⟩ := List.mem_map.mp he
    simp [encF, PyData.depth, PyData.depthAll]
  have d3 : PyData.depthAll (h.cradles.map PyData.int) ≤ 2 := depthAll_le fun e he => by
    obtain ⟨y, _, rfl⟩ := List.mem_map.mp he
    simp [PyData.depth]
  simp only [encH, PyData.depth, PyData.depthAll]
  omega
theorem Few.less {h : Hz} (x : Few h) (a : Asc h) (ns : List Str) : Few (lessH h ns) := by
  rw [less_asc a]
  refine ⟨x.r, fun y hy => ?_, by rw [List.length_map]; exact x.dm, fun y hy => x.f y (List.mem_filter.mp hy).1, Nat.le_trans (List.length_filter_le _ _) x.fm, x.c, x.cm⟩
  obtain ⟨z, hz, rfl⟩ := List.mem_map.mp hy
  obtain ⟨p, q, r⟩ := x.d z hz
  refine ⟨p, q, fun k hk => r k ?_⟩
  cases e : z.2.2 with
  | none => simp [e, nmOk] at hk
  | some m =>
    by_cases hm : m ∈ ns
    · simp [e, nmOk, hm] at hk
    · simp only [e, nmOk, if_neg hm] at hk
      exact hk
theorem Hok.few {h : Hz} {ws : List Str} (x : Hok h 5 7 ws) (hw : ∀ w ∈ ws, w ∈ eight) : Few h := by
  have r1 := x.r1
  have r2 := x.r2
  refine ⟨⟨by omega, by omega⟩, fun y hy => ?_, by have := x.dm; omega, fun y hy => ?_, by have := x.fm; omega, fun y hy => ?_, by have := x.cm; omega⟩
  · obtain ⟨⟨a, b⟩, ⟨c, d⟩, e, f⟩ := x.d y hy
    exact ⟨⟨a, by omega⟩, ⟨c, by omega⟩, fun k hk => hw k (f k hk)⟩
  · obtain ⟨⟨a, b⟩, c⟩ := x.f y hy
    exact ⟨⟨a, by omega⟩, hw _ c⟩
  · obtain ⟨a, b⟩ := x.c y hy
    exact ⟨a, by omega⟩
theorem Hok.asc {h : Hz} {r m : Int} {ws : List Str} (x : Hok h r m ws) : Asc h := ⟨x.fs, x.cs⟩
theorem Few.shp {h : Hz} (x : Few h) : HShp h := ⟨fun y hy n hn => eight_ok n ((x.d y hy).2.2 n hn), fun y hy => eight_ok _ (x.f y hy).2⟩
theorem eight_name : ∀ w ∈ eight, nameB w = true := by decide +kernel
end Lw
set_option Elab.async false
set_option linter.all false
set_option maxRecDepth 100000
set_option maxHeartbeats 8000000
namespace Lw
open PySem PySem.Spec PyProof.Rows L2 Hb
theorem eqv_str (x y : Str) : PyData.eqv (.str x) (.str y) = decide (x = y) := by simp [PyData.eqv, beq_dec]
theorem eqv_strsL (xs ys : List Str) : PyData.eqv (.list (xs.map PyData.str)) (.list (ys.map PyData.str)) = decide (xs = ys) := by
  rw [PyData.eqv, eqv_all eqv_str]
theorem eqv_strsT (xs ys : List Str) : PyData.eqv (.tuple (xs.map PyData.str)) (.tuple (ys.map PyData.str)) = decide (xs = ys) := by
  rw [PyData.eqv, eqv_all eqv_str]
theorem shp_strs {xs : List Str} (h : ∀ w ∈ xs, w ∈ eight) : ∀ d ∈ xs.map PyData.str, d.canLay0 = true ∧ d.depth ≤ 50 := fun d hd => by
  obtain ⟨w, hw, rfl⟩ := List.mem_map.mp hd
  exact ⟨by simp only [PyData.canLay0]; exact eight_ok w (h w hw), by simp [PyData.depth]⟩
theorem shaped_strsT {xs : List Str} (h : ∀ w ∈ xs, w ∈ eight) : SeqAt.shaped (.tuple (xs.map PyData.str)) = true := by
  have z := shp_tup (shp_strs h)
  exact Bool.and_eq_true_iff.mpr ⟨z.1, decide_eq_true (by have := z.2; omega)⟩
theorem shaped_strsL {xs : List Str} (h : ∀ w ∈ xs, w ∈ eight) : SeqAt.shaped (.list (xs.map PyData.str)) = true := by
  refine shaped_list fun d hd => ?_
  have z := shp_strs h d hd
  exact ⟨z.1, by have := z.2; omega⟩
theorem dp_strs {K : PySem.W.Frag} {H : Hp} (xs : List Str) : DpAll K H (xs.map V.str) (xs.map PyData.str) := TDs.dp (tds_strs xs)
section
variable {K : PySem.W.Frag} {mg : Str → Option Value} {H : Hp} {Q : VK} {p q : Addr} {h k : Hz}
theorem ty_H (T : Tx K mg) (hq : HAt K (He.ga K "House") H q k) : TyX K H (.ref q) (.ref (He.ga K "House")) ∧ PySem.W.notFirst K (He.ga K "House") (.ref (He.ga K "House")) = true := by
  obtain ⟨dx, a, b, c, xs, ys, hq, _⟩ := hq
  refine ⟨.base (.ins hq T.cls T.k_class T.k_get T.k_takes T.k_obj), ?_⟩
  unfold PySem.W.notFirst
  rw [beq_self_eq_true]
  rfl
theorem eq_H (T : Tx K mg) (hp : HAt K (He.ga K "House") H p h) (hq : HAt K (He.ga K "House") H q k) (sp : HShp h) (sk : HShp k) (e : Q (.bl (hEq h k)) H) : rEqOwn K (He.ga K "House") (spEqH K (He.ga K "House")) (.ref p) (.ref q) H Q := by
  obtain ⟨t1, t2⟩ := ty_H T hq
  have hp2 := hp
  obtain ⟨dx, a, b, c, xs, ys, hp2, _⟩ := hp2
  exact ⟨p, dx, _, _, rfl, hp2, t1, t2, p, .ref q, h, rfl, hp, sp, .inl ⟨q, k, rfl, hq, sk, e⟩⟩
theorem ne_H (T : Tx K mg) (hp : HAt K (He.ga K "House") H p h) (hq : HAt K (He.ga K "House") H q k) (sp : HShp h) (sk : HShp k) (e : Q (.bl (!hEq h k)) H) : rNeOwn K (He.ga K "House") (spEqH K (He.ga K "House")) (.ref p) (.ref q) H Q := by
  obtain ⟨t1, t2⟩ := ty_H T hq
  have hp2 := hp
  obtain ⟨dx, a, b, c, xs, ys, hp2, _⟩ := hp2
  exact ⟨p, dx, _, _, rfl, hp2, t1, t2, p, .ref q, h, rfl, hp, sp, .inl ⟨q, k, rfl, hq, sk, _, rfl, e⟩⟩
theorem ne_same (T : Tx K mg) (hp : HAt K (He.ga K "House") H p h) (hq : HAt K (He.ga K "House") H q k) (sp : HShp h) (sk : HShp k) (s : hEq h k = true) (e : Q (.bl false) H) : rNeOwn K (He.ga K "House") (spEqH K (He.ga K "House")) (.ref p) (.ref q) H Q :=
  ne_H T hp hq sp sk (by rw [s]; exact e)
theorem ne_strsL {x y : V} {xs ys : List Str} (hx : Dp K H x (.list (xs.map PyData.str))) (hy : Dp K H y (.list (ys.map PyData.str))) (sx : ∀ w ∈ xs, w ∈ eight) (sy : ∀ w ∈ ys, w ∈ eight) (e : xs = ys) (q : Q (.bl false) H) : rNeD K x y H Q :=
  ⟨_, _, hx, hy, shaped_strsL sx, shaped_strsL sy, by rw [eqv_strsL, decide_eq_true e]; exact q⟩
theorem ne_strsT {x y : V} {xs ys : List Str} (hx : Dp K H x (.tuple (xs.map PyData.str))) (hy : Dp K H y (.tuple (ys.map PyData.str))) (sx : ∀ w ∈ xs, w ∈ eight) (sy : ∀ w ∈ ys, w ∈ eight) (e : xs = ys) (q : Q (.bl false) H) : rNeD K x y H Q :=
  ⟨_, _, hx, hy, shaped_strsT sx, shaped_strsT sy, by rw [eqv_strsT, decide_eq_true e]; exact q⟩
theorem eq_strsT {x y : V} {xs ys : List Str} (hx : Dp K H x (.tuple (xs.map PyData.str))) (hy : Dp K H y (.tuple (ys.map PyData.str))) (sx : ∀ w ∈ xs, w ∈ eight) (sy : ∀ w ∈ ys, w ∈ eight) (q : Q (.bl (decide (xs = ys))) H) : rEqD K x y H Q :=
  ⟨_, _, hx, hy, shaped_strsT sx, shaped_strsT sy, by rw [eqv_strsT]; exact q⟩
end
/-- the names of the noises -/
structure Nz (h : Hz) (ns : List Str) : Prop where
  nd : ns.Nodup
  mem : ∀ k, k ∈ ns ↔ k ∈ nzOf h
  so : sortedS ns = true
theorem sortedS_sub {xs ys : List Str} (h : xs.Sublist ys) (s : sortedS ys = true) : sortedS xs = true := sortedS_of_pairwise _ ((sortedS_pw s).sublist h)
theorem Nz.less {h : Hz} (a : Asc h) {ns ms nm : List Str} (x : Nz h ns) (y : Nz (lessH h nm) ms) : ms = ns.filter fun k => decide (k ∉ nm) :=
  sorted_unique y.so (sortedS_sub List.filter_sublist x.so) y.nd (x.nd.sublist List.filter_sublist) fun k => by
    rw [y.mem, mem_nz_less a, List.mem_filter, x.mem, decide_eq_true_iff]
theorem Nz.none {h : Hz} (a : Asc h) {ns ms : List Str} (x : Nz h ns) (y : Nz (lessH h ns) ms) : ms = [] := by
  rw [Nz.less a x y]
  exact List.filter_eq_nil_iff.mpr fun k hk => by simp [hk]
theorem Few.nz {h : Hz} (x : Few h) (a : Asc h) : ∀ k ∈ nzOf h, k ∈ eight := fun k hk => by
  rcases (mem_nz a k).mp hk with ⟨y, hy, e⟩ | ⟨y, hy, e⟩
  · exact (x.d y hy).2.2 k e
  · rw [← e]; exact (x.f y hy).2
theorem Few.nzlen {h : Hz} (x : Few h) (a : Asc h) : (nzOf h).length < 64 := by
  rw [nz_asc a, List.length_append, List.length_map]
  have := x.dm
  have := x.fm
  have := List.length_filterMap_le (fun x : Dr => x.2.2) h.doors
  omega
theorem HAt.ob {K : PySem.W.Frag} {C : Addr} {H : Hp} {p : Addr} {h : Hz} (x : HAt K C H p h) : ∃ dx a b c, H p = some (.ins C dx (hFs a b c h)) := by
  obtain ⟨dx, a, b, c, xs, ys, e, _⟩ := x
  exact ⟨dx, a, b, c, e⟩
theorem same_iff {h : Hz} (a : Asc h) {ns nm : List Str} (x : Nz h ns) : decide ((ns.filter fun k => decide (k ∉ nm)) = ns) = hEq (lessH h nm) h := by
  rw [less_same a]
  refine decide_eq_decide.mpr ?_
  rw [List.filter_eq_self]
  exact ⟨fun q k hk => of_decide_eq_true (q k ((x.mem k).mpr hk)), fun q k hk => decide_eq_true (q k ((x.mem k).mp hk))⟩
end Lw

set_option Elab.async false
set_option linter.all false
set_option maxRecDepth 100000
set_option maxHeartbeats 8000000
namespace Lw
open PySem PySem.Spec PyProof.Rows L2 Hb
theorem room64 {k : Nat} {A : Around} (hr : Room k A) : A.units + 64 < cLine := by have := hr.un; omega
structure Kit (K : PySem.W.Frag) (C d g o m l : Addr) (h : Hz) (nm : List Str) (H : Hp) : Prop where
  dl : Deal d g H
  ho : HOne K H o h
  hm : HAt K C H m h
  hl : H l = some (.lst (nm.map V.str))
  lg : l ≠ g
theorem Kit.kp {K : PySem.W.Frag} {C d g o m l : Addr} {h : Hz} {nm : List Str} {H H' : Hp} (x : Kit K C d g o m l h nm H) (k : Kp d g H H') (dl : Deal d g H') : Kit K C d g o m l h nm H' :=
  ⟨dl, TD.keep (x.dl.tk k) x.ho, x.hm.kp x.dl k, k l _ (x.dl.ne_d x.hl (by intro kvs e; cases e)) x.lg x.hl, x.lg⟩
theorem Kit.same {K : PySem.W.Frag} {C d g o m l : Addr} {h : Hz} {nm : List Str} {H H' : Hp} (x : Kit K C d g o m l h nm H) (s : Same H H') : Kit K C d g o m l h nm H' := x.kp (Hb.Same.kp s) (x.dl.same s)
theorem good_strs {K : PySem.W.Frag} {H : Hp} {ws : List Str} (h : ∀ w ∈ ws, w ∈ eight) : ∀ v ∈ ws.map V.str, Hb.Good K H v := fun v hv => by
  obtain ⟨w, hw, rfl⟩ := List.mem_map.mp hv
  exact good_str (eight_ok w (h w hw))
section
variable {P : Program} {w : World} {K : PySem.W.Frag} {mg : Str → Option Value} {base : Heap}
theorem ok_law (T : Tx K mg)
    (c_deal : C8.Cal P w K mg base 1 "_law_deal" (spDeal K) []) (c_words : C8.Cal P w K mg base 3 "_law_words" spWords []) (c_drawn_house : C8.Cal P w K mg base 3 "_law_drawn_house" (spHouse K) [])
    (c_draw : C8.Cal P w K mg base 1 "_law_draw" spDraw []) (c_mixed : C8.Cal P w K mg base 2 "_law_mixed" (spMixed K) [])
    (c_house_of : C8.Cal P w K mg base 7 "_law_house_of" (spHouseOf K (He.ga K "House")) [])
    (c_mended : C8.Met P w K mg base 7 (He.ga K "House") "mended" (spMended K (He.ga K "House")) []) (c_eq : EqOf P w K mg base 1 (He.ga K "House") (spEqH K (He.ga K "House"))) (c_len : LenOf P w K mg base 1 (He.ga K "House") (spLenH K (He.ga K "House"))) (hn : GetOf P w K mg base 1 (He.ga K "House") "noises" (spNoises K (He.ga K "House")))
    (f a : Addr) (cdv : Value) (s : Shared) (H : Hp) (ns : List Int) (few : ns.length ≤ 63) (hS : SqL K H a (ns.map V.int)) (hr : Room 8 (callerA.deeper (envOfC "law" (defScope s_law) s.heap.objs.size f cdv))) :
    ∃ t, PSs (cxOf CX0 P w K mg base N_law "law" (defScope s_law) f cdv callerA [] s H E0).nox (defBody s_law) t ∧ t { nx := fun _ _ => False, rt := fun v _ => v = .bl true } (start N_law [.ref a]) H := by
  have hu := hu_of hr
  have h64 := room64 hr
  have line := sizeLine_eq
  have hg : (cxOf CX0 P w K mg base N_law "law" (defScope s_law) f cdv callerA [] s H E0).nox.A.guards = some [] := rfl
  refine ⟨_, (pss_cons (ps_set (i := 1) sc_law.nd rfl (Or.inl rfl) (C8.pe_c c_deal hr (by decide) rfl (pa_cons (pv 0) (pa_cons pe_int pa_nil))))
 (pss_cons (ps_for PassesOwn.never rfl (pi_range1 (by rfl) T.n_range (pa_cons pe_int pa_nil)) (pg_name (i := 2) sc_law.nd rfl (Or.inl rfl))
 (pss_cons (ps_set (i := 3) sc_law.nd rfl (Or.inl rfl) (C8.pe_c c_words hr (by decide) rfl (pa_cons (pv 1) (pa_cons pe_int pa_nil))))
 (pss_cons (ps_set (i := 4) sc_law.nd rfl (Or.inl rfl) (C8.pe_c c_drawn_house hr (by decide) rfl (pa_cons (pv 1) (pa_cons pe_int (pa_cons pe_int (pa_cons (pe_slice sl_list (pv 3) po_none (po_some pe_int)) pa_nil))))))
 (pss_cons (ps_asg (pe_tup (pa_cons (C8.pe_c c_house_of hr (by decide) rfl (pa_cons (pv 4) pa_nil)) (pa_cons (pe_slice sl_list (C8.pe_c c_mixed hr (by decide) rfl (pa_cons (pv 1) (pa_cons (pv 3) pa_nil))) po_none (po_some (C8.pe_c c_draw hr (by decide) rfl (pa_cons (pv 1) (pa_cons pe_int pa_nil))))) pa_nil))) (pg_tup (by rfl) (pgs_cons (pg_name (i := 5) sc_law.nd rfl (Or.inl rfl)) (pgs_cons (pg_name (i := 6) sc_law.nd rfl (Or.inr rfl)) pgs_nil))))
 (pss_cons (ps_set (i := 7) sc_law.nd rfl (Or.inl rfl) (pe_callTy call_tuple_of (by rfl) T.n_tuple (by decide +kernel) (pa_cons (pe_lc (own := [("_law_a", 8), ("_law_b", 9), ("_law_noise", 10)]) (g := gTup K 3 (gCons (gName 8) (gCons (gName 9) (gCons (gName 10) gNil)))) (by rfl) sc_law.nd (pi_tup (pe_ix ix_tup (pv 4) pe_int (fun _ _ => rfl))) (blkOk_by (N := N_law) (sc := defScope s_law) (by decide +kernel)) (fun _ _ _ _ _ => (pg_tup (by rfl) (pgs_cons (pg_name (i := 8) sc_law.nd rfl (Or.inl rfl)) (pgs_cons (pg_name (i := 9) sc_law.nd rfl (Or.inl rfl)) (pgs_cons (pg_name (i := 10) sc_law.nd rfl (Or.inl rfl)) pgs_nil))))) (fun _ _ _ _ _ => pts_nil) (fun _ _ _ _ _ => (pe_tup (pa_cons (pv 8) (pa_cons (pv 9) (pa_cons (pe_ifExp (pt_cmpR (show OpR _ _ (rIn K false) from op_in_seq) (pv 10) (pv 6) (by first | exact nomark _ | rfl)) pe_non (pv 10)) pa_nil)))))) pa_nil)))
 (pss_cons (ps_set (i := 11) sc_law.nd rfl (Or.inl rfl) (pe_tup (pa_cons (pe_ix ix_tup (pv 4) pe_int (fun _ _ => rfl)) (pa_cons (pv 7) (pa_cons (pe_callTy call_tuple_of (by rfl) T.n_tuple (by decide +kernel) (pa_cons (pe_lc (own := [("_law_floor", 12)]) (by rfl) sc_law.nd (pi_tup (pe_ix ix_tup (pv 4) pe_int (fun _ _ => rfl))) (blkOk_by (N := N_law) (sc := defScope s_law) (by decide +kernel)) (fun _ _ _ _ _ => (pg_name (i := 12) sc_law.nd rfl (Or.inl rfl))) (fun _ _ _ _ _ => (pts_one (pt_cmpR (show OpR _ _ (rIn K true) from op_notIn_seq) (pe_ix (show IxR _ (rIxT K) from ix_tup) (pv 12) pe_int (fun _ _ => rfl)) (pv 6) (by first | exact nomark _ | rfl)))) (fun _ _ _ _ _ => (pv 12))) pa_nil)) (pa_cons (pe_ix ix_tup (pv 4) pe_int (fun _ _ => rfl)) pa_nil))))))
 (pss_cons (ps_set (i := 13) sc_law.nd rfl (Or.inl rfl) (pe_callTy call_list_of (by rfl) T.n_list (by decide +kernel) (pa_cons (pe_op op_cat (pv 6) (pe_slice sl_list (pv 6) po_none (po_some pe_int))) pa_nil)))
 (pss_cons (ps_set (i := 14) sc_law.nd rfl (Or.inl rfl) (C8.pe_mt c_mended hr (by decide) (pv 5) (pa_cons (pe_ifExp (pt_cmpR op_eq (C8.pe_c c_draw hr (by decide) rfl (pa_cons (pv 1) (pa_cons pe_int pa_nil))) pe_int (by first | exact nomark _ | rfl)) (pv 13) (pe_callTy call_tuple_of (by rfl) T.n_tuple (by decide +kernel) (pa_cons (pv 13) pa_nil))) pa_nil)))
 (pss_cons (ps_if (PW.pt (pw_or (pt_cmpR (op_neOwn c_eq T.f_ne T.k_obj hr (by decide)) (pv 14) (C8.pe_c c_house_of hr (by decide) rfl (pa_cons (pv 11) pa_nil)) (by first | exact nomark _ | rfl)) (pw_or (pt_cmpR (op_neD hr.units) (pv 13) (pe_op op_cat (pv 6) (pe_slice sl_list (pv 6) po_none (po_some pe_int))) (by first | exact nomark _ | rfl)) (pw_or1 (pt_cmpR (op_neOwn c_eq T.f_ne T.k_obj hr (by decide)) (pv 5) (C8.pe_c c_house_of hr (by decide) rfl (pa_cons (pv 4) pa_nil)) (by first | exact nomark _ | rfl))))))
 (pss_one (ps_ret pe_bl))
 pss_nil)
 (pss_cons (ps_if (pt_cmpR op_ne (pe_callB (cr_reprD hg h64) (by rfl) T.n_repr (by decide +kernel) (pa_cons (pe_tup (pa_cons (pe_fld (pv 14) rfl) (pa_cons (pe_fld (pv 14) rfl) (pa_cons (pe_fld (pv 14) rfl) (pa_cons (pe_fld (pv 14) rfl) pa_nil))))) pa_nil)) (pe_callB (cr_reprD hg h64) (by rfl) T.n_repr (by decide +kernel) (pa_cons (pv 11) pa_nil)) (by first | exact nomark _ | rfl))
 (pss_one (ps_ret pe_bl))
 pss_nil)
 (pss_cons (ps_set (i := 15) sc_law.nd rfl (Or.inl rfl) (pe_callTy call_tuple_of (by rfl) T.n_tuple (by decide +kernel) (pa_cons (pe_lc (own := [("_law_name", 16)]) (by rfl) sc_law.nd (pi_tup (pe_get hn T.cls hr (by decide) (pv 5))) (blkOk_by (N := N_law) (sc := defScope s_law) (by decide +kernel)) (fun _ _ _ _ _ => (pg_name (i := 16) sc_law.nd rfl (Or.inl rfl))) (fun _ _ _ _ _ => (pts_one (pt_cmpR (show OpR _ _ (rIn K true) from op_notIn_seq) (pv 16) (pv 6) (by first | exact nomark _ | rfl)))) (fun _ _ _ _ _ => (pv 16))) pa_nil)))
 (pss_cons (ps_if (PW.pt (pw_or (pt_cmpR (op_neD hr.units) (pe_get hn T.cls hr (by decide) (pv 14)) (pv 15) (by first | exact nomark _ | rfl)) (pw_or (pt_cmpR (op_neD hr.units) (pe_get hn T.cls hr (by decide) (C8.pe_mt c_mended hr (by decide) (pv 5) (pa_cons (pe_get hn T.cls hr (by decide) (pv 5)) pa_nil))) (pe_tup pa_nil) (by first | exact nomark _ | rfl)) (pw_or1 (pt_cmpR op_ne (pe_callB (call_lenOwn c_len hr (by decide)) (by rfl) T.n_len (by decide +kernel) (pa_cons (pv 14) pa_nil)) (pe_callB (call_lenOwn c_len hr (by decide)) (by rfl) T.n_len (by decide +kernel) (pa_cons (pv 5) pa_nil)) (by first | exact nomark _ | rfl))))))
 (pss_one (ps_ret pe_bl))
 pss_nil)
 (pss_cons (ps_set (i := 17) sc_law.nd rfl (Or.inl rfl) (pv 5))
 (pss_cons (ps_for PassesOwn.never rfl (pi_list (pv 6)) (pg_name (i := 16) sc_law.nd rfl (Or.inl rfl))
 (pss_one (ps_set (i := 17) sc_law.nd rfl (Or.inl rfl) (C8.pe_mt c_mended hr (by decide) (pv 17) (pa_cons (pe_lst (pa_cons (pv 16) pa_nil)) pa_nil)))))
 (pss_cons (ps_if (PW.pt (pw_or (pt_cmpR (op_neOwn c_eq T.f_ne T.k_obj hr (by decide)) (pv 17) (pv 14) (by first | exact nomark _ | rfl)) (pw_or (pt_cmpR (op_neOwn c_eq T.f_ne T.k_obj hr (by decide)) (C8.pe_mt c_mended hr (by decide) (pv 5) (pa_cons (pe_lst pa_nil) pa_nil)) (pv 5) (by first | exact nomark _ | rfl)) (pw_or1 (pt_cmpR (op_neOwn c_eq T.f_ne T.k_obj hr (by decide)) (C8.pe_mt c_mended hr (by decide) (pv 5) (pa_cons (pe_tup pa_nil) pa_nil)) (pv 5) (by first | exact nomark _ | rfl))))))
 (pss_one (ps_ret pe_bl))
 pss_nil)
 (pss_one (ps_if (pt_cmpR op_ne (pe_cmpR (op_eqOwn c_eq hr (by decide)) (pv 14) (pv 5) (by first | exact nomark _ | rfl)) (pe_cmpR (op_eqD hr.units) (pv 15) (pe_get hn T.cls hr (by decide) (pv 5)) (by first | exact nomark _ | rfl)) (by first | exact nomark _ | rfl))
 (pss_one (ps_ret pe_bl))
 pss_nil)))))))))))))))))
 (pss_one (ps_ret pe_bl)))), ?_⟩
  refine ⟨_, rfl, a, ns, rfl, hS, few, fun H0 d g dl0 s0 nd ng => ?_⟩
  refine ⟨8, rfl, by decide, by decide, for_range (lo := 0) (n := 8) (fun _ σ H' => Deal d g H' ∧ ∃ v2 v3 v4 v5 v6 v7 v8 v9 v10 v11 v12 v13 v14 v15 v16 v17, σ = [some (.ref a), some (.ref d), v2, v3, v4, v5, v6, v7, v8, v9, v10, v11, v12, v13, v14, v15, v16, v17])
    ⟨dl0, _, _, _, _, _, _, _, _, _, _, _, _, _, _, _, _, rfl⟩ ?_ (fun σ H' _ => rfl)⟩
  rintro turn σ H1 _ ⟨dl1, v2, v3, v4, v5, v6, v7, v8, v9, v10, v11, v12, v13, v14, v15, v16, v17, rfl⟩
  refine ⟨_, rfl, d, g, 6, rfl, dl1, by decide, by decide, fun H2 p ws dl2 k2 np hp pg nd mem wlen => ?_⟩
  refine ⟨_, rfl, _, rfl, _, rfl, p, _, rfl, SqL.of hp, fun q nq => ?_⟩
  rw [show cutV (ws.map V.str) none (some 5) = (ws.take 5).map V.str by rw [cut_take _ (by decide), List.map_take]; rfl]
  have sq : Same H2 (upd H2 q (.lst ((ws.take 5).map V.str))) := Same.new nq
  have wlen6 : ws.length = 6 := wlen
  have mem5 : ∀ w ∈ ws.take 5, w ∈ eight := fun w hw => mem w (List.mem_of_mem_take hw)
  refine ⟨d, g, q, 5, 7, ws.take 5, rfl, dl2.same sq, upd_same, (dl2.free nq).2, by decide, by decide, by decide, by decide, (by intro e; have e2 := congrArg List.length e; rw [List.length_take, wlen6] at e2; exact absurd e2 (by decide)), by rw [List.length_take]; omega, fun w hw => eight_ok w (mem5 w hw), fun H3 o h dl3 k3 no ho hok => ?_⟩
  have pd : p ≠ d := dl2.ne_d hp (by intro kvs e; cases e)
  have hp3 : H3 p = some (.lst (ws.map V.str)) := k3 p _ pd pg (sq _ _ hp)
  have asc := Hok.asc hok
  have fw := Hok.few hok mem5
  have hin := hok.hin (by decide) (by decide) fun w hw => eight_name w (mem5 w hw)
  clear hok hp k3 sq nq dl2 k2 np dl1
  refine ⟨_, rfl, o, h, rfl, ho, hin, fun H4 m s4 nm4 hm4 => ?_⟩
  refine ⟨_, rfl, _, rfl, d, g, p, ws.map V.str, rfl, dl3.same s4, .inl (SqL.of (s4 _ _ hp3)), by rw [List.length_map, wlen6]; decide, good_strs mem, fun H5 p5 ys dl5 k5 np5 hp5 pg5 pm => ?_⟩
  refine ⟨_, rfl, d, g, 5, rfl, dl5, by decide, by decide, fun H6 r dl6 k6 r0 r1 => ⟨r, rfl, p5, _, rfl, SqL.of (k6 p5 _ (dl5.ne_d hp5 (by intro kvs e; cases e)) pg5 hp5), fun l nl => ⟨by show 2 ≤ sizeLine; decide, fun t nt => ?_⟩⟩⟩
  obtain ⟨zs, rfl, pz⟩ := strs_perm pm
  have ecut : cutV (zs.map V.str) none (some r) = (zs.take r.toNat).map V.str := by rw [cut_take _ r0, List.map_take]
  rw [ecut] at nt ⊢
  have memn : ∀ w ∈ zs.take r.toNat, w ∈ eight := fun w hw => mem w (pz.mem_iff.mp (List.mem_of_mem_take hw))
  have nmlen : (zs.take r.toNat).length ≤ 6 := by rw [List.length_take, pz.length_eq, wlen6]; omega
  generalize zs.take r.toNat = nm at nt memn nmlen ecut ⊢
  refine ⟨t, _, rfl, SqT.of upd_same, rfl, _, _, rfl, _, _, rfl, rfl, ?_⟩
  have sL : Same H6 (upd H6 l (.lst (nm.map V.str))) := Same.new nl
  have sT : Same _ (upd (upd H6 l (.lst (nm.map V.str))) t (.tup [.ref m, .ref l])) := Same.new nt
  have k4L : Kp d g H4 (upd (upd H6 l (.lst (nm.map V.str))) t (.tup [.ref m, .ref l])) := (k5.trans k6).trans (Hb.Same.kp (sL.trans sT))
  have dlL : Deal d g (upd (upd H6 l (.lst (nm.map V.str))) t (.tup [.ref m, .ref l])) := dl6.same (sL.trans sT)
  have kit : Kit K (He.ga K "House") d g o m l h nm (upd (upd H6 l (.lst (nm.map V.str))) t (.tup [.ref m, .ref l])) :=
    ⟨dlL, TD.keep ((dl3.same s4).tk k4L) (TD.keep (Same.tk s4) ho), hm4.kp (dl3.same s4) k4L, sT _ _ upd_same, (dl6.free nl).2⟩
  generalize upd (upd H6 l (.lst (nm.map V.str))) t (.tup [.ref m, .ref l]) = H7 at kit ⊢
  clear dlL k4L sT sL ecut nt nl r0 r1 k6 dl6 pm pz pg5 hp5 np5 k5 dl5 hm4 nm4 s4 hp3 no dl3 ho pg pd
  obtain ⟨a1, b1, c1, xs, ys, hO⟩ := kit.ho.inv
  have xl : xs.length = h.doors.length := by rw [hO.dx.length, List.length_map]
  have yl : ys.length = h.floors.length := by rw [hO.fx.length, List.length_map]
  have xfew := fw.dm
  have yfew := fw.fm
  -- the doors that are due
  refine ⟨_, rfl, o, _, 1, _, rfl, rfl, hO.all, rfl, a1, rfl, ⟨_, hO.da⟩, fun D nD => lc_tup (xs := xs) (fun i H' => Same H7 H' ∧ ∃ acc, H' D = some (.lst acc) ∧ TDs K H' acc (((h.doors.take i).map fun x => (x.1, x.2.1, nmOk nm x.2.2)).map Hb.encD)) ⟨Same.new nD, [], upd_same, .nil⟩
      (fun i H' _ e => SqT.keep (Same.tk e.1) hO.da) (fun i x H' hx ⟨s1, acc, hD, td⟩ => ?_) (fun H8 ⟨s1, acc, hD, td⟩ => ?_)⟩
  · obtain ⟨⟨da, db, dn⟩, hd, tdx⟩ := TDs.at_map (TDs.keep (Same.tk s1) hO.dx) hx
    obtain ⟨t, rfl, ht⟩ := TD.door_inv tdx
    have al := td.length
    rw [List.length_map, List.length_map, List.length_take] at al
    have put : ∀ q, H' q = none → ∃ acc', upd H' q (.tup [.int da, .int db, nzV (nmOk nm dn)]) D = some (.lst acc') ∧ acc'.length < sizeLine ∧ (Same H7 (upd (upd H' q (.tup [.int da, .int db, nzV (nmOk nm dn)])) D (.lst (acc' ++ [.ref q]))) ∧
        ∃ acc2, upd (upd H' q (.tup [.int da, .int db, nzV (nmOk nm dn)])) D (.lst (acc' ++ [.ref q])) D = some (.lst acc2) ∧ TDs K (upd (upd H' q (.tup [.int da, .int db, nzV (nmOk nm dn)])) D (.lst (acc' ++ [.ref q]))) acc2 (((h.doors.take (i + 1)).map fun x => (x.1, x.2.1, nmOk nm x.2.2)).map Hb.encD)) := fun q nq => by
      have s2 : Same H' (upd H' q (.tup [.int da, .int db, nzV (nmOk nm dn)])) := Same.new nq
      have hD2 := s2 _ _ hD
      refine ⟨acc, hD2, by omega, Hb.Same.acc (s1.trans s2) nD, acc ++ [.ref q], upd_same, ?_⟩
      rw [List.take_add_one, hd, List.map_append, List.map_append]
      exact TDs.app (TDs.keep (tk_acc hD2) (TDs.keep (Same.tk s2) td)) (.cons (TD.keep (tk_acc hD2) (TD.door (x := (da, db, nmOk nm dn)) (SqT.of upd_same))) .nil)
    refine ⟨t, _, rfl, ht, rfl, _, _, rfl, _, _, rfl, _, _, rfl, rfl, rfl, yes_ ⟨_, rfl, _, rfl, _, rfl, _, rfl, ?_⟩⟩
    have hl' : SqL K H' l (nm.map V.str) ∨ SqT K H' l (nm.map V.str) := .inl (SqL.of (s1 _ _ kit.hl))
    cases dn with
    | none =>
      refine ⟨l, _, rfl, hl', rfl, flat_strs nm, _, rfl, ?_⟩
      rw [if_neg Bool.false_ne_true]
      show if inV V.non (nm.map V.str) = true then _ else _
      rw [inV_non]
      exact iteF ⟨_, rfl, by show 3 ≤ sizeLine; decide, fun q nq => put q nq⟩
    | some w =>
      refine ⟨l, _, rfl, hl', rfl, flat_strs nm, _, rfl, ?_⟩
      rw [if_neg Bool.false_ne_true]
      show if inV (V.str w) (nm.map V.str) = true then _ else _
      rw [inV_strs]
      by_cases hw : w ∈ nm
      · rw [show nmOk nm (some w) = none from if_pos hw] at put
        rw [decide_eq_true hw]
        exact iteT ⟨by show 3 ≤ sizeLine; decide, fun q nq => put q nq⟩
      · rw [show nmOk nm (some w) = some w from if_neg hw] at put
        rw [decide_eq_false hw]
        exact iteF ⟨_, rfl, by show 3 ≤ sizeLine; decide, fun q nq => put q nq⟩
  rw [xl, List.take_length] at td
  have sD := s1
  have hD8 := hD
  clear hD
  refine ⟨D, acc, rfl, .inl ⟨SqL.of hD8, fun td1 ntd => ?_⟩⟩
  have s9 : Same H8 (upd H8 td1 (.tup acc)) := Same.new ntd
  have kit9 := kit.same (s1.trans s9)
  have hdoors : SqT K (upd H8 td1 (.tup acc)) td1 acc := SqT.of upd_same
  have td9 := TDs.keep (Same.tk s9) td
  have s79 := s1.trans s9
  generalize upd H8 td1 (.tup acc) = H9 at s9 kit9 hdoors td9 s79 ⊢
  -- the floors that are due
  have hO9 : ∀ {H' : Hp}, Same H9 H' → HIs K H' o h a1 b1 c1 xs ys := fun e => ⟨SqT.keep (Same.tk (s79.trans e)) hO.all, SqT.keep (Same.tk (s79.trans e)) hO.da, TDs.keep (Same.tk (s79.trans e)) hO.dx, SqT.keep (Same.tk (s79.trans e)) hO.fb, TDs.keep (Same.tk (s79.trans e)) hO.fx, SqT.keep (Same.tk (s79.trans e)) hO.cc⟩
  have hO9' := hO9 (Same.refl H9)
  refine ⟨_, rfl, o, _, 0, _, rfl, rfl, hO9'.all, rfl, _, rfl, _, rfl, o, _, 2, _, rfl, rfl, hO9'.all, rfl, b1, rfl, ⟨_, hO9'.fb⟩, fun D2 nD2 => lc_tup (xs := ys) (fun i H' => Same H9 H' ∧ ∃ acc, H' D2 = some (.lst acc) ∧ TDs K H' acc (((h.floors.take i).filter fun x => decide (x.2 ∉ nm)).map encF)) ⟨Same.new nD2, [], upd_same, .nil⟩
      (fun i H' _ e => (hO9 e.1).fb) (fun i x H' hx ⟨s1, acc2, hD2, td2⟩ => ?_) (fun H10 ⟨s10, acc2, hD2, td2⟩ => ?_)⟩
  · obtain ⟨⟨fr, fw⟩, hf, tdx⟩ := TDs.at_map (hO9 s1).fx hx
    obtain ⟨t, rfl, ht⟩ := TD.floor_inv tdx
    have al2 : (((h.floors.take i).filter fun x => decide (x.2 ∉ nm))).length ≤ 1000 := Nat.le_trans (List.length_filter_le _ _) (by rw [List.length_take]; omega)
    have al := td2.length
    rw [List.length_map] at al
    have hl' : SqL K H' l (nm.map V.str) ∨ SqT K H' l (nm.map V.str) := .inl (SqL.of (kit9.same s1).hl)
    have nx : (h.floors.take (i + 1)).filter (fun x => decide (x.2 ∉ nm)) = (h.floors.take i).filter (fun x => decide (x.2 ∉ nm)) ++ if fw ∈ nm then [] else [(fr, fw)] := by
      rw [List.take_add_one, hf, List.filter_append]
      by_cases hw : fw ∈ nm <;> simp [hw]
    refine ⟨rfl, _, rfl, t, _, 1, .str fw, rfl, rfl, ht, rfl, _, rfl, l, _, rfl, hl', rfl, flat_strs nm, _, rfl, ?_⟩
    rw [if_pos rfl, inV_strs]
    by_cases hw : fw ∈ nm
    · rw [decide_eq_true hw]
      rw [if_pos hw, List.append_nil] at nx
      refine iteF ⟨s1, acc2, hD2, ?_⟩
      rw [nx]
      exact td2
    · rw [decide_eq_false hw]
      rw [if_neg hw] at nx
      refine iteT ⟨_, rfl, acc2, hD2, by omega, Hb.Same.acc s1 nD2, acc2 ++ [.ref t], upd_same, ?_⟩
      rw [nx, List.map_append]
      exact TDs.app (TDs.keep (tk_acc hD2) td2) (.cons (TD.keep (tk_acc hD2) (TD.floor (x := (fr, fw)) ht)) .nil)
  rw [yl, List.take_length] at td2
  refine ⟨D2, acc2, rfl, .inl ⟨SqL.of hD2, fun tf ntf => ?_⟩⟩
  have s11 : Same H10 (upd H10 tf (.tup acc2)) := Same.new ntf
  refine ⟨_, rfl, o, _, 3, _, rfl, rfl, (hO9 (s10.trans s11)).all, rfl, by show 4 ≤ sizeLine; decide, fun du ndu => ?_⟩
  have s12 : Same _ (upd (upd H10 tf (.tup acc2)) du (.tup [.int h.rooms, .ref td1, .ref tf, .ref c1])) := Same.new ndu
  have s912 := (s10.trans s11).trans s12
  have hdue : HOne K (upd (upd H10 tf (.tup acc2)) du (.tup [.int h.rooms, .ref td1, .ref tf, .ref c1])) du (lessH h nm) := by
    rw [less_asc asc]
    exact HIs.one (a := td1) (b := tf) (c := c1) ⟨SqT.of upd_same, SqT.keep (Same.tk s912) hdoors, TDs.keep (Same.tk s912) td9, SqT.keep (Same.tk s12) (SqT.of upd_same), TDs.keep (Same.tk (s11.trans s12)) td2, (hO9 s912).cc⟩
  have kit12 := kit9.same s912
  generalize upd (upd H10 tf (.tup acc2)) du (.tup [.int h.rooms, .ref td1, .ref tf, .ref c1]) = H12 at hdue kit12 ⊢
  clear s912 s12 s11 s10 td2 hD2 td9 hdoors hO9' hO9 s79 s9 kit9 td kit hO hD8 sD s1
  have ascD := asc_less asc nm
  have fwD := fw.less asc nm
  have hinD := less_in hin nm
  -- handed
  refine ⟨_, rfl, _, rfl, _, rfl, l, _, rfl, SqL.of kit12.hl, fun q nq => ?_⟩
  rw [show cutV (nm.map V.str) none (some 1) = (nm.take 1).map V.str by rw [cut_take _ (by decide), List.map_take]; rfl]
  have sq : Same H12 (upd H12 q (.lst ((nm.take 1).map V.str))) := Same.new nq
  have t1 : (nm.take 1).length ≤ 1 := by rw [List.length_take]; omega
  refine ⟨l, q, _, _, rfl, rfl, sq _ _ kit12.hl, upd_same, by rw [List.length_map, List.length_map]; omega, fun q2 nq2 => ?_⟩
  rw [← List.map_append]
  have sq2 : Same _ (upd (upd H12 q (.lst ((nm.take 1).map V.str))) q2 (.lst ((nm ++ nm.take 1).map V.str))) := Same.new nq2
  refine ⟨q2, _, rfl, .inl (SqL.of upd_same), fun hd nhd => ?_⟩
  have sq3 : Same _ (upd (upd (upd H12 q (.lst ((nm.take 1).map V.str))) q2 (.lst ((nm ++ nm.take 1).map V.str))) hd (.lst ((nm ++ nm.take 1).map V.str))) := Same.new nhd
  have s1213 := (sq.trans sq2).trans sq3
  have kit13 := kit12.same s1213
  have hdue13 : HOne K _ du (lessH h nm) := TD.keep (Same.tk s1213) hdue
  have hh : upd (upd (upd H12 q (.lst ((nm.take 1).map V.str))) q2 (.lst ((nm ++ nm.take 1).map V.str))) hd (.lst ((nm ++ nm.take 1).map V.str)) hd = some (.lst ((nm ++ nm.take 1).map V.str)) := upd_same
  have hdg : hd ≠ g := ((kit12.dl.same (sq.trans sq2)).free nhd).2
  generalize upd (upd (upd H12 q (.lst ((nm.take 1).map V.str))) q2 (.lst ((nm ++ nm.take 1).map V.str))) hd (.lst ((nm ++ nm.take 1).map V.str)) = H13 at kit13 hdue13 hh ⊢
  clear s1213 sq3 sq2 sq nhd nq2 nq kit12 hdue
  have hdd : hd ≠ d := kit13.dl.ne_d hh (by intro kvs e; cases e)
  dsimp only
  refine cut_seq (fun σ' H' => ∃ ls v15 v16 v17 v8 v9 v10 v12, σ' = [some (.ref a), some (.ref d), some (.int (0 + (turn : Nat))), some (.ref p), some (.ref o), some (.ref m), some (.ref l), some (.ref td1), v8, v9, v10, some (.ref du), v12, some (.ref hd), some (.ref ls), v15, v16, v17] ∧ Kp d g H13 H' ∧ Kit K (He.ga K "House") d g o m l h nm H' ∧ HAt K (He.ga K "House") H' ls (lessH h nm)) ?_ fun rest => ?_
  · have HB : ∀ {H' : Hp}, Kp d g H13 H' → HOne K H' du (lessH h nm) ∧ H' hd = some (.lst ((nm ++ nm.take 1).map V.str)) := fun k => ⟨TD.keep (kit13.dl.tk k) hdue13, k hd _ hdd hdg hh⟩
    clear hh kit13 hdue13
    rintro σ H14 ⟨ls, u15, u16, u17, u8, u9, u10, u12, rfl, k14, kit, hls⟩
    obtain ⟨hdue, hh⟩ := HB k14
    -- the mended house is as due
    refine ⟨_, rfl, _, rfl, du, lessH h nm, rfl, hdue, hinD, fun H15 m2 s15 nm2 hm2 => ne_same T (hls.same s15) hm2 fwD.shp fwD.shp (hEq_refl _) ⟨_, rfl, iteF ?_⟩⟩
    have kit15 := kit.same s15
    refine ⟨_, rfl, _, rfl, _, rfl, _, rfl, l, _, rfl, SqL.of kit15.hl, fun q nq => ?_⟩
    rw [show cutV (nm.map V.str) none (some 1) = (nm.take 1).map V.str by rw [cut_take _ (by decide), List.map_take]; rfl]
    have sq : Same H15 (upd H15 q (.lst ((nm.take 1).map V.str))) := Same.new nq
    have t1 : (nm.take 1).length ≤ 1 := by rw [List.length_take]; omega
    have mem1 : ∀ w ∈ nm ++ nm.take 1, w ∈ eight := fun w hw => by
      rcases List.mem_append.mp hw with hw | hw
      · exact memn w hw
      · exact memn w (List.mem_of_mem_take hw)
    refine ⟨l, q, _, _, rfl, rfl, sq _ _ kit15.hl, upd_same, by rw [List.length_map, List.length_map]; omega, fun q2 nq2 => ?_⟩
    rw [← List.map_append]
    have sq2 : Same _ (upd (upd H15 q (.lst ((nm.take 1).map V.str))) q2 (.lst ((nm ++ nm.take 1).map V.str))) := Same.new nq2
    refine ne_strsL (.lst (SqL.of (sq2 _ _ (sq _ _ (s15 _ _ hh)))) (dp_strs _)) (.lst (SqL.of upd_same) (dp_strs _)) mem1 mem1 rfl ⟨_, rfl, iteF ?_⟩
    have kit16 := kit15.same (sq.trans sq2)
    refine ⟨_, rfl, _, rfl, o, h, rfl, kit16.ho, hin, fun H17 m3 s17 nm3 hm3 => ne_same T (kit16.hm.same s17) hm3 fw.shp fw.shp (hEq_refl _) ⟨_, rfl, iteF ?_⟩⟩
    have kit17 := kit16.same s17
    have s1417 := s15.trans ((sq.trans sq2).trans s17)
    have hls17 := hls.same s1417
    have hdue17 : HOne K H17 du (lessH h nm) := TD.keep (Same.tk s1417) hdue
    clear s1417 hm3 s17 kit16 sq2 nq2 nq sq t1 mem1 kit15 hm2 nm2 s15 hdue hls hh kit k14
    -- shown
    obtain ⟨dz, a2, b2, c2, xs2, ys2, hO2, q1, q2', q3, q4, q5⟩ := id hls17
    rw [sortF_id ascD.f] at q4
    rw [sortI_id ascD.c] at q5
    refine ⟨_, rfl, ls, _, dz, _, _, rfl, hO2, T.cls, T.a_rooms, rfl, _, rfl, ls, _, dz, _, _, rfl, hO2, T.cls, T.a_doors, rfl, _, rfl, ls, _, dz, _, _, rfl, hO2, T.cls, T.a_floors, rfl, _, rfl, ls, _, dz, _, _, rfl, hO2, T.cls, T.a_cradles, rfl, by show 4 ≤ sizeLine; decide, fun q nq => ?_⟩
    have sq : Same H17 (upd H17 q (.tup [.int (lessH h nm).rooms, .ref a2, .ref b2, .ref c2])) := Same.new nq
    have hq : HOne K (upd H17 q (.tup [.int (lessH h nm).rooms, .ref a2, .ref b2, .ref c2])) q (lessH h nm) :=
      HIs.one (a := a2) (b := b2) (c := c2) ⟨SqT.of upd_same, SqT.keep (Same.tk sq) q1, TDs.keep (Same.tk sq) q2', SqT.keep (Same.tk sq) q3, TDs.keep (Same.tk sq) q4, SqT.keep (Same.tk sq) q5⟩
    have S := fwD.sh
    have le : (encH (lessH h nm)).shown.length ≤ sizeLine := by have := S.le; omega
    refine ⟨q, _, rfl, TD.dp hq, S.sh, S.nd, depth_enc _, le, _, rfl, du, _, rfl, TD.dp (TD.keep (Same.tk sq) hdue17), S.sh, S.nd, depth_enc _, le, rfl, _, rfl, ?_⟩
    rw [decide_eq_true rfl]
    refine iteF ?_
    have kit18 := kit17.same sq
    have hls18 := hls17.same sq
    generalize upd H17 q (.tup [.int (lessH h nm).rooms, .ref a2, .ref b2, .ref c2]) = H18 at kit18 hls18 ⊢
    clear le S hq sq nq q5 q4 q3 q2' q1 hO2 hdue17 hls17 kit17
    -- the names that are left
    obtain ⟨dm, am, bm, cm, hmO⟩ := HAt.ob kit18.hm
    have n64 := fw.nzlen asc
    have n64D := fwD.nzlen ascD
    refine ⟨_, rfl, m, dm, _, rfl, hmO, m, h, rfl, kit18.hm, hin, n64, fun H19 t ns s19 nt ht nsnd nsmem nsso => ?_⟩
    have nz : Nz h ns := ⟨nsnd, nsmem, nsso⟩
    have kit19 := kit18.same s19
    have ns8 : ∀ k ∈ ns, k ∈ eight := fun k hk => fw.nz asc k ((nsmem k).mp hk)
    clear kit18
    refine ⟨t, rfl, ⟨_, ht⟩, fun D nD => lc_tup (xs := ns.map V.str) (fun i H' => Same H19 H' ∧ H' D = some (.lst (((ns.take i).filter fun k => decide (k ∉ nm)).map V.str))) ⟨Same.new nD, upd_same⟩ (fun i H' _ e => SqT.keep (Same.tk e.1) ht) (fun i x H' hx ⟨s1, hD⟩ => ?_) (fun H20 ⟨s20, hD⟩ => ?_)⟩
    · rw [List.getElem?_map] at hx
      obtain ⟨w, hw, rfl⟩ := Option.map_eq_some_iff.mp hx
      have hl' : SqL K H' l (nm.map V.str) ∨ SqT K H' l (nm.map V.str) := .inl (SqL.of (kit19.same s1).hl)
      have nx : (ns.take (i + 1)).filter (fun k => decide (k ∉ nm)) = (ns.take i).filter (fun k => decide (k ∉ nm)) ++ if w ∈ nm then [] else [w] := by
        rw [List.take_add_one, hw, List.filter_append]
        by_cases hw : w ∈ nm <;> simp [hw]
      have al2 : ((ns.take i).filter (fun k => decide (k ∉ nm))).length ≤ 1000 := by
        refine Nat.le_trans (List.length_filter_le _ _) ?_
        have e1 : ns.length ≤ (nzOf h).length := (nsnd.length_le_of_subset fun k hk => (nsmem k).mp hk)
        rw [List.length_take]
        omega
      refine ⟨rfl, _, rfl, _, rfl, l, _, rfl, hl', rfl, flat_strs nm, _, rfl, ?_⟩
      rw [if_pos rfl, inV_strs]
      by_cases hw : w ∈ nm
      · rw [decide_eq_true hw]
        rw [if_pos hw, List.append_nil] at nx
        refine iteF ⟨s1, ?_⟩
        rw [nx]
        exact hD
      · rw [decide_eq_false hw]
        rw [if_neg hw] at nx
        refine iteT ⟨_, rfl, _, hD, by rw [List.length_map]; omega, Hb.Same.acc s1 nD, ?_⟩
        rw [upd_same, nx, List.map_append]
        rfl
    rw [List.length_map, List.take_length] at hD
    refine ⟨D, _, rfl, .inl ⟨SqL.of hD, fun lf nlf => ?_⟩⟩
    have slf : Same H20 (upd H20 lf (.tup ((ns.filter fun k => decide (k ∉ nm)).map V.str))) := Same.new nlf
    have hlf : SqT K (upd H20 lf (.tup ((ns.filter fun k => decide (k ∉ nm)).map V.str))) lf ((ns.filter fun k => decide (k ∉ nm)).map V.str) := SqT.of upd_same
    have s1821 := s19.trans (s20.trans slf)
    have kit21 := kit19.same (s20.trans slf)
    have hls21 := hls18.same s1821
    have hm21 := s1821 _ _ hmO
    generalize upd H20 lf (.tup ((ns.filter fun k => decide (k ∉ nm)).map V.str)) = H21 at hlf kit21 hls21 hm21 ⊢
    clear s1821 slf nlf hD s20 kit19 ht s19 hmO hls18
    have lf8 : ∀ k ∈ ns.filter fun k => decide (k ∉ nm), k ∈ eight := fun k hk => ns8 k (List.mem_filter.mp hk).1
    -- less.noises
    obtain ⟨dl', al', bl', cl', hlO⟩ := HAt.ob hls21
    refine ⟨_, rfl, ls, dl', _, rfl, hlO, ls, _, rfl, hls21, hinD, n64D, fun H22 t2 ms s22 nt2 ht2 msnd msmem msso => ?_⟩
    have e1 := Nz.less asc nz ⟨msnd, msmem, msso⟩
    refine ⟨_, rfl, ne_strsT (.tup ht2 (dp_strs _)) (.tup (SqT.keep (Same.tk s22) hlf) (dp_strs _)) (by rw [e1]; exact lf8) lf8 e1 ⟨_, rfl, iteF ?_⟩⟩
    clear e1 msso msmem msnd ht2 nt2
    have hm22 := s22 _ _ hm21
    have kit22 := kit21.same s22
    have hls22 := hls21.same s22
    refine ⟨_, rfl, m, dm, _, rfl, hm22, rfl, _, rfl, m, dm, _, rfl, hm22, m, h, rfl, kit22.hm, hin, n64, fun H23 t3 ns3 s23 nt3 ht3 nd3 mem3 so3 => ?_⟩
    have kit23 := kit22.same s23
    have len3 : ns3.length ≤ 1000 := by
      have e1 : ns3.length ≤ (nzOf h).length := (nd3.length_le_of_subset fun k hk => (mem3 k).mp hk)
      omega
    refine ⟨m, t3, h, ns3, rfl, kit23.hm, hin, .inr ht3, len3, fun H24 q24 s24 nq24 hq24 => ?_⟩
    obtain ⟨dq, aq, bq, cq, hqO⟩ := HAt.ob hq24
    refine ⟨q24, dq, _, rfl, hqO, q24, _, rfl, hq24, less_in hin ns3, (fw.less asc ns3).nzlen (asc_less asc ns3), fun H25 t5 ms5 s25 nt5 ht5 nd5 mem5' so5 => ?_⟩
    have e5 := Nz.none asc ⟨nd3, mem3, so3⟩ ⟨nd5, mem5', so5⟩
    refine ⟨Nat.zero_le _, fun t6 nt6 => ?_⟩
    have s6 : Same H25 (upd H25 t6 (.tup [])) := Same.new nt6
    refine ne_strsT (ys := []) (.tup (SqT.keep (Same.tk s6) ht5) (dp_strs _)) (.tup (SqT.of upd_same) .nil) (by rw [e5]; intro k hk; cases hk) (fun k hk => by cases hk) e5 ⟨_, rfl, iteF ?_⟩
    have s226 := ((s23.trans s24).trans s25).trans s6
    have kit26 := kit22.same s226
    have hls26 := hls22.same s226
    have hm26 := s226 _ _ hm22
    have hlf26 : SqT K (upd H25 t6 (.tup [])) lf ((ns.filter fun k => decide (k ∉ nm)).map V.str) := SqT.keep (Same.tk (s22.trans s226)) hlf
    obtain ⟨dl6, al6, bl6, cl6, hlO6⟩ := HAt.ob hls26
    generalize upd H25 t6 (.tup []) = H26 at kit26 hls26 hm26 hlf26 hlO6 ⊢
    clear s226 s6 nt6 e5 so5 mem5' nd5 ht5 nt5 s25 hqO hq24 nq24 s24 len3 kit23 so3 mem3 nd3 ht3 nt3 s23 hls22 kit22 hm22 s22 hlO hm21 hls21 kit21 hlf
    -- the numbers of doors
    have ed : (lessH h nm).doors.length = h.doors.length := List.length_map _
    have dfew := fw.dm
    refine ⟨_, rfl, ls, dl6, _, rfl, hlO6, ls, _, rfl, hls26, hinD, _, rfl, by omega, by omega, _, rfl, m, dm, _, rfl, hm26, m, h, rfl, kit26.hm, hin, _, rfl, by omega, by omega, rfl, _, rfl, ?_⟩
    rw [ed, decide_eq_true rfl]
    refine iteF ?_
    refine ⟨_, rfl, _, rfl, l, rfl, ⟨_, SqL.of kit26.hl⟩, for_list (xs := nm.map V.str) (fun i σ H' => (∃ q v8 v9 v10 v12 v16, σ = [some (.ref a), some (.ref d), some (.int (0 + (turn : Nat))), some (.ref p), some (.ref o), some (.ref m), some (.ref l), some (.ref td1), v8, v9, v10, some (.ref du), v12, some (.ref hd), some (.ref ls), some (.ref lf), v16, some (.ref q)] ∧ HAt K (He.ga K "House") H' q (lessH h (nm.take i))) ∧ Same H26 H')
      ⟨⟨m, _, _, _, _, _, rfl, by rw [List.take_zero, less_nil asc]; exact kit26.hm⟩, Same.refl _⟩ (fun i σ H' _ q => SqL.of (kit26.same q.2).hl) ?_ ?_⟩
    · rintro i x σ H' hx ⟨⟨q, w8, w9, w10, w12, w16, rfl, hq⟩, s1⟩
      rw [List.getElem?_map] at hx
      obtain ⟨w, hw, rfl⟩ := Option.map_eq_some_iff.mp hx
      obtain ⟨dq, aq, bq, cq, hqO⟩ := HAt.ob hq
      refine ⟨_, rfl, q, dq, _, rfl, hqO, rfl, _, rfl, by show 1 ≤ sizeLine; decide, fun t nt => ?_⟩
      have st : Same H' (upd H' t (.lst [.str w])) := Same.new nt
      refine ⟨q, t, lessH h (nm.take i), [w], rfl, hq.same st, less_in hin _, .inl (SqL.of upd_same), by show 1 ≤ 1000; decide, fun H2 q' s2 nq' hq' => ?_⟩
      rw [less_less asc] at hq'
      refine ⟨⟨q', _, _, _, _, _, rfl, ?_⟩, (s1.trans st).trans s2⟩
      rw [List.take_add_one, hw]
      exact hq'
    · rintro σ H27 ⟨⟨q, w8, w9, w10, w12, w16, rfl, hq⟩, s27⟩
      rw [List.length_map, List.take_length] at hq
      have kit27 := kit26.same s27
      have hls27 := hls26.same s27
      refine ⟨_, rfl, _, rfl, ne_same T hq hls27 fwD.shp fwD.shp (hEq_refl _) ⟨_, rfl, iteF ?_⟩⟩
      refine ⟨_, rfl, m, dm, _, rfl, s27 _ _ hm26, rfl, by show 0 ≤ sizeLine; decide, fun t nt => ?_⟩
      have st : Same H27 (upd H27 t (.lst [])) := Same.new nt
      refine ⟨m, t, h, [], rfl, (kit27.same st).hm, hin, .inl (SqL.of upd_same), by decide, fun H28 q28 s28 nq28 hq28 => ?_⟩
      rw [less_nil asc] at hq28
      have s278 := st.trans s28
      refine ⟨_, rfl, ne_same T hq28 (kit27.same s278).hm fw.shp fw.shp (hEq_refl _) ⟨_, rfl, iteF ?_⟩⟩
      refine ⟨_, rfl, m, dm, _, rfl, s278 _ _ (s27 _ _ hm26), rfl, Nat.zero_le _, fun t3 nt3 => ?_⟩
      have st3 : Same H28 (upd H28 t3 (.tup [])) := Same.new nt3
      have kit28 := kit27.same s278
      refine ⟨m, t3, h, [], rfl, (kit28.same st3).hm, hin, .inr (SqT.of upd_same), by decide, fun H29 q29 s29 nq29 hq29 => ?_⟩
      rw [less_nil asc] at hq29
      have s289 := st3.trans s29
      have kit29 := kit28.same s289
      refine ⟨_, rfl, ne_same T hq29 kit29.hm fw.shp fw.shp (hEq_refl _) ⟨_, rfl, iteF ?_⟩⟩
      have s2629 := s27.trans (s278.trans s289)
      have hls29 := hls26.same s2629
      refine ⟨_, rfl, _, rfl, eq_H T hls29 kit29.hm fwD.shp fw.shp ?_⟩
      refine ⟨_, rfl, _, rfl, m, dm, _, rfl, s2629 _ _ hm26, m, h, rfl, kit29.hm, hin, n64, fun H30 t5 ns5 s30 nt5 ht5 nd5 mem5' so5 => ?_⟩
      have e5 : ns5 = ns := sorted_unique so5 nz.so nd5 nz.nd fun k => by rw [mem5', nz.mem]
      subst e5
      refine eq_strsT (.tup (SqT.keep (Same.tk (s2629.trans s30)) hlf26) (dp_strs _)) (.tup ht5 (dp_strs _)) lf8 ns8 ⟨rfl, _, rfl, ?_⟩
      rw [same_iff asc nz, decide_eq_true rfl]
      refine iteF ⟨kit29.dl.same s30, ?_⟩
      exact ⟨_, _, _, _, _, _, _, _, _, _, _, _, _, _, _, _, rfl⟩
  · have elt : ∀ k, k ∈ nm ++ nm.take 1 ↔ k ∈ nm := fun k => by
      rw [List.mem_append]
      exact ⟨fun q => q.elim id fun q => List.mem_of_mem_take q, .inl⟩
    have el : lessH h (nm ++ nm.take 1) = lessH h nm := less_congr elt
    have nl : (nm ++ nm.take 1).length ≤ 1000 := by rw [List.length_append]; omega
    obtain ⟨dx, a2, b2, c2, xs2, ys2, hm, q1, q2, q3, q4, q5⟩ := kit13.hm
    refine ⟨_, rfl, m, dx, _, rfl, hm, rfl, ?_⟩
    refine ⟨_, rfl, d, g, 2, rfl, kit13.dl, by decide, by decide, fun H14 r dl14 k14 r0 r1 => ⟨rfl, _, rfl, ?_⟩⟩
    have kit14 := kit13.kp k14 dl14
    have hh14 := k14 hd _ hdd hdg hh
    by_cases ez : r = 0
    · rw [decide_eq_true (show V.int r = V.int 0 by rw [ez])]
      refine iteT ⟨_, rfl, m, hd, h, nm ++ nm.take 1, rfl, kit14.hm, hin, .inl (SqL.of hh14), nl, fun H' q s nq hq => ?_⟩
      rw [el] at hq
      exact rest _ _ ⟨q, _, _, _, _, _, _, _, rfl, k14.trans (Hb.Same.kp s), kit14.same s, hq⟩
    · rw [decide_eq_false (show ¬ V.int r = V.int 0 from fun q => ez (by injection q))]
      refine iteF ⟨_, rfl, hd, _, rfl, .inl ⟨SqL.of hh14, fun t nt => ?_⟩⟩
      have st : Same H14 (upd H14 t (.tup ((nm ++ nm.take 1).map V.str))) := Same.new nt
      refine ⟨m, t, h, nm ++ nm.take 1, rfl, (kit14.same st).hm, hin, .inr (SqT.of upd_same), nl, fun H' q s nq hq => ?_⟩
      rw [el] at hq
      exact rest _ _ ⟨q, _, _, _, _, _, _, _, rfl, (k14.trans (Hb.Same.kp st)).trans (Hb.Same.kp s), (kit14.same st).same s, hq⟩
end
end Lw
set_option Elab.async false
set_option linter.all false
set_option maxRecDepth 100000
set_option maxHeartbeats 0
namespace Lw
open PySem PySem.Spec PyProof.Rows L2 Hb
/-! ### the head: facts by names, the run -/
def d_is_whole : He.DefD := ⟨("is_whole", none), "is_whole", "is_whole", defArgs s_is_whole, defBody s_is_whole, defScope s_is_whole, [], []⟩
def d_is_positive : He.DefD := ⟨("is_positive", none), "is_positive", "is_positive", defArgs s_is_positive, defBody s_is_positive, defScope s_is_positive, [], []⟩
def d_is_name : He.DefD := ⟨("is_name", none), "is_name", "is_name", defArgs s_is_name, defBody s_is_name, defScope s_is_name, [], []⟩
def d_is_row : He.DefD := ⟨("is_row", none), "is_row", "is_row", defArgs s_is_row, defBody s_is_row, defScope s_is_row, [], []⟩
def d_is_tuple_of : He.DefD := ⟨("is_tuple_of", none), "is_tuple_of", "is_tuple_of", defArgs s_is_tuple_of, defBody s_is_tuple_of, defScope s_is_tuple_of, [], []⟩
def d_are_unlike : He.DefD := ⟨("are_unlike", none), "are_unlike", "are_unlike", defArgs s_are_unlike, defBody s_are_unlike, defScope s_are_unlike, [], []⟩
def d_is_room : He.DefD := ⟨("is_room", none), "is_room", "is_room", defArgs s_is_room, defBody s_is_room, defScope s_is_room, [], []⟩
def d_is_door : He.DefD := ⟨("is_door", none), "is_door", "is_door", defArgs s_is_door, defBody s_is_door, defScope s_is_door, [], []⟩
def d_is_floor : He.DefD := ⟨("is_floor", none), "is_floor", "is_floor", defArgs s_is_floor, defBody s_is_floor, defScope s_is_floor, [], []⟩
def d_are_doors : He.DefD := ⟨("are_doors", none), "are_doors", "are_doors", defArgs s_are_doors, defBody s_are_doors, defScope s_are_doors, [], []⟩
def d_are_floors : He.DefD := ⟨("are_floors", none), "are_floors", "are_floors", defArgs s_are_floors, defBody s_are_floors, defScope s_are_floors, [], []⟩
def d_are_cradles : He.DefD := ⟨("are_cradles", none), "are_cradles", "are_cradles", defArgs s_are_cradles, defBody s_are_cradles, defScope s_are_cradles, [], []⟩
def d_House_init : He.DefD := ⟨("House", some "__init__"), "__init__", "House.__init__", defArgs s_House_init, defBody s_House_init, defScope s_House_init, [.adr (He.dflAt ("House", some "__init__") 0), .adr (He.dflAt ("House", some "__init__") 1)], []⟩
def d_House_eq : He.DefD := ⟨("House", some "__eq__"), "__eq__", "House.__eq__", defArgs s_House_eq, defBody s_House_eq, defScope s_House_eq, [], []⟩
def d_House_len : He.DefD := ⟨("House", some "__len__"), "__len__", "House.__len__", defArgs s_House_len, defBody s_House_len, defScope s_House_len, [], []⟩
def d_House_mended : He.DefD := ⟨("House", some "mended"), "mended", "House.mended", defArgs s_House_mended, defBody s_House_mended, defScope s_House_mended, [], []⟩
def d_House_noises : He.DefD := ⟨("House", some "noises"), "noises", "House.noises", defArgs s_House_noises, defBody s_House_noises, defScope s_House_noises, [], []⟩
def d_deal : He.DefD := ⟨("_law_deal", none), "_law_deal", "_law_deal", defArgs s_deal, defBody s_deal, defScope s_deal, [], []⟩
def d_draw : He.DefD := ⟨("_law_draw", none), "_law_draw", "_law_draw", defArgs s_draw, defBody s_draw, defScope s_draw, [], []⟩
def d_pick : He.DefD := ⟨("_law_pick", none), "_law_pick", "_law_pick", defArgs s_pick, defBody s_pick, defScope s_pick, [], []⟩
def d_mixed : He.DefD := ⟨("_law_mixed", none), "_law_mixed", "_law_mixed", defArgs s_mixed, defBody s_mixed, defScope s_mixed, [], []⟩
def d_words : He.DefD := ⟨("_law_words", none), "_law_words", "_law_words", defArgs s_words, defBody s_words, defScope s_words, [], []⟩
def d_drawn_house : He.DefD := ⟨("_law_drawn_house", none), "_law_drawn_house", "_law_drawn_house", defArgs s_drawn_house, defBody s_drawn_house, defScope s_drawn_house, [], []⟩
def d_house_of : He.DefD := ⟨("_law_house_of", none), "_law_house_of", "_law_house_of", defArgs s_house_of, defBody s_house_of, defScope s_house_of, [], []⟩
def d_law : He.DefD := ⟨("law", none), "law", "law", defArgs s_law, defBody s_law, defScope s_law, [], []⟩
def fn : List He.DefD := [d_is_whole, d_is_positive, d_is_name, d_is_row, d_is_tuple_of, d_are_unlike, d_is_room, d_is_door, d_is_floor, d_are_doors, d_are_floors, d_are_cradles, d_House_init, d_House_eq, d_House_len, d_House_mended, d_deal, d_draw, d_pick, d_mixed, d_words, d_drawn_house, d_house_of, d_law]
def fa : List He.Fa := [.meth "House" "__eq__", .meth "House" "__len__", .meth "House" "mended", .glo "is_whole", .glo "is_positive", .glo "is_name", .glo "is_row", .glo "is_tuple_of", .glo "are_unlike", .glo "is_room", .glo "is_door", .glo "is_floor", .glo "are_doors", .glo "are_floors", .glo "are_cradles", .glo "_law_deal", .glo "_law_draw", .glo "_law_pick", .glo "_law_mixed", .glo "_law_words", .glo "_law_drawn_house", .glo "_law_house_of", .glo "law", .free "len", .free "set", .free "abs", .free "min", .free "int", .free "str", .free "bool", .free "list", .free "tuple", .free "dict", .free "isinstance", .free "all", .free "sorted", .free "range", .free "repr", .str "LETTERS" "abcdefghijklmnopqrstuvwxyz", .glo "House", .cls "House", .noat "House" "rooms", .noat "House" "doors", .noat "House" "floors", .noat "House" "cradles", .mkr "House"]
def ex (K : PySem.W.Frag) : Bool := ((Hb.anyTy.all fun t => decide (PySem.W.kitOne K (.type t) (.ref (He.ga K "House")) = some false)) && (He.eqO (PySem.W.findIn K (.ref (He.ga K "House")) "__class__") (some (some (.builtin "object.__class__"))) && (He.eqO (PySem.W.specialIn K (.builtin "object.__class__") "__get__") (some (some (.builtin "getset_descriptor.__get__"))) && (decide (PySem.W.takesIn K (.builtin "object.__class__") = some true) && (decide (PySem.W.mroIn K (He.ga K "House") (.type "object") = some true) && (He.eqO (PySem.W.findIn K (.ref (He.ga K "House")) "__ne__") (some (some (.builtin "object.__ne__"))) && (He.propB K (He.ga K "House") "noises" && (He.okP K (He.rp K "property" (He.ga K "House") "noises") d_House_noises && true))))))))
theorem EX0 {K : PySem.W.Frag} (h : ex K = true) : (Hb.anyTy.all fun t => decide (PySem.W.kitOne K (.type t) (.ref (He.ga K "House")) = some false)) = true := (He.ba h).1
theorem EX1 {K : PySem.W.Frag} (h : ex K = true) : He.eqO (PySem.W.findIn K (.ref (He.ga K "House")) "__class__") (some (some (.builtin "object.__class__"))) = true := (He.ba (He.ba h).2).1
theorem EX2 {K : PySem.W.Frag} (h : ex K = true) : He.eqO (PySem.W.specialIn K (.builtin "object.__class__") "__get__") (some (some (.builtin "getset_descriptor.__get__"))) = true := (He.ba (He.ba (He.ba h).2).2).1
theorem EX3 {K : PySem.W.Frag} (h : ex K = true) : decide (PySem.W.takesIn K (.builtin "object.__class__") = some true) = true := (He.ba (He.ba (He.ba (He.ba h).2).2).2).1
theorem EX4 {K : PySem.W.Frag} (h : ex K = true) : decide (PySem.W.mroIn K (He.ga K "House") (.type "object") = some true) = true := (He.ba (He.ba (He.ba (He.ba (He.ba h).2).2).2).2).1
theorem EX5 {K : PySem.W.Frag} (h : ex K = true) : He.eqO (PySem.W.findIn K (.ref (He.ga K "House")) "__ne__") (some (some (.builtin "object.__ne__"))) = true := (He.ba (He.ba (He.ba (He.ba (He.ba (He.ba h).2).2).2).2).2).1
theorem EX6 {K : PySem.W.Frag} (h : ex K = true) : He.propB K (He.ga K "House") "noises" = true := (He.ba (He.ba (He.ba (He.ba (He.ba (He.ba (He.ba h).2).2).2).2).2).2).1
theorem EX7 {K : PySem.W.Frag} (h : ex K = true) : He.okP K (He.rp K "property" (He.ga K "House") "noises") d_House_noises = true := (He.ba (He.ba (He.ba (He.ba (He.ba (He.ba (He.ba (He.ba h).2).2).2).2).2).2).2).1
abbrev R : PySem.W.OpenRow := PySem.W.OpenLaw.row PySem.Challenge.rw_hushsteps_k06_noises_that_are_mended
def fp : List He.Dp := [(fun K => He.rp K "property" (He.ga K "House") "noises", d_House_noises)]
abbrev hk : PySem.W.Hook := He.hookY 7 fa fn ex fp
def ob (s : PySem.W.SharedT) : He.AlY := He.obsY 7 fa fn ex fp (HandSHeadRun.getT s)
theorem ob_eq (s : PySem.W.SharedT) : ob s = hk.obs s.abs := He.obsY_eq (HandSHeadRun.getT_eq s)
def names : List PySem.Str := (["HushError", "InvalidHouse", "InvalidText", "DIGITS", "LETTERS", "is_whole", "is_positive", "is_name", "is_row", "is_tuple_of", "are_unlike", "is_numeral"] : List PySem.Str) ++ (["FOLLOWING", "is_room", "is_door", "is_floor", "are_doors", "are_floors", "are_cradles", "door_line", "read_door", "read_floor", "are_numerals", "has_form"] : List PySem.Str) ++ (["wrong_line", "House", "_law_deal", "_law_draw", "_law_pick", "_law_mixed", "_law_words", "_law_drawn_house", "_law_house_of"] : List PySem.Str)
theorem run (w : World) : HandSHeadRun.RunEq R (PySem.W.view R.prog [37]) hk ob 6000 names w :=
  PySem.W.byRow2 "special-get-raises" (P := fun w => HandSHeadRun.RunEq R (PySem.W.view R.prog [37]) hk ob 6000 names w) (fun w => by
  intro os
  kernel_rfl) (fun w => by
  intro os
  kernel_rfl) w
section
variable {P : Program} {w : World} {K : PySem.W.Frag} {h : Heap} {mg : Str → Option Value}
theorem tx_of (X : K.In h) (G : h.Ns mainGlobals mg) (cd : He.SaysD fa fn K) (cx : ex K = true) : Tx K mg :=
  ⟨He.free_ok X G (cd.fact 23 rfl),
   He.free_ok X G (cd.fact 24 rfl),
   He.free_ok X G (cd.fact 25 rfl),
   He.free_ok X G (cd.fact 26 rfl),
   He.free_ok X G (cd.fact 27 rfl),
   He.free_ok X G (cd.fact 28 rfl),
   He.free_ok X G (cd.fact 29 rfl),
   He.free_ok X G (cd.fact 30 rfl),
   He.free_ok X G (cd.fact 31 rfl),
   He.free_ok X G (cd.fact 32 rfl),
   He.free_ok X G (cd.fact 33 rfl),
   He.free_ok X G (cd.fact 34 rfl),
   He.free_ok X G (cd.fact 35 rfl),
   He.free_ok X G (cd.fact 36 rfl),
   He.free_ok X G (cd.fact 37 rfl),
   He.str_ok X G (cd.fact 38 rfl),
   He.glo_ok X G (cd.fact 39 rfl),
   fun t ht => of_decide_eq_true (List.all_eq_true.mp (EX0 cx) t ht),
   He.eqO_ok (EX1 cx),
   He.eqO_ok (EX2 cx),
   of_decide_eq_true (EX3 cx),
   of_decide_eq_true (EX4 cx),
   He.eqO_ok (EX5 cx),
   He.cls_ok (cd.fact 40 rfl),
   He.noat_ok (cd.fact 41 rfl),
   He.noat_ok (cd.fact 42 rfl),
   He.noat_ok (cd.fact 43 rfl),
   He.noat_ok (cd.fact 44 rfl)⟩
theorem df_is_whole (X : K.In h) (G : h.Ns mainGlobals mg) (cd : He.SaysD fa fn K) : Df K mg "is_whole" s_is_whole := by
  obtain ⟨fd, F⟩ := cd.def_ 0 (d := d_is_whole) rfl
  exact ⟨fd, F, He.glo_ok X G (cd.fact 3 rfl)⟩
theorem df_is_positive (X : K.In h) (G : h.Ns mainGlobals mg) (cd : He.SaysD fa fn K) : Df K mg "is_positive" s_is_positive := by
  obtain ⟨fd, F⟩ := cd.def_ 1 (d := d_is_positive) rfl
  exact ⟨fd, F, He.glo_ok X G (cd.fact 4 rfl)⟩
theorem df_is_name (X : K.In h) (G : h.Ns mainGlobals mg) (cd : He.SaysD fa fn K) : Df K mg "is_name" s_is_name := by
  obtain ⟨fd, F⟩ := cd.def_ 2 (d := d_is_name) rfl
  exact ⟨fd, F, He.glo_ok X G (cd.fact 5 rfl)⟩
theorem df_is_row (X : K.In h) (G : h.Ns mainGlobals mg) (cd : He.SaysD fa fn K) : Df K mg "is_row" s_is_row := by
  obtain ⟨fd, F⟩ := cd.def_ 3 (d := d_is_row) rfl
  exact ⟨fd, F, He.glo_ok X G (cd.fact 6 rfl)⟩
theorem df_is_tuple_of (X : K.In h) (G : h.Ns mainGlobals mg) (cd : He.SaysD fa fn K) : Df K mg "is_tuple_of" s_is_tuple_of := by
  obtain ⟨fd, F⟩ := cd.def_ 4 (d := d_is_tuple_of) rfl
  exact ⟨fd, F, He.glo_ok X G (cd.fact 7 rfl)⟩
theorem df_are_unlike (X : K.In h) (G : h.Ns mainGlobals mg) (cd : He.SaysD fa fn K) : Df K mg "are_unlike" s_are_unlike := by
  obtain ⟨fd, F⟩ := cd.def_ 5 (d := d_are_unlike) rfl
  exact ⟨fd, F, He.glo_ok X G (cd.fact 8 rfl)⟩
theorem df_is_room (X : K.In h) (G : h.Ns mainGlobals mg) (cd : He.SaysD fa fn K) : Df K mg "is_room" s_is_room := by
  obtain ⟨fd, F⟩ := cd.def_ 6 (d := d_is_room) rfl
  exact ⟨fd, F, He.glo_ok X G (cd.fact 9 rfl)⟩
theorem df_is_door (X : K.In h) (G : h.Ns mainGlobals mg) (cd : He.SaysD fa fn K) : Df K mg "is_door" s_is_door := by
  obtain ⟨fd, F⟩ := cd.def_ 7 (d := d_is_door) rfl
  exact ⟨fd, F, He.glo_ok X G (cd.fact 10 rfl)⟩
theorem df_is_floor (X : K.In h) (G : h.Ns mainGlobals mg) (cd : He.SaysD fa fn K) : Df K mg "is_floor" s_is_floor := by
  obtain ⟨fd, F⟩ := cd.def_ 8 (d := d_is_floor) rfl
  exact ⟨fd, F, He.glo_ok X G (cd.fact 11 rfl)⟩
theorem df_are_doors (X : K.In h) (G : h.Ns mainGlobals mg) (cd : He.SaysD fa fn K) : Df K mg "are_doors" s_are_doors := by
  obtain ⟨fd, F⟩ := cd.def_ 9 (d := d_are_doors) rfl
  exact ⟨fd, F, He.glo_ok X G (cd.fact 12 rfl)⟩
theorem df_are_floors (X : K.In h) (G : h.Ns mainGlobals mg) (cd : He.SaysD fa fn K) : Df K mg "are_floors" s_are_floors := by
  obtain ⟨fd, F⟩ := cd.def_ 10 (d := d_are_floors) rfl
  exact ⟨fd, F, He.glo_ok X G (cd.fact 13 rfl)⟩
theorem df_are_cradles (X : K.In h) (G : h.Ns mainGlobals mg) (cd : He.SaysD fa fn K) : Df K mg "are_cradles" s_are_cradles := by
  obtain ⟨fd, F⟩ := cd.def_ 11 (d := d_are_cradles) rfl
  exact ⟨fd, F, He.glo_ok X G (cd.fact 14 rfl)⟩
theorem df_House_init (X : K.In h) (G : h.Ns mainGlobals mg) (cd : He.SaysD fa fn K) : Df1d K mg "House" "House.__init__" s_House_init 1 := by
  obtain ⟨fd, F⟩ := cd.def_ 12 (d := d_House_init) rfl
  exact ⟨He.mkr_ok (cd.fact 45 rfl), He.glo_ok X G (cd.fact 39 rfl), fd, _, rfl, F⟩
theorem df_House_eq (X : K.In h) (G : h.Ns mainGlobals mg) (cd : He.SaysD fa fn K) : Dm K "House" "__eq__" "House.__eq__" s_House_eq := ⟨He.meth_ok (cd.fact 0 rfl), cd.def_ 13 (d := d_House_eq) rfl⟩
theorem df_House_len (X : K.In h) (G : h.Ns mainGlobals mg) (cd : He.SaysD fa fn K) : Dm K "House" "__len__" "House.__len__" s_House_len := ⟨He.meth_ok (cd.fact 1 rfl), cd.def_ 14 (d := d_House_len) rfl⟩
theorem df_House_mended (X : K.In h) (G : h.Ns mainGlobals mg) (cd : He.SaysD fa fn K) : Dm K "House" "mended" "House.mended" s_House_mended := ⟨He.meth_ok (cd.fact 2 rfl), cd.def_ 15 (d := d_House_mended) rfl⟩
theorem df_House_noises (cx : ex K = true) (cp : fp.map (fun p => He.fnP K (p.1 K)) = fp.map fun p => p.2.val) : Dprop K "House" "noises" "House.noises" s_House_noises := ⟨He.prop_ok (EX6 cx), He.def_p cp 0 rfl (EX7 cx)⟩
theorem df_deal (X : K.In h) (G : h.Ns mainGlobals mg) (cd : He.SaysD fa fn K) : Df K mg "_law_deal" s_deal := by
  obtain ⟨fd, F⟩ := cd.def_ 16 (d := d_deal) rfl
  exact ⟨fd, F, He.glo_ok X G (cd.fact 15 rfl)⟩
theorem df_draw (X : K.In h) (G : h.Ns mainGlobals mg) (cd : He.SaysD fa fn K) : Df K mg "_law_draw" s_draw := by
  obtain ⟨fd, F⟩ := cd.def_ 17 (d := d_draw) rfl
  exact ⟨fd, F, He.glo_ok X G (cd.fact 16 rfl)⟩
theorem df_pick (X : K.In h) (G : h.Ns mainGlobals mg) (cd : He.SaysD fa fn K) : Df K mg "_law_pick" s_pick := by
  obtain ⟨fd, F⟩ := cd.def_ 18 (d := d_pick) rfl
  exact ⟨fd, F, He.glo_ok X G (cd.fact 17 rfl)⟩
theorem df_mixed (X : K.In h) (G : h.Ns mainGlobals mg) (cd : He.SaysD fa fn K) : Df K mg "_law_mixed" s_mixed := by
  obtain ⟨fd, F⟩ := cd.def_ 19 (d := d_mixed) rfl
  exact ⟨fd, F, He.glo_ok X G (cd.fact 18 rfl)⟩
theorem df_words (X : K.In h) (G : h.Ns mainGlobals mg) (cd : He.SaysD fa fn K) : Df K mg "_law_words" s_words := by
  obtain ⟨fd, F⟩ := cd.def_ 20 (d := d_words) rfl
  exact ⟨fd, F, He.glo_ok X G (cd.fact 19 rfl)⟩
theorem df_drawn_house (X : K.In h) (G : h.Ns mainGlobals mg) (cd : He.SaysD fa fn K) : Df K mg "_law_drawn_house" s_drawn_house := by
  obtain ⟨fd, F⟩ := cd.def_ 21 (d := d_drawn_house) rfl
  exact ⟨fd, F, He.glo_ok X G (cd.fact 20 rfl)⟩
theorem df_house_of (X : K.In h) (G : h.Ns mainGlobals mg) (cd : He.SaysD fa fn K) : Df K mg "_law_house_of" s_house_of := by
  obtain ⟨fd, F⟩ := cd.def_ 22 (d := d_house_of) rfl
  exact ⟨fd, F, He.glo_ok X G (cd.fact 21 rfl)⟩
theorem facts {f : Addr} (X : K.In h) (G : h.Ns mainGlobals mg) (hfa : mg ("law" : Str) = some (.ref f)) (cd : He.SaysD fa fn K) (cx : ex K = true) (cp : fp.map (fun p => He.fnP K (p.1 K)) = fp.map fun p => p.2.val) :
    ∃ fd : FuncData, FunD K "law" "law" (defArgs s_law) (defBody s_law) (defScope s_law) [] [] f fd ∧ (∀ (s : Shared) (v : Value), BindsTo s fd ⟨[v], []⟩ [("_law_script", v)]) ∧ BodyG P w K mg N_law (defScope s_law) (defBody s_law) 8 63 := by
  obtain ⟨fd, F⟩ := cd.def_ 23 (d := d_law) rfl
  have T := tx_of X G cd cx
  have e := hfa.symm.trans (He.glo_ok X G (cd.fact 22 rfl))
  cases e
  have b := FunD.bindsA (ps := ["_law_script"]) F bd_law
  refine ⟨fd, F, fun s v => b s [v] rfl, fun base f a cdv s H ns few hS hr => ?_⟩
  have c_draw := c_draw (P := P) (w := w) (base := base) (df_draw X G cd) T
  have c_pick := c_pick (df_pick X G cd) T c_draw
  have c_mixed := c_mixed (df_mixed X G cd) T c_draw
  have c_words := c_words (df_words X G cd) T c_mixed
  have c_deal := c_deal (P := P) (w := w) (base := base) (df_deal X G cd) T
  have c_is_whole := c_is_whole (P := P) (w := w) (base := base) (df_is_whole X G cd) T
  have c_is_positive := c_is_positive (df_is_positive X G cd) T c_is_whole
  have c_is_name := c_is_name (P := P) (w := w) (base := base) (df_is_name X G cd) T
  have c_is_row := c_is_row (P := P) (w := w) (base := base) (df_is_row X G cd) T
  have c_is_tuple_of := c_is_tuple_of (P := P) (w := w) (base := base) (df_is_tuple_of X G cd) T
  have c_are_unlike := c_are_unlike (P := P) (w := w) (base := base) (df_are_unlike X G cd) T
  have c_is_room := c_is_room (df_is_room X G cd) T c_is_whole
  have c_is_door := c_is_door (df_is_door X G cd) T c_is_tuple_of c_is_room c_is_name
  have c_is_floor := c_is_floor (df_is_floor X G cd) T c_is_tuple_of c_is_room c_is_name
  have c_are_doors := c_are_doors (df_are_doors X G cd) T c_is_row c_is_door
  have c_are_floors := c_are_floors (df_are_floors X G cd) T c_is_row c_is_floor c_are_unlike
  have c_are_cradles := c_are_cradles (df_are_cradles X G cd) T c_is_row c_is_room c_are_unlike
  have c_mk := m_House_mk (df_House_init X G cd) T c_is_positive c_are_doors c_are_floors c_are_cradles
  have c_house_of := c_house_of (df_house_of X G cd) T c_mk
  have c_drawn_house := c_drawn_house (df_drawn_house X G cd) T c_draw c_pick c_mixed
  have c_eq := eqOf_ (P := P) (w := w) (mg := mg) (base := base) (df_House_eq X G cd) bd_House_eq fun F => ok_eq F T
  have c_mended := met_ (P := P) (w := w) (mg := mg) (base := base) (df_House_mended X G cd) T.cls bd_House_mended fun F => ok_mended F T c_mk
  have c_len := lenOf_ (P := P) (w := w) (mg := mg) (base := base) (df_House_len X G cd) bd_House_len fun F => ok_len F T
  have c_noises := getOf_ (P := P) (w := w) (mg := mg) (base := base) (df_House_noises cx cp) bd_House_noises fun F => ok_noises F T
  exact ok_law T c_deal c_words c_drawn_house c_draw c_mixed c_house_of c_mended c_eq c_len c_noises f a cdv s H ns few hS hr
end
end Lw
open PySem PySem.W PySem.Calls PyProof.Rows
theorem PySem.Challenge.cw_hushsteps_k06_noises_that_are_mended_holds : PySem.Challenge.rw_hushsteps_k06_noises_that_are_mended.Holds := by
  w_on; o_law
  refine HandSHeadRun.head_any (r := OpenLaw.row PySem.Challenge.rw_hushsteps_k06_noises_that_are_mended) (q := view (OpenLaw.row PySem.Challenge.rw_hushsteps_k06_noises_that_are_mended).prog [37]) (H := Lw.hk) (ob := Lw.ob) (M := 6000) (loose := Lw.names) (d := HandSHeadRun.topDef (OpenLaw.row PySem.Challenge.rw_hushsteps_k06_noises_that_are_mended).prog 37) (kwd := []) Lw.ob_eq
    (by kernel_rfl) (fun s => by kernel_rfl) Lw.run (by kernel_rfl) (by kernel_rfl) (by kernel_rfl) (by rfl) (by first | assumption | decide +kernel) (by decide +kernel) ⟨rfl, rfl, rfl, rfl, rfl, by decide +kernel⟩ ?hw ?hc
  case hw => w_witness2
  case hc =>
    refine Hb.walk_ofG (l := PySem.Challenge.rw_hushsteps_k06_noises_that_are_mended) (n := 63) (k := 8) (x := "_law_script") rfl (by decide) (by kernel_rfl) ⟨rfl, by decide, by decide⟩ ?F
    intro w mg fa h Y G hmg0
    obtain ⟨K, KX, c⟩ := Y
    have hmg : mg ("law" : PySem.Str) = some (.ref fa) := by
      have e : (HandSHeadRun.topDef (OpenLaw.row PySem.Challenge.rw_hushsteps_k06_noises_that_are_mended).prog 37).name = ("law" : PySem.Str) := by kernel_rfl
      rw [← e]
      exact hmg0
    obtain ⟨fd, hF, hb, hB⟩ := Lw.facts (P := (PySem.Challenge.rw_hushsteps_k06_noises_that_are_mended).prog) (w := w) KX G hmg c.x.t.d c.x.more c.p
    exact ⟨K, fd, _, _, _, _, KX, hF, Lw.sc_law, hb, hB⟩
