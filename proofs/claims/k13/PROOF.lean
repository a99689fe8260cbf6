import PyProof.Rows.All
import Wide.All
import OpenK.AllK
import Wide.FinOn
import HandS.ForMost
import HandS.Strs
import HandS.Zip
import KE.SortData
import HandS.Codes
import HandS.Defaults
import HandS.IsInst
import HandS.Deep
import HandS.Style
import HandS.TupAny
import HandS.RaiseMore
import HandS.HeadHook1
import HandS.HeadHook2
import HandS.Walk
import KE.SortLaws
import HandS.SetFor
import HandS.Conv
import HandS.OwnEq
import HandS.SlotsOwn
import HandS.More
import PyProof.InstNe
import PyProof.CallStr
import HandS.Set
import HandS.Property
import HandS.HeadHook3
import HandS.HeadHook4
import HandS.ClsMeth
import PyProof.Rows.StrMeet
import PyProof.Rows.SortStr
import KE.GoesMore
import HandS.Ends
import HandS.HeadEnd
import PyProof.ReprRoads
import HandS.FStr
import HandS.Text
import HandS.Head0
import Wide.Once
import HandS.Head1
import HandS.Head2
import PySem.Challenge.RW_hushsteps_k13_walks_made
set_option Elab.async false
set_option linter.all false
set_option maxRecDepth 100000
set_option maxHeartbeats 4000000
/-! Sets of unlike texts told by their length; sorted lists of pairs of texts. -/
namespace Hb
open PySem PySem.Spec PyProof.Rows L2

theorem grown_text (xs : List Str) (nd : xs.Nodup) {i : Nat} (hi : i < xs.length) : ((xs.take i).any (· == xs.getD i Str.empty)) = false := by
  have e1 : xs.getD i Str.empty = xs[i] := by rw [List.getD_eq_getElem?_getD, List.getElem?_eq_getElem hi] <;> rfl
  rw [e1, Bool.eq_false_iff]
  intro hb
  obtain ⟨y, hy, ey⟩ := List.any_eq_true.mp hb
  rw [eq_of_beq ey] at hy
  obtain ⟨j, hj, ej⟩ := List.mem_iff_getElem.mp hy
  rw [List.length_take] at hj
  rw [List.getElem_take] at ej
  exact absurd ej (List.pairwise_iff_getElem.mp nd j i (by omega) hi (by omega))
theorem more_text (xs : List Str) {i : Nat} (hi : i < xs.length) : xs.take (i + 1) = xs.take i ++ [xs.getD i Str.empty] := by
  have e1 : xs.getD i Str.empty = xs[i] := by rw [List.getD_eq_getElem?_getD, List.getElem?_eq_getElem hi] <;> rfl
  rw [e1, List.take_add_one, List.getElem?_eq_getElem hi] <;> rfl

section
variable {prog : Program} {w : World} {A : Around} {R : Result → Shared → Prop} {I : Addr} {fp wr : List Addr} {G : Array GenState → Array GenState → Prop} {n : Nat} {P : Nat → Value → Prop} {Z : Nat → Shared → Prop}
/-- the turns of set.update over unlike texts -/
theorem turns_text (W : WalksS prog w A.in1 I fp wr G n P Z) (S : Addr) (apart : S ∉ fp) (xs : List Str) (len : xs.length = n) (nd : xs.Nodup) (few : n + 1 < scanBound)
    (told : ∀ i v, P i v → ∃ t, v = .str (xs.getD i Str.empty) t) : ∀ (left i : Nat) (s : Shared), n - i = left → i ≤ n → Z i s →
      s.heap.SetOf (PySem.strKind prog w) S (fun z => (xs.take i).any (· == z)) i →
      (∀ s', Moved (S :: wr) G s s' → s'.heap.SetOf (PySem.strKind prog w) S (fun z => (xs.take n).any (· == z)) n → R (.ok (.ret .none)) s') →
      codeAny (model prog w) A (.builtin "set.update.loop" ⟨[.ref S, .ref I], []⟩) R s := by
  have nwr : S ∉ wr := fun h => apart (W.sub _ h)
  have up : ∀ b ∈ wr, b ∈ S :: wr := fun b hb => List.mem_cons_of_mem _ hb
  intro left
  induction left with
  | zero =>
    intro i s hk hi hst hS hR
    obtain rfl : i = n := by omega
    refine codeAny_builtin PyProof.Rows.F.entry_set_update_loop (by
      rw [Around.under_plainId PyProof.Rows.F.plain_set_update_loop _]; show wpAny _ A.in1 (pyNext (.ref I) >>= _) _ _ s
      refine wpAny_bind (W.done s _ _ hst fun s' hm => ?_); show wpAny _ A.in1 (ret Value.none) _ _ s'
      refine wpAny_pure (hR s' (hm.mono up) ?_); obtain ⟨o, es, ep, t, ho, rest⟩ := hS; exact ⟨o, es, ep, t, hm.heap S _ nwr ho, rest⟩)
  | succ left ih =>
    intro i s hk hi hst hS hR
    have lt : i < n := by omega
    have lt2 : i < xs.length := by omega
    refine codeAny_builtin PyProof.Rows.F.entry_set_update_loop (by
      rw [Around.under_plainId PyProof.Rows.F.plain_set_update_loop _]; show wpAny _ A.in1 (pyNext (.ref I) >>= _) _ _ s
      refine wpAny_bind (W.item i s _ _ lt hst fun v s' hP hst' hm => ?_)
      obtain ⟨t, rfl⟩ := told i v hP
      have hS' : s'.heap.SetOf (PySem.strKind prog w) S (fun z => (xs.take i).any (· == z)) i := by
        obtain ⟨o, es, ep, tb, ho, rest⟩ := hS; exact ⟨o, es, ep, tb, hm.heap S _ nwr ho, rest⟩
      show wpAny _ A.in1 (holding [Value.str (xs.getD i Str.empty) t] (setAdd S (.str (xs.getD i Str.empty) t)) >>= _) _ _ s'
      refine wpAny_bind (wpAny_holding ?_); unfold setAdd
      refine wpAny_holding (wpAny_bind ((PySem.strKind prog w).pyHash (k := xs.getD i Str.empty) (strKind_is _ _ _ _) ?_))
      refine wpAny_setAddHashed_of (knd := PySem.strKind prog w) (s := { s' with toks := s'.toks + 1 }) (strKind_is prog w _ _) rfl hS' (by omega) fun h' same hS2 => ?_
      have hS3 : h'.SetOf (PySem.strKind prog w) S (fun z => (xs.take (i + 1)).any (· == z)) (i + 1) := PyProof.Rows.SetOf_congr hS2 (fun z => by
        rw [more_text xs lt2, List.any_append]
        by_cases e : z = xs.getD i Str.empty
        · subst e; simp
        · have q : (xs.getD i Str.empty == z) = false := beq_eq_false_iff_ne.mpr fun h => e h.symm
          simp only [List.any_cons, List.any_nil, q, Bool.or_false, e, decide_false]) (by rw [if_neg (by rw [grown_text xs nd lt2]; decide)])
      refine wpAny_pure ⟨plainId_quiet PyProof.Rows.F.plain_set_update_loop _, ih (i + 1) _ (by omega) lt (W.frame _ s' _ _ hst' (Nat.le_succ _) fun b hb o e => ?_) hS3 fun s'' hm2 hS4 => ?_⟩
      · rw [same.2 b (fun h : b = S => apart (h ▸ hb))]; exact e
      · refine hR s'' (Moved.trans W.gtrans ((hm.mono up).then_heap (Nat.le_succ _) fun b o hb e => ?_) hm2) hS4
        rw [same.2 b (fun h : b = S => hb (by rw [h]; exact List.mem_cons_self))]; exact e)
end
end Hb
set_option Elab.async false
set_option linter.all false
set_option maxRecDepth 100000
set_option maxHeartbeats 8000000
namespace Hb
open PySem PySem.Spec PyProof.Rows L2
section
variable {prog : Program} {w : World} {A : Around} {E : Value → Shared → Prop} {s : Shared}
/-- the new empty set, as the model makes it -/
abbrev bareSet (led : Bool) : Obj := { cls := .type "set", dict := none, data := .set #[] 0 (.fresh 0 0 led) }
/-- set(xs) of a list of unlike texts -/
theorem set_texts {l : Addr} {its : Array Value} {xs : List Str} {Q : Value → Shared → Prop} (calm : A.handled = none) (at_ : s.heap.IsList l its) (are : StrsAre its.toList xs) (nd : xs.Nodup) (few : xs.length + 1 < scanBound)
    (k : ∀ (h' : Heap) (tk : Nat), h'.SetOf (PySem.strKind prog w) s.heap.objs.size (fun z => (xs.take xs.length).any (· == z)) xs.length → (∀ b o, s.heap.get? b = some o → h'.get? b = some o) → Q (.ref s.heap.objs.size) { s with heap := h', toks := tk }) :
    wpAny (model prog w) A (call (.type "set") [.ref l]) Q E s := by
  have size : its.size = xs.length := by have q := are.length; rw [Array.length_toList] at q; exact q
  obtain ⟨c, tl, mro⟩ := F.called_set.mro
  have f1 := F.called_set.made; have f2 := F.called_set.sub; have f3 := F.called_set.notType; have f4 := F.called_set.canCreate; have f5 := F.typeCall_set_1 (.ref l)
  refine wpAny_call (codeAny_of_tree (by
    show wpAny _ _ (callAny (.type "set") _) _ _ _
    refine wpAny_pure ⟨Code.quiet_builtin _ (by decide +kernel), codeAny_builtin F.entry_type_call ?_⟩
    rw [Around.under_plain (weight_type_call_type "set" [.ref l] []) rfl]
    repeat (any_goals (first | assumption | wp_step))
    refine codeAny_mono (code_set_new_1 (.ref l) (E := E) (Q₁ := fun v z => ∃ led : Bool, v = .ref s.heap.objs.size ∧ z = { s with heap := s.heap.push (bareSet led) }) fun led => ⟨led, rfl, rfl⟩) fun r z hr => ?_
    match r, hr with
    | .error e, hr => exact hr
    | .ok .next, hr => exact hr.elim
    | .ok .brk, hr => exact hr.elim
    | .ok .cont, hr => exact hr.elim
    | .ok (.ret v), ⟨led, e1, e2⟩ =>
      subst e1 e2
      have mine : (s.heap.push (bareSet led)).get? s.heap.objs.size = some (bareSet led) := Heap.get?_push_size _ rfl
      have kind : Shared.TypeIs { s with heap := s.heap.push (bareSet led) } (.ref s.heap.objs.size) "set" := ⟨_, mine, rfl⟩
      have f6 := F.called_set.init.lookup; have f7 := F.called_set.init.bind (.ref s.heap.objs.size)
      repeat (any_goals (first | assumption | wp_step))
      refine codeAny_mono (codeAny_call_builtin (R := wants (fun r z => r = .none ∧ ∃ h' tk, z = { s with heap := h', toks := tk } ∧
        h'.SetOf (PySem.strKind prog w) s.heap.objs.size (fun z => (xs.take xs.length).any (· == z)) xs.length ∧ ∀ b o, s.heap.get? b = some o → h'.get? b = some o) E) F.called_set.init.plain F.entry_set_init (check_set_init_1 kind ?_)) fun r2 z2 hr2 => ?_
      · obtain ⟨⟨ocls, odict, odata, oslots⟩, ho, hc, nl, hd⟩ := at_
        simp only at hc hd; subst hc hd
        have ho2 : (s.heap.push (bareSet led)).get? l = some { cls := .type "list", dict := odict, data := .seq its nl, slots := oslots } := Heap.get?_push_of_some _ ho
        have g1 := F.sub_list_set; have g2 := F.sub_list_frozenset; have g3 : (Value.type "list" == Value.type "dict") = false := by decide
        have ml : (s.heap.push (bareSet led)).IsList l its := ⟨_, ho2, rfl, nl, rfl⟩
        unfold Builtin.«set.__init__» noKeywords Builtin.Frozenset.updateFrom
        generalize hI : pyIter = It
        wp_walk
        subst hI
        have lo : l < s.heap.objs.size := Heap.lt_size ho
        have far : l ≠ (s.heap.push (bareSet led)).objs.size := by rw [Heap.size_push]; exact Nat.ne_of_lt (Nat.lt_succ_of_lt lo)
        refine wpAny_pyIter_list ml (wpAny_bind (wpAny_runValue (turns_text ((Walks.list (by simp [calm]) _ l far its).toS) s.heap.objs.size (by
            rw [Heap.size_push]; simp only [List.mem_cons, List.not_mem_nil, or_false, not_or]
            exact ⟨Nat.ne_of_lt (Nat.lt_succ_self _), Nat.ne_of_gt lo⟩) xs size.symm nd (by omega) (fun i v hv => SS.strs_at are i v (by rw [Array.getElem?_toList]; exact hv)) (its.size - 0) 0 _ (by omega) (Nat.zero_le _)
          ⟨⟨_, Heap.get?_push_size _ rfl, rfl, rfl⟩, (ml.push _)⟩ ?zer ?fin1)))
        case zer =>
          have e0 : ((s.heap.push (bareSet led)).push { cls := .type "list_iterator", data := .fields #[.ref l, .int 0 0] }).get? s.heap.objs.size = some (bareSet led) := Heap.get?_push_of_some _ mine
          exact SetOf_congr ((setObjOf_fresh (knd := PySem.strKind prog w) led).setOf e0 (by unfold scanBound; omega)) (fun _ => rfl) rfl
        case fin1 =>
          rintro ⟨h', g', d', tk', os'⟩ hm hS
          obtain rfl : g' = s.gens := hm.gens
          obtain rfl : d' = s.drawn := hm.drawn
          obtain rfl : os' = s.os := hm.os
          show wpAny _ _ _ _ _ _
          refine wpAny_pure (by
            show wpAny _ _ (ret Value.none) _ _ _
            rw [size] at hS
            refine wpAny_pure ⟨rfl, h', tk', rfl, hS, fun b o e => hm.heap b o ?_ (Heap.get?_push_of_some _ (Heap.get?_push_of_some _ e))⟩
            have lb := Heap.lt_size e
            rw [Heap.size_push]; simp only [List.mem_cons, List.not_mem_nil, or_false, not_or]
            exact ⟨Nat.ne_of_lt lb, Nat.ne_of_lt (Nat.lt_succ_of_lt lb)⟩)
      · match r2, hr2 with
        | .error e, h => exact h
        | .ok .next, h => exact h.elim
        | .ok .brk, h => exact h.elim
        | .ok .cont, h => exact h.elim
        | .ok (.ret v), ⟨e1, h', tk, e2, hS, hk⟩ =>
          subst e1 e2
          repeat (any_goals (first | assumption | wp_step))
          exact k _ _ hS hk))
end
end Hb
namespace Hb
open PySem PySem.Spec PyProof.Rows L2
/-- len(set(xs)), xs a list of unlike texts, or of unlike ints -/
def tLenSet2 (K : PySem.W.Frag) (ta : TE) : TE := fun σ H Q => ta σ H fun x H1 => ∃ l : Addr, x = .ref l ∧
  ((∃ xs : List Str, SqL K H1 l (xs.map V.str) ∧ xs.Nodup ∧ xs.length ≤ 4000 ∧ Q (.int xs.length) H1) ∨ ∃ ns : List Int, SqL K H1 l (ns.map V.int) ∧ ns.Nodup ∧ ns.length ≤ 4000 ∧ Q (.int ns.length) H1)
theorem pe_lenSet2 {X : Cx} {a : Expr} {ta : TE} {p p2 q pos : Pos} (hg : Gl X "len") (hm : X.mg "len" = none) (hg2 : Gl X "set") (hm2 : X.mg "set" = none) (ha : PE X a ta) (calm : X.calm = true := by rfl)
    (na : starEach [a] X.env = (false, eval a X.env) :: starEach [] X.env := by rfl) : PE X (.Call (.Name "len" p) [.Call (.Name "set" p2) [a] [] q] [] pos) (tLenSet2 X.K ta) := by
  refine ⟨fun pins s σ H Q I h => Call_ (ld_blt I hg hm boot_len (callWith_builtin1 (args_cons (Call_ (ld_blt I hg2 hm2 boot_set
    (callWith_type1 (args_cons (thn (ha.run pins s σ H _ I h) fun v z ⟨x, H1, J, r, q⟩ => args_nil ?_) na) na rfl))) rfl) rfl rfl))⟩
  obtain ⟨l, rfl, q⟩ := q
  cases r
  have fin : ∀ (n : Nat) (h' : Heap) (tk : Nat) (κ : Type) (i1 : DecidableEq κ) (i2 : BEq κ) (i3 : LawfulBEq κ) (kd : KeyKind X.prog X.w κ) (S : κ → Bool), n ≤ 4000 → h'.SetOf kd z.heap.objs.size S n → (∀ b o, z.heap.get? b = some o → h'.get? b = some o) → Q (.int n) H1 →
      wpAny (model X.prog X.w) X.A (spliced (backTo pos (starEach [] X.env))) (fun vs y => wpAny (model X.prog X.w) X.A (call (.builtin "len") (Value.ref z.heap.objs.size :: vs)) (EP X pins σ Q) X.xe y) X.xe { z with heap := h', toks := tk } := by
    intro n h' tk κ i1 i2 i3 kd S hn hS hk q
    refine args_nil ?_
    obtain ⟨o, es, ep, t, ho, hex, hd, _, _, _, hf, e⟩ := hS
    have J2 : Inv X pins σ H1 { z with heap := h', toks := tk } := J.kept hk
    exact call_len_set ho hex hd hf (by rw [e] <;> omega) ⟨.int n, H1, J2.tok _, ⟨_, by rw [e]⟩, q⟩
  rcases q with ⟨xs, hq, nd, few, q⟩ | ⟨ns, hq, nd, few, q⟩
  · obtain ⟨its, r, pl, hz⟩ := J.list hq
    exact set_texts (J.ok.hd calm) pl.isList (by simpa using strsAre_of r) nd (by unfold scanBound; omega) fun h' tk hS hk => fin _ h' tk _ inferInstance inferInstance inferInstance _ _ few hS hk q
  · obtain ⟨its, r, pl, hz⟩ := J.list hq
    have size : its.toArray.size = ns.length := by rw [List.size_toArray, ← r.length, List.length_map]
    refine call_set_list (J.ok.hd calm) pl.isList (by simpa using RZ.intsAre_vals r) (by rw [size]; unfold scanBound; omega) fun h' tk hS hk => ?_
    rw [size, RZ.firstMet_nodup nd ns.length (Nat.le_refl _)] at hS
    rw [List.take_length] at hS
    exact fin _ h' tk _ inferInstance inferInstance inferInstance _ _ few hS (fun b o e => hk b o (Heap.lt_size e) e) q
end Hb
set_option Elab.async false
set_option linter.all false
set_option maxRecDepth 100000
set_option maxHeartbeats 8000000
namespace Hb
open PySem PySem.Spec PyProof.Rows L2
section
variable {prog : Program} {w : World} {A : Around} {E : Value → Shared → Prop} {s : Shared}
/-- what it holds, taken into a list that nobody keeps: the heap behind it, exactly -/
theorem taken {Q : List Value → Shared → Prop} (it : Addr) {T : String} {o : Obj} {vs : List Value} {n : Nat} (hT : T = "list" ∨ T = "tuple") (ho : s.heap.get? it = some o) (hc : o.cls = .type T) (hd : o.data = .seq vs.toArray n) (hL : vs.length ≤ sizeLine)
    (k : Q vs { s with heap := (s.heap.push (seqObj "list" #[] 0)).update s.heap.objs.size (Obj.mapSeq (· ++ vs.toArray)) }) : wpAny (model prog w) A (collect (.ref it)) Q E s := by
  have e1 : (s.heap.push (seqObj "list" #[] 0)).get? s.heap.objs.size = some { cls := .type "list", data := .seq #[] 0 } := Heap.get?_push_size _ rfl
  have e2 := Heap.get?_update_self (Obj.mapSeq (· ++ vs.toArray)) e1 rfl
  have last : wpAny (model prog w) A (match Value.ref s.heap.objs.size with
      | Value.ref a => (do match (← load a).data with
          | Data.seq xs _ => pure xs.toList
          | _ => unsupported "internal:collect")
      | _ => unsupported "internal:collect") Q E { s with heap := (s.heap.push (seqObj "list" #[] 0)).update s.heap.objs.size (Obj.mapSeq (· ++ vs.toArray)) } := by
    show wpAny _ A (load s.heap.objs.size >>= _) _ _ _
    refine wpAny_bind (wpAny_load e2 (wpAny_pure ?_)); show Q ((#[] : Array Value) ++ vs.toArray).toList _
    rw [show ((#[] : Array Value) ++ vs.toArray).toList = vs by simp]; exact k
  unfold collect
  refine wpAny_bind (wpAny_runValue (codeAny_builtin F.entry_proto_collect (by
    rw [Around.under_plainId F.plain_proto_collect _]; show wpAny _ A.in1 (newList [] >>= fun l => again (.builtin "list.__iadd__" ⟨[l, .ref it], []⟩)) _ _ s
    refine wpAny_bind (wpAny_newObj_type (wpAny_pure ⟨plainId_quiet F.plain_list_iadd _, codeAny_builtin F.entry_list_iadd (by
      rw [Around.under_plainId F.plain_list_iadd _]; show wpAny _ A.in1 (Builtin.List.listExtendWith (.ref s.heap.objs.size) (.ref it) (.ref s.heap.objs.size)) _ _ _
      refine wpAny_mono (wpAny_extend_seq (hsz := by rw [List.size_toArray]; exact hL) (A := A) (R := fun r z => r = .ok (.ret (.ref s.heap.objs.size)) ∧ z = { s with heap := (s.heap.push (seqObj "list" #[] 0)).update s.heap.objs.size (Obj.mapSeq (· ++ vs.toArray)) })
        (s := { s with heap := s.heap.push (seqObj "list" #[] 0) }) _ it _ 0 hT e1 (Heap.get?_push_of_some _ ho) hc hd ⟨rfl, rfl⟩) (fun f z h => ?_) (fun e z h => absurd h.1 (by simp))
      cases f with
      | done f => obtain ⟨e, rfl⟩ := h; cases e; exact last
      | again c => exact ⟨h.1, codeAny_mono h.2 fun r z2 hr => by obtain ⟨rfl, rfl⟩ := hr; exact last⟩)⟩)))))
/-- sorted(it) of a list or a tuple whose items read as data -/
theorem sorted_any {β : Type} {it : Addr} {T : String} {o : Obj} {vs : List Value} {n : Nat} {bs : List β} {enc : β → PyData} {R : Value → β → Prop} {Q : Value → Shared → Prop} (hT : T = "list" ∨ T = "tuple")
    (ho : s.heap.get? it = some o) (hc : o.cls = .type T) (hd : o.data = .seq vs.toArray n) (e : PySem.W.EachIs R vs bs) (er : PySem.W.EachIs (fun v b => ∃ as, Reads s.heap v (enc b) as) vs bs)
    (hal : PySem.W.AllAlike (bs.map enc)) (hk : PySem.W.Sortable (bs.map enc)) (hL : bs.length ≤ sizeLine) (hu : ∀ b, b ∈ bs → A.units + 2 + (enc b).depth < cLine)
    (k : ∀ (h' : Heap) (p : Addr) (out : List Value) (c : Nat), s.heap.objs.size ≤ p → (∀ b u, s.heap.get? b = some u → h'.get? b = some u) → h'.get? p = some (seqObj "list" out.toArray c) →
      PySem.W.EachIs R out (bs.mergeSort (PySem.W.dataLe false enc)) → Q (.ref p) { s with heap := h' }) :
    wpAny (model prog w) A (call (.builtin "sorted") [.ref it]) Q E s := by
  have len : vs.length = bs.length := e.length
  refine Calls.call_function_entry kind_sorted plain_sorted entry_sorted (args_sorted1 _) (by
    unfold Builtin.«sorted»
    refine wpAny_bind (m := checkCount "sorted" 1 1 _) (wpAny_pure (wpAny_bind (taken it hT ho hc hd (by rw [len]; exact hL) (wpAny_bind (wpAny_newList ?_ (by rw [len]; exact hL))))))
    have h1s : ((s.heap.push (seqObj "list" #[] 0)).update s.heap.objs.size (Obj.mapSeq (· ++ vs.toArray))).objs.size = s.heap.objs.size + 1 := by rw [Heap.size_update, size_push']
    have k1 : ∀ b u, s.heap.get? b = some u → ((s.heap.push (seqObj "list" #[] 0)).update s.heap.objs.size (Obj.mapSeq (· ++ vs.toArray))).get? b = some u := fun b u q =>
      (Heap.get?_update_other _ _ (Nat.ne_of_gt (Heap.lt_size q))).trans (Heap.get?_push_of_some _ q)
    show wpAny _ _ _ _ _ { s with heap := ((s.heap.push (seqObj "list" #[] 0)).update s.heap.objs.size (Obj.mapSeq (· ++ vs.toArray))).push (seqObj "list" vs.toArray 0) }
    generalize ((s.heap.push (seqObj "list" #[] 0)).update s.heap.objs.size (Obj.mapSeq (· ++ vs.toArray))) = h1 at h1s k1 ⊢
    have le1 : s.heap.objs.size ≤ h1.objs.size := by omega
    have at2 : (h1.push (seqObj "list" vs.toArray 0)).get? h1.objs.size = some (seqObj "list" vs.toArray 0) := Heap.get?_push_size _ rfl
    have k2 : ∀ b u, s.heap.get? b = some u → (PySem.W.sortingHeap (h1.push (seqObj "list" vs.toArray 0)) h1.objs.size vs).get? b = some u := fun b u q =>
      PySem.W.sortingHeap_old (Nat.ne_of_lt (Heap.lt_size (k1 b u q))) (Heap.get?_push_of_some _ (k1 b u q))
    have er2 : PySem.W.EachIs (fun v b => ∃ as, Reads (PySem.W.sortingHeap (h1.push (seqObj "list" vs.toArray 0)) h1.objs.size vs) v (enc b) as) vs bs := er.mono fun _ _ ⟨as, r⟩ => ⟨as, PyProof.Rows.Reads.keeps k2 r⟩
    obtain ⟨c, e2⟩ := sortedHeap_at (vs := vs) (out := (PySem.W.sortVals (PySem.W.dataKind (PySem.W.sortingHeap (h1.push (seqObj "list" vs.toArray 0)) h1.objs.size vs) (bs.map enc)) false vs vs).toArray) at2
    have k3 : ∀ b u, s.heap.get? b = some u → (sortedHeap (h1.push (seqObj "list" vs.toArray 0)) h1.objs.size vs (PySem.W.sortVals (PySem.W.dataKind (PySem.W.sortingHeap (h1.push (seqObj "list" vs.toArray 0)) h1.objs.size vs) (bs.map enc)) false vs vs).toArray).get? b = some u := fun b u q => by
      have q1 := k1 b u q
      have lt := Heap.lt_size q1
      rw [sortedHeap_old (Nat.ne_of_lt lt) (by rw [size_push']; exact Nat.lt_succ_of_lt lt)]
      exact Heap.get?_push_of_some _ q1
    refine wpAny_bind (wpAny_holding (wpAny_call_entry slot_list_sort ⟨_, at2, rfl⟩ entry_list_sort (PySem.W.list_sort_vals (s := { s with heap := h1.push (seqObj "list" vs.toArray 0) }) at2
      (PySem.W.SortsAt.data (s := { s with heap := PySem.W.sortingHeap (h1.push (seqObj "list" vs.toArray 0)) h1.objs.size vs }) (PySem.W.each_map (R := fun v d => ∃ as, Reads (PySem.W.sortingHeap (h1.push (seqObj "list" vs.toArray 0)) h1.objs.size vs) v d as) enc er2) hal hk (PySem.W.bound_map hu)) (by rw [len]; exact hL) ?_) (args_list_sort _)))
    refine ⟨_, rfl, wpAny_pure ⟨_, rfl, k _ h1.objs.size _ c le1 k3 e2 (PySem.W.sortVals_data false e er2 hal)⟩⟩)
end
end Hb
set_option Elab.async false
set_option linter.all false
set_option maxRecDepth 100000
set_option maxHeartbeats 8000000
namespace Hb
open PySem PySem.Spec PyProof.Rows L2
section
variable {X : Cx} {β : Type}
theorem each_of {R : Value → V × β → Prop} : ∀ {zs : List (V × β)} {us : List Value}, Vals (zs.map (·.1)) us → (∀ u z, z ∈ zs → RelV z.1 u → R u z) → PySem.W.EachIs R us zs
  | [], _, r, _ => by cases r; exact .nil
  | z :: zs, _, r, h => by
    cases r with
    | cons r1 r2 => exact .cons (h _ _ List.mem_cons_self r1) (each_of r2 fun u y m q => h u y (List.mem_cons_of_mem _ m) q)
theorem each_back : ∀ {us : List Value} {zs : List (V × β)}, PySem.W.EachIs (fun u (z : V × β) => RelV z.1 u) us zs → Vals (zs.map (·.1)) us
  | _, _, .nil => .nil
  | _, _, .cons h t => .cons h (each_back t)
/-- sorted(it), it a list or a tuple of data of one kind -/
def rSortedAny (K : PySem.W.Frag) (enc : β → PyData) : List V → Hp → VK → Prop := fun vs H Q => ∃ (a : Addr) (zs : List (V × β)), vs = [.ref a] ∧ (SqL K H a (zs.map (·.1)) ∨ SqT K H a (zs.map (·.1))) ∧
  (∀ z ∈ zs, Dp K H z.1 (enc z.2)) ∧ PySem.W.AllAlike (zs.map fun z => enc z.2) ∧ PySem.W.Sortable (zs.map fun z => enc z.2) ∧ (∀ z ∈ zs, (enc z.2).depth ≤ 60) ∧
  ∀ p, H p = none → Q (.ref p) (upd H p (.lst ((zs.mergeSort (PySem.W.dataLe false fun z => enc z.2)).map (·.1))))
theorem cr_sortedAny (enc : β → PyData) (hu : X.A.units + 64 < cLine) : CallR X (.builtin "sorted") (rSortedAny X.K enc) := by
  intro pins s σ H vs us Q I r h
  obtain ⟨a, zs, rfl, hq, hd, hal, hk, hz, q⟩ := h
  rw [Vals.ref1 r]
  have main : ∀ (T : String) (o : Obj) (its : List Value) (n : Nat), (T = "list" ∨ T = "tuple") → s.heap.get? a = some o → o.cls = .type T → o.data = .seq its.toArray n → Vals (zs.map (·.1)) its → (zs.map (·.1)).length ≤ sizeLine →
      wpAny (model X.prog X.w) X.A (call (.builtin "sorted") [.ref a]) (EP X pins σ Q) X.xe s := by
    intro T o its n hT ho hc hdt rv hL
    rw [List.length_map] at hL
    refine sorted_any (R := fun u (z : V × β) => RelV z.1 u) (enc := fun z => enc z.2) hT ho hc hdt (each_of rv fun u z _ q => q) (each_of rv fun u z m q => Dp.reads I _ _ _ (hd z m) q) hal hk hL (fun z m => by have := hz z m; omega) fun h' p out c hp kp at_ eo => ?_
    have lenO : (zs.mergeSort (PySem.W.dataLe false fun z => enc z.2)).length = zs.length := (List.mergeSort_perm _ _).length_eq
    exact ⟨.ref p, _, I.laid (t' := s.toks) kp hp (show ObjOk X.prog X.w _ h' p (.lst _) from ⟨by rw [List.length_map, lenO]; exact hL, out, c, each_back eo, at_⟩), rfl, q p (I.hok.fresh hp)⟩
  rcases hq with hq | hq
  · obtain ⟨its, rv, ⟨o, n, ho, hc, _, hdt⟩, hL⟩ := I.list hq
    exact main _ o its n (.inl rfl) ho hc hdt rv hL
  · obtain ⟨its, rv, ⟨o, ho, hc, n, hdt⟩, hL⟩ := I.tuple hq
    exact main _ o its n (.inr rfl) ho hc hdt rv hL
end
/-! ### pairs of texts -/
def encP (p : Str × Str) : PyData := .tuple [.str p.1, .str p.2]
theorem alike_P (p q : Str × Str) : PySem.W.alike (encP p) (encP q) = true := by simp [encP, PySem.W.alike, PySem.W.alikeAll]
theorem depth_P (p : Str × Str) : (encP p).depth ≤ 60 := by simp [encP, PyData.depth, PyData.depthAll]
end Hb
set_option Elab.async false
set_option linter.all false
set_option maxRecDepth 100000
set_option maxHeartbeats 4000000
namespace Hb
open PySem PySem.Spec PyProof.Rows L2
/-! ### what stays -/
/-- tuples, and what is locked, stay -/
structure TK (H H' : Hp) : Prop where
  t : ∀ b xs, H b = some (.tup xs) → H' b = some (.tup xs)
  z : ∀ b o u, H b = some (.frz o u) → H' b = some (.frz o u)
theorem TK.refl (H : Hp) : TK H H := ⟨fun _ _ h => h, fun _ _ _ h => h⟩
theorem TK.trans {H H1 H2 : Hp} (a : TK H H1) (b : TK H1 H2) : TK H H2 := ⟨fun c xs h => b.t c xs (a.t c xs h), fun c o u h => b.z c o u (a.z c o u h)⟩
theorem Same.tk {H H' : Hp} (s : Same H H') : TK H H' := ⟨fun b xs h => s b _ h, fun b o u h => s b _ h⟩
theorem Same.new {H : Hp} {p : Addr} {o : HO} (h : H p = none) : Same H (upd H p o) := fun b u e => by
  rw [upd_ne (ne_of_none e h)]
  exact e
theorem TK.put {H : Hp} {p : Addr} {o o' : HO} (h : H p = some o') (h1 : ∀ xs, o' ≠ .tup xs) (h2 : ∀ q u, o' ≠ .frz q u) : TK H (upd H p o) := by
  refine ⟨fun b xs e => ?_, fun b q u e => ?_⟩
  · rw [upd_ne (fun z => by rw [z, h] at e; exact h1 xs (Option.some.inj e))]
    exact e
  · rw [upd_ne (fun z => by rw [z, h] at e; exact h2 q u (Option.some.inj e))]
    exact e
section
variable {K : PySem.W.Frag} {H H' : Hp}
theorem SqT.keep (k : TK H H') {a : Addr} {xs : List V} (h : SqT K H a xs) : SqT K H' a xs := by
  rcases h with (h | ⟨o, h⟩) | h
  · exact .inl (.inl (k.t _ _ h))
  · exact .inl (.inr ⟨o, k.z _ _ _ h⟩)
  · exact .inr h
theorem SqL.keep (k : TK H H') {a : Addr} {xs : List V} (h : SqL K H a xs) (hl : H a = some (.lst xs) → H' a = some (.lst xs)) : SqL K H' a xs := by
  rcases h with (h | ⟨o, h⟩) | h
  · exact .inl (.inl (hl h))
  · exact .inl (.inr ⟨o, k.z _ _ _ h⟩)
  · exact .inr h
end
/-! ### data of tuples alone -/
mutual
inductive TD (K : PySem.W.Frag) (H : Hp) : V → PyData → Prop
  | non : TD K H .non .none
  | bl (b : Bool) : TD K H (.bl b) (.bool b)
  | int (i : Int) : TD K H (.int i) (.int i)
  | str (x : Str) : TD K H (.str x) (.str x)
  | tup {a : Addr} {xs : List V} {ds : List PyData} : SqT K H a xs → TDs K H xs ds → TD K H (.ref a) (.tuple ds)
inductive TDs (K : PySem.W.Frag) (H : Hp) : List V → List PyData → Prop
  | nil : TDs K H [] []
  | cons {v : V} {vs : List V} {d : PyData} {ds : List PyData} : TD K H v d → TDs K H vs ds → TDs K H (v :: vs) (d :: ds)
end
section
variable {K : PySem.W.Frag} {H H' : Hp}
mutual
theorem TD.keep (k : TK H H') : ∀ {v : V} {d : PyData}, TD K H v d → TD K H' v d
  | _, _, .non => .non
  | _, _, .bl b => .bl b
  | _, _, .int i => .int i
  | _, _, .str x => .str x
  | _, _, .tup h hs => .tup (SqT.keep k h) (TDs.keep k hs)
theorem TDs.keep (k : TK H H') : ∀ {vs : List V} {ds : List PyData}, TDs K H vs ds → TDs K H' vs ds
  | _, _, .nil => .nil
  | _, _, .cons h hs => .cons (TD.keep k h) (TDs.keep k hs)
end
mutual
theorem TD.dp : ∀ {v : V} {d : PyData}, TD K H v d → Dp K H v d
  | _, _, .non => .non
  | _, _, .bl b => .bl b
  | _, _, .int i => .int i
  | _, _, .str x => .str x
  | _, _, .tup h hs => .tup h (TDs.dp hs)
theorem TDs.dp : ∀ {vs : List V} {ds : List PyData}, TDs K H vs ds → DpAll K H vs ds
  | _, _, .nil => .nil
  | _, _, .cons h hs => .cons (TD.dp h) (TDs.dp hs)
end
theorem TDs.length : ∀ {vs : List V} {ds : List PyData}, TDs K H vs ds → vs.length = ds.length
  | _, _, .nil => rfl
  | _, _, .cons h hs => congrArg Nat.succ (TDs.length hs)
theorem TDs.app : ∀ {vs ws : List V} {ds es : List PyData}, TDs K H vs ds → TDs K H ws es → TDs K H (vs ++ ws) (ds ++ es)
  | _, _, _, _, .nil, h => h
  | _, _, _, _, .cons h hs, h2 => .cons h (TDs.app hs h2)
theorem TDs.at : ∀ {vs : List V} {ds : List PyData} {i : Nat} {v : V}, TDs K H vs ds → vs[i]? = some v → ∃ d, ds[i]? = some d ∧ TD K H v d
  | _, _, _, _, .nil, e => by simp at e
  | _, _, 0, _, .cons h hs, e => by simp at e; subst e; exact ⟨_, rfl, h⟩
  | _, _, i + 1, _, .cons h hs, e => by
    obtain ⟨d, h1, h2⟩ := TDs.at hs (i := i) (by simpa using e)
    exact ⟨d, by simpa using h1, h2⟩
theorem tds_strs : ∀ xs : List Str, TDs K H (xs.map V.str) (xs.map PyData.str)
  | [] => .nil
  | x :: xs => .cons (.str x) (tds_strs xs)
theorem tds_ints : ∀ xs : List Int, TDs K H (xs.map V.int) (xs.map PyData.int)
  | [] => .nil
  | x :: xs => .cons (.int x) (tds_ints xs)
end
/-! ### a deal: the dict at d, its list at g -/
def dealKV (g : Addr) (now mixed turn : Int) : List (Key × V) := [(.inr "great", .ref g), (.inr "now", .int now), (.inr "mixed", .int mixed), (.inr "turn", .int turn)]
theorem deal_great (g : Addr) (now mixed turn : Int) : valV (dealKV g now mixed turn) (Sum.inr "great") = some (.ref g) := rfl
theorem deal_now (g : Addr) (now mixed turn : Int) : valV (dealKV g now mixed turn) (Sum.inr "now") = some (.int now) := rfl
theorem deal_mixed (g : Addr) (now mixed turn : Int) : valV (dealKV g now mixed turn) (Sum.inr "mixed") = some (.int mixed) := rfl
theorem deal_turn (g : Addr) (now mixed turn : Int) : valV (dealKV g now mixed turn) (Sum.inr "turn") = some (.int turn) := rfl
theorem put_now (g : Addr) (now mixed turn z : Int) : putK (dealKV g now mixed turn) (Sum.inr "now") (.int z) = dealKV g z mixed turn := rfl
theorem put_mixed (g : Addr) (now mixed turn z : Int) : putK (dealKV g now mixed turn) (Sum.inr "mixed") (.int z) = dealKV g now z turn := rfl
theorem put_turn (g : Addr) (now mixed turn z : Int) : putK (dealKV g now mixed turn) (Sum.inr "turn") (.int z) = dealKV g now mixed z := rfl
structure Dl (d g : Addr) (H : Hp) (ns : List Int) (now mixed turn : Int) : Prop where
  d : H d = some (.dK (dealKV g now mixed turn))
  g : H g = some (.lst (ns.map V.int))
  few : ns.length ≤ 63
  pos : ∀ n ∈ ns, 0 ≤ n
  now : 0 ≤ now
def Deal (d g : Addr) (H : Hp) : Prop := ∃ ns now mixed turn, Dl d g H ns now mixed turn
theorem Dl.ne {d g : Addr} {H : Hp} {ns : List Int} {now mixed turn : Int} (x : Dl d g H ns now mixed turn) : d ≠ g := ne_of x.d x.g (by intro e; cases e)
/-- all but the deal stays -/
def Kp (d g : Addr) (H H' : Hp) : Prop := ∀ b o, b ≠ d → b ≠ g → H b = some o → H' b = some o
theorem Kp.refl (d g : Addr) (H : Hp) : Kp d g H H := fun _ _ _ _ h => h
theorem Kp.trans {d g : Addr} {H H1 H2 : Hp} (a : Kp d g H H1) (b : Kp d g H1 H2) : Kp d g H H2 := fun c o n m h => b c o n m (a c o n m h)
theorem Same.kp {d g : Addr} {H H' : Hp} (s : Same H H') : Kp d g H H' := fun b o _ _ h => s b o h
theorem Kp.put_d {d g : Addr} {H : Hp} {o : HO} : Kp d g H (upd H d o) := fun b u n _ h => by rw [upd_ne n]; exact h
theorem Kp.put_g {d g : Addr} {H : Hp} {o : HO} : Kp d g H (upd H g o) := fun b u _ n h => by rw [upd_ne n]; exact h
theorem Deal.tk {d g : Addr} {H H' : Hp} (x : Deal d g H) (k : Kp d g H H') : TK H H' := by
  obtain ⟨ns, now, mixed, turn, x⟩ := x
  exact ⟨fun b xs e => k b _ (ne_of e x.d (by intro q; cases q)) (ne_of e x.g (by intro q; cases q)) e, fun b o u e => k b _ (ne_of e x.d (by intro q; cases q)) (ne_of e x.g (by intro q; cases q)) e⟩
/-- a deal stands behind what leaves all as it is -/
theorem Deal.same {d g : Addr} {H H' : Hp} (x : Deal d g H) (s : Same H H') : Deal d g H' := by
  obtain ⟨ns, now, mixed, turn, x⟩ := x
  exact ⟨ns, now, mixed, turn, s _ _ x.d, s _ _ x.g, x.few, x.pos, x.now⟩
theorem Deal.set {d g p : Addr} {H : Hp} {o : HO} (x : Deal d g H) (n : p ≠ d) (m : p ≠ g) : Deal d g (L2.upd H p o) := by
  obtain ⟨ns, now, mixed, turn, x⟩ := x
  exact ⟨ns, now, mixed, turn, by rw [upd_ne n.symm]; exact x.d, by rw [upd_ne m.symm]; exact x.g, x.few, x.pos, x.now⟩
theorem Deal.new {d g p : Addr} {H : Hp} {o : HO} (x : Deal d g H) (h : H p = none) : Deal d g (L2.upd H p o) := x.same (Same.new h)
theorem Deal.ne_d {d g p : Addr} {H : Hp} {o : HO} (x : Deal d g H) (h : H p = some o) (hk : ∀ kvs, o ≠ .dK kvs) : p ≠ d := by
  obtain ⟨ns, now, mixed, turn, x⟩ := x
  exact ne_of h x.d (hk _)
theorem Deal.ne_g {d g p : Addr} {H : Hp} {o : HO} (x : Deal d g H) (h : H p = some o) (hk : ∀ xs, o ≠ .lst xs) : p ≠ g := by
  obtain ⟨ns, now, mixed, turn, x⟩ := x
  exact ne_of h x.g (hk _)
theorem Deal.free {d g p : Addr} {H : Hp} (x : Deal d g H) (h : H p = none) : p ≠ d ∧ p ≠ g := by
  obtain ⟨ns, now, mixed, turn, x⟩ := x
  exact ⟨(ne_of_none x.d h).symm, (ne_of_none x.g h).symm⟩
/-- what is not there now was not there ahead -/
theorem Kp.free {d g : Addr} {H H' : Hp} (k : Kp d g H H') (x : Deal d g H') {b : Addr} (h : H' b = none) : H b = none := by
  obtain ⟨n, m⟩ := x.free h
  cases e : H b with
  | none => rfl
  | some o =>
    rw [k b o n m e] at h
    cases h
end Hb
set_option Elab.async false
set_option linter.all false
set_option maxRecDepth 100000
set_option maxHeartbeats 4000000
namespace Hb
open PySem PySem.Spec PyProof.Rows L2
section
variable {P : Program} {w : World} {K : PySem.W.Frag} {mg : Str → Option Value} {base : Heap}
/-- a def of the module without defaults, under its name -/
def Df (K : PySem.W.Frag) (mg : Str → Option Value) (x : Str) (st : Stmt) : Prop := ∃ fd, FunD K x x (defArgs st) (defBody st) (defScope st) [] [] (He.ga K x) fd ∧ mg x = some (.ref (He.ga K x))
theorem fn_mk {x : Str} {st : Stmt} {f : Addr} {fd : FuncData} {N ps : List Str} {k : Nat} {sp : Sp} (F : FunD K x x (defArgs st) (defBody st) (defScope st) [] [] f fd) (S : FnScope N ps (defScope st))
    (len : ∀ vs H Q E, sp vs H Q E → vs.length = ps.length)
    (hbody : ∀ (f : Addr) (cdv : Value) (A : Around) (outer : List Env) (s : Shared) (H : Hp) (vs : List V) (Q : VK) (E : XK), Room k (A.deeper (envOfC x (defScope st) s.heap.objs.size f cdv)) → sp vs H Q E →
      ∃ t, PSs (cxOf CX0 P w K mg base N x (defScope st) f cdv A outer s H E).nox (defBody st) t ∧ t { nx := fun _ H' => Q .non H', rt := Q } (start N vs) H) : FnOk P w K mg base CX0 (k + 1) f fd ps sp :=
  F.ok S len fun cdv A outer s H vs Q E hr h => by
    obtain ⟨t, h1, h2⟩ := hbody _ cdv A outer s H vs Q E hr h
    exact ⟨t, h1.nox, h2⟩
theorem cal_mk {x : Str} {st : Stmt} {N ps : List Str} {k : Nat} {sp : Sp} (D : Df K mg x st) (S : FnScope N ps (defScope st))
    (bd : ∀ (kV doc pm : Value) (an : Option Addr) (cdv ct : Value) (us : List Value), us.length = ps.length → bindArgs (PySem.W.fnOf x x (defArgs st) (defBody st) (defScope st) .none kV doc pm an cdv ct) ⟨us, []⟩ = pure (ps.zip us))
    (len : ∀ vs H Q E, sp vs H Q E → vs.length = ps.length)
    (hbody : ∀ (f : Addr) (cdv : Value) (A : Around) (outer : List Env) (s : Shared) (H : Hp) (vs : List V) (Q : VK) (E : XK), Room k (A.deeper (envOfC x (defScope st) s.heap.objs.size f cdv)) → sp vs H Q E →
      ∃ t, PSs (cxOf CX0 P w K mg base N x (defScope st) f cdv A outer s H E).nox (defBody st) t ∧ t { nx := fun _ H' => Q .non H', rt := Q } (start N vs) H) : C8.Cal P w K mg base (k + 1) x sp [] := by
  obtain ⟨fd, F, hm⟩ := D
  exact ⟨⟨_, fd, ps, [], F.ok S len fun cdv A outer s H vs Q E hr h => by
    obtain ⟨t, h1, h2⟩ := hbody _ cdv A outer s H vs Q E hr h
    exact ⟨t, h1.nox, h2⟩, hm, F.kp, F.bindsN bd, .nil⟩⟩
/-- a class with an __init__ of its own -/
def Df1 (K : PySem.W.Frag) (mg : Str → Option Value) (C qual : Str) (st : Stmt) : Prop := Mk K (He.ga K C) (He.ma K (He.ga K C) "__init__") ∧ mg C = some (.ref (He.ga K C)) ∧ ∃ fd, FunD K "__init__" qual (defArgs st) (defBody st) (defScope st) [] [] (He.ma K (He.ga K C) "__init__") fd
theorem mak_mk {C qual : Str} {st : Stmt} {N ps : List Str} {k : Nat} {sp : Sp} (D : Df1 K mg C qual st) (S : FnScope N ps (defScope st))
    (bd : ∀ (kV doc pm : Value) (an : Option Addr) (cdv ct : Value) (us : List Value), us.length = ps.length → bindArgs (PySem.W.fnOf "__init__" qual (defArgs st) (defBody st) (defScope st) .none kV doc pm an cdv ct) ⟨us, []⟩ = pure (ps.zip us))
    (len : ∀ vs H Q E, sp vs H Q E → vs.length = ps.length)
    (hbody : ∀ (f : Addr) (cdv : Value) (A : Around) (outer : List Env) (s : Shared) (H : Hp) (vs : List V) (Q : VK) (E : XK), Room k (A.deeper (envOfC qual (defScope st) s.heap.objs.size f cdv)) → sp vs H Q E →
      ∃ t, PSs (cxOf CX0 P w K mg base N qual (defScope st) f cdv A outer s H E).nox (defBody st) t ∧ t { nx := fun _ H' => Q .non H', rt := Q } (start N vs) H) : C8.Mak P w K mg base (k + 1) C (He.ga K C) sp [] := by
  obtain ⟨M, hm, fd, F⟩ := D
  exact ⟨⟨_, fd, ps, [], M, F.ok S len fun cdv A outer s H vs Q E hr h => by
    obtain ⟨t, h1, h2⟩ := hbody _ cdv A outer s H vs Q E hr h
    exact ⟨t, h1.nox, h2⟩, hm, F.bindsN bd, .nil⟩⟩
end
/-- a word between two statements: the rest is read once -/
theorem cut_seq {t u : TS} {D : Ends} {σ : L2.St} {H : Hp} (R : L2.St → Hp → Prop) (h2 : ∀ σ H, R σ H → u D σ H) (h1 : (∀ σ H, R σ H → u D σ H) → t { D with nx := u D } σ H) : tSeq t u D σ H := h1 h2
end Hb
set_option Elab.async false
set_option linter.all false
set_option maxRecDepth 100000
set_option maxHeartbeats 4000000
namespace Hb
open PySem PySem.Spec PyProof.Rows L2
/-- data that may be compared -/
def Shp (d : PyData) : Prop := d.canLay0 = true ∧ d.depth ≤ 60
theorem Shp.shaped {d : PyData} (h : Shp d) : SeqAt.shaped d = true := Bool.and_eq_true_iff.mpr ⟨h.1, decide_eq_true (by have := h.2; omega)⟩
theorem shps_all : ∀ {ds : List PyData}, (∀ d ∈ ds, Shp d) → PyData.canLayAll0 ds = true ∧ PyData.depthAll ds ≤ 60
  | [], _ => ⟨by simp [PyData.canLayAll0], by simp [PyData.depthAll]⟩
  | d :: ds, h => by
    obtain ⟨h1, h2⟩ := shps_all (ds := ds) fun e he => h e (List.mem_cons_of_mem _ he)
    obtain ⟨h3, h4⟩ := h d List.mem_cons_self
    exact ⟨by simp [PyData.canLayAll0, h1, h3], by simp only [PyData.depthAll]; omega⟩
theorem shaped_list {ds : List PyData} (h : ∀ d ∈ ds, Shp d) : SeqAt.shaped (.list ds) = true := by
  obtain ⟨h1, h2⟩ := shps_all h
  exact Bool.and_eq_true_iff.mpr ⟨by simp only [PyData.canLay0]; exact h1, decide_eq_true (by simp only [PyData.depth]; omega)⟩
theorem shaped_tup {ds : List PyData} (h : ∀ d ∈ ds, Shp d) : SeqAt.shaped (.tuple ds) = true := by
  obtain ⟨h1, h2⟩ := shps_all h
  exact Bool.and_eq_true_iff.mpr ⟨by simp only [PyData.canLay0]; exact h1, decide_eq_true (by simp only [PyData.depth]; omega)⟩
/-- flat things, and tuples of such -/
theorem shp_tup {ds : List PyData} (h : ∀ d ∈ ds, d.canLay0 = true ∧ d.depth ≤ 50) : Shp (.tuple ds) := by
  have g : PyData.canLayAll0 ds = true ∧ PyData.depthAll ds ≤ 50 := by
    induction ds with
    | nil => exact ⟨by simp [PyData.canLayAll0], by simp [PyData.depthAll]⟩
    | cons d ds ih =>
      obtain ⟨h1, h2⟩ := ih fun e he => h e (List.mem_cons_of_mem _ he)
      obtain ⟨h3, h4⟩ := h d List.mem_cons_self
      exact ⟨by simp [PyData.canLayAll0, h1, h3], by simp only [PyData.depthAll]; omega⟩
  exact ⟨by simp only [PyData.canLay0]; exact g.1, by simp only [PyData.depth]; have := g.2; omega⟩
theorem eqv_nil (ds : List PyData) : PyData.eqv (.list ds) (.list []) = ds.isEmpty := by
  cases ds <;> simp [PyData.eqv, PyData.eqvAll]
/-- data of tuples, small enough -/
def Good (K : PySem.W.Frag) (H : Hp) (v : V) : Prop := ∃ d, TD K H v d ∧ Shp d
theorem Good.keep {K : PySem.W.Frag} {H H' : Hp} {v : V} (k : TK H H') (h : Good K H v) : Good K H' v := by
  obtain ⟨d, h1, h2⟩ := h
  exact ⟨d, TD.keep k h1, h2⟩
theorem goods {K : PySem.W.Frag} {H : Hp} : ∀ {xs : List V}, (∀ v ∈ xs, Good K H v) → ∃ ds, TDs K H xs ds ∧ ∀ d ∈ ds, Shp d
  | [], _ => ⟨[], .nil, fun d h => by cases h⟩
  | v :: xs, h => by
    obtain ⟨ds, h1, h2⟩ := goods (xs := xs) fun u hu => h u (List.mem_cons_of_mem _ hu)
    obtain ⟨d, h3, h4⟩ := h v List.mem_cons_self
    exact ⟨d :: ds, .cons h3 h1, fun e he => (List.mem_cons.mp he).elim (fun q => by rw [q]; exact h4) (h2 e)⟩
theorem seqIx {r : Int} {n : Nat} (h0 : 0 ≤ r) (h1 : r < n) : seqIndex? r n = some r.toNat := by
  have a : ¬ r < 0 := by omega
  simp [seqIndex?, a, h0, h1]
theorem perm_erase {α : Type} : ∀ {xs : List α} {k : Nat} {y : α}, xs[k]? = some y → (y :: xs.eraseIdx k).Perm xs
  | [], k, y, h => by simp at h
  | x :: xs, 0, y, h => by
    simp at h
    subst h
    simp
  | x :: xs, k + 1, y, h => by
    have ih := perm_erase (xs := xs) (k := k) (y := y) (by simpa using h)
    show (y :: x :: xs.eraseIdx k).Perm (x :: xs)
    exact (List.Perm.swap x y _).trans (ih.cons x)
end Hb
set_option Elab.async false
set_option linter.all false
set_option maxRecDepth 100000
set_option maxHeartbeats 4000000
namespace Hb
open PySem PySem.Spec PyProof.Rows L2
theorem take_next {α β : Type} (f : α → Option β) {xs : List α} {i : Nat} {x : α} (h : xs[i]? = some x) : (xs.take (i + 1)).filterMap f = (xs.take i).filterMap f ++ (f x).toList := by
  rw [List.take_add_one, h, List.filterMap_append]
  cases q : f x <;> simp [q]
theorem take_len {α β : Type} (f : α → Option β) (xs : List α) (i : Nat) : ((xs.take i).filterMap f).length ≤ xs.length :=
  Nat.le_trans (List.length_filterMap_le _ _) (by rw [List.length_take]; exact Nat.min_le_right _ _)
section
variable {K : PySem.W.Frag} {a : Addr} {xs : List V} {g : TG} {tt : TT} {te : TE} {vs : List Nat} {σ : L2.St} {H1 : Hp} {D : Addr} {Qd : Hp → Prop}
/-- one turn of a comprehension whose parts leave the heap as it is -/
def Turn (f : V → Option V) (x : V) (g : TG) (tt : TT) (te : TE) (vs : List Nat) (σ : L2.St) (H1 : Hp) (D : Addr) : Prop :=
  ∀ (acc : List V) (N : Hp → Prop), acc.length < sizeLine → (∀ y, f x = some y → N (upd H1 D (.lst (acc ++ [y])))) → (f x = none → N (upd H1 D (.lst acc))) →
    g x (wipe σ vs) (upd H1 D (.lst acc)) fun σ2 H2 => wipe σ2 vs = wipe σ vs ∧ tt σ2 H2 fun b H3 => if b = true then te σ2 H3 fun y H4 => ∃ acc', H4 D = some (.lst acc') ∧ acc'.length < sizeLine ∧ N (upd H4 D (.lst (acc' ++ [y]))) else N H3
theorem turn_at {f : V → Option V} {i : Nat} {x : V} {H : Hp} (hx : xs[i]? = some x) (e : H = upd H1 D (.lst ((xs.take i).filterMap f))) (few : xs.length < sizeLine) (h : Turn f x g tt te vs σ H1 D) :
    g x (wipe σ vs) H fun σ2 H2 => wipe σ2 vs = wipe σ vs ∧ tt σ2 H2 fun b H3 => if b = true then te σ2 H3 fun y H4 => ∃ acc', H4 D = some (.lst acc') ∧ acc'.length < sizeLine ∧ (fun z => z = upd H1 D (.lst ((xs.take (i + 1)).filterMap f))) (upd H4 D (.lst (acc' ++ [y]))) else (fun z => z = upd H1 D (.lst ((xs.take (i + 1)).filterMap f))) H3 := by
  subst e
  refine h _ _ (Nat.lt_of_le_of_lt (take_len f xs i) few) (fun y hy => ?_) (fun hn => ?_)
  · show upd H1 D _ = upd H1 D _
    rw [take_next f hx, hy]
    rfl
  · show upd H1 D _ = upd H1 D _
    rw [take_next f hx, hn]
    simp
theorem lc_listP (f : V → Option V) (few : xs.length < sizeLine) (hl : ∀ acc, SqL K (upd H1 D (.lst acc)) a xs) (hs : ∀ x ∈ xs, Turn f x g tt te vs σ H1 D) (hd : Qd (upd H1 D (.lst (xs.filterMap f)))) :
    ∃ W : Nat → Nat → Hp → Prop, (∃ m, W 0 m (upd H1 D (.lst []))) ∧ ∀ i m H, W i m H →
      ((Itl K a).stop i H ∧ Qd H) ∨ ((Itl K a).go i H ∧ ∃ Nx : Hp → Prop, (∀ H', Nx H' → ∃ m', m' < m ∧ W (i + 1) m' H') ∧ ∀ x H', (Itl K a).yld i H x H' → g x (wipe σ vs) H' fun σ2 H2 => wipe σ2 vs = wipe σ vs ∧ tt σ2 H2 fun b H3 =>
        if b = true then te σ2 H3 fun y H4 => ∃ acc, H4 D = some (.lst acc) ∧ acc.length < sizeLine ∧ Nx (upd H4 D (.lst (acc ++ [y]))) else Nx H3) :=
  lc_list (xs := xs) (fun i H => H = upd H1 D (.lst ((xs.take i).filterMap f))) rfl (fun i H _ e => by rw [e]; exact hl _) (fun i x H hx e => turn_at hx e few (hs x (List.mem_of_getElem? hx)))
    (fun H e => by rw [e, List.take_length]; exact hd)
theorem lc_tupP (f : V → Option V) (few : xs.length < sizeLine) (hl : ∀ acc, SqT K (upd H1 D (.lst acc)) a xs) (hs : ∀ x ∈ xs, Turn f x g tt te vs σ H1 D) (hd : Qd (upd H1 D (.lst (xs.filterMap f)))) :
    ∃ W : Nat → Nat → Hp → Prop, (∃ m, W 0 m (upd H1 D (.lst []))) ∧ ∀ i m H, W i m H →
      ((Itt K a).stop i H ∧ Qd H) ∨ ((Itt K a).go i H ∧ ∃ Nx : Hp → Prop, (∀ H', Nx H' → ∃ m', m' < m ∧ W (i + 1) m' H') ∧ ∀ x H', (Itt K a).yld i H x H' → g x (wipe σ vs) H' fun σ2 H2 => wipe σ2 vs = wipe σ vs ∧ tt σ2 H2 fun b H3 =>
        if b = true then te σ2 H3 fun y H4 => ∃ acc, H4 D = some (.lst acc) ∧ acc.length < sizeLine ∧ Nx (upd H4 D (.lst (acc ++ [y]))) else Nx H3) :=
  lc_tup (xs := xs) (fun i H => H = upd H1 D (.lst ((xs.take i).filterMap f))) rfl (fun i H _ e => by rw [e]; exact hl _) (fun i x H hx e => turn_at hx e few (hs x (List.mem_of_getElem? hx)))
    (fun H e => by rw [e, List.take_length]; exact hd)
theorem SqL.laid {H : Hp} {p : Addr} {o : HO} (h : SqL K H a xs) (n : H p = none) : SqL K (upd H p o) a xs := Same.seq (Same.new n) h
theorem SqT.laid {H : Hp} {p : Addr} {o : HO} (h : SqT K H a xs) (n : H p = none) : SqT K (upd H p o) a xs := SqT.keep (Same.tk (Same.new n)) h
end
theorem yes_ {σ : L2.St} {H : Hp} {f g : Hp → Prop} (h : f H) : tYes σ H fun b H3 => if b = true then f H3 else g H3 := (if_pos rfl : (if true = true then f H else g H) = f H).mpr h
theorem filterMap_ints (f : Int → Option Int) (ns : List Int) (h : V → Option V) (e : ∀ n, h (.int n) = (f n).map V.int) : (ns.map V.int).filterMap h = (ns.filterMap f).map V.int := by
  rw [List.filterMap_map]
  induction ns with
  | nil => rfl
  | cons n ns ih =>
    simp only [List.filterMap_cons, Function.comp, e]
    cases q : f n <;> simp [ih]
theorem filterMap_strs (f : Str → Option Str) (ns : List Str) (h : V → Option V) (e : ∀ n, h (.str n) = (f n).map V.str) : (ns.map V.str).filterMap h = (ns.filterMap f).map V.str := by
  rw [List.filterMap_map]
  induction ns with
  | nil => rfl
  | cons n ns ih =>
    simp only [List.filterMap_cons, Function.comp, e]
    cases q : f n <;> simp [ih]
end Hb
set_option Elab.async false
set_option linter.all false
set_option maxRecDepth 100000
set_option maxHeartbeats 4000000
namespace Hb
open PySem PySem.Spec PyProof.Rows L2
section
variable {K : PySem.W.Frag} {H : Hp}
theorem TD.tup_inv {v : V} {ds : List PyData} (h : TD K H v (.tuple ds)) : ∃ a xs, v = .ref a ∧ SqT K H a xs ∧ TDs K H xs ds := by
  cases h with
  | tup h1 h2 => exact ⟨_, _, rfl, h1, h2⟩
theorem TD.int_inv {v : V} {i : Int} (h : TD K H v (.int i)) : v = .int i := by cases h; rfl
theorem TD.str_inv {v : V} {x : Str} (h : TD K H v (.str x)) : v = .str x := by cases h; rfl
theorem TDs.nil_inv {vs : List V} (h : TDs K H vs []) : vs = [] := by cases h; rfl
theorem TDs.cons_inv {vs : List V} {d : PyData} {ds : List PyData} (h : TDs K H vs (d :: ds)) : ∃ v ws, vs = v :: ws ∧ TD K H v d ∧ TDs K H ws ds := by
  cases h with
  | cons h1 h2 => exact ⟨_, _, rfl, h1, h2⟩
theorem TDs.strs_inv : ∀ {vs : List V} {xs : List Str}, TDs K H vs (xs.map PyData.str) → vs = xs.map V.str
  | _, [], h => TDs.nil_inv h
  | _, x :: xs, h => by
    obtain ⟨v, ws, rfl, h1, h2⟩ := TDs.cons_inv h
    rw [TD.str_inv h1, TDs.strs_inv h2]
    rfl
theorem TDs.ints_inv : ∀ {vs : List V} {xs : List Int}, TDs K H vs (xs.map PyData.int) → vs = xs.map V.int
  | _, [], h => TDs.nil_inv h
  | _, x :: xs, h => by
    obtain ⟨v, ws, rfl, h1, h2⟩ := TDs.cons_inv h
    rw [TD.int_inv h1, TDs.ints_inv h2]
    rfl
end
/-! ### names -/
def isLetter (c : Nat) : Bool := decide (c ∈ ("abcdefghijklmnopqrstuvwxyz" : Str).cps.toList)
def nameB (x : Str) : Bool := decide (1 ≤ x.length ∧ x.length ≤ 4) && x.cps.toList.all isLetter
/-! ### a sleeper, told as data -/
structure Zz where
  sorts : List (Str × Str)
  stir : Int
  doze : Int
  near : Int
  loud : Str
def encZ (z : Zz) : PyData := .tuple [.tuple (z.sorts.map encP), .int z.stir, .int z.doze, .int z.near, .str z.loud]
def fourS : List Str := ["faint", "loud", "soft", "sudden"]
def threeS : List Str := ["again", "nothing", "wake"]
def OneAt (K : PySem.W.Frag) (H : Hp) (p : Addr) (z : Zz) : Prop := TD K H (.ref p) (encZ z)
/-- what stands in it -/
structure OneIs (K : PySem.W.Frag) (H : Hp) (p : Addr) (z : Zz) (t : Addr) (xs : List V) : Prop where
  all : SqT K H p [.ref t, .int z.stir, .int z.doze, .int z.near, .str z.loud]
  srt : SqT K H t xs
  its : TDs K H xs (z.sorts.map encP)
theorem OneAt.inv {K : PySem.W.Frag} {H : Hp} {p : Addr} {z : Zz} (h : OneAt K H p z) : ∃ t xs, OneIs K H p z t xs := by
  obtain ⟨a, xs, e, h1, h2⟩ := TD.tup_inv h
  cases e
  obtain ⟨v1, w1, rfl, a1, h2⟩ := TDs.cons_inv h2
  obtain ⟨v2, w2, rfl, a2, h2⟩ := TDs.cons_inv h2
  obtain ⟨v3, w3, rfl, a3, h2⟩ := TDs.cons_inv h2
  obtain ⟨v4, w4, rfl, a4, h2⟩ := TDs.cons_inv h2
  obtain ⟨v5, w5, rfl, a5, h2⟩ := TDs.cons_inv h2
  obtain rfl := TDs.nil_inv h2
  obtain rfl := TD.int_inv a2
  obtain rfl := TD.int_inv a3
  obtain rfl := TD.int_inv a4
  obtain rfl := TD.str_inv a5
  obtain ⟨t, ys, rfl, h3, h4⟩ := TD.tup_inv a1
  exact ⟨t, ys, h1, h3, h4⟩
theorem OneIs.one {K : PySem.W.Frag} {H : Hp} {p : Addr} {z : Zz} {t : Addr} {xs : List V} (h : OneIs K H p z t xs) : OneAt K H p z :=
  .tup h.all (.cons (.tup h.srt h.its) (.cons (.int _) (.cons (.int _) (.cons (.int _) (.cons (.str _) .nil)))))
/-- a sleeper that is drawn, its words among ws -/
structure Zok (z : Zz) (ws : List Str) : Prop where
  nd : (z.sorts.map Prod.fst).Nodup
  inw : ∀ p ∈ z.sorts, p.1 ∈ ws
  ok : ∀ p ∈ z.sorts, PyData.strOk p.1 = true ∧ nameB p.1 = true
  srt : ∀ p ∈ z.sorts, p.2 ∈ fourS
  few : z.sorts.length ≤ 8
  s1 : 1 ≤ z.stir
  s5 : z.stir ≤ 5
  d1 : 1 ≤ z.doze
  d5 : z.doze ≤ 5
  n1 : 1 ≤ z.near
  n2 : z.near ≤ 2
  lo : z.loud ∈ threeS
end Hb
set_option Elab.async false
set_option linter.all false
set_option maxRecDepth 100000
set_option maxHeartbeats 4000000
namespace Hb
open PySem PySem.Spec PyProof.Rows L2
section
variable {K : PySem.W.Frag} {H : Hp} {a : Addr} {xs : List V}
theorem ty_tup (h : SqT K H a xs) : TyX K H (.ref a) (.type "tuple") := by
  rcases h with (h | ⟨o, h⟩) | ⟨o, its, n, h, hc, _⟩
  · exact .base (.tup h)
  · exact .fTuple h
  · exact .kTuple h hc
theorem ty_lst (h : SqL K H a xs) : TyX K H (.ref a) (.type "list") := by
  rcases h with (h | ⟨o, h⟩) | ⟨o, its, n, h, hc, _⟩
  · exact .base (.lst h)
  · exact .base (.frz h)
  · exact .kList h hc
end
theorem inV_strs (y : Str) : ∀ xs : List Str, inV (.str y) (xs.map V.str) = decide (y ∈ xs)
  | [] => by simp [inV]
  | x :: xs => by
    have ih := inV_strs y xs
    unfold inV at ih ⊢
    rw [List.map_cons, List.any_cons, ih]
    by_cases e : x = y
    · subst e
      simp [eqV]
    · have e2 : ¬ y = x := fun z => e z.symm
      simp [eqV, e, e2]
/-- a list or a tuple, walked: whatever walks so -/
def iSeq (K : PySem.W.Frag) (tl : TE) : TI := fun σ H R => tl σ H fun x H1 => ∃ a xs, x = .ref a ∧ (SqL K H1 a xs ∨ SqT K H1 a xs) ∧ ∀ (J : It) (G : Hp → Prop), (∀ H', Same H1 H' → G H') → Walk J xs.length G (YAt xs) → R J H1
theorem pi_seq {X : Cx} {tg l : Expr} {tl : TE} (hl : PE X l tl) : PI X tg l (iSeq X.K tl) := by
  refine ⟨fun pins s σ H R I h => thn (hl.run pins s σ H _ I h) fun v z ⟨x, H1, J, r, a, xs, e, hq, q⟩ => ?_⟩
  subst e
  cases r
  have far : ∀ b ∈ [z.heap.objs.size], FpOk X pins H1 b := fun b hb => by
    rw [List.mem_singleton.mp hb]; exact J.fpOk (Nat.le_refl _) (J.hok.fresh (Nat.le_refl _))
  rcases hq with hq | hq
  · have q2 := q _ _ (fun H' s => Same.seq s hq) walk_list
    obtain ⟨its, rv, p, hz⟩ := J.list hq
    exact wpAny_pyIter_list p.isList ⟨_, [z.heap.objs.size], _, _, H1, rfl, J.kept (t' := z.toks) (fun b o e => Heap.get?_push_of_some _ e), turn_list a _, ⟨_, Heap.get?_push_size _ rfl, rfl, rfl⟩, (by exact far), q2⟩
  · have q2 := q _ _ (fun H' s => SqT.keep (Same.tk s) hq) walk_tup
    obtain ⟨its, rv, p, hz⟩ := J.tuple hq
    exact wpAny_pyIter_tuple (show z.heap.IsTuple a its.toArray from p) ⟨_, [z.heap.objs.size], _, _, H1, rfl, J.kept (t' := z.toks) (fun b o e => Heap.get?_push_of_some _ e), turn_tuple a _, ⟨_, Heap.get?_push_size _ rfl, rfl, rfl⟩, (by exact far), q2⟩
/-- a comprehension's list, put anew -/
theorem Same.acc {H H' : Hp} {D : Addr} {o : HO} (s : Same H H') (n : H D = none) : Same H (upd H' D o) := fun b u e => by
  rw [upd_ne (ne_of_none e n)]
  exact s b u e
end Hb
set_option Elab.async false
set_option linter.all false
set_option maxRecDepth 100000
set_option maxHeartbeats 4000000
namespace Hb
open PySem PySem.Spec PyProof.Rows L2
/-- pairs of texts in Python's order -/
def sortP (ps : List (Str × Str)) : List (Str × Str) := ps.mergeSort (PySem.W.dataLe false encP)
theorem sortP_perm (ps : List (Str × Str)) : (sortP ps).Perm ps := List.mergeSort_perm _ _
theorem zip_fst {α β : Type} : ∀ {xs : List α} {ys : List β}, xs.length = ys.length → (xs.zip ys).map (·.1) = xs
  | [], [], _ => rfl
  | x :: xs, y :: ys, h => congrArg (x :: ·) (zip_fst (xs := xs) (ys := ys) (by simpa using h))
theorem zip_snd {α β : Type} : ∀ {xs : List α} {ys : List β}, xs.length = ys.length → (xs.zip ys).map (·.2) = ys
  | [], [], _ => rfl
  | x :: xs, y :: ys, h => congrArg (y :: ·) (zip_snd (xs := xs) (ys := ys) (by simpa using h))
section
variable {K : PySem.W.Frag} {H : Hp}
theorem zip_td : ∀ {xs : List V} {ps : List (Str × Str)}, TDs K H xs (ps.map encP) → ∀ z ∈ xs.zip ps, TD K H z.1 (encP z.2)
  | [], [], _, z, h => by cases h
  | _ :: _, [], t, _, _ => by cases t
  | [], _ :: _, t, _, _ => by cases t
  | x :: xs, p :: ps, t, z, h => by
    obtain ⟨v, ws, e, h1, h2⟩ := TDs.cons_inv t
    cases e
    rcases List.mem_cons.mp h with h | h
    · rw [h]; exact h1
    · exact zip_td h2 z h
theorem td_zip : ∀ {zs : List (V × (Str × Str))}, (∀ z ∈ zs, TD K H z.1 (encP z.2)) → TDs K H (zs.map (·.1)) ((zs.map (·.2)).map encP)
  | [], _ => .nil
  | z :: zs, h => .cons (h z List.mem_cons_self) (td_zip fun y hy => h y (List.mem_cons_of_mem _ hy))
end
theorem sort_zip (zs : List (V × (Str × Str))) : (zs.mergeSort (PySem.W.dataLe false fun z => encP z.2)).map (·.2) = sortP (zs.map (·.2)) :=
  PySem.W.sort_maps (fun z : V × (Str × Str) => z.2) fun _ _ _ _ => rfl
/-! ### a Sleeper -/
def slpFs (t : Addr) (z : Zz) : List (Str × V) := [("sorts", .ref t), ("stir", .int z.stir), ("doze", .int z.doze), ("near", .int z.near), ("loud", .str z.loud)]
/-- a Sleeper of the class at C -/
def SlpAt (K : PySem.W.Frag) (C : Addr) (H : Hp) (p : Addr) (z : Zz) : Prop := ∃ dx t xs, H p = some (.ins C dx (slpFs t z)) ∧ SqT K H t xs ∧ TDs K H xs ((sortP z.sorts).map encP)
theorem SlpAt.keep {K : PySem.W.Frag} {C : Addr} {H H' : Hp} {p : Addr} {z : Zz} (h : SlpAt K C H p z) (k : TK H H') (e : ∀ o, H p = some o → H' p = some o) : SlpAt K C H' p z := by
  obtain ⟨dx, t, xs, h1, h2, h3⟩ := h
  exact ⟨dx, t, xs, e _ h1, SqT.keep k h2, TDs.keep k h3⟩
theorem SlpAt.same {K : PySem.W.Frag} {C : Addr} {H H' : Hp} {p : Addr} {z : Zz} (h : SlpAt K C H p z) (s : Same H H') : SlpAt K C H' p z := h.keep (Same.tk s) fun o e => s _ _ e
theorem SlpAt.kp {K : PySem.W.Frag} {C d g : Addr} {H H' : Hp} {p : Addr} {z : Zz} (h : SlpAt K C H p z) (dl : Deal d g H) (k : Kp d g H H') : SlpAt K C H' p z :=
  h.keep (dl.tk k) fun o e => by
    obtain ⟨dx, t, xs, h1, h2, h3⟩ := h
    exact k _ _ (dl.ne_d h1 (by intro kvs q; cases q)) (dl.ne_g h1 (by intro kvs q; cases q)) e
end Hb
set_option Elab.async false
set_option linter.all false
set_option maxRecDepth 100000
set_option maxHeartbeats 4000000
namespace Hb
open PySem PySem.Spec PyProof.Rows L2
/-! ### states -/
inductive S0 where
  | up | doz (t : Int) | asl | kept (n : Str) (a : Int) | stir (t : Int) | wok
  deriving DecidableEq
def S0.vals : S0 → List V
  | .up => [.str "up"]
  | .doz t => [.str "dozing", .int t]
  | .asl => [.str "asleep"]
  | .kept n a => [.str "asleep", .str n, .int a]
  | .stir t => [.str "stirring", .int t]
  | .wok => [.str "woken"]
def S0.ds : S0 → List PyData
  | .up => [.str "up"]
  | .doz t => [.str "dozing", .int t]
  | .asl => [.str "asleep"]
  | .kept n a => [.str "asleep", .str n, .int a]
  | .stir t => [.str "stirring", .int t]
  | .wok => [.str "woken"]
def S0.word : S0 → Str
  | .up => "up"
  | .doz _ => "dozing"
  | .asl => "asleep"
  | .kept _ _ => "asleep"
  | .stir _ => "stirring"
  | .wok => "woken"
theorem S0.head (s : S0) : atI s.vals 0 = some (.str s.word) := by cases s <;> rfl
def StAt (K : PySem.W.Frag) (H : Hp) (v : V) (s : S0) : Prop := ∃ a, v = .ref a ∧ SqT K H a s.vals
theorem StAt.keep {K : PySem.W.Frag} {H H' : Hp} {v : V} {s : S0} (k : TK H H') (h : StAt K H v s) : StAt K H' v s := by
  obtain ⟨a, e, h⟩ := h
  exact ⟨a, e, SqT.keep k h⟩
theorem S0.td (K : PySem.W.Frag) (H : Hp) (s : S0) : TDs K H s.vals s.ds := by
  cases s
  case up => exact .cons (.str _) .nil
  case doz => exact .cons (.str _) (.cons (.int _) .nil)
  case asl => exact .cons (.str _) .nil
  case kept => exact .cons (.str _) (.cons (.str _) (.cons (.int _) .nil))
  case stir => exact .cons (.str _) (.cons (.int _) .nil)
  case wok => exact .cons (.str _) .nil
theorem StAt.td {K : PySem.W.Frag} {H : Hp} {v : V} {s : S0} (h : StAt K H v s) : TD K H v (.tuple s.ds) := by
  obtain ⟨a, rfl, h⟩ := h
  exact .tup h (S0.td K H s)
def soV : Option Str → V
  | none => .non
  | some x => .str x
theorem soV_eq (so : Option Str) (x : Str) : decide (soV so = V.str x) = decide (so = some x) := by
  cases so with
  | none => simp [soV]
  | some y => simp [soV]
theorem soV_scal (so : Option Str) (x : Str) : scal (soV so) (.str x) = true := by cases so <;> rfl
/-- its name may be compared -/
def S0.ok : S0 → Prop
  | .kept n _ => PyData.strOk n = true
  | _ => True
theorem flat_ok : ∀ w ∈ (["up", "dozing", "asleep", "stirring", "woken"] : List Str), PyData.strOk w = true := by decide +kernel
theorem S0.shp {s : S0} (h : s.ok) : Shp (.tuple s.ds) := by
  have w : ∀ x ∈ (["up", "dozing", "asleep", "stirring", "woken"] : List Str), (PyData.str x).canLay0 = true ∧ (PyData.str x).depth ≤ 50 := fun x hx => ⟨by simp only [PyData.canLay0]; exact flat_ok x hx, by simp [PyData.depth]⟩
  have i : ∀ t : Int, (PyData.int t).canLay0 = true ∧ (PyData.int t).depth ≤ 50 := fun t => ⟨by simp [PyData.canLay0], by simp [PyData.depth]⟩
  refine shp_tup fun d hd => ?_
  cases s
  case up => simp only [S0.ds, List.mem_cons, List.not_mem_nil, or_false] at hd; subst hd; exact w _ (by simp)
  case asl => simp only [S0.ds, List.mem_cons, List.not_mem_nil, or_false] at hd; subst hd; exact w _ (by simp)
  case wok => simp only [S0.ds, List.mem_cons, List.not_mem_nil, or_false] at hd; subst hd; exact w _ (by simp)
  case doz => simp only [S0.ds, List.mem_cons, List.not_mem_nil, or_false] at hd; exact hd.elim (fun e => e ▸ w _ (by simp)) (fun e => e ▸ i _)
  case stir => simp only [S0.ds, List.mem_cons, List.not_mem_nil, or_false] at hd; exact hd.elim (fun e => e ▸ w _ (by simp)) (fun e => e ▸ i _)
  case kept n a =>
    simp only [S0.ds, List.mem_cons, List.not_mem_nil, or_false] at hd
    exact hd.elim (fun e => e ▸ w _ (by simp)) fun hd => hd.elim (fun e => e ▸ ⟨by simp only [PyData.canLay0]; exact h, by simp [PyData.depth]⟩) (fun e => e ▸ i _)
theorem words_ne : ("asleep" : Str) ≠ "up" ∧ ("dozing" : Str) ≠ "up" ∧ ("stirring" : Str) ≠ "up" ∧ ("woken" : Str) ≠ "up" ∧ ("asleep" : Str) ≠ "dozing" ∧ ("stirring" : Str) ≠ "dozing" ∧ ("woken" : Str) ≠ "dozing" ∧
    ("stirring" : Str) ≠ "asleep" ∧ ("woken" : Str) ≠ "asleep" ∧ ("woken" : Str) ≠ "stirring" := by decide +kernel
theorem beq_dec {α : Type} [DecidableEq α] [BEq α] [LawfulBEq α] (a b : α) : (a == b) = decide (a = b) := by
  by_cases h : a = b
  · rw [decide_eq_true h, h, beq_self_eq_true]
  · rw [decide_eq_false h, beq_eq_false_iff_ne.mpr h]
/-- states are alike if their data are -/
theorem eqv_st (s t : S0) : PyData.eqv (.tuple s.ds) (.tuple t.ds) = decide (s = t) := by
  obtain ⟨h1, h2, h3, h4, h5, h6, h7, h8, h9, h10⟩ := words_ne
  cases s <;> cases t <;> simp [beq_dec, S0.ds, PyData.eqv, PyData.eqvAll, h1, h2, h3, h4, h5, h6, h7, h8, h9, h10, h1.symm, h2.symm, h3.symm, h4.symm, h5.symm, h6.symm, h7.symm, h8.symm, h9.symm, h10.symm]
/-- what a noise of sort so does -/
def hear (z : Zz) (so : Option Str) (n : Str) : S0 → S0
  | .up => .up
  | .wok => .wok
  | .doz t => if so = some ("loud" : Str) then (if z.loud = "wake" then .wok else if z.loud = "again" then .doz z.doze else .doz t) else .doz t
  | .asl => if so = some ("soft" : Str) then .stir z.stir else if so = some ("loud" : Str) ∨ so = some ("sudden" : Str) then .wok else if so = some ("faint" : Str) then .kept n 0 else .asl
  | .kept m a => if so = some ("soft" : Str) then .stir z.stir else if so = some ("loud" : Str) ∨ so = some ("sudden" : Str) then .wok else if so = some ("faint" : Str) then (if m = n then .kept n 0 else .wok) else .kept m a
  | .stir t => if so = some ("loud" : Str) then .wok else .stir t
def sortOf (z : Zz) (n : Str) : Option Str := (sortP z.sorts).lookup n
def tick (z : Zz) : S0 → S0
  | .up => .up
  | .wok => .wok
  | .doz t => if 1 < t then .doz (t - 1) else .asl
  | .asl => .asl
  | .kept m a => if a < z.near then .kept m (a + 1) else .asl
  | .stir t => if 1 < t then .stir (t - 1) else .wok
def hum (z : Zz) (w : Str) : S0 → S0
  | .wok => .wok
  | _ => if w = "up" then .up else .doz z.doze
end Hb
set_option Elab.async false
set_option linter.all false
set_option maxRecDepth 100000
set_option maxHeartbeats 4000000
namespace Hb
open PySem PySem.Spec PyProof.Rows L2
/-- a list being filled, changed: tuples stay -/
theorem tk_acc {H : Hp} {D : Addr} {xs ys : List V} (h : H D = some (.lst xs)) : TK H (upd H D (.lst ys)) := TK.put h (by intro xs e; cases e) (by intro q u e; cases e)
/-! ### rows of states -/
inductive SsAt (K : PySem.W.Frag) (H : Hp) : List V → List S0 → Prop
  | nil : SsAt K H [] []
  | cons {v : V} {vs : List V} {s : S0} {ss : List S0} : StAt K H v s → SsAt K H vs ss → SsAt K H (v :: vs) (s :: ss)
section
variable {K : PySem.W.Frag} {H H' : Hp}
theorem SsAt.keep (k : TK H H') : ∀ {vs : List V} {ss : List S0}, SsAt K H vs ss → SsAt K H' vs ss
  | _, _, .nil => .nil
  | _, _, .cons h t => .cons (h.keep k) (SsAt.keep k t)
theorem SsAt.app : ∀ {vs ws : List V} {ss ts : List S0}, SsAt K H vs ss → SsAt K H ws ts → SsAt K H (vs ++ ws) (ss ++ ts)
  | _, _, _, _, .nil, h => h
  | _, _, _, _, .cons h t, h2 => .cons h (SsAt.app t h2)
theorem SsAt.length : ∀ {vs : List V} {ss : List S0}, SsAt K H vs ss → vs.length = ss.length
  | _, _, .nil => rfl
  | _, _, .cons _ t => congrArg Nat.succ (SsAt.length t)
theorem SsAt.at : ∀ {vs : List V} {ss : List S0} {i : Nat} {v : V}, SsAt K H vs ss → vs[i]? = some v → ∃ s, ss[i]? = some s ∧ StAt K H v s
  | _, _, _, _, .nil, e => by simp at e
  | _, _, 0, _, .cons h _, e => by simp at e; subst e; exact ⟨_, rfl, h⟩
  | _, _, i + 1, _, .cons _ t, e => by
    obtain ⟨s, h1, h2⟩ := SsAt.at t (i := i) (by simpa using e)
    exact ⟨s, by simpa using h1, h2⟩
theorem SsAt.td : ∀ {vs : List V} {ss : List S0}, SsAt K H vs ss → TDs K H vs (ss.map fun s => .tuple s.ds)
  | _, _, .nil => .nil
  | _, _, .cons h t => .cons h.td (SsAt.td t)
end
/-- a list of states, one put behind -/
theorem SsAt.more {K : PySem.W.Frag} {H1 H H2 : Hp} {D : Addr} {acc : List V} {ss : List S0} {v : V} {s : S0} (nD : H1 D = none) (s1 : Same H1 H) (hD : H D = some (.lst acc)) (hs : SsAt K H acc ss) (s2 : Same H H2) (hv : StAt K H2 v s) :
    Same H1 (upd H2 D (.lst (acc ++ [v]))) ∧ ∃ acc', upd H2 D (.lst (acc ++ [v])) D = some (.lst acc') ∧ SsAt K (upd H2 D (.lst (acc ++ [v]))) acc' (ss ++ [s]) := by
  have k : TK H2 (upd H2 D (.lst (acc ++ [v]))) := tk_acc (s2 _ _ hD)
  exact ⟨Hb.Same.acc (s1.trans s2) nD, _, upd_same, SsAt.app (SsAt.keep k (SsAt.keep (Same.tk s2) hs)) (.cons (hv.keep k) .nil)⟩
theorem range_map (f : Nat → S0) (i : Nat) : (List.range (i + 1)).map f = (List.range i).map f ++ [f i] := by
  rw [List.range_succ, List.map_append]
  rfl
theorem SsAt.more' {K : PySem.W.Frag} {H1 H H2 : Hp} {D : Addr} {acc : List V} {f : Nat → S0} {i : Nat} {v : V} (nD : H1 D = none) (s1 : Same H1 H) (hD : H D = some (.lst acc)) (hs : SsAt K H acc ((List.range i).map f)) (s2 : Same H H2) (hv : StAt K H2 v (f i)) :
    Same H1 (upd H2 D (.lst (acc ++ [v]))) ∧ ∃ acc', upd H2 D (.lst (acc ++ [v])) D = some (.lst acc') ∧ SsAt K (upd H2 D (.lst (acc ++ [v]))) acc' ((List.range (i + 1)).map f) := by
  rw [range_map]
  exact SsAt.more nD s1 hD hs s2 hv
theorem any_st (ss : List S0) (s : S0) : ((ss.map fun s => PyData.tuple s.ds).any fun z => PyData.eqv z (.tuple s.ds)) = decide (s ∈ ss) := by
  induction ss with
  | nil => simp
  | cons t ss ih =>
    rw [List.map_cons, List.any_cons, ih, eqv_st]
    by_cases h : t = s
    · subst h; simp
    · have h2 : ¬ s = t := fun q => h q.symm
      simp [h, h2]
theorem shaped_sts {ss : List S0} (h : ∀ s ∈ ss, s.ok) : SeqAt.shaped (.list (ss.map fun s => .tuple s.ds)) = true := shaped_list fun d hd => by
  obtain ⟨s, hs, rfl⟩ := List.mem_map.mp hd
  exact S0.shp (h s hs)
/-- all states of its form -/
def states (z : Zz) : List S0 := ([.up, .asl, .wok] ++ (List.range z.doze.toNat).map fun i => .doz (1 + (i : Nat))) ++ ((List.range z.stir.toNat).map fun i => .stir (1 + (i : Nat))) ++
  (z.sorts.filter fun p => decide (p.2 = ("faint" : Str))).flatMap fun p => (List.range (z.near + 1).toNat).map fun i => .kept p.1 (0 + (i : Nat))
def rowS (z : Zz) (s : S0) (ns : List Str) : S0 := ns.foldl (fun s n => hear z (sortOf z n) n s) s
end Hb
set_option Elab.async false
set_option linter.all false
set_option maxRecDepth 100000
set_option maxHeartbeats 8000000
namespace Hb
open PySem PySem.Spec PyProof.Rows L2
/-! ### looking up -/
theorem lookup_mem : ∀ {ps : List (Str × Str)} {n x : Str}, ps.lookup n = some x → (n, x) ∈ ps
  | [], _, _, h => by simp at h
  | (m, y) :: ps, n, x, h => by
    rw [List.lookup_cons] at h
    by_cases e : n = m
    · subst e
      simp at h
      subst h
      exact List.mem_cons_self
    · have e2 : (n == m) = false := beq_eq_false_iff_ne.mpr e
      rw [e2] at h
      exact List.mem_cons_of_mem _ (lookup_mem h)
theorem lookup_of : ∀ {ps : List (Str × Str)} {n x : Str}, (ps.map Prod.fst).Nodup → (n, x) ∈ ps → ps.lookup n = some x
  | (m, y) :: ps, n, x, nd, h => by
    rw [List.map_cons, List.nodup_cons] at nd
    rw [List.lookup_cons]
    rcases List.mem_cons.mp h with h | h
    · cases h
      simp
    · have e : n ≠ m := fun q => nd.1 (by rw [← q]; exact List.mem_map.mpr ⟨_, h, rfl⟩)
      rw [beq_eq_false_iff_ne.mpr e]
      exact lookup_of nd.2 h
theorem lookup_none : ∀ {ps : List (Str × Str)} {n : Str}, (∀ x, (n, x) ∉ ps) → ps.lookup n = none
  | [], _, _ => rfl
  | (m, y) :: ps, n, h => by
    have e : n ≠ m := fun q => h y (by rw [q]; exact List.mem_cons_self)
    rw [List.lookup_cons, beq_eq_false_iff_ne.mpr e]
    exact lookup_none fun x hx => h x (List.mem_cons_of_mem _ hx)
theorem lookup_perm {ps qs : List (Str × Str)} (nd : (ps.map Prod.fst).Nodup) (h : qs.Perm ps) (n : Str) : qs.lookup n = ps.lookup n := by
  cases e : ps.lookup n with
  | none =>
    refine lookup_none fun x hx => ?_
    rw [lookup_of nd (h.mem_iff.mp hx)] at e
    cases e
  | some x => exact lookup_of ((h.map Prod.fst).nodup_iff.mpr nd) (h.mem_iff.mpr (lookup_mem e))
theorem sortOf_eq {z : Zz} (nd : (z.sorts.map Prod.fst).Nodup) (n : Str) : sortOf z n = z.sorts.lookup n := lookup_perm nd (sortP_perm _) n
/-! ### a dict of pairs -/
def pkv (p : Str × Str) : Key × V := (Sum.inr p.1, V.str p.2)
theorem putK_new (kvs : List (Key × V)) (k : Key) (v : V) (h : ∀ kv ∈ kvs, kv.1 ≠ k) : putK kvs k v = kvs ++ [(k, v)] := by
  unfold putK
  rw [if_neg]
  intro q
  obtain ⟨kv, h1, h2⟩ := List.any_eq_true.mp q
  exact h kv h1 (of_decide_eq_true h2)
theorem merge_new : ∀ (ps : List (Str × Str)) (acc : List (Key × V)), (ps.map Prod.fst).Nodup → (∀ p ∈ ps, ∀ kv ∈ acc, kv.1 ≠ (Sum.inr p.1 : Key)) → mergeK acc (ps.map pkv) = acc ++ ps.map pkv
  | [], acc, _, _ => by simp [mergeK]
  | p :: ps, acc, nd, h => by
    rw [List.map_cons, List.nodup_cons] at nd
    have e : mergeK acc ((p :: ps).map pkv) = mergeK (putK acc (Sum.inr p.1) (V.str p.2)) (ps.map pkv) := rfl
    rw [e, putK_new acc _ _ (h p List.mem_cons_self), merge_new ps _ nd.2 (fun q hq kv hkv => ?_)]
    · simp [pkv]
    · rcases List.mem_append.mp hkv with hkv | hkv
      · exact h q (List.mem_cons_of_mem _ hq) kv hkv
      · rw [List.mem_singleton.mp hkv]
        intro e2
        have e3 : p.1 = q.1 := Sum.inr.inj e2
        exact nd.1 (by rw [e3]; exact List.mem_map.mpr ⟨q, hq, rfl⟩)
theorem val_pairs : ∀ (ps : List (Str × Str)) (n : Str), valV (ps.map pkv) (Sum.inr n) = (ps.lookup n).map V.str
  | [], n => rfl
  | p :: ps, n => by
    rw [List.map_cons, List.lookup_cons]
    by_cases e : n = p.1
    · rw [valV_pos (p := pkv p) (by show Sum.inr p.1 = Sum.inr n; rw [e])]
      subst e
      simp [pkv]
    · rw [valV_neg (p := pkv p) (fun q => e (Sum.inr.inj (show (Sum.inr p.1 : Key) = Sum.inr n from q)).symm), beq_eq_false_iff_ne.mpr e]
      exact val_pairs ps n
theorem val_dict {ps : List (Str × Str)} (nd : (ps.map Prod.fst).Nodup) (n : Str) : valV (mergeK [] (ps.map pkv)) (Sum.inr n) = (ps.lookup n).map V.str := by
  rw [merge_new ps [] nd (fun _ _ _ h => by cases h), List.nil_append]
  exact val_pairs ps n
theorem pairs_of {K : PySem.W.Frag} {H : Hp} : ∀ {xs : List V} {ps : List (Str × Str)}, TDs K H xs (ps.map encP) → ∃ as : List Addr, xs = as.map V.ref ∧ Paired (fun p (kv : Key × V) => SqT K H p [kV kv.1, kv.2]) as (ps.map pkv)
  | _, [], h => ⟨[], TDs.nil_inv h, .nil⟩
  | _, p :: ps, h => by
    obtain ⟨v, ws, rfl, h1, h2⟩ := TDs.cons_inv h
    obtain ⟨as, rfl, h3⟩ := pairs_of h2
    obtain ⟨a, ys, rfl, h4, h5⟩ := TD.tup_inv h1
    obtain rfl := TDs.strs_inv (xs := [p.1, p.2]) h5
    exact ⟨a :: as, rfl, .cons h4 h3⟩
/-! ### what noises do -/
theorem sorts_ne : ("loud" : Str) ≠ "soft" ∧ ("sudden" : Str) ≠ "soft" ∧ ("faint" : Str) ≠ "soft" ∧ ("sudden" : Str) ≠ "loud" ∧ ("faint" : Str) ≠ "loud" ∧ ("faint" : Str) ≠ "sudden" ∧ ("again" : Str) ≠ "wake" := by decide +kernel
/-- the five kinds of noises -/
theorem kinds (so : Option Str) : so = some ("soft" : Str) ∨ so = some ("loud" : Str) ∨ so = some ("sudden" : Str) ∨ so = some ("faint" : Str) ∨ (so ≠ some ("soft" : Str) ∧ so ≠ some ("loud" : Str) ∧ so ≠ some ("sudden" : Str) ∧ so ≠ some ("faint" : Str)) := by
  by_cases h1 : so = some ("soft" : Str)
  · exact .inl h1
  by_cases h2 : so = some ("loud" : Str)
  · exact .inr (.inl h2)
  by_cases h3 : so = some ("sudden" : Str)
  · exact .inr (.inr (.inl h3))
  by_cases h4 : so = some ("faint" : Str)
  · exact .inr (.inr (.inr (.inl h4)))
  exact .inr (.inr (.inr (.inr ⟨h1, h2, h3, h4⟩)))
theorem hear_soft {z : Zz} {n : Str} (s : S0) : hear z (some ("soft" : Str)) n s = match s with | .asl => .stir z.stir | .kept _ _ => .stir z.stir | s => s := by
  obtain ⟨h1, h2, h3, h4, h5, h6, h7⟩ := sorts_ne
  cases s <;> simp [hear, h1.symm]
theorem hear_loud {z : Zz} {n : Str} (s : S0) : hear z (some ("loud" : Str)) n s = match s with | .up => .up | .doz t => (if z.loud = ("wake" : Str) then .wok else if z.loud = ("again" : Str) then .doz z.doze else .doz t) | _ => .wok := by
  obtain ⟨h1, h2, h3, h4, h5, h6, h7⟩ := sorts_ne
  cases s <;> simp [hear, h1]
theorem hear_sudden {z : Zz} {n : Str} (s : S0) : hear z (some ("sudden" : Str)) n s = match s with | .asl => .wok | .kept _ _ => .wok | s => s := by
  obtain ⟨h1, h2, h3, h4, h5, h6, h7⟩ := sorts_ne
  cases s <;> simp [hear, h2, h4]
theorem hear_faint {z : Zz} {n : Str} (s : S0) : hear z (some ("faint" : Str)) n s = match s with | .asl => .kept n 0 | .kept m _ => (if m = n then .kept n 0 else .wok) | s => s := by
  obtain ⟨h1, h2, h3, h4, h5, h6, h7⟩ := sorts_ne
  cases s <;> simp [hear, h3, h5, h6]
theorem hear_else {z : Zz} {n : Str} {so : Option Str} (h : so ≠ some ("soft" : Str) ∧ so ≠ some ("loud" : Str) ∧ so ≠ some ("sudden" : Str) ∧ so ≠ some ("faint" : Str)) (s : S0) : hear z so n s = s := by
  obtain ⟨h1, h2, h3, h4⟩ := h
  cases s <;> simp [hear, h1, h2, h3, h4]
inductive Kd where
  | soft | loud | sudden | faint | els
  deriving DecidableEq
def act (z : Zz) (n : Str) : Kd → S0 → S0
  | .soft, .asl => .stir z.stir
  | .soft, .kept _ _ => .stir z.stir
  | .loud, .doz t => if z.loud = ("wake" : Str) then .wok else if z.loud = ("again" : Str) then .doz z.doze else .doz t
  | .loud, .asl => .wok
  | .loud, .kept _ _ => .wok
  | .loud, .stir _ => .wok
  | .sudden, .asl => .wok
  | .sudden, .kept _ _ => .wok
  | .faint, .asl => .kept n 0
  | .faint, .kept m _ => if m = n then .kept n 0 else .wok
  | _, s => s
def kd (so : Option Str) : Kd := if so = some ("soft" : Str) then .soft else if so = some ("loud" : Str) then .loud else if so = some ("sudden" : Str) then .sudden else if so = some ("faint" : Str) then .faint else .els
theorem hear_act (z : Zz) (so : Option Str) (n : Str) (s : S0) : hear z so n s = act z n (kd so) s := by
  obtain ⟨h1, h2, h3, h4, h5, h6, h7⟩ := sorts_ne
  rcases kinds so with rfl | rfl | rfl | rfl | h
  · rw [hear_soft]; cases s <;> simp [kd, act]
  · rw [hear_loud]; cases s <;> simp [kd, act, h1]
  · rw [hear_sudden]; cases s <;> simp [kd, act, h2, h4]
  · rw [hear_faint]; cases s <;> simp [kd, act, h3, h5, h6]
  · rw [hear_else h]; obtain ⟨q1, q2, q3, q4⟩ := h; cases s <;> simp [kd, act, q1, q2, q3, q4]
/-- two noises twice are as once -/
theorem twice (z : Zz) (a b : Str) (s : S0) : rowS z (rowS z s [a, b]) [a, b] = rowS z s [a, b] := by
  have key : ∀ ka kb : Kd, (a = b → ka = kb) → ∀ s, act z b kb (act z a ka (act z b kb (act z a ka s))) = act z b kb (act z a ka s) := by
    intro ka kb hab s
    have wa : ("wake" : Str) ≠ "again" := sorts_ne.2.2.2.2.2.2.symm
    by_cases e : a = b
    · subst e
      have e2 := hab rfl
      subst e2
      by_cases hw : z.loud = ("wake" : Str)
      · cases s
        case kept m t => by_cases h1 : m = a <;> cases ka <;> simp [act, hw, h1, wa]
        all_goals (cases ka <;> simp [act, hw, wa])
      · by_cases hg : z.loud = ("again" : Str)
        · cases s
          case kept m t => by_cases h1 : m = a <;> cases ka <;> simp [act, hw, hg, h1]
          all_goals (cases ka <;> simp [act, hg, wa.symm])
        · cases s
          case kept m t => by_cases h1 : m = a <;> cases ka <;> simp [act, hw, hg, h1]
          all_goals (cases ka <;> simp [act, hw, hg])
    · have e2 : ¬ b = a := fun q => e q.symm
      by_cases hw : z.loud = ("wake" : Str)
      · cases s
        case kept m t => by_cases h1 : m = a <;> by_cases h2 : m = b <;> cases ka <;> cases kb <;> simp [act, hw, h1, h2, wa, e, e2]
        all_goals (cases ka <;> cases kb <;> simp [act, hw, wa, e, e2])
      · by_cases hg : z.loud = ("again" : Str)
        · cases s
          case kept m t => by_cases h1 : m = a <;> by_cases h2 : m = b <;> cases ka <;> cases kb <;> simp [act, hg, wa.symm, h1, h2, e, e2]
          all_goals (cases ka <;> cases kb <;> simp [act, hg, wa.symm, e, e2])
        · cases s
          case kept m t => by_cases h1 : m = a <;> by_cases h2 : m = b <;> cases ka <;> cases kb <;> simp [act, hw, hg, h1, h2, e, e2]
          all_goals (cases ka <;> cases kb <;> simp [act, hw, hg, e, e2])
  have h := key (kd (sortOf z a)) (kd (sortOf z b)) (fun e => by rw [e]) s
  simp only [← hear_act] at h
  exact h
end Hb
set_option Elab.async false
set_option linter.all false
set_option maxRecDepth 100000
set_option maxHeartbeats 8000000
namespace Hb
open PySem PySem.Spec PyProof.Rows L2
def InS (z : Zz) : S0 → Prop
  | .doz t => 1 ≤ t ∧ t ≤ z.doze
  | .stir t => 1 ≤ t ∧ t ≤ z.stir
  | .kept n a => (n, ("faint" : Str)) ∈ z.sorts ∧ 0 ≤ a ∧ a ≤ z.near
  | _ => True
theorem mem_states {z : Zz} {s : S0} : s ∈ states z ↔ InS z s := by
  unfold states
  rw [List.mem_append, List.mem_append, List.mem_append]
  constructor
  · rintro (((h | h) | h) | h)
    · simp only [List.mem_cons, List.not_mem_nil, or_false] at h
      rcases h with rfl | rfl | rfl <;> exact trivial
    · obtain ⟨i, hi, rfl⟩ := List.mem_map.mp h
      have := List.mem_range.mp hi
      exact ⟨by omega, by omega⟩
    · obtain ⟨i, hi, rfl⟩ := List.mem_map.mp h
      have := List.mem_range.mp hi
      exact ⟨by omega, by omega⟩
    · obtain ⟨p, hp, h⟩ := List.mem_flatMap.mp h
      obtain ⟨i, hi, rfl⟩ := List.mem_map.mp h
      obtain ⟨h1, h2⟩ := List.mem_filter.mp hp
      have h3 : p.2 = ("faint" : Str) := of_decide_eq_true h2
      have := List.mem_range.mp hi
      refine ⟨?_, by omega, by omega⟩
      rw [← h3]
      exact h1
  · intro h
    cases s with
    | up => exact .inl (.inl (.inl (by simp)))
    | asl => exact .inl (.inl (.inl (by simp)))
    | wok => exact .inl (.inl (.inl (by simp)))
    | doz t =>
      obtain ⟨h1, h2⟩ := h
      exact .inl (.inl (.inr (List.mem_map.mpr ⟨(t - 1).toNat, List.mem_range.mpr (by omega), by rw [show (1 : Int) + ((t - 1).toNat : Nat) = t by omega]⟩)))
    | stir t =>
      obtain ⟨h1, h2⟩ := h
      exact .inl (.inr (List.mem_map.mpr ⟨(t - 1).toNat, List.mem_range.mpr (by omega), by rw [show (1 : Int) + ((t - 1).toNat : Nat) = t by omega]⟩))
    | kept n a =>
      obtain ⟨h0, h1, h2⟩ := h
      exact .inr (List.mem_flatMap.mpr ⟨_, List.mem_filter.mpr ⟨h0, decide_eq_true rfl⟩, List.mem_map.mpr ⟨a.toNat, List.mem_range.mpr (by omega), by rw [show (0 : Int) + (a.toNat : Nat) = a by omega]⟩⟩)
section
variable {z : Zz} {ws : List Str} (zk : Zok z ws)
include zk
theorem Zok.zin : z.sorts.length ≤ 100 := Nat.le_trans zk.few (by decide)
theorem sort_mem {n x : Str} (h : sortOf z n = some x) : (n, x) ∈ z.sorts := by
  rw [sortOf_eq zk.nd] at h
  exact lookup_mem h
theorem InS.sok {s : S0} (h : InS z s) : s.ok := by
  cases s
  case kept n a => exact (Zok.ok zk _ h.1).1
  all_goals trivial
theorem InS.hear {n : Str} {s : S0} (h : InS z s) : InS z (Hb.hear z (sortOf z n) n s) := by
  have f : kd (sortOf z n) = .faint → (n, ("faint" : Str)) ∈ z.sorts := by
    intro e
    unfold kd at e
    split at e
    · cases e
    · split at e
      · cases e
      · split at e
        · cases e
        · split at e
          · rename_i q
            exact sort_mem zk q
          · cases e
  rw [hear_act]
  have d1 := zk.d1
  have s1 := zk.s1
  have n1 := zk.n1
  cases s with
  | up => cases kd (sortOf z n) <;> trivial
  | wok => cases kd (sortOf z n) <;> trivial
  | asl =>
    cases q : kd (sortOf z n)
    case faint => exact ⟨f q, by omega, by omega⟩
    case soft => exact ⟨by omega, by omega⟩
    all_goals trivial
  | kept m a =>
    cases q : kd (sortOf z n)
    case faint =>
      show InS z (if m = n then .kept n 0 else .wok)
      split
      · exact ⟨f q, by omega, by omega⟩
      · trivial
    case soft => exact ⟨by omega, by omega⟩
    case els => exact h
    all_goals trivial
  | doz t =>
    cases q : kd (sortOf z n)
    case loud =>
      show InS z (if z.loud = ("wake" : Str) then .wok else if z.loud = ("again" : Str) then .doz z.doze else .doz t)
      split
      · trivial
      · split
        · exact ⟨by omega, by omega⟩
        · exact h
    all_goals exact h
  | stir t =>
    cases q : kd (sortOf z n)
    case loud => trivial
    all_goals exact h
theorem InS.row : ∀ {ns : List Str} {s : S0}, InS z s → InS z (rowS z s ns)
  | [], _, h => h
  | n :: ns, _, h => InS.row (ns := ns) (InS.hear zk h)
theorem InS.tick {s : S0} (h : InS z s) : InS z (Hb.tick z s) := by
  have n1 := zk.n1
  cases s with
  | up => trivial
  | wok => trivial
  | asl => trivial
  | doz t =>
    show InS z (if 1 < t then .doz (t - 1) else .asl)
    split
    · exact ⟨by omega, by have := h.2; omega⟩
    · trivial
  | stir t =>
    show InS z (if 1 < t then .stir (t - 1) else .wok)
    split
    · exact ⟨by omega, by have := h.2; omega⟩
    · trivial
  | kept m a =>
    obtain ⟨h0, h1, h2⟩ := h
    show InS z (if a < z.near then .kept m (a + 1) else .asl)
    split
    · exact ⟨h0, by omega, by omega⟩
    · trivial
theorem InS.hum {s : S0} {x : Str} (h : InS z s) : InS z (Hb.hum z x s) ∧ (Hb.hum z x s).word ≠ "asleep" := by
  have d1 := zk.d1
  obtain ⟨q1, q2, q3, q4, q5, q6, q7, q8, q9, q10⟩ := words_ne
  by_cases e : s = .wok
  · subst e
    exact ⟨trivial, q9⟩
  · have e2 : Hb.hum z x s = if x = "up" then .up else .doz z.doze := by cases s <;> first | exact absurd rfl e | rfl
    rw [e2]
    split
    · exact ⟨trivial, q1.symm⟩
    · exact ⟨⟨by omega, by omega⟩, q5.symm⟩
end
/-- a noise twice is as once -/
theorem once (z : Zz) (a : Str) (s : S0) : rowS z s [a, a] = rowS z s [a] := by
  show hear z (sortOf z a) a (hear z (sortOf z a) a s) = hear z (sortOf z a) a s
  rw [hear_act, hear_act]
  have wa : ("wake" : Str) ≠ "again" := sorts_ne.2.2.2.2.2.2.symm
  generalize kd (sortOf z a) = k
  by_cases hw : z.loud = ("wake" : Str)
  · cases s
    case kept m t => by_cases h1 : m = a <;> cases k <;> simp [act, hw, h1, wa]
    all_goals (cases k <;> simp [act, hw, wa])
  · by_cases hg : z.loud = ("again" : Str)
    · cases s
      case kept m t => by_cases h1 : m = a <;> cases k <;> simp [act, hg, wa.symm, h1]
      all_goals (cases k <;> simp [act, hg, wa.symm])
    · cases s
      case kept m t => by_cases h1 : m = a <;> cases k <;> simp [act, hw, hg, h1]
      all_goals (cases k <;> simp [act, hw, hg])
theorem unheard_same (z : Zz) (a : Str) (s : S0) (h : sortOf z a = none) : hear z (sortOf z a) a s = s := by
  rw [h, hear_else ⟨by simp, by simp, by simp, by simp⟩]
theorem others_same (z : Zz) (a : Str) (s : S0) (h : sortOf z a = some ("sudden" : Str) ∨ sortOf z a = some ("faint" : Str) ∨ sortOf z a = some ("soft" : Str)) (w : s.word = "stirring" ∨ s.word = "dozing" ∨ s.word = "up") :
    hear z (sortOf z a) a s = s := by
  obtain ⟨q1, q2, q3, q4, q5, q6, q7, q8, q9, q10⟩ := words_ne
  have ns : s ≠ .asl := by rintro rfl; exact w.elim (fun w => q8 w.symm) fun w => w.elim (fun w => q5 w) fun w => q1 w
  have nk : ∀ m t, s ≠ .kept m t := by rintro m t rfl; exact w.elim (fun w => q8 w.symm) fun w => w.elim (fun w => q5 w) fun w => q1 w
  rcases h with h | h | h <;> rw [h]
  · rw [hear_sudden]; cases s <;> first | exact absurd rfl ns | exact absurd rfl (nk _ _) | rfl
  · rw [hear_faint]; cases s <;> first | exact absurd rfl ns | exact absurd rfl (nk _ _) | rfl
  · rw [hear_soft]; cases s <;> first | exact absurd rfl ns | exact absurd rfl (nk _ _) | rfl
/-- a longer stirring is woken no sooner -/
theorem longer (z : Zz) (t : Int) (a : Str) (s : S0) (h : hear { z with stir := t } (sortOf { z with stir := t } a) a s = .wok) : hear z (sortOf z a) a s = .wok := by
  have e : sortOf { z with stir := t } a = sortOf z a := rfl
  rw [e, hear_act] at h
  rw [hear_act]
  revert h
  generalize kd (sortOf z a) = k
  cases k <;> cases s <;> simp [act]
end Hb
set_option Elab.async false
set_option linter.all false
set_option maxRecDepth 100000
set_option maxHeartbeats 4000000
namespace Hb
open PySem PySem.Spec PyProof.Rows L2
section
variable {K : PySem.W.Frag} {H : Hp} {x y : V} {s t : S0} {Q : VK}
theorem ne_st (hx : StAt K H x s) (hy : StAt K H y t) (os : s.ok) (ot : t.ok) (q : Q (.bl (!decide (s = t))) H) : rNeD K x y H Q :=
  ⟨_, _, TD.dp hx.td, TD.dp hy.td, (S0.shp os).shaped, (S0.shp ot).shaped, by rw [eqv_st]; exact q⟩
theorem eq_st (hx : StAt K H x s) (hy : StAt K H y t) (os : s.ok) (ot : t.ok) (q : Q (.bl (decide (s = t))) H) : rEqD K x y H Q :=
  ⟨_, _, TD.dp hx.td, TD.dp hy.td, (S0.shp os).shaped, (S0.shp ot).shaped, by rw [eqv_st]; exact q⟩
theorem notin_st {S : Addr} {us : List V} {ss : List S0} (hx : StAt K H x s) (os : s.ok) (hS : H S = some (.lst us)) (hs : SsAt K H us ss) (ok : ∀ s ∈ ss, s.ok) (q : Q (.bl (!decide (s ∈ ss))) H) : rNotInD K x (.ref S) H Q :=
  ⟨_, _, TD.dp hx.td, .lst (SqL.of hS) (TDs.dp hs.td), (S0.shp os).shaped, shaped_sts ok, by rw [any_st]; exact q⟩
end
theorem hear_ok {z : Zz} {so : Option Str} {n : Str} {s : S0} (h : s.ok) (hn : PyData.strOk n = true) : (hear z so n s).ok := by
  rw [hear_act]
  generalize kd so = k
  cases s with
  | kept m t =>
    cases k with
    | faint =>
      show (if m = n then S0.kept n 0 else S0.wok).ok
      split
      · exact hn
      · trivial
    | els => exact h
    | soft => trivial
    | loud => trivial
    | sudden => trivial
  | asl => cases k <;> first | exact hn | trivial
  | doz t =>
    cases k with
    | loud =>
      show (if z.loud = ("wake" : Str) then S0.wok else if z.loud = ("again" : Str) then S0.doz z.doze else S0.doz t).ok
      split
      · trivial
      · split <;> trivial
    | soft => trivial
    | faint => trivial
    | sudden => trivial
    | els => trivial
  | up => cases k <;> trivial
  | wok => cases k <;> trivial
  | stir t => cases k <;> trivial
theorem str_mem_map {x : Str} {xs : List Str} (h : x ∈ xs) : V.str x ∈ xs.map V.str := List.mem_map.mpr ⟨x, h, rfl⟩
end Hb
set_option Elab.async false
set_option linter.all false
set_option maxRecDepth 100000
set_option maxHeartbeats 4000000
namespace Hb
open PySem PySem.Spec PyProof.Rows L2
/-! ### houses -/
def nzD : Option Str → PyData
  | none => .none
  | some n => .str n
def nzV : Option Str → V
  | none => .non
  | some n => .str n
abbrev Dr := Int × Int × Option Str
abbrev Fl := Int × Str
structure Hz where
  rooms : Int
  doors : List Dr
  floors : List Fl
  cradles : List Int
def encD (x : Dr) : PyData := .tuple [.int x.1, .int x.2.1, nzD x.2.2]
def encF (x : Fl) : PyData := .tuple [.int x.1, .str x.2]
def encH (h : Hz) : PyData := .tuple [.int h.rooms, .tuple (h.doors.map encD), .tuple (h.floors.map encF), .tuple (h.cradles.map PyData.int)]
section
variable {K : PySem.W.Frag} {H : Hp}
theorem TD.nz_inv {v : V} {n : Option Str} (h : TD K H v (nzD n)) : v = nzV n := by
  cases n with
  | none => cases h; rfl
  | some n => cases h; rfl
theorem TD.nz (n : Option Str) : TD K H (nzV n) (nzD n) := by
  cases n with
  | none => exact .non
  | some n => exact .str n
theorem TD.door_inv {v : V} {x : Dr} (h : TD K H v (encD x)) : ∃ t, v = .ref t ∧ SqT K H t [.int x.1, .int x.2.1, nzV x.2.2] := by
  obtain ⟨t, ys, e, h1, h2⟩ := TD.tup_inv h
  obtain ⟨v1, w1, rfl, a1, h3⟩ := TDs.cons_inv h2
  obtain ⟨v2, w2, rfl, a2, h4⟩ := TDs.cons_inv h3
  obtain ⟨v3, w3, rfl, a3, h5⟩ := TDs.cons_inv h4
  obtain rfl := TDs.nil_inv h5
  rw [TD.int_inv a1, TD.int_inv a2, TD.nz_inv a3] at h1
  exact ⟨t, e, h1⟩
theorem TD.floor_inv {v : V} {x : Fl} (h : TD K H v (encF x)) : ∃ t, v = .ref t ∧ SqT K H t [.int x.1, .str x.2] := by
  obtain ⟨t, ys, e, h1, h2⟩ := TD.tup_inv h
  obtain ⟨v1, w1, rfl, a1, h3⟩ := TDs.cons_inv h2
  obtain ⟨v2, w2, rfl, a2, h4⟩ := TDs.cons_inv h3
  obtain rfl := TDs.nil_inv h4
  rw [TD.int_inv a1, TD.str_inv a2] at h1
  exact ⟨t, e, h1⟩
theorem TD.door {t : Addr} {x : Dr} (h : SqT K H t [.int x.1, .int x.2.1, nzV x.2.2]) : TD K H (.ref t) (encD x) := .tup h (.cons (.int _) (.cons (.int _) (.cons (TD.nz _) .nil)))
theorem TD.floor {t : Addr} {x : Fl} (h : SqT K H t [.int x.1, .str x.2]) : TD K H (.ref t) (encF x) := .tup h (.cons (.int _) (.cons (.str _) .nil))
theorem TDs.at_map {α : Type} {enc : α → PyData} {vs : List V} {xs : List α} {i : Nat} {v : V} (h : TDs K H vs (xs.map enc)) (e : vs[i]? = some v) : ∃ x, xs[i]? = some x ∧ TD K H v (enc x) := by
  obtain ⟨d, h1, h2⟩ := TDs.at h e
  rw [List.getElem?_map] at h1
  obtain ⟨p, h3, h4⟩ := Option.map_eq_some_iff.mp h1
  subst h4
  exact ⟨p, h3, h2⟩
end
structure HIs (K : PySem.W.Frag) (H : Hp) (p : Addr) (h : Hz) (a b c : Addr) (xs ys : List V) : Prop where
  all : SqT K H p [.int h.rooms, .ref a, .ref b, .ref c]
  da : SqT K H a xs
  dx : TDs K H xs (h.doors.map encD)
  fb : SqT K H b ys
  fx : TDs K H ys (h.floors.map encF)
  cc : SqT K H c (h.cradles.map V.int)
def HOne (K : PySem.W.Frag) (H : Hp) (p : Addr) (h : Hz) : Prop := TD K H (.ref p) (encH h)
theorem HOne.inv {K : PySem.W.Frag} {H : Hp} {p : Addr} {h : Hz} (x : HOne K H p h) : ∃ a b c xs ys, HIs K H p h a b c xs ys := by
  obtain ⟨t, ws, e, h1, h2⟩ := TD.tup_inv x
  cases e
  obtain ⟨v1, w1, rfl, a1, h3⟩ := TDs.cons_inv h2
  obtain ⟨v2, w2, rfl, a2, h4⟩ := TDs.cons_inv h3
  obtain ⟨v3, w3, rfl, a3, h5⟩ := TDs.cons_inv h4
  obtain ⟨v4, w4, rfl, a4, h6⟩ := TDs.cons_inv h5
  obtain rfl := TDs.nil_inv h6
  obtain rfl := TD.int_inv a1
  obtain ⟨a, xs, rfl, s1, s2⟩ := TD.tup_inv a2
  obtain ⟨b, ys, rfl, s3, s4⟩ := TD.tup_inv a3
  obtain ⟨c, zs, rfl, s5, s6⟩ := TD.tup_inv a4
  obtain rfl := TDs.ints_inv s6
  exact ⟨a, b, c, xs, ys, h1, s1, s2, s3, s4, s5⟩
theorem HIs.one {K : PySem.W.Frag} {H : Hp} {p : Addr} {h : Hz} {a b c : Addr} {xs ys : List V} (x : HIs K H p h a b c xs ys) : HOne K H p h :=
  .tup x.all (.cons (.int _) (.cons (.tup x.da x.dx) (.cons (.tup x.fb x.fx) (.cons (.tup x.cc (tds_ints _)) .nil))))
def inR (r v : Int) : Prop := 0 ≤ v ∧ v < r
def DrOk (r : Int) (x : Dr) : Prop := inR r x.1 ∧ inR r x.2.1 ∧ x.1 ≠ x.2.1 ∧ ∀ n, x.2.2 = some n → nameB n = true
def FlOk (r : Int) (x : Fl) : Prop := inR r x.1 ∧ nameB x.2 = true
/-- what may be handed to House -/
structure Hin (h : Hz) : Prop where
  r1 : 1 ≤ h.rooms
  d : ∀ x ∈ h.doors, DrOk h.rooms x
  f : ∀ x ∈ h.floors, FlOk h.rooms x
  fnd : (h.floors.map Prod.fst).Nodup
  c : ∀ x ∈ h.cradles, inR h.rooms x
  cnd : h.cradles.Nodup
  fewd : h.doors.length ≤ 1000
  fewf : h.floors.length ≤ 1000
  fewc : h.cradles.length ≤ 1000
def sortF (xs : List Fl) : List Fl := xs.mergeSort (PySem.W.dataLe false encF)
def sortI (xs : List Int) : List Int := xs.mergeSort (PySem.W.dataLe false PyData.int)
theorem sortF_perm (xs : List Fl) : (sortF xs).Perm xs := List.mergeSort_perm _ _
theorem sortI_perm (xs : List Int) : (sortI xs).Perm xs := List.mergeSort_perm _ _
def hFs (a b c : Addr) (h : Hz) : List (Str × V) := [("rooms", .int h.rooms), ("doors", .ref a), ("floors", .ref b), ("cradles", .ref c)]
/-- an object of House -/
def HAt (K : PySem.W.Frag) (C : Addr) (H : Hp) (p : Addr) (h : Hz) : Prop := ∃ dx a b c xs ys, H p = some (.ins C dx (hFs a b c h)) ∧ SqT K H a xs ∧ TDs K H xs (h.doors.map encD) ∧ SqT K H b ys ∧ TDs K H ys ((sortF h.floors).map encF) ∧ SqT K H c ((sortI h.cradles).map V.int)
theorem HAt.keep {K : PySem.W.Frag} {C : Addr} {H H' : Hp} {p : Addr} {h : Hz} (x : HAt K C H p h) (k : TK H H') (e : ∀ o, H p = some o → H' p = some o) : HAt K C H' p h := by
  obtain ⟨dx, a, b, c, xs, ys, h1, h2, h3, h4, h5, h6⟩ := x
  exact ⟨dx, a, b, c, xs, ys, e _ h1, SqT.keep k h2, TDs.keep k h3, SqT.keep k h4, TDs.keep k h5, SqT.keep k h6⟩
theorem HAt.same {K : PySem.W.Frag} {C : Addr} {H H' : Hp} {p : Addr} {h : Hz} (x : HAt K C H p h) (s : Same H H') : HAt K C H' p h := x.keep (Same.tk s) fun o e => s _ _ e
theorem HAt.kp {K : PySem.W.Frag} {C d g : Addr} {H H' : Hp} {p : Addr} {h : Hz} (x : HAt K C H p h) (dl : Deal d g H) (k : Kp d g H H') : HAt K C H' p h := by
  have x2 := x
  obtain ⟨dx, a, b, c, xs, ys, h1, _⟩ := x2
  exact x.keep (dl.tk k) fun o e => k _ _ (dl.ne_d h1 (by intro kvs e; cases e)) (dl.ne_g h1 (by intro xs e; cases e)) e
/-! sorting of what is held in places -/
theorem zip_tdE {K : PySem.W.Frag} {H : Hp} {α : Type} {enc : α → PyData} : ∀ {xs : List V} {ps : List α}, TDs K H xs (ps.map enc) → ∀ z ∈ xs.zip ps, TD K H z.1 (enc z.2)
  | _, [], h => by
    obtain rfl := TDs.nil_inv h
    intro z hz
    cases hz
  | _, p :: ps, h => by
    obtain ⟨v, w, rfl, h1, h2⟩ := TDs.cons_inv h
    intro z hz
    rcases List.mem_cons.mp hz with rfl | hz
    · exact h1
    · exact zip_tdE h2 z hz
theorem tdE_zip {K : PySem.W.Frag} {H : Hp} {α : Type} {enc : α → PyData} : ∀ {zs : List (V × α)}, (∀ z ∈ zs, TD K H z.1 (enc z.2)) → TDs K H (zs.map (·.1)) ((zs.map (·.2)).map enc)
  | [], _ => .nil
  | z :: zs, h => .cons (h z List.mem_cons_self) (tdE_zip fun y hy => h y (List.mem_cons_of_mem _ hy))
theorem sort_zipE {α : Type} (enc : α → PyData) (zs : List (V × α)) : (zs.mergeSort (PySem.W.dataLe false fun z => enc z.2)).map (·.2) = (zs.map (·.2)).mergeSort (PySem.W.dataLe false enc) :=
  PySem.W.sort_maps (fun z : V × α => z.2) fun _ _ _ _ => rfl
theorem alike_F (p q : Fl) : PySem.W.alike (encF p) (encF q) = true := by simp [encF, PySem.W.alike, PySem.W.alikeAll]
theorem depth_F (p : Fl) : (encF p).depth ≤ 60 := by simp [encF, PyData.depth, PyData.depthAll]
end Hb
set_option Elab.async false
set_option linter.all false
set_option maxRecDepth 100000
set_option maxHeartbeats 8000000
namespace Hb
open PySem PySem.Spec PyProof.Rows L2
/-- len(set(xs)), xs a list of unlike texts, or a list or a tuple of unlike ints -/
def tLenSet3 (K : PySem.W.Frag) (ta : TE) : TE := fun σ H Q => ta σ H fun x H1 => ∃ l : Addr, x = .ref l ∧
  ((∃ xs : List Str, SqL K H1 l (xs.map V.str) ∧ xs.Nodup ∧ xs.length ≤ 4000 ∧ Q (.int xs.length) H1) ∨ ∃ ns : List Int, (SqL K H1 l (ns.map V.int) ∨ SqT K H1 l (ns.map V.int)) ∧ ns.Nodup ∧ ns.length ≤ 4000 ∧ Q (.int ns.length) H1)
theorem pe_lenSet3 {X : Cx} {a : Expr} {ta : TE} {p p2 q pos : Pos} (hg : Gl X "len") (hm : X.mg "len" = none) (hg2 : Gl X "set") (hm2 : X.mg "set" = none) (ha : PE X a ta) (calm : X.calm = true := by rfl)
    (na : starEach [a] X.env = (false, eval a X.env) :: starEach [] X.env := by rfl) : PE X (.Call (.Name "len" p) [.Call (.Name "set" p2) [a] [] q] [] pos) (tLenSet3 X.K ta) := by
  refine ⟨fun pins s σ H Q I h => Call_ (ld_blt I hg hm boot_len (callWith_builtin1 (args_cons (Call_ (ld_blt I hg2 hm2 boot_set
    (callWith_type1 (args_cons (thn (ha.run pins s σ H _ I h) fun v z ⟨x, H1, J, r, q⟩ => args_nil ?_) na) na rfl))) rfl) rfl rfl))⟩
  obtain ⟨l, rfl, q⟩ := q
  cases r
  have fin : ∀ (n : Nat) (h' : Heap) (tk : Nat) (κ : Type) (i1 : DecidableEq κ) (i2 : BEq κ) (i3 : LawfulBEq κ) (kd : KeyKind X.prog X.w κ) (S : κ → Bool), n ≤ 4000 → h'.SetOf kd z.heap.objs.size S n → (∀ b o, z.heap.get? b = some o → h'.get? b = some o) → Q (.int n) H1 →
      wpAny (model X.prog X.w) X.A (spliced (backTo pos (starEach [] X.env))) (fun vs y => wpAny (model X.prog X.w) X.A (call (.builtin "len") (Value.ref z.heap.objs.size :: vs)) (EP X pins σ Q) X.xe y) X.xe { z with heap := h', toks := tk } := by
    intro n h' tk κ i1 i2 i3 kd S hn hS hk q
    refine args_nil ?_
    obtain ⟨o, es, ep, t, ho, hex, hd, _, _, _, hf, e⟩ := hS
    have J2 : Inv X pins σ H1 { z with heap := h', toks := tk } := J.kept hk
    exact call_len_set ho hex hd hf (by rw [e] <;> omega) ⟨.int n, H1, J2.tok _, ⟨_, by rw [e]⟩, q⟩
  rcases q with ⟨xs, hq, nd, few, q⟩ | ⟨ns, hq, nd, few, q⟩
  · obtain ⟨its, r, pl, hz⟩ := J.list hq
    exact set_texts (J.ok.hd calm) pl.isList (by simpa using strsAre_of r) nd (by unfold scanBound; omega) fun h' tk hS hk => fin _ h' tk _ inferInstance inferInstance inferInstance _ _ few hS hk q
  · rcases hq with hq | hq
    · obtain ⟨its, r, pl, hz⟩ := J.list hq
      have size : its.toArray.size = ns.length := by rw [List.size_toArray, ← r.length, List.length_map]
      refine call_set_list (J.ok.hd calm) pl.isList (by simpa using RZ.intsAre_vals r) (by rw [size]; unfold scanBound; omega) fun h' tk hS hk => ?_
      rw [size, RZ.firstMet_nodup nd ns.length (Nat.le_refl _)] at hS
      rw [List.take_length] at hS
      exact fin _ h' tk _ inferInstance inferInstance inferInstance _ _ few hS (fun b o e => hk b o (Heap.lt_size e) e) q
    · obtain ⟨its, r, pl, hz⟩ := J.tuple hq
      refine L2.call_set_tupI ns (J.ok.hd calm) (show z.heap.IsTuple l its.toArray from pl) (by simpa using RZ.intsAre_vals r) (by unfold scanBound; omega) fun h' tk c hS hc hk => ?_
      obtain ⟨o, es, ep, t, ho, hex, hd, _, kn, ks, _, hf, e, _⟩ := hS
      have pm : (es.toList.map L2.keyOf).Perm ns := (List.perm_ext_iff_of_nodup kn nd).mpr fun k => by rw [← ks k, decide_eq_true_iff]
      have n1 : es.size = ns.length := by have q := pm.length_eq; rw [List.length_map, Array.length_toList] at q; exact q
      refine args_nil ?_
      have J2 : Inv X pins σ H1 { z with heap := h', toks := tk } := J.kept hk
      exact call_len_set ho hex hd hf (by rw [n1] <;> omega) ⟨.int ns.length, H1, J2.tok _, ⟨_, by rw [n1]⟩, q⟩
end Hb
set_option Elab.async false
set_option linter.all false
set_option maxRecDepth 100000
set_option maxHeartbeats 4000000
namespace Hb
open PySem PySem.Spec PyProof.Rows L2
section
variable {P : Program} {w : World} {K : PySem.W.Frag} {mg : Str → Option Value} {base : Heap}
/-- a class whose __init__ has j + 1 defaults, every argument written -/
def Df1d (K : PySem.W.Frag) (mg : Str → Option Value) (C qual : Str) (st : Stmt) (j : Nat) : Prop := Mk K (He.ga K C) (He.ma K (He.ga K C) "__init__") ∧ mg C = some (.ref (He.ga K C)) ∧
  ∃ fd dvs, dvs.length = j + 1 ∧ FunD K "__init__" qual (defArgs st) (defBody st) (defScope st) dvs [] (He.ma K (He.ga K C) "__init__") fd
theorem mak_mkD {C qual : Str} {st : Stmt} {N ps : List Str} {k j : Nat} {sp : Sp} (D : Df1d K mg C qual st j) (S : FnScope N ps (defScope st))
    (bd : ∀ (T : Addr) (kV doc pm : Value) (an : Option Addr) (cdv ct : Value) (us its : List Value), us.length = ps.length → its.length = j + 1 →
      ∃ k, bindArgs (PySem.W.fnOf "__init__" qual (defArgs st) (defBody st) (defScope st) (.ref T) kV doc pm an cdv ct) ⟨us, []⟩ = seqItems? (.ref T) >>= k ∧ k (some its.toArray) = pure (ps.zip us))
    (len : ∀ vs H Q E, sp vs H Q E → vs.length = ps.length)
    (hbody : ∀ (f : Addr) (cdv : Value) (A : Around) (outer : List Env) (s : Shared) (H : Hp) (vs : List V) (Q : VK) (E : XK), Room k (A.deeper (envOfC qual (defScope st) s.heap.objs.size f cdv)) → sp vs H Q E →
      ∃ t, PSs (cxOf CX0 P w K mg base N qual (defScope st) f cdv A outer s H E).nox (defBody st) t ∧ t { nx := fun _ H' => Q .non H', rt := Q } (start N vs) H) : C8.Mak P w K mg base (k + 1) C (He.ga K C) sp [] := by
  obtain ⟨M, hm, fd, dvs, dl, F⟩ := D
  obtain ⟨ds, r, b⟩ := F.binds1 ps.length (j + 1) (by intro e; rw [e] at dl; cases dl) (by rw [dl, Nat.sub_self, Nat.add_zero]) fun T kV doc pm an cdv ct us its h1 h2 => by
    obtain ⟨k, e1, e2⟩ := bd T kV doc pm an cdv ct us its h1 (by rw [h2, dl])
    exact ⟨k, e1, by rw [e2, List.drop_of_length_le (by rw [h2, dl] <;> exact Nat.le_refl _), List.append_nil]⟩
  rw [List.drop_of_length_le (by rw [dl] <;> exact Nat.le_refl _)] at r
  cases r
  exact ⟨⟨_, fd, ps, [], M, F.ok S len fun cdv A outer s H vs Q E hr h => by
    obtain ⟨t, h1, h2⟩ := hbody _ cdv A outer s H vs Q E hr h
    exact ⟨t, h1.nox, h2⟩, hm, b, .nil⟩⟩
end
end Hb
namespace Hb
open PySem PySem.Spec PyProof.Rows L2
/-- all but the object at x stays -/
def KX (x : Addr) (H H' : Hp) : Prop := ∀ b o, b ≠ x → H b = some o → H' b = some o
theorem KX.refl (x : Addr) (H : Hp) : KX x H H := fun _ _ _ e => e
theorem KX.trans {x : Addr} {H H1 H2 : Hp} (a : KX x H H1) (b : KX x H1 H2) : KX x H H2 := fun c o n e => b c o n (a c o n e)
theorem Same.kx {x : Addr} {H H' : Hp} (s : Same H H') : KX x H H' := fun b o _ e => s b o e
theorem KX.put {x : Addr} {H : Hp} {o : HO} : KX x H (upd H x o) := fun b u n e => by rw [upd_ne n]; exact e
section
variable {K : PySem.W.Frag} {H H' : Hp} {x C dx a : Addr} {fs : List (Str × V)} {xs : List V}
theorem KX.tk (k : KX x H H') (e : H x = some (.ins C dx fs)) : TK H H' :=
  ⟨fun b ys h => k b _ (by rintro rfl; rw [e] at h; cases h) h, fun b o u h => k b _ (by rintro rfl; rw [e] at h; cases h) h⟩
theorem KX.seq (k : KX x H H') (e : H x = some (.ins C dx fs)) (h : SqL K H a xs) : SqL K H' a xs :=
  SqL.keep (k.tk e) h fun q => k a _ (by rintro rfl; rw [e] at q; cases q) q
end
end Hb
set_option Elab.async false
set_option linter.all false
set_option maxRecDepth 100000
set_option maxHeartbeats 4000000
namespace Hb
open PySem PySem.Spec PyProof.Rows L2
/-- a drawn house -/
structure Hok (h : Hz) (r m : Int) (ws : List Str) : Prop where
  r1 : 1 ≤ h.rooms
  r2 : h.rooms ≤ r
  d : ∀ x ∈ h.doors, inR h.rooms x.1 ∧ inR h.rooms x.2.1 ∧ x.1 ≠ x.2.1 ∧ ∀ n, x.2.2 = some n → n ∈ ws
  dm : (h.doors.length : Int) ≤ m
  f : ∀ x ∈ h.floors, inR h.rooms x.1 ∧ x.2 ∈ ws
  fs : (h.floors.map Prod.fst).Pairwise (· < ·)
  fm : (h.floors.length : Int) ≤ h.rooms
  c : ∀ x ∈ h.cradles, inR h.rooms x
  cs : h.cradles.Pairwise (· < ·)
  cm : (h.cradles.length : Int) ≤ h.rooms
theorem nodup_of_lt {xs : List Int} (h : xs.Pairwise (· < ·)) : xs.Nodup := h.imp fun {a b} q e => by subst e; exact absurd q (Int.lt_irrefl _)
theorem Hok.hin {h : Hz} {r m : Int} {ws : List Str} (x : Hok h r m ws) (hr : r ≤ 1000) (hm : m ≤ 1000) (hw : ∀ w ∈ ws, nameB w = true) : Hin h :=
  ⟨x.r1, fun y hy => by obtain ⟨a, b, c, e⟩ := x.d y hy; exact ⟨a, b, c, fun n hn => hw n (e n hn)⟩, fun y hy => ⟨(x.f y hy).1, hw _ (x.f y hy).2⟩, nodup_of_lt x.fs, x.c, nodup_of_lt x.cs,
    by have := x.dm; omega, by have := x.fm; have := x.r2; omega, by have := x.cm; have := x.r2; omega⟩
theorem perm_td {K : PySem.W.Frag} {H : Hp} {α : Type} {enc : α → PyData} {ys vs : List V} (h : ys.Perm vs) : ∀ {ds : List α}, TDs K H vs (ds.map enc) → ∃ es : List α, es.Perm ds ∧ TDs K H ys (es.map enc) := by
  induction h with
  | nil => exact fun {ds} t => ⟨ds, .refl _, t⟩
  | cons x p ih =>
    intro ds t
    cases ds with
    | nil => cases t
    | cons d ds =>
      obtain ⟨v, w, e, t1, t2⟩ := TDs.cons_inv t
      cases e
      obtain ⟨es, pe, te⟩ := ih t2
      exact ⟨d :: es, pe.cons d, .cons t1 te⟩
  | swap x y l =>
    intro ds t
    match ds, t with
    | [], t => cases t
    | [d], t =>
      obtain ⟨v, w, e, t1, t2⟩ := TDs.cons_inv t
      cases e
      cases t2
    | d :: d2 :: ds, t =>
      obtain ⟨v, w, e, t1, t2⟩ := TDs.cons_inv t
      cases e
      obtain ⟨v, w, e, t3, t4⟩ := TDs.cons_inv t2
      cases e
      exact ⟨d2 :: d :: ds, .swap _ _ _, .cons t3 (.cons t1 t4)⟩
  | trans p q ih1 ih2 =>
    intro ds t
    obtain ⟨es, pe, te⟩ := ih2 t
    obtain ⟨fs, pf, tf⟩ := ih1 te
    exact ⟨fs, pf.trans pe, tf⟩
theorem shp_door {x : Dr} (h : ∀ n, x.2.2 = some n → PyData.strOk n = true) : Shp (encD x) := by
  refine shp_tup fun d hd => ?_
  simp only [List.mem_cons, List.not_mem_nil, or_false] at hd
  rcases hd with rfl | rfl | rfl
  · exact ⟨by simp [PyData.canLay0], by simp [PyData.depth]⟩
  · exact ⟨by simp [PyData.canLay0], by simp [PyData.depth]⟩
  · cases e : x.2.2 with
    | none => exact ⟨by simp [nzD, PyData.canLay0], by simp [nzD, PyData.depth]⟩
    | some n => exact ⟨by simp only [nzD, PyData.canLay0]; exact h n e, by simp [nzD, PyData.depth]⟩
end Hb
namespace Hb
open PySem PySem.Spec PyProof.Rows L2
theorem Kp.acc {d g : Addr} {H H' : Hp} {D : Addr} {o : HO} (k : Kp d g H H') (n : H D = none) : Kp d g H (upd H' D o) := fun b u n1 n2 e => by
  rw [upd_ne (ne_of_none e n)]
  exact k b u n1 n2 e
theorem perm_two {α : Type} {ys : List α} {x y : α} (h : ys.Perm [x, y]) : ys = [x, y] ∨ ys = [y, x] := by
  have l := h.length_eq
  match ys, l with
  | [a, b], _ =>
    have m : a ∈ [x, y] := h.mem_iff.mp (by simp)
    simp only [List.mem_cons, List.not_mem_nil, or_false] at m
    rcases m with rfl | rfl
    · have q := (List.perm_cons a).mp h
      have e := List.perm_singleton.mp q
      rw [e]; exact .inl rfl
    · have h2 : [a, b].Perm [a, x] := h.trans (List.Perm.swap _ _ _)
      have q := (List.perm_cons a).mp h2
      have e := List.perm_singleton.mp q
      rw [e]; exact .inr rfl
theorem good_int {K : PySem.W.Frag} {H : Hp} (i : Int) : Good K H (.int i) := ⟨.int i, .int i, by simp [PyData.canLay0], by simp [PyData.depth]⟩
/-- a door's noise, as it is picked -/
theorem noise_of {ws : List Str} {v : V} (h : v ∈ ws.map V.str ++ [V.non]) : ∃ n : Option Str, v = nzV n ∧ ∀ w, n = some w → w ∈ ws := by
  rcases List.mem_append.mp h with h | h
  · obtain ⟨w, hw, rfl⟩ := List.mem_map.mp h
    exact ⟨some w, rfl, fun w' e => by cases e; exact hw⟩
  · rw [List.mem_singleton.mp h]
    exact ⟨none, rfl, fun w e => by cases e⟩
def DrW (r : Int) (ws : List Str) (x : Dr) : Prop := inR r x.1 ∧ inR r x.2.1 ∧ x.1 ≠ x.2.1 ∧ ∀ n, x.2.2 = some n → n ∈ ws
end Hb
namespace Hb
open PySem PySem.Spec PyProof.Rows L2
end Hb
set_option Elab.async false
set_option linter.all false
set_option maxRecDepth 100000
set_option maxHeartbeats 4000000
namespace Hb
open PySem PySem.Spec PyProof.Rows L2
theorem rg_mem {M : Int} {v : V} (h : v ∈ rgV 0 M) : ∃ A : Int, v = .int A ∧ inR M A := by
  obtain ⟨i, hi, rfl⟩ := List.mem_map.mp h
  have := List.mem_range.mp hi
  exact ⟨_, rfl, by omega, by omega⟩
theorem rg_nodup (M : Int) : (rgV 0 M).Nodup := by
  unfold rgV
  refine List.Pairwise.map _ (fun a b h e => h ?_) List.nodup_range
  injection e with e
  omega
theorem take_two {ys : List V} {M : Int} (pm : ys.Perm (rgV 0 M)) (h : 2 ≤ M) : ∃ A B : Int, ys.take 2 = [.int A, .int B] ∧ inR M A ∧ inR M B ∧ A ≠ B := by
  have l := pm.length_eq
  rw [rgV_length] at l
  have nd := pm.nodup_iff.mpr (rg_nodup M)
  match ys, l with
  | [], l => exact absurd l (by simp; omega)
  | [x], l => exact absurd l (by simp; omega)
  | x :: y :: r, _ =>
    obtain ⟨A, rfl, a⟩ := rg_mem (pm.mem_iff.mp (List.mem_cons_self (a := x)))
    obtain ⟨B, rfl, b⟩ := rg_mem (pm.mem_iff.mp (List.mem_cons_of_mem _ (List.mem_cons_self (a := y))))
    refine ⟨A, B, rfl, a, b, fun e => ?_⟩
    subst e
    exact (List.nodup_cons.mp nd).1 List.mem_cons_self
end Hb
set_option Elab.async false
set_option linter.all false
set_option maxRecDepth 100000
set_option maxHeartbeats 4000000
/-! == by a def of the class, whatever stands at its right. -/
namespace Hb
open PySem PySem.Spec PyProof.Rows L2
/-- the class at C has an __eq__ of its own -/
structure EqOf (P : Program) (w : World) (K : PySem.W.Frag) (mg : Str → Option Value) (base : Heap) (k : Nat) (C : Addr) (sp : Sp) : Prop where
  ex : ∃ (f : Addr) (fd : FuncData) (ps : List Str), PySem.W.findIn K (.ref C) "__eq__" = some (some (.ref f)) ∧ PySem.W.isFn K (.ref f) = true ∧ FnOk P w K mg base CX0 k f fd ps sp ∧ Binds K fd ps []
/-- x == y, x of the class at C, y of a type that is known and not below C -/
def rEqOwn (K : PySem.W.Frag) (C : Addr) (sp : Sp) : R2 := fun x y H Q => ∃ (a dx : Addr) (fs : List (Str × V)) (tb : Value), x = .ref a ∧ H a = some (.ins C dx fs) ∧ TyX K H y tb ∧ PySem.W.notFirst K C tb = true ∧ sp [x, y] H Q C8.E0
section
variable {X : Cx} {C : Addr} {k j : Nat} {sp : Sp}
theorem op_eqOwn (c : EqOf X.prog X.w X.K X.mg X.base k C sp) (hr : Room j X.A) (hk : k ≤ j) : OpR X (compareOp .Eq) (rEqOwn X.K C sp) := by
  intro pins s σ H x y v u Q I rx ry h
  obtain ⟨f, fd, ps, hs, hf, F, hb⟩ := c.ex
  obtain ⟨a, dx, fs, tb, rfl, ha, ty, nf, q⟩ := h
  cases (show v = Value.ref a from rx)
  obtain ⟨mA, J, _⟩ := ins_get I.hok ha
  obtain ⟨od, J, _⟩ := J.look
  obtain ⟨m, hF⟩ := I.fr
  obtain ⟨Ph, kit, hP, _⟩ := kit_of I ry ty
  have hj := hr.mono hk
  show wpAny _ _ (richCompare .Eq (.ref a) u) _ _ _
  refine PySem.W.cmp_K (op := .Eq) (tb := tb) hj.units0 hF I.ok.mod.kin J (kit.ty _ _ I.kIn hP) nf hs hf ?_
  refine wpAny_mono (L2.run_fn (dvs := []) (ds := []) F hj hb .nil C8.pass0 I (us := [.ref a, u]) (vs := [.ref a, y]) (.cons rfl (.cons ry .nil)) (by simpa using q)) (fun w s' z => ?_) fun _ _ e => e
  obtain ⟨z', H', I', rz, qz⟩ := z
  exact SlX.cmpback rz ⟨z', H', I', rz, qz⟩
end
section
variable {prog : Program} {w : World} {A : Around} {E : Value → Shared → Prop} {s : Shared} {K : PySem.W.Frag} {x C f : Addr} {b : Value} {ox : Obj} {od : Option Obj}
/-- object's != asks the class's own == -/
theorem ne_body {Q : Fin → Shared → Prop} (hu : A.units < cLine) (X : K.In s.heap) (I : PySem.W.InstAt s.heap x ox C od) (hs : PySem.W.findIn K (.ref C) "__eq__" = some (some (.ref f))) (hf : PySem.W.isFn K (.ref f) = true)
    (h : wpAny (model prog w) A (call (.ref f) [.ref x, b]) (fun v s' => ∃ c, v = .bool c ∧ Q (.done (.ret (.bool (!c)))) s') E s) : wpAny (model prog w) A (Builtin.«object.__ne__» ⟨[.ref x, b], []⟩) Q E s := by
  unfold Builtin.«object.__ne__»
  repeat (first
    | (with_reducible refine wpAny_cRoomFor hu ?_)
    | (refine wpAny_bind (m := callSpecialIfBound? (.ref x) (Str.ofString "__eq__") [b]) (PySem.W.ifBound_K X I hs hf (wpAny_mono h (fun v z hv => by
        obtain ⟨c, rfl, q⟩ := hv
        repeat (first | exact q | exact wpAny_pure q | (refine wpAny_bind (m := truthy (.bool _)) (wpAny_truthy_bool ?_)) | wp_step)) fun _ _ e => e)))
    | wp_step)
theorem ne_bound {Q : Option Value → Shared → Prop} (X : K.In s.heap) (I : PySem.W.InstAt s.heap x ox C od) (hn : PySem.W.findIn K (.ref C) "__ne__" = some (some (.builtin "object.__ne__")))
    (h : wpAny (model prog w) A (call (.builtin "object.__ne__") [.ref x, b]) (fun v => Q (some v)) E s) : wpAny (model prog w) A (callSpecialIfBound? (.ref x) "__ne__" [b]) Q E s := by
  have last : wpAny (model prog w) A (call (.builtin "object.__ne__") ([.ref x] ++ [b]) >>= fun v => pure (some v)) Q E s := wpAny_bind (wpAny_mono h (fun _ _ q => wpAny_pure q) fun _ _ e => e)
  simp only [callSpecialIfBound?, bindSpecialIfBound?]
  refine wpAny_holding (wpAny_bind (wpAny_bind (wpAny_bind (I.type.here ((PySem.W.looks_findIn X hn).here (wpAny_bind (wpAny_askSetting (wpAny_ite ?_))))))))
  split
  · exact wpAny_bind (wpAny_of_eq (F.cmp_object.ne.bind _) (wpAny_pure last))
  · exact wpAny_tryCatch (wpAny_bind (wpAny_of_eq (F.cmp_object.ne.bind _) (wpAny_pure last)))
end
/-- x != y likewise -/
def rNeOwn (K : PySem.W.Frag) (C : Addr) (sp : Sp) : R2 := fun x y H Q => ∃ (a dx : Addr) (fs : List (Str × V)) (tb : Value), x = .ref a ∧ H a = some (.ins C dx fs) ∧ TyX K H y tb ∧ PySem.W.notFirst K C tb = true ∧ sp [x, y] H (fun v H' => ∃ b, v = .bl b ∧ Q (.bl (!b)) H') C8.E0
section
variable {X : Cx} {C : Addr} {k j : Nat} {sp : Sp}
theorem op_neOwn (c : EqOf X.prog X.w X.K X.mg X.base k C sp) (hn : PySem.W.findIn X.K (.ref C) "__ne__" = some (some (.builtin "object.__ne__"))) (hm : PySem.W.mroIn X.K C (.type "object") = some true) (hr : Room j X.A) (hk : k + 1 ≤ j) :
    OpR X (compareOp .NotEq) (rNeOwn X.K C sp) := by
  intro pins s σ H x y v u Q I rx ry h
  obtain ⟨f, fd, ps, hs, hf, FO, hb⟩ := c.ex
  obtain ⟨a, dx, fs, tb, rfl, ha, ty, nf, q⟩ := h
  cases (show v = Value.ref a from rx)
  obtain ⟨mA, J, _⟩ := ins_get I.hok ha
  obtain ⟨od, J, _⟩ := J.look
  obtain ⟨Ph, kit, hP, _⟩ := kit_of I ry ty
  have hj : Room (k + 1) X.A := hr.mono hk
  have X0 := I.kIn
  have tyb := kit.ty (model X.prog X.w) _ X0 hP
  have r2 : Vals [V.ref a, y] [Value.ref a, u] := .cons rfl (.cons ry .nil)
  have go : wpAny (model X.prog X.w) X.A.in1 (call (.ref f) [.ref a, u]) (fun v s' => ∃ b, v = .bool b ∧ EP X pins σ Q (.bool (!b)) s') X.xe s := by
    refine wpAny_call (codeAny_mono (FO.run X.A.in1 X.stack s H ⟨[.ref a, u], []⟩ [.ref a, u] [.ref a, y] _ C8.E0 hj.in1 I.env0.in1 (by
      have l := FO.len _ _ _ _ q
      have z := hb s [.ref a, u] X0 (by simpa using l)
      simpa using z) r2 q) fun r s' hq => ?_)
    cases r with
    | error e => exact (C8.pass0 (E := C8.E0) pins σ H s e s' I hq)
    | ok fl =>
      cases fl with
      | ret w2 =>
        obtain ⟨z, H', I', rz, b, ez, qz⟩ := I.after hq
        subst ez
        cases (show w2 = Value.bool b from rz)
        exact ⟨b, rfl, .bl (!b), H', I', rfl, qz⟩
      | next => exact False.elim hq
      | brk => exact False.elim hq
      | cont => exact False.elim hq
  have one : wpAny (model X.prog X.w) X.A (tryCompare (.ref a) "__ne__" u) (fun r s' => ∃ v, r = some v ∧ EP X pins σ Q v s') X.xe s := by
    unfold tryCompare
    refine wpAny_bind (ne_bound X0 J hn (wpAny_call (codeAny_call_builtin F.cmp_object.ne.plain F.cmpEntry_ne (PySem.W.check_slot F.cmpKind_ne F.cmpSplit_ne (J.type.andThen (PySem.W.looks_mroIn X0 hm)) (F.cmpArgs_ne _ _)
      (ne_body hj.in1.units0 X0 J hs hf (wpAny_mono go (fun v s' hv => ?_) fun _ _ e => e))))))
    obtain ⟨b, rfl, hq⟩ := hv
    exact ⟨b, rfl, wpAny_pure ⟨_, rfl, hq⟩⟩
  show wpAny _ _ (richCompare .NotEq (.ref a) u) _ _ _
  unfold richCompare
  simp only [cmpInfo, oneThing_ref]
  refine wpAny_holding (wpAny_bind (wpAny_cRoomFor hj.units0 (wpAny_bind (J.type.here (wpAny_bind (tyb.here ?_))))))
  split
  · rename_i ne
    have e : PySem.W.subIn X.K tb (.ref C) = some false := by
      have z := nf
      unfold PySem.W.notFirst at z
      rcases Bool.or_eq_true_iff.mp z with z | z
      · exfalso
        have z2 := eq_of_beq z
        subst z2
        simp at ne
      · exact eq_of_beq z
    refine wpAny_bind ((PySem.W.looks_subIn X0 e).here ?_)
    simp only [Bool.false_eq_true, if_false]
    refine wpAny_bind (wpAny_mono one (fun r s1 z => ?_) fun _ _ e => e)
    obtain ⟨v, rfl, z⟩ := z
    exact wpAny_pure z
  · refine wpAny_bind (wpAny_pure ?_)
    simp only [Bool.false_eq_true, if_false]
    refine wpAny_bind (wpAny_mono one (fun r s1 z => ?_) fun _ _ e => e)
    obtain ⟨v, rfl, z⟩ := z
    exact wpAny_pure z
end
end Hb
set_option Elab.async false
set_option linter.all false
set_option maxRecDepth 100000
set_option maxHeartbeats 4000000
/-! str(x) by a def of the class. -/
namespace Hb
open PySem PySem.Spec PyProof.Rows
section
variable {prog : Program} {w : World} {A : Around} {E : Value → Shared → Prop} {s : Shared} {K : PySem.W.Frag} {x C f : Addr} {ox : Obj} {od : Option Obj}
theorem strOf_own {Q : Value → Shared → Prop} (hu : A.units < cLine) (X : K.In s.heap) (I : PySem.W.InstAt s.heap x ox C od) (hs : PySem.W.findIn K (.ref C) "__str__" = some (some (.ref f))) (hf : PySem.W.isFn K (.ref f) = true)
    (h : wpAny (model prog w) A (call (.ref f) [.ref x]) (fun r z => ∃ y t, r = Value.str y t ∧ Q r z) E s) : wpAny (model prog w) A (Builtin.Str.strOf (.ref x)) Q E s := by
  unfold Builtin.Str.strOf
  refine PySem.W.KFB.if_not rfl (wpAny_bind (m := cRoomFor _ _) (wpAny_cRoomFor hu (wpAny_bind (m := callSpecial? (.ref x) (Str.ofString "__str__")) (PySem.W.special_fn X I hs (beq_iff_eq.mp hf) (wpAny_mono h (fun r z hr => ?_) fun _ _ e => e)))))
  obtain ⟨y, t, rfl, q⟩ := hr
  exact wpAny_pure q
theorem call_str_own {Q : Value → Shared → Prop} (hu : A.in1.in1.units < cLine) (X : K.In s.heap) (I : PySem.W.InstAt s.heap x ox C od) (hs : PySem.W.findIn K (.ref C) "__str__" = some (some (.ref f))) (hf : PySem.W.isFn K (.ref f) = true)
    (h : wpAny (model prog w) A.in1.in1 (call (.ref f) [.ref x]) (fun r z => ∃ y t, r = Value.str y t ∧ Q r z) E s) : wpAny (model prog w) A (call (.type "str") [.ref x]) Q E s := by
  refine callType_codes (T := "str") (Bi := Builtin.«object.__init__») (Q₁ := fun r z => ∃ y t, r = Value.str y t ∧ Q r z) PySem.F.called_str (PySem.F.typeCall_str_1 _) PySem.F.entry_object_init ?_ ?_
  · refine codeAny_of_tree ?_
    show wpAny _ A.in1.in1 (do checkBuiltinCall "str.__new__" ⟨[.type "str", .ref x], []⟩; again (.builtin "str.__new__" ⟨[.type "str", .ref x], []⟩)) _ _ s
    refine wpAny_bind (wpAny_of_eq (PySem.F.newCall_str_1 _) (wpAny_pure ⟨plainId_quiet (by decide +kernel) _, codeAny_builtin PySem.F.entry_str_new ?_⟩))
    rw [Around.under_plainId (by decide +kernel) _, str_new_tree (.ref x)]
    refine wpAny_bind (wpAny_pure (wpAny_bind (wpAny_of_eq isSubtype_str_str (wpAny_bind (wpAny_mono (strOf_own hu X I hs hf (wpAny_mono h (fun r z hr => ?_) fun _ _ e => e)) (fun r z q => wpAny_pure q) fun _ _ e => e)))))
    obtain ⟨y, t, rfl, q⟩ := hr
    exact ⟨y, t, rfl, y, t, rfl, q⟩
  · rintro obj z ⟨y, t, rfl, q⟩
    exact ⟨typeIs_str _ _ _, PySem.F.args_object_init_2 _ _, object_init_meets PySem.F.called_str.init.lookup PySem.F.called_str.made (by decide) prog w A.in1 _ z ⟨typeIs_str _ _ _, rfl, q⟩⟩
end
end Hb
namespace Hb
open PySem PySem.Spec PyProof.Rows L2
/-- the class at C has a __str__ of its own -/
structure StrOf (P : Program) (w : World) (K : PySem.W.Frag) (mg : Str → Option Value) (base : Heap) (k : Nat) (C : Addr) (sp : Sp) : Prop where
  ex : ∃ (f : Addr) (fd : FuncData) (ps : List Str), PySem.W.findIn K (.ref C) "__str__" = some (some (.ref f)) ∧ PySem.W.isFn K (.ref f) = true ∧ FnOk P w K mg base CX0 k f fd ps sp ∧ Binds K fd ps []
def rStrOwn (C : Addr) (sp : Sp) : List V → Hp → VK → Prop := fun xs H Q => ∃ (a dx : Addr) (fs : List (Str × V)), xs = [.ref a] ∧ H a = some (.ins C dx fs) ∧ sp [.ref a] H (fun v H' => ∃ y, v = .str y ∧ Q v H') C8.E0
section
variable {X : Cx} {C : Addr} {k j : Nat} {sp : Sp}
theorem call_strOwn (c : StrOf X.prog X.w X.K X.mg X.base k C sp) (hr : Room j X.A) (hk : k + 2 ≤ j) : CallR X (.type "str") (rStrOwn C sp) := by
  intro pins s σ H xs us Q I r h
  obtain ⟨f, fd, ps, hs, hf, FO, hb⟩ := c.ex
  obtain ⟨a, dx, fs, rfl, ha, q⟩ := h
  rw [Vals.ref1 r]
  obtain ⟨mA, J, _⟩ := ins_get I.hok ha
  obtain ⟨od, J, _⟩ := J.look
  have X0 := I.kIn
  have hj : Room (k + 2) X.A := hr.mono hk
  have h2 : Room k X.A.in1.in1 := (show Room (k + 1) X.A.in1 from hj.in1).in1
  have r2 : Vals [V.ref a] [Value.ref a] := .cons rfl .nil
  refine call_str_own h2.units0 X0 J hs hf (wpAny_call (codeAny_mono (FO.run X.A.in1.in1 X.stack s H ⟨[.ref a], []⟩ [.ref a] [.ref a] _ C8.E0 h2 I.env0.in1.in1 (by
      have l := FO.len _ _ _ _ q
      have z := hb s [.ref a] X0 (by simpa using l)
      simpa using z) r2 q) fun r s' hq => ?_))
  cases r with
  | error e => exact (C8.pass0 (E := C8.E0) pins σ H s e s' I hq)
  | ok fl =>
    cases fl with
    | ret w2 =>
      obtain ⟨z, H', I', rz, y, ez, qz⟩ := I.after hq
      subst ez
      obtain ⟨t, e⟩ := (show ∃ t, w2 = Value.str y t from rz)
      subst e
      exact ⟨y, t, rfl, .str y, H', I', ⟨t, rfl⟩, qz⟩
    | next => exact False.elim hq
    | brk => exact False.elim hq
    | cont => exact False.elim hq
end
end Hb
set_option Elab.async false
set_option linter.all false
set_option maxRecDepth 100000
set_option maxHeartbeats 4000000
namespace Hb
open PySem PySem.Spec PyProof.Rows L2
/-! ### any values: data whose lists are not the deal's -/
mutual
inductive VD (K : PySem.W.Frag) (N : Addr → Prop) (H : Hp) : V → PyData → Prop
  | non : VD K N H .non .none
  | bl (b : Bool) : VD K N H (.bl b) (.bool b)
  | int (i : Int) : VD K N H (.int i) (.int i)
  | str (x : Str) : VD K N H (.str x) (.str x)
  | lst {a : Addr} {xs : List V} {ds : List PyData} : H a = some (.lst xs) → N a → VDs K N H xs ds → VD K N H (.ref a) (.list ds)
  | tup {a : Addr} {xs : List V} {ds : List PyData} : SqT K H a xs → VDs K N H xs ds → VD K N H (.ref a) (.tuple ds)
inductive VDs (K : PySem.W.Frag) (N : Addr → Prop) (H : Hp) : List V → List PyData → Prop
  | nil : VDs K N H [] []
  | cons {v : V} {vs : List V} {e : PyData} {ds : List PyData} : VD K N H v e → VDs K N H vs ds → VDs K N H (v :: vs) (e :: ds)
end
section
variable {K : PySem.W.Frag} {N M : Addr → Prop} {H H' : Hp}
/-- the lists stay -/
def LK (N : Addr → Prop) (H H' : Hp) : Prop := ∀ a xs, N a → H a = some (.lst xs) → H' a = some (.lst xs)
mutual
theorem VD.keep (t : TK H H') (k : LK N H H') (m : ∀ a o, H a = some o → N a → M a) : ∀ {v : V} {e : PyData}, VD K N H v e → VD K M H' v e
  | _, _, .non => .non
  | _, _, .bl b => .bl b
  | _, _, .int i => .int i
  | _, _, .str x => .str x
  | _, _, .lst h n hs => .lst (k _ _ n h) (m _ _ h n) (VDs.keep t k m hs)
  | _, _, .tup h hs => .tup (SqT.keep t h) (VDs.keep t k m hs)
theorem VDs.keep (t : TK H H') (k : LK N H H') (m : ∀ a o, H a = some o → N a → M a) : ∀ {vs : List V} {ds : List PyData}, VDs K N H vs ds → VDs K M H' vs ds
  | _, _, .nil => .nil
  | _, _, .cons h hs => .cons (VD.keep t k m h) (VDs.keep t k m hs)
end
mutual
theorem VD.dp : ∀ {v : V} {e : PyData}, VD K N H v e → Dp K H v e
  | _, _, .non => .non
  | _, _, .bl b => .bl b
  | _, _, .int i => .int i
  | _, _, .str x => .str x
  | _, _, .lst h _ hs => .lst (SqL.of h) (VDs.dp hs)
  | _, _, .tup h hs => .tup h (VDs.dp hs)
theorem VDs.dp : ∀ {vs : List V} {ds : List PyData}, VDs K N H vs ds → DpAll K H vs ds
  | _, _, .nil => .nil
  | _, _, .cons h hs => .cons (VD.dp h) (VDs.dp hs)
end
theorem VDs.app : ∀ {vs ws : List V} {ds es : List PyData}, VDs K N H vs ds → VDs K N H ws es → VDs K N H (vs ++ ws) (ds ++ es)
  | _, _, _, _, .nil, h => h
  | _, _, _, _, .cons h hs, h2 => .cons h (VDs.app hs h2)
theorem VDs.length : ∀ {vs : List V} {ds : List PyData}, VDs K N H vs ds → vs.length = ds.length
  | _, _, .nil => rfl
  | _, _, .cons _ hs => congrArg Nat.succ (VDs.length hs)
theorem depthAll_le {n : Nat} : ∀ {ds : List PyData}, (∀ e ∈ ds, e.depth ≤ n) → PyData.depthAll ds ≤ n
  | [], _ => by simp [PyData.depthAll]
  | d :: ds, h => by
    have h1 := h d List.mem_cons_self
    have h2 := depthAll_le (ds := ds) fun e he => h e (List.mem_cons_of_mem _ he)
    simp only [PyData.depthAll]
    omega
/-- the types that any values have -/
def anyTy : List String := ["NoneType", "bool", "int", "str", "list", "tuple"]
theorem VD.ty {v : V} {e : PyData} (h : VD K N H v e) : ∃ t ∈ anyTy, TyX K H v (.type t) := by
  cases h with
  | non => exact ⟨"NoneType", by decide, .base .non⟩
  | bl b => exact ⟨"bool", by decide, .base (.bl b)⟩
  | int i => exact ⟨"int", by decide, .base (.int i)⟩
  | str x => exact ⟨"str", by decide, .base (.str x)⟩
  | lst h => exact ⟨"list", by decide, ty_lst (SqL.of h)⟩
  | tup h => exact ⟨"tuple", by decide, ty_tup h⟩
end
theorem sub_any {K : PySem.W.Frag} {C : Addr} : ∀ t ∈ anyTy, PySem.W.notFirst K C (.type t) = true := by
  have one : ∀ (t : String) (ts : List Value), fastBuiltinMro t = some ts → ts.contains (Value.ref C) = false → PySem.W.notFirst K C (.type t) = true := fun t ts e n => by
    have q : PySem.W.subIn K (.type t) (.ref C) = some false := by
      show (fastBuiltinMro t).map (·.contains (.ref C)) = some false
      rw [e]
      exact congrArg some n
    unfold PySem.W.notFirst
    rw [q]
    simp
  intro t h
  simp only [anyTy, List.mem_cons, List.not_mem_nil, or_false] at h
  rcases h with rfl | rfl | rfl | rfl | rfl | rfl
  · exact one "NoneType" [.type "NoneType", .type "object"] (by decide +kernel) (by first | rfl | simp)
  · exact one "bool" [.type "bool", .type "int", .type "object"] (by decide +kernel) (by first | rfl | simp)
  · exact one "int" [.type "int", .type "object"] (by decide +kernel) (by first | rfl | simp)
  · exact one "str" [.type "str", .type "object"] (by decide +kernel) (by first | rfl | simp)
  · exact one "list" [.type "list", .type "object"] (by decide +kernel) (by first | rfl | simp)
  · exact one "tuple" [.type "tuple", .type "object"] (by decide +kernel) (by first | rfl | simp)
end Hb
set_option Elab.async false
set_option linter.all false
set_option maxRecDepth 100000
set_option maxHeartbeats 4000000
/-! A class that a local name holds, called. -/
namespace Hb
open PySem PySem.Spec PyProof.Rows L2
/-- c(..), the i-th place holds the class at C -/
def tMakeL (i : Nat) (C : Addr) (sp : Sp) (t : TA) : TE := fun σ H Q => σ[i]? = some (some (.ref C)) ∧ tMake C sp [] C8.E0 t σ H Q
section
variable {X : Cx} {k j i : Nat} {C : Addr} {sp : Sp} {x y : Str} {p pos : Pos} {e : Expr} {es : List Expr} {t : TA}
theorem pe_mkL (c : C8.Mak X.prog X.w X.K X.mg X.base k y C sp []) (hr : Room j X.A) (hk : k + 1 ≤ j) (hN : X.N[i]? = some x) (hv : Vis X.env.scope x) (ha : PA X (e :: es) t) (d1 : (x == ("__debug__" : Str)) = false := by decide) (d2 : (x == ("__classdict__" : Str)) = false := by decide)
    (n1 : starEach (e :: es) X.env = (false, eval e X.env) :: starEach es X.env := by rfl) (n2 : (backTo pos (starEach es X.env)).any (·.1) = false := by rfl) : PE X (.Call (.Name x p) (e :: es) [] pos) (tMakeL i C sp t) := by
  obtain ⟨f, fd, ps, ds, M, F, _, b, d⟩ := c.ex
  refine ⟨fun pins s σ H Q I ⟨at_, q⟩ => wpAny_Call_Name_kw (thn ((pe_var (pos := p) hN hv d1 d2).run pins s σ H (fun v G => v = .ref C ∧ G = H) I ⟨_, at_, rfl, rfl⟩) ?_)⟩
  rintro u s1 ⟨v, G, J, r, rfl, rfl⟩
  obtain rfl : u = Value.ref C := r
  exact PySem.W.callWith_K (h₀ := X.base) J.ok.mod.kin M.kp (thn (ha.run pos pins s1 σ _ _ J q) fun us s2 ⟨vs, H2, J2, r2, q2⟩ => ⟨J2.kIn, run_make M F (hr.mono hk) b d C8.pass0 J2 r2 q2⟩) n1 n2
end
end Hb
set_option Elab.async false
set_option linter.all false
set_option maxRecDepth 100000
set_option maxHeartbeats 4000000
/-! xs[a:b:c] of a list. -/
namespace Hb
open PySem PySem.Spec PyProof.Rows L2
/-- what such a slice picks -/
def pickV {α : Type} (xs : List α) (lo hi st : Option Int) : List α := (sliceRange (sliceBounds lo hi st xs.length).1 (sliceBounds lo hi st xs.length).2.1 (sliceBounds lo hi st xs.length).2.2).filterMap (xs[·]?)
theorem vals_pick {xs : List V} {us : List Value} (r : Vals xs us) : ∀ is : List Nat, Vals (is.filterMap (xs[·]?)) (is.filterMap (us[·]?))
  | [] => .nil
  | i :: is => by
    have ih := vals_pick r is
    cases h : xs[i]? with
    | none =>
      have l := r.length
      have h2 : us[i]? = none := List.getElem?_eq_none_iff.mpr (by have := List.getElem?_eq_none_iff.mp h; omega)
      rw [List.filterMap_cons, List.filterMap_cons]
      simp only [h, h2]
      exact ih
    | some x =>
      obtain ⟨u, hu, ru⟩ := r.get h
      rw [List.filterMap_cons, List.filterMap_cons]
      simp only [h, hu]
      exact .cons ru ih
def tSl3 (K : PySem.W.Frag) (te : TE) (tl th tc : TO) : TE := fun σ H Q => te σ H fun x H1 => tl σ H1 fun lo H2 => th σ H2 fun hi H3 => tc σ H3 fun st H4 => ∃ (a : Addr) (xs : List V), x = .ref a ∧ SqL K H4 a xs ∧ st ≠ some 0 ∧ (pickV xs lo hi st).length ≤ sizeLine ∧
  ∀ p, H4 p = none → Q (.ref p) (upd H4 p (.lst (pickV xs lo hi st)))
section
variable {X : Cx} {e c : Expr} {lo hi : Option Expr} {te : TE} {tl th tc : TO} {p2 pos : Pos}
theorem pe_slice3 (he : PE X e te) (hl : PO X lo tl) (hu : PO X hi th) (hc : PO X (some c) tc) : PE X (.Subscript e (.Slice lo hi (some c) p2) pos) (tSl3 X.K te tl th tc) := by
  refine ⟨fun pins s σ H Q I h => Subscript_ (thn (he.run pins s σ H _ I h) fun v s1 ⟨x, H1, I1, r1, q1⟩ => wpAny_Slice (thn (hl.run pins s1 σ H1 _ I1 q1) fun vl s2 ⟨l, H2, I2, pl, q2⟩ => thn (hu.run pins s2 σ H2 _ I2 q2) fun vu s3 ⟨u, H3, I3, pu, q3⟩ => thn (hc.run pins s3 σ H3 _ I3 q3) fun vt s4 ⟨st, H4, I4, pt, q4⟩ => ?_))⟩
  obtain ⟨a, xs, rfl, hx, n0, few, q⟩ := q4
  obtain rfl : v = Value.ref a := r1
  have J : Inv X pins σ H4 { s4 with heap := s4.heap.push { cls := .type "slice", data := .fields #[vl, vu, vt] } } := I4.kept (t' := s4.toks) fun b ob z => Heap.get?_push_of_some _ z
  obtain ⟨its, r, ht, hz⟩ := J.list hx
  have len := r.length
  show wpAny (model X.prog X.w) X.A (subscriptTail e (.Slice lo hi (some c) p2) (.ref a) (.ref s4.heap.objs.size)) (EP X pins σ Q) X.xe { s4 with heap := s4.heap.push { cls := .type "slice", data := .fields #[vl, vu, vt] } }
  refine tail_any (T := "list") (ops := [.ref a, .ref s4.heap.objs.size]) ht.isList.typeIs slot_list_getitem.lookup (wpAny_getItem_list_slice ht.isList (Heap.IsSliceOf.new ..) pl pu pt n0 ?_ (by rw [List.size_toArray] <;> omega)) (by first | rfl | (unfold subscripted; rfl) | simp [subscripted])
  have e1 : slicePick its.toArray l u st = (pickV its l u st).toArray := by
    unfold slicePick pickV
    simp only [List.size_toArray, List.getElem?_toArray]
  have vp : Vals (pickV xs l u st) (pickV its l u st) := by
    unfold pickV
    rw [len]
    exact vals_pick r _
  rw [e1]
  refine ⟨.ref _, _, J.laid (t' := s4.toks) (o := .lst (pickV xs l u st)) (fun b ob z => Heap.get?_push_of_some _ z) (Nat.le_refl _) ?_, rfl, q _ (J.hok.fresh (Nat.le_refl _))⟩
  exact ⟨few, _, 0, vp, Heap.get?_push_size _ rfl⟩
end
end Hb
set_option Elab.async false
set_option linter.all false
set_option maxRecDepth 100000
set_option maxHeartbeats 8000000
/-! Sets of texts, with the order of their table. -/
namespace Hb
open PySem PySem.Spec PyProof.Rows L2
def keyS (e : Int × Value) : Str := match e.2 with | .str k _ => k | _ => Str.empty
def GoodS (P : Program) (w : World) (e : Int × Value) : Prop := ∃ k tk, e.2 = Value.str k tk ∧ e.1 = (PySem.strKind P w).hash k
/-- the set of texts at a: its members are l, unlike ones -/
structure SetTx (P : Program) (w : World) (h : Heap) (a : Addr) (l : List Str) (o : Obj) (es : Array (Int × Value)) (ep : Nat) (t : SetTable) : Prop where
  ho : h.get? a = some o
  ex : o.ExactSet
  hd : o.data = .set es ep t
  good : ∀ e ∈ es.toList, GoodS P w e
  mem : (es.toList.map keyS).Perm l
  few : es.size < scanBound
  fits : t.fits es.size = true
  ris : Ris t.place.toList
  led : w.params.followText "set-order" = true ∨ t.led = true
def SetT (P : Program) (w : World) (h : Heap) (a : Addr) (l : List Str) : Prop := ∃ o es ep t, SetTx P w h a l o es ep t
section
variable {P : Program} {w : World} {A : Around} {E : Value → Shared → Prop} {s : Shared} {h h' : Heap} {a : Addr} {l m : List Str}
theorem SetT.at (R : SetT P w h a l) (k : ∀ o, h.get? a = some o → h'.get? a = some o) : SetT P w h' a l := by
  obtain ⟨o, es, ep, t, x⟩ := R
  exact ⟨o, es, ep, t, k o x.ho, x.ex, x.hd, x.good, x.mem, x.few, x.fits, x.ris, x.led⟩
theorem SetT.perm (R : SetT P w h a l) (p : l.Perm m) : SetT P w h a m := by
  obtain ⟨o, es, ep, t, x⟩ := R
  exact ⟨o, es, ep, t, x.ho, x.ex, x.hd, x.good, x.mem.trans p, x.few, x.fits, x.ris, x.led⟩
theorem goodS_is {e : Int × Value} (g : GoodS P w e) (k : Str) : (PySem.strKind P w).is k e.2 = true ↔ keyS e = k := by
  obtain ⟨j, tk, e1, _⟩ := g
  have z := strKind_is P w j tk
  unfold keyS
  rw [e1]
  constructor
  · intro q
    exact (PySem.strKind P w).inj _ _ _ z q
  · rintro rfl
    exact z
theorem elemsS {l : List (Int × Value)} (g : ∀ e ∈ l, GoodS P w e) : ElemsOf (PySem.strKind P w) l := fun e he => by
  obtain ⟨k, tk, e1, e2⟩ := g e he
  exact ⟨⟨k, by rw [e1]; exact strKind_is P w k tk, e2⟩, by rw [e1] <;> rfl⟩
/-- what is laid into the table, and the table laid anew where it is too full -/
theorem add_text_tail {g : Bool → Sem Unit} (hg : ∀ (b : Bool) (z : Shared) (Q' : Unit → Shared → Prop), Q' () z → wpAny (model P w) A (g b) Q' E z) {o : Obj} {es : Array (Int × Value)} {ep : Nat} {t : SetTable} (ho : s.heap.get? a = some o) (hex : o.ExactSet) (hd : o.data = .set es ep t)
    {es1 : Array (Int × Value)} {t2 : SetTable} (g1 : ∀ e ∈ es1.toList, GoodS P w e) (m1 : (es1.toList.map keyS).Perm l) (b1 : es1.size < scanBound) (f2 : t2.fits es1.size = true) (r2 : Ris t2.place.toList) (l2 : w.params.followText "set-order" = true ∨ t2.led = true) {dummy : Bool} {R : Option Bool → Shared → Prop}
    (hR : ∀ h', Heap.SameBut a s.heap h' → SetT P w h' a l → R (some true) { s with heap := h' }) :
    wpAny (model P w) A (do
        storeSet a es1 t2
        if (!dummy && t2.tooFull) = true then do
            g (relayAll t2 es1 (SetTable.grown es1.size)).2.2
            storeSet a (relayAll t2 es1 (SetTable.grown es1.size)).1 (relayAll t2 es1 (SetTable.grown es1.size)).2.1
            pure (some true)
          else pure (some true)) R E s := by
  have o1 := store_at (es' := es1) (t' := t2) ho hd
  have same1 := Heap.SameBut.update s.heap a (Obj.putSet es1 t2)
  refine wpAny_bind (wpAny_storeSet_of ho hd (?_ : wpAny _ _ _ _ _ _) (fits_of_scanBound b1))
  split
  · have z1 := relayAll_perm t2 es1 (SetTable.grown es1.size)
    have z2 := relayAll_fits t2 es1 (SetTable.grown es1.size)
    have z3 := relayAll_ris t2 es1 (SetTable.grown es1.size)
    have z4 := relayAll_led t2 es1 (SetTable.grown es1.size)
    generalize relayAll t2 es1 (SetTable.grown es1.size) = Y at z1 z2 z3 z4 ⊢
    obtain ⟨es2, t3, gave⟩ := Y
    simp only at z1 z2 z3 z4 ⊢
    have sz : es2.size = es1.size := by rw [← Array.length_toList, z1.length_eq, Array.length_toList]
    have b2 : es2.size < scanBound := sz ▸ b1
    refine wpAny_bind (hg _ _ _ (wpAny_bind (wpAny_storeSet_of o1 rfl (wpAny_pure (hR _ (same1.trans (Heap.SameBut.update _ a _)) ?_)) (fits_of_scanBound b2))))
    exact ⟨_, es2, _, t3, store_at (es' := es2) (t' := t3) o1 rfl, hex, rfl, fun e he => g1 e (z1.mem_iff.mp he), (z1.map keyS).trans m1, b2, z2, z3, l2.imp id fun z => by rw [z4]; exact z⟩
  · exact wpAny_pure (hR _ same1 ⟨_, es1, _, t2, o1, hex, rfl, g1, m1, b1, f2, r2, l2⟩)
theorem add_text {k : Str} {tk : Tok} {Q : Bool → Shared → Prop} (R : SetT P w s.heap a l) (nd : l.Nodup) (room : l.length + 1 < scanBound) (hQ : ∀ h' b, Heap.SameBut a s.heap h' → SetT P w h' a (if k ∈ l then l else k :: l) → Q b { s with heap := h' }) :
    wpAny (model P w) A (setAddHashed a (.str k tk) ((PySem.strKind P w).hash k)) Q E s := by
  obtain ⟨o, es, ep, t, ho, hex, hd, g, pm, hb, hf, hr, hl⟩ := R
  have key : (PySem.strKind P w).is k (.str k tk) = true := strKind_is P w k tk
  have hsc : (Value.str k tk).scannable = true := rfl
  have hel := elemsS g
  unfold setAddHashed setAddHashedIn
  refine wpAny_holding (wpAny_bind (wpAny_setState_of ho hd hf (?_ : wpAny _ _ _ _ _ _)))
  dsimp only
  rw [byScan_of hsc hb hel]
  simp only [↓reduceIte]
  unfold setAddByScan
  refine wpAny_bind (wpAny_bind (wpAny_rule (wpAny_bind (wpAny_setScan_of key ho hd hf hel ?_))))
  cases fi : List.findIdx? (fun e => (PySem.strKind P w).is k e.2) es.toList with
  | some j =>
    dsimp only
    obtain ⟨hj, pj, _⟩ := List.findIdx?_eq_some_iff_getElem.mp fi
    have inl : k ∈ l := pm.mem_iff.mp (List.mem_map.mpr ⟨_, List.getElem_mem hj, (goodS_is (g _ (List.getElem_mem hj)) k).mp pj⟩)
    refine wpAny_pure (wpAny_pure (hQ s.heap _ (Heap.SameBut.refl a s.heap) ?_))
    rw [if_pos inl]
    exact ⟨o, es, ep, t, ho, hex, hd, g, pm, hb, hf, hr, hl⟩
  | none =>
    dsimp only
    have notl : k ∉ l := fun z => by
      obtain ⟨e, he, q⟩ := List.mem_map.mp (pm.mem_iff.mpr z)
      have c := List.findIdx?_eq_none_iff.mp fi e he
      rw [(goodS_is (g e he) k).mpr q] at c
      cases c
    have gw : ∀ (b : Bool) {z : Shared} {Q' : Unit → Shared → Prop}, Q' () z → wpAny (model P w) A (match b with | true => rule "set.scan.the-table-gave-way" | false => pure ()) Q' E z := fun b z Q' q => by
      cases b
      · exact wpAny_pure q
      · exact wpAny_rule q
    have y1 := layNew_perm t es ((PySem.strKind P w).hash k) (.str k tk)
    have y2 := layNew_fits t es ((PySem.strKind P w).hash k) (.str k tk)
    have y3 := layNew_ris t es ((PySem.strKind P w).hash k) (.str k tk) hr
    have y4 := layNew_led t es ((PySem.strKind P w).hash k) (.str k tk)
    generalize layNew t es ((PySem.strKind P w).hash k) (.str k tk) = Y at y1 y2 y3 y4 ⊢
    obtain ⟨es1, t1, dummy, gave⟩ := Y
    simp only at y1 y2 y3 y4 ⊢
    rw [Array.toList_push] at y1
    have pc : es1.toList.Perm (((PySem.strKind P w).hash k, Value.str k tk) :: es.toList) := y1.trans (List.perm_append_singleton _ _)
    have g1 : ∀ e ∈ es1.toList, GoodS P w e := fun e he => (List.mem_cons.mp (pc.mem_iff.mp he)).elim (fun z => by rw [z]; exact ⟨k, tk, rfl, rfl⟩) (g e)
    have m1 : (es1.toList.map keyS).Perm (k :: l) := (pc.map keyS).trans (pm.cons k)
    have lenl : es.size = l.length := by rw [← pm.length_eq, List.length_map, Array.length_toList]
    have b1 : es1.size < scanBound := by rw [← Array.length_toList, pc.length_eq, List.length_cons, Array.length_toList, lenl]; exact room
    have l1 : w.params.followText "set-order" = true ∨ t1.led = true := hl.imp id fun z => by rw [y4]; exact z
    have fin : ∀ h', Heap.SameBut a s.heap h' → SetT P w h' a (k :: l) → Q true { s with heap := h' } := fun h' sb r => hQ h' true sb (by rw [if_neg notl]; exact r)
    refine wpAny_bind (gw _ ?_)
    split
    · refine wpAny_bind ?_
      rw [hashByValue_scannable 8 hsc]
      refine wpAny_pure (add_text_tail (fun b z Q' q => gw b q) ho hex hd g1 m1 b1 ?_ ?_ ?_ fun h' sb r => ?_)
      · first | (split <;> first | exact y2 | exact SetTable.fits_plain_off y2) | exact y2
      · first | (split <;> exact y3) | exact y3
      · first | (split <;> exact l1) | exact l1
      · dsimp only
        exact wpAny_pure (fin h' sb r)
    · refine wpAny_bind (wpAny_pure ?_)
      simp only [↓reduceIte]
      refine add_text_tail (fun b z Q' q => gw b q) ho hex hd g1 m1 b1 y2 y3 l1 fun h' sb r => ?_
      dsimp only
      exact wpAny_pure (fin h' sb r)
end
end Hb
set_option Elab.async false
set_option linter.all false
set_option maxRecDepth 100000
set_option maxHeartbeats 8000000
/-! set(texts) with repeats; sorted of such a set. -/
namespace Hb
open PySem PySem.Spec PyProof.Rows
/-- the unlike ones -/
def Uniq (l xs : List Str) : Prop := l.Nodup ∧ l.length ≤ xs.length ∧ ∀ k, k ∈ l ↔ k ∈ xs
theorem Uniq.more {l xs : List Str} {k : Str} (u : Uniq l xs) : Uniq (if k ∈ l then l else k :: l) (xs ++ [k]) := by
  obtain ⟨a, b, c⟩ := u
  by_cases h : k ∈ l
  · rw [if_pos h]
    refine ⟨a, by rw [List.length_append]; exact Nat.le_trans b (Nat.le_add_right _ _), fun j => ?_⟩
    rw [List.mem_append, List.mem_singleton, c j]
    exact ⟨.inl, fun z => z.elim id fun e => by rw [e]; exact (c k).mp h⟩
  · rw [if_neg h]
    refine ⟨List.nodup_cons.mpr ⟨h, a⟩, by rw [List.length_append]; exact Nat.succ_le_succ b, fun j => ?_⟩
    rw [List.mem_append, List.mem_singleton, List.mem_cons, c j]
    exact Or.comm
section
variable {prog : Program} {w : World} {A : Around} {R : Result → Shared → Prop} {I : Addr} {fp wr : List Addr} {G : Array GenState → Array GenState → Prop} {n : Nat} {P : Nat → Value → Prop} {Z : Nat → Shared → Prop}
theorem turns_any (W : WalksS prog w A.in1 I fp wr G n P Z) (S : Addr) (apart : S ∉ fp) (xs : List Str) (len : xs.length = n) (few : n + 1 < scanBound)
    (told : ∀ i v, P i v → ∃ t, v = .str (xs.getD i Str.empty) t) : ∀ (left i : Nat) (s : Shared), n - i = left → i ≤ n → Z i s →
      (∃ l, SetT prog w s.heap S l ∧ Uniq l (xs.take i)) →
      (∀ s' l, Moved (S :: wr) G s s' → SetT prog w s'.heap S l → Uniq l xs → R (.ok (.ret .none)) s') →
      codeAny (model prog w) A (.builtin "set.update.loop" ⟨[.ref S, .ref I], []⟩) R s := by
  have nwr : S ∉ wr := fun h => apart (W.sub _ h)
  have up : ∀ b ∈ wr, b ∈ S :: wr := fun b hb => List.mem_cons_of_mem _ hb
  intro left
  induction left with
  | zero =>
    intro i s hk hi hst ⟨l, hS, u⟩ hR
    obtain rfl : i = n := by omega
    refine codeAny_builtin PyProof.Rows.F.entry_set_update_loop (by
      rw [Around.under_plainId PyProof.Rows.F.plain_set_update_loop _]; show wpAny _ A.in1 (pyNext (.ref I) >>= _) _ _ s
      refine wpAny_bind (W.done s _ _ hst fun s' hm => ?_); show wpAny _ A.in1 (ret Value.none) _ _ s'
      refine wpAny_pure (hR s' l (hm.mono up) (hS.at fun o e => hm.heap S o nwr e) ?_)
      rw [← len, List.take_length] at u
      exact u)
  | succ left ih =>
    intro i s hk hi hst ⟨l, hS, u⟩ hR
    have lt : i < n := by omega
    have lt2 : i < xs.length := by omega
    refine codeAny_builtin PyProof.Rows.F.entry_set_update_loop (by
      rw [Around.under_plainId PyProof.Rows.F.plain_set_update_loop _]; show wpAny _ A.in1 (pyNext (.ref I) >>= _) _ _ s
      refine wpAny_bind (W.item i s _ _ lt hst fun v s' hP hst' hm => ?_)
      obtain ⟨t, rfl⟩ := told i v hP
      have hS' : SetT prog w s'.heap S l := hS.at fun o e => hm.heap S o nwr e
      have ll := u.2.1
      rw [List.length_take] at ll
      show wpAny _ A.in1 (holding [Value.str (xs.getD i Str.empty) t] (setAdd S (.str (xs.getD i Str.empty) t)) >>= _) _ _ s'
      refine wpAny_bind (wpAny_holding ?_); unfold setAdd
      refine wpAny_holding (wpAny_bind ((PySem.strKind prog w).pyHash (k := xs.getD i Str.empty) (strKind_is _ _ _ _) ?_))
      refine add_text (s := { s' with toks := s'.toks + 1 }) (l := l) hS' u.1 (by omega) fun h' b same hS2 => ?_
      have u2 : Uniq (if xs.getD i Str.empty ∈ l then l else xs.getD i Str.empty :: l) (xs.take (i + 1)) := by
        rw [more_text xs lt2]
        exact u.more
      refine wpAny_pure ⟨plainId_quiet PyProof.Rows.F.plain_set_update_loop _, ih (i + 1) _ (by omega) lt (W.frame _ s' _ _ hst' (Nat.le_succ _) fun b hb o e => ?_) ⟨_, hS2, u2⟩ fun s'' l2 hm2 hS4 u4 => ?_⟩
      · rw [same.2 b (fun h : b = S => apart (h ▸ hb))]; exact e
      · refine hR s'' l2 (Moved.trans W.gtrans ((hm.mono up).then_heap (Nat.le_succ _) fun b o hb e => ?_) hm2) hS4 u4
        rw [same.2 b (fun h : b = S => hb (by rw [h]; exact List.mem_cons_self))]; exact e)
end
section
variable {prog : Program} {w : World} {A : Around} {E : Value → Shared → Prop} {s : Shared}
abbrev newSet (w : World) : Obj := { cls := .type "set", dict := none, data := .set #[] 0 (.fresh 0 0 (!w.params.followText "set-order")) }
theorem setT_new {h : Heap} {a : Addr} (ho : h.get? a = some (newSet w)) : SetT prog w h a [] :=
  ⟨_, #[], 0, _, ho, ⟨rfl, rfl, rfl⟩, rfl, (fun e he => by simp at he), List.Perm.refl _, (by decide), (by rfl), List.Pairwise.nil, by
    show _ ∨ (!w.params.followText "set-order") = true
    cases w.params.followText "set-order" <;> simp⟩
/-- set(xs) of a list of texts -/
theorem set_textsR {l : Addr} {its : Array Value} {xs : List Str} {Q : Value → Shared → Prop} (calm : A.handled = none) (at_ : s.heap.IsList l its) (are : StrsAre its.toList xs) (few : xs.length + 1 < scanBound)
    (k : ∀ (h' : Heap) (tk : Nat) (us : List Str), SetT prog w h' s.heap.objs.size us → Uniq us xs → (∀ b o, s.heap.get? b = some o → h'.get? b = some o) → Q (.ref s.heap.objs.size) { s with heap := h', toks := tk }) :
    wpAny (model prog w) A (call (.type "set") [.ref l]) Q E s := by
  have size : its.size = xs.length := by have q := are.length; rw [Array.length_toList] at q; exact q
  obtain ⟨c, tl, mro⟩ := F.called_set.mro
  have f1 := F.called_set.made; have f2 := F.called_set.sub; have f3 := F.called_set.notType; have f4 := F.called_set.canCreate; have f5 := F.typeCall_set_1 (.ref l)
  refine wpAny_call (codeAny_of_tree (by
    show wpAny _ _ (callAny (.type "set") _) _ _ _
    refine wpAny_pure ⟨Code.quiet_builtin _ (by decide +kernel), codeAny_builtin F.entry_type_call ?_⟩
    rw [Around.under_plain (weight_type_call_type "set" [.ref l] []) rfl]
    repeat (any_goals (first | assumption | wp_step))
    refine codeAny_mono (L2.code_set_led1 (.ref l) (E := E) (Q₁ := fun v z => v = .ref s.heap.objs.size ∧ z = { s with heap := s.heap.push (newSet w) }) ⟨rfl, rfl⟩) fun r z hr => ?_
    match r, hr with
    | .error e, hr => exact hr
    | .ok .next, hr => exact hr.elim
    | .ok .brk, hr => exact hr.elim
    | .ok .cont, hr => exact hr.elim
    | .ok (.ret v), ⟨e1, e2⟩ =>
      subst e1 e2
      have mine : (s.heap.push (newSet w)).get? s.heap.objs.size = some (newSet w) := Heap.get?_push_size _ rfl
      have kind : Shared.TypeIs { s with heap := s.heap.push (newSet w) } (.ref s.heap.objs.size) "set" := ⟨_, mine, rfl⟩
      have f6 := F.called_set.init.lookup; have f7 := F.called_set.init.bind (.ref s.heap.objs.size)
      repeat (any_goals (first | assumption | wp_step))
      refine codeAny_mono (codeAny_call_builtin (R := wants (fun r z => r = .none ∧ ∃ h' tk us, z = { s with heap := h', toks := tk } ∧
        SetT prog w h' s.heap.objs.size us ∧ Uniq us xs ∧ ∀ b o, s.heap.get? b = some o → h'.get? b = some o) E) F.called_set.init.plain F.entry_set_init (check_set_init_1 kind ?_)) fun r2 z2 hr2 => ?_
      · obtain ⟨⟨ocls, odict, odata, oslots⟩, ho, hc, nl, hd⟩ := at_
        simp only at hc hd; subst hc hd
        have ho2 : (s.heap.push (newSet w)).get? l = some { cls := .type "list", dict := odict, data := .seq its nl, slots := oslots } := Heap.get?_push_of_some _ ho
        have g1 := F.sub_list_set; have g2 := F.sub_list_frozenset; have g3 : (Value.type "list" == Value.type "dict") = false := by decide
        have ml : (s.heap.push (newSet w)).IsList l its := ⟨_, ho2, rfl, nl, rfl⟩
        unfold Builtin.«set.__init__» noKeywords Builtin.Frozenset.updateFrom
        generalize hI : pyIter = It
        wp_walk
        subst hI
        have lo : l < s.heap.objs.size := Heap.lt_size ho
        have far : l ≠ (s.heap.push (newSet w)).objs.size := by rw [Heap.size_push]; exact Nat.ne_of_lt (Nat.lt_succ_of_lt lo)
        refine wpAny_pyIter_list ml (wpAny_bind (wpAny_runValue (turns_any ((Walks.list (by simp [calm]) _ l far its).toS) s.heap.objs.size (by
            rw [Heap.size_push]; simp only [List.mem_cons, List.not_mem_nil, or_false, not_or]
            exact ⟨Nat.ne_of_lt (Nat.lt_succ_self _), Nat.ne_of_gt lo⟩) xs size.symm (by omega) (fun i v hv => SS.strs_at are i v (by rw [Array.getElem?_toList]; exact hv)) (its.size - 0) 0 _ (by omega) (Nat.zero_le _)
          ⟨⟨_, Heap.get?_push_size _ rfl, rfl, rfl⟩, (ml.push _)⟩ ?zer ?fin1)))
        case zer =>
          have e0 : ((s.heap.push (newSet w)).push { cls := .type "list_iterator", data := .fields #[.ref l, .int 0 0] }).get? s.heap.objs.size = some (newSet w) := Heap.get?_push_of_some _ mine
          exact ⟨[], setT_new e0, List.nodup_nil, Nat.zero_le _, fun k => by simp⟩
        case fin1 =>
          rintro ⟨h', g', d', tk', os'⟩ us hm hS hu
          obtain rfl : g' = s.gens := hm.gens
          obtain rfl : d' = s.drawn := hm.drawn
          obtain rfl : os' = s.os := hm.os
          show wpAny _ _ _ _ _ _
          refine wpAny_pure (by
            show wpAny _ _ (ret Value.none) _ _ _
            refine wpAny_pure ⟨rfl, h', tk', us, rfl, hS, hu, fun b o e => hm.heap b o ?_ (Heap.get?_push_of_some _ (Heap.get?_push_of_some _ e))⟩
            have lb := Heap.lt_size e
            rw [Heap.size_push]; simp only [List.mem_cons, List.not_mem_nil, or_false, not_or]
            exact ⟨Nat.ne_of_lt lb, Nat.ne_of_lt (Nat.lt_succ_of_lt lb)⟩)
      · match r2, hr2 with
        | .error e, h => exact h
        | .ok .next, h => exact h.elim
        | .ok .brk, h => exact h.elim
        | .ok .cont, h => exact h.elim
        | .ok (.ret v), ⟨e1, h', tk, us, e2, hS, hu, hk⟩ =>
          subst e1 e2
          repeat (any_goals (first | assumption | wp_step))
          exact k _ _ _ hS hu hk))
end
end Hb
set_option Elab.async false
set_option linter.all false
set_option maxRecDepth 100000
set_option maxHeartbeats 8000000
/-! sorted(set(texts)). -/
namespace Hb
open PySem PySem.Spec PyProof.Rows
section
variable {P : Program} {w : World} {A : Around} {E : Value → Shared → Prop} {s : Shared} {a : Addr} {l : List Str}
theorem strs_of : ∀ vs : List Value, (∀ v ∈ vs, ∃ k tk, v = Value.str k tk) → ∃ ss, StrsAre vs ss ∧ vs.map (fun v => match v with | .str k _ => k | _ => Str.empty) = ss
  | [], _ => ⟨[], .nil, rfl⟩
  | v :: vs, h => by
    obtain ⟨k, tk, rfl⟩ := h v List.mem_cons_self
    obtain ⟨ss, h1, h2⟩ := strs_of vs fun u hu => h u (List.mem_cons_of_mem _ hu)
    exact ⟨k :: ss, .cons k tk h1, by rw [List.map_cons, h2]⟩
theorem sorted_setT {Q : Value → Shared → Prop} (R : SetT P w s.heap a l) (calm : A.handled = none) (few : l.length < 64)
    (hQ : ∀ s' p (out : Array Value) (c : Nat) (ns : List Str), (∀ b o, s.heap.get? b = some o → s'.heap.get? b = some o) → s'.gens = s.gens → s'.os = s.os → s.heap.objs.size ≤ p →
      s'.heap.get? p = some (seqObj "list" out c) → StrsAre out.toList ns → sortedS ns = true → ns.Perm l → Q (.ref p) s') : wpAny (model P w) A (call (.builtin "sorted") [.ref a]) Q E s := by
  obtain ⟨o, es, ep, t, x⟩ := R
  have lenl : es.size = l.length := by rw [← x.mem.length_eq, List.length_map, Array.length_toList]
  refine Calls.call_function_entry kind_sorted plain_sorted entry_sorted (args_sorted1 _) ?_
  unfold Builtin.«sorted»
  refine wpAny_bind (m := checkCount "sorted" 1 1 _) (wpAny_pure (wpAny_bind (L2.collect_set (A := A.in1) calm ⟨o, x.ho, x.ex.1, x.hd⟩ x.fits x.few x.ris x.led fun s1 vs k1 hz g1 o1 pm => ?_)))
  have hvl : vs.length = l.length := by rw [pm.length_eq, List.length_map, Array.length_toList]; exact lenl
  obtain ⟨ss, hS, e⟩ := strs_of vs fun v hv => by
    obtain ⟨e, he, q⟩ := List.mem_map.mp (pm.mem_iff.mp hv)
    obtain ⟨k, tk, h1, _⟩ := x.good e he
    exact ⟨k, tk, by rw [← q]; exact h1⟩
  have ps : ss.Perm l := by
    have q := pm.map (fun v => match v with | Value.str k _ => k | _ => Str.empty)
    rw [e, List.map_map] at q
    exact q.trans x.mem
  have v64 : vs.length < 64 := by rw [hvl]; exact few
  refine wpAny_bind (wpAny_newList ?_ (by rw [hvl, sizeLine_eq]; omega))
  have hoL : (s1.heap.push (seqObj "list" vs.toArray 0)).get? s1.heap.objs.size = some (seqObj "list" vs.toArray 0) := Heap.get?_push_size _ rfl
  refine wpAny_bind (wpAny_holding (wpAny_call_entry slot_list_sort ⟨_, hoL, rfl⟩ entry_list_sort (list_sort_treeK strKind_oneLt hoL hS.keysOf (fun v₁ v₂ rest e => keyKind_strs (by rw [← e]; exact hS)) v64 fun st' a1 a2 => ⟨_, rfl, ?_⟩) (args_list_sort _)))
  obtain ⟨ss', b1, b2, b3⟩ := sorted_out_str hS a1 a2
  obtain ⟨c, hc⟩ := sortedHeap_at (vs := vs) (out := (arrOf st').map (·.2)) hoL
  refine wpAny_pure ⟨_, rfl, hQ _ s1.heap.objs.size _ c ss' (fun b u e => ?_) g1 o1 hz hc b1 b3 (b2.trans ps)⟩
  have q := k1 b u e
  have lt := Heap.lt_size q
  show (sortedHeap (s1.heap.push (seqObj "list" vs.toArray 0)) s1.heap.objs.size vs _).get? b = some u
  rw [sortedHeap_old (Nat.ne_of_lt lt) (by rw [size_push']; exact Nat.lt_succ_of_lt lt)]
  exact Heap.get?_push_of_some _ q
end
end Hb
namespace Hb
open PySem PySem.Spec PyProof.Rows L2
/-- sorted(set(xs)), xs a list of texts -/
def tSortSet (K : PySem.W.Frag) (ta : TE) : TE := fun σ H Q => ta σ H fun x H1 => ∃ (l : Addr) (xs : List Str), x = .ref l ∧ SqL K H1 l (xs.map V.str) ∧ xs.length < 64 ∧
  ∀ (ns : List Str) (p : Addr), ns.Nodup → (∀ k, k ∈ ns ↔ k ∈ xs) → sortedS ns = true → H1 p = none → Q (.ref p) (upd H1 p (.lst (ns.map V.str)))
theorem pe_sortSet {X : Cx} {a : Expr} {ta : TE} {p p2 q pos : Pos} (hg : Gl X "sorted") (hm : X.mg "sorted" = none) (hg2 : Gl X "set") (hm2 : X.mg "set" = none) (ha : PE X a ta) (calm : X.calm = true := by rfl)
    (na : starEach [a] X.env = (false, eval a X.env) :: starEach [] X.env := by rfl) : PE X (.Call (.Name "sorted" p) [.Call (.Name "set" p2) [a] [] q] [] pos) (tSortSet X.K ta) := by
  refine ⟨fun pins s σ H Q I h => Call_ (ld_blt I hg hm boot_sorted (callWith_builtin1 (args_cons (Call_ (ld_blt I hg2 hm2 boot_set
    (callWith_type1 (args_cons (thn (ha.run pins s σ H _ I h) fun v z ⟨x, H1, J, r, q⟩ => args_nil ?_) na) na rfl))) rfl) rfl rfl))⟩
  obtain ⟨l, xs, rfl, hq, few, q⟩ := q
  cases r
  obtain ⟨its, rv, pl, hz⟩ := J.list hq
  refine set_textsR (J.ok.hd calm) pl.isList (by simpa using strsAre_of rv) (by unfold scanBound; omega) fun h' tk us hS hu hk => args_nil ?_
  have J2 : Inv X pins σ H1 { z with heap := h', toks := tk } := J.kept hk
  refine sorted_setT hS (J.ok.hd calm) (Nat.lt_of_le_of_lt hu.2.1 few) fun s' p out c ns k1 g1 o1 lt at_ hs so pm => ?_
  have nl : (ns.map V.str).length ≤ sizeLine := by rw [List.length_map, pm.length_eq, sizeLine_eq]; have := hu.2.1; omega
  have free : H1 p = none := J2.hok.fresh lt
  have J3 : Inv X pins σ (upd H1 p (.lst (ns.map V.str))) { { z with heap := h', toks := tk } with heap := s'.heap, gens := s'.gens, drawn := s'.drawn, toks := s'.toks } :=
    J2.call (ch := []) (Un.laid k1 lt free) (J2.hok.laid k1 lt ⟨nl, out.toList, c, vals_of_strs hs, at_⟩) (by rw [g1]; exact J2.bare) fun _ y => nomatch y
  have e : s' = { { z with heap := h', toks := tk } with heap := s'.heap, gens := s'.gens, drawn := s'.drawn, toks := s'.toks } := by
    cases s'
    cases z
    cases o1
    rfl
  rw [e]
  exact ⟨.ref p, _, J3, rfl, q ns p (pm.nodup_iff.mpr hu.1) (fun k => pm.mem_iff.trans (hu.2.2 k)) so free⟩
end Hb
set_option Elab.async false
set_option linter.all false
set_option maxRecDepth 100000
set_option maxHeartbeats 4000000
/-! len(x) by a def of the class. -/
namespace Hb
open PySem PySem.Spec PyProof.Rows
section
variable {prog : Program} {w : World} {A : Around} {E : Value → Shared → Prop} {s : Shared} {K : PySem.W.Frag} {x C f : Addr} {ox : Obj} {od : Option Obj}
theorem lenBody_own {Q : Value → Shared → Prop} (X : K.In s.heap) (I : PySem.W.InstAt s.heap x ox C od) (hs : PySem.W.findIn K (.ref C) "__len__" = some (some (.ref f))) (hf : PySem.W.isFn K (.ref f) = true)
    (h : wpAny (model prog w) A (call (.ref f) [.ref x]) (fun r z => ∃ (n : Int) (t : Tok), r = Value.int n t ∧ 0 ≤ n ∧ n < 2 ^ 63 ∧ ∀ t' tk, Q (.int n t') { z with toks := tk }) E s) : wpAny (model prog w) A (Builtin.«len» ⟨[.ref x], []⟩) (fun fin s' => ∃ r, fin = .done (.ret r) ∧ Q r s') E s := by
  unfold Builtin.«len»
  refine wpAny_bind (m := oneArg "len" _) (wpAny_pure ?_)
  refine wpAny_bind (m := callSpecial? (.ref x) (Str.ofString "__len__")) (PySem.W.special_fn X I hs (beq_iff_eq.mp hf) (wpAny_mono h (fun r z hr => ?_) fun _ _ e => e))
  obtain ⟨n, t, rfl, h0, h1, q⟩ := hr
  refine wpAny_bind (wpAny_holding (wpAny_pure ?_))
  refine wpAny_bind (wpAny_letGo ?_)
  show wpAny _ _ (if n < 0 then _ else _) _ _ _
  rw [if_neg (by omega)]
  show wpAny _ _ (if n ≥ 2 ^ 63 then _ else _) _ _ _
  rw [if_neg (by omega)]
  exact wpAny_bind (wpAny_mkInt (wpAny_pure ⟨_, rfl, q _ _⟩))
end
end Hb
namespace Hb
open PySem PySem.Spec PyProof.Rows L2
/-- the class at C has a __len__ of its own -/
structure LenOf (P : Program) (w : World) (K : PySem.W.Frag) (mg : Str → Option Value) (base : Heap) (k : Nat) (C : Addr) (sp : Sp) : Prop where
  ex : ∃ (f : Addr) (fd : FuncData) (ps : List Str), PySem.W.findIn K (.ref C) "__len__" = some (some (.ref f)) ∧ PySem.W.isFn K (.ref f) = true ∧ FnOk P w K mg base CX0 k f fd ps sp ∧ Binds K fd ps []
def rLenOwn (C : Addr) (sp : Sp) : List V → Hp → VK → Prop := fun xs H Q => ∃ (a dx : Addr) (fs : List (Str × V)), xs = [.ref a] ∧ H a = some (.ins C dx fs) ∧ sp [.ref a] H (fun v H' => ∃ n : Int, v = .int n ∧ 0 ≤ n ∧ n < 2 ^ 63 ∧ Q v H') C8.E0
section
variable {X : Cx} {C : Addr} {k j : Nat} {sp : Sp}
theorem call_lenOwn (c : LenOf X.prog X.w X.K X.mg X.base k C sp) (hr : Room j X.A) (hk : k + 1 ≤ j) : CallR X (.builtin "len") (rLenOwn C sp) := by
  intro pins s σ H xs us Q I r h
  obtain ⟨f, fd, ps, hs, hf, FO, hb⟩ := c.ex
  obtain ⟨a, dx, fs, rfl, ha, q⟩ := h
  rw [Vals.ref1 r]
  obtain ⟨mA, J, _⟩ := ins_get I.hok ha
  obtain ⟨od, J, _⟩ := J.look
  have X0 := I.kIn
  have hj : Room (k + 1) X.A := hr.mono hk
  have h2 : Room k X.A.in1 := hj.in1
  have r2 : Vals [V.ref a] [Value.ref a] := .cons rfl .nil
  refine Calls.call_function_entry kind_len plain_len entry_len (args_len1 _) ?_
  refine lenBody_own X0 J hs hf (wpAny_call (codeAny_mono (FO.run X.A.in1 X.stack s H ⟨[.ref a], []⟩ [.ref a] [.ref a] _ C8.E0 h2 I.env0.in1 (by
      have l := FO.len _ _ _ _ q
      have z := hb s [.ref a] X0 (by simpa using l)
      simpa using z) r2 q) fun r s' hq => ?_))
  cases r with
  | error e => exact (C8.pass0 (E := C8.E0) pins σ H s e s' I hq)
  | ok fl =>
    cases fl with
    | ret w2 =>
      obtain ⟨z, H', I', rz, n, ez, n0, n1, qz⟩ := I.after hq
      subst ez
      obtain ⟨t, e⟩ := (show ∃ t, w2 = Value.int n t from rz)
      subst e
      exact ⟨n, t, rfl, n0, n1, fun t' tk => ⟨.int n, H', I'.tok tk, ⟨t', rfl⟩, qz⟩⟩
    | next => exact False.elim hq
    | brk => exact False.elim hq
    | cont => exact False.elim hq
end
end Hb
set_option Elab.async false
set_option linter.all false
set_option maxRecDepth 100000
set_option maxHeartbeats 4000000
/-! Defs that stand behind a record of a class (a property's getter, a classmethod's def), in a head's facts. -/
namespace He
open PySem PySem.Spec PyProof.Rows L2
def fnP (K : PySem.W.Frag) (a : Addr) : FnW := match K.lookup a with
  | some ⟨_, _, .func fd, _⟩ => some (fd.name, fd.qualname, fd.params, fd.body, fd.scope, fd.globals, fd.closure, fd.builtins)
  | _ => none
/-- the first thing of the record of the class T at C.m -/
def rp (K : PySem.W.Frag) (T : String) (C : Addr) (m : Str) : Addr := match PySem.W.recIn K (ma K C m) T with
  | some (.ref g :: _) => g
  | _ => 0
def okP (K : PySem.W.Frag) (a : Addr) (d : DefD) : Bool := PySem.W.keepIn K (.ref a) && (match K.lookup a with
  | some ⟨_, _, .func fd, _⟩ => PySem.W.codeIn K fd.code d.qual && (dflB K fd.defaults (d.dvs K) && kwdB K fd.kwdefaults (d.kws K))
  | _ => false)
theorem funP {K : PySem.W.Frag} {a : Addr} {d : DefD} (e : fnP K a = d.val) (c : okP K a d = true) : ∃ fd, FunD K d.name d.qual d.params d.body d.scope (d.dvs K) (d.kws K) a fd := by
  obtain ⟨kp, c2⟩ := ba c
  unfold fnP at e
  cases q : K.lookup a with
  | none =>
    rw [q] at c2
    cases c2
  | some o =>
    obtain ⟨oc, od, dt, osl⟩ := o
    rw [q] at c2 e
    cases dt with
    | func fd =>
      obtain ⟨n1, n2, n3, n4, n5, n6, n7, n8, n9, n10, n11, n12, n13, n14, n15⟩ := fd
      have e2 : (some (n1, n2, n3, n4, n5, n6, n7, n15) : FnW) = some (d.name, d.qual, d.params, .stmts d.body, d.scope, mainGlobals, [], builtinsNs) := e
      simp only [Option.some.injEq, Prod.mk.injEq] at e2
      obtain ⟨h1, h2, h3, h4, h5, h6, h7, h8⟩ := e2
      subst h1 h2 h3 h4 h5 h6 h7 h8
      have c3 : (PySem.W.codeIn K n13 d.qual && (dflB K n8 (d.dvs K) && kwdB K n9 (d.kws K))) = true := c2
      obtain ⟨k1, k2⟩ := ba c3
      obtain ⟨k3, k4⟩ := ba k2
      exact ⟨_, ⟨oc, od, n8, n9, n10, n11, n12, n13, n14, osl, rfl, q, k1, dflB_ok k3, kwdB_ok k4⟩, kp⟩
    | _ => cases e
abbrev Dp := (PySem.W.Frag → Addr) × DefD
abbrev AlY : Type := AlX × List FnW
def obsY (n : Nat) (fa : List Fa) (fn : List DefD) (ex : PySem.W.Frag → Bool) (fp : List Dp) (g : Addr → Option Obj) : AlY := (obsX n fa fn [] [] ex g, fp.map fun p => fnP (frT g (asD g n)) (p.1 (frT g (asD g n))))
def valY (fn : List DefD) (fp : List Dp) (w : World) : AlY := (valX fn [] w, fp.map fun p => p.2.val)
structure SaysY (fa : List Fa) (fn : List DefD) (ex : PySem.W.Frag → Bool) (fp : List Dp) (w : World) (h : Heap) (K : PySem.W.Frag) : Prop where
  x : SaysX fa fn [] [] ex w h K
  p : fp.map (fun p => fnP K (p.1 K)) = fp.map fun p => p.2.val
def hookY (n : Nat) (fa : List Fa) (fn : List DefD) (ex : PySem.W.Frag → Bool) (fp : List Dp) : PySem.W.Hook where
  α := AlY
  obs := fun s => obsY n fa fn ex fp s.heap.get?
  val := fun w => valY fn fp w
  says := fun w h => ∃ K : PySem.W.Frag, K.In h ∧ SaysY fa fn ex fp w h K
  of := fun _ _ e => ⟨_, frT_in, saysX_of (congrArg (fun z : AlY => z.1) e), congrArg (fun z : AlY => z.2) e⟩
  keeps := fun _ _ _ ⟨K, hK, c⟩ k => ⟨K, PySem.W.Frag.In.keeps hK k, ⟨⟨c.x.t, c.x.more, c.x.hd, c.x.out, fun p hp => k _ _ (c.x.empty p hp)⟩, c.p⟩⟩
theorem obsY_eq {n : Nat} {fa : List Fa} {fn : List DefD} {ex : PySem.W.Frag → Bool} {fp : List Dp} {g : Addr → Option Obj} {s : Shared} (h : ∀ a, g a = s.heap.get? a) : obsY n fa fn ex fp g = (hookY n fa fn ex fp).obs s := by
  have e : g = s.heap.get? := funext h
  rw [e] <;> rfl
/-- the i-th of them -/
theorem def_p {K : PySem.W.Frag} {fp : List Dp} (c : fp.map (fun p => fnP K (p.1 K)) = fp.map fun p => p.2.val) (i : Nat) {p : Dp} (h : fp[i]? = some p) (ok : okP K (p.1 K) p.2 = true) :
    ∃ fd, FunD K p.2.name p.2.qual p.2.params p.2.body p.2.scope (p.2.dvs K) (p.2.kws K) (p.1 K) fd := by
  have e2 : (fp.map fun p => fnP K (p.1 K))[i]? = (fp.map fun p => p.2.val)[i]? := by rw [c]
  rw [List.getElem?_map, List.getElem?_map, h] at e2
  exact funP (Option.some.inj e2) ok
/-! what the class must have -/
def propB (K : PySem.W.Frag) (C : Addr) (f : Str) : Bool := eqO (PySem.W.findIn K (.ref C) f) (some (some (.ref (ma K C f)))) && (eqO (PySem.W.specialIn K (.ref (ma K C f)) "__get__") (some (some (.builtin "property.__get__"))) && (decide (PySem.W.takesIn K (.ref (ma K C f)) = some true) &&
  (match PySem.W.recIn K (ma K C f) "property" with
  | some (.ref g :: _) => true
  | _ => false)))
theorem prop_ok {K : PySem.W.Frag} {C : Addr} {f : Str} (h : propB K C f = true) : PropOf K C f (ma K C f) (rp K "property" C f) := by
  obtain ⟨h1, h⟩ := ba h
  obtain ⟨h2, h⟩ := ba h
  obtain ⟨h3, h4⟩ := ba h
  refine ⟨eqO_ok h1, eqO_ok h2, of_decide_eq_true h3, ?_⟩
  unfold rp
  split at h4
  · rename_i g rest e
    rw [e]
    exact ⟨_, rfl⟩
  · cases h4
end He
set_option Elab.async false
set_option linter.all false
set_option maxRecDepth 100000
set_option maxHeartbeats 4000000
/-! Mathematics of houses: sorted things, shown things, mended houses. -/
namespace Hb
open PySem PySem.Spec PyProof.Rows L2
abbrev leS (a b : Str) : Prop := ltCps b.cps.toList a.cps.toList = false
theorem ltS_iff (a b : Str) : ltCps a.cps.toList b.cps.toList = true ↔ a.cps.toList < b.cps.toList := by rw [ltCps_eq]; exact decide_eq_true_iff
theorem leS_iff (a b : Str) : leS a b ↔ ¬ b.cps.toList < a.cps.toList := by unfold leS; rw [ltCps_eq]; exact decide_eq_false_iff_not
theorem leS_trans {a b c : Str} (h1 : leS a b) (h2 : leS b c) : leS a c := by
  rw [leS_iff] at *
  rw [List.not_lt] at *
  exact List.le_trans h1 h2
theorem leS_antisymm {a b : Str} (h1 : leS a b) (h2 : leS b a) : a = b := by
  rw [leS_iff] at *
  rw [List.not_lt] at *
  have e := List.le_antisymm h1 h2
  obtain ⟨⟨x⟩⟩ := a
  obtain ⟨⟨y⟩⟩ := b
  simp only at e
  subst e
  rfl
theorem leS_total (a b : Str) : leS a b ∨ leS b a := by
  rw [leS_iff, leS_iff, List.not_lt, List.not_lt]
  exact List.le_total _ _
theorem risingS_pw : ∀ (p : Str) (l : List Str), risingS p l = true → (p :: l).Pairwise leS
  | p, [], _ => List.pairwise_singleton _ _
  | p, x :: r, h => by
    have h2 : (!ltCps x.cps.toList p.cps.toList && risingS x r) = true := h
    obtain ⟨h3, h4⟩ := Bool.and_eq_true_iff.mp h2
    have h5 : leS p x := by simpa using h3
    have ih := risingS_pw x r h4
    refine List.pairwise_cons.mpr ⟨fun y hy => ?_, ih⟩
    rcases List.mem_cons.mp hy with rfl | hy
    · exact h5
    · exact leS_trans h5 (List.rel_of_pairwise_cons ih hy)
theorem sortedS_pw : ∀ {l : List Str}, sortedS l = true → l.Pairwise leS
  | [], _ => .nil
  | x :: r, h => risingS_pw x r h
theorem pw_unique {α : Type} {r : α → α → Prop} (anti : ∀ a b, r a b → r b a → a = b) : ∀ {l m : List α}, l.Pairwise r → m.Pairwise r → l.Nodup → m.Nodup → (∀ k, k ∈ l ↔ k ∈ m) → l = m
  | [], m, _, _, _, _, h => by
    cases m with
    | nil => rfl
    | cons y m => exact absurd ((h y).mpr List.mem_cons_self) (by simp)
  | x :: l, [], _, _, _, _, h => absurd ((h x).mp List.mem_cons_self) (by simp)
  | x :: l, y :: m, p1, p2, n1, n2, h => by
    obtain ⟨a1, b1⟩ := List.pairwise_cons.mp p1
    obtain ⟨a2, b2⟩ := List.pairwise_cons.mp p2
    obtain ⟨c1, d1⟩ := List.nodup_cons.mp n1
    obtain ⟨c2, d2⟩ := List.nodup_cons.mp n2
    have e : x = y := by
      rcases List.mem_cons.mp ((h x).mp List.mem_cons_self) with e | hx
      · exact e
      · rcases List.mem_cons.mp ((h y).mpr List.mem_cons_self) with e | hy
        · exact e.symm
        · exact anti x y (a1 y hy) (a2 x hx)
    subst e
    have ih := pw_unique anti b1 b2 d1 d2 fun k => by
      have hk := h k
      simp only [List.mem_cons] at hk
      by_cases e : k = x
      · subst e; exact ⟨fun q => absurd q c1, fun q => absurd q c2⟩
      · exact ⟨fun q => (hk.mp (.inr q)).resolve_left e, fun q => (hk.mpr (.inr q)).resolve_left e⟩
    rw [ih]
theorem sorted_unique {l m : List Str} (h1 : sortedS l = true) (h2 : sortedS m = true) (n1 : l.Nodup) (n2 : m.Nodup) (h : ∀ k, k ∈ l ↔ k ∈ m) : l = m :=
  pw_unique (fun _ _ => leS_antisymm) (sortedS_pw h1) (sortedS_pw h2) n1 n2 h
/-! what is sorted stays -/
theorem sort_id {α : Type} {le : α → α → Bool} {l : List α} (h : l.Pairwise fun a b => le a b = true) : l.mergeSort le = l := List.mergeSort_of_pairwise h
theorem leF {a b : Fl} (h : a.1 < b.1) : PySem.W.dataLe false encF a b = true := by
  have n : ¬ b.1 < a.1 := by omega
  simp [PySem.W.dataLe, PySem.W.sortLe, encF, PySem.W.keyToks, PySem.W.keyToksAll, PyProof.Rows.listOrd, PyProof.Rows.lexLt, PyProof.Rows.itemOrd, PyProof.Rows.itemLt, n, h]
theorem leI {a b : Int} (h : a < b) : PySem.W.dataLe false PyData.int a b = true := by
  have n : ¬ b < a := by omega
  simp [PySem.W.dataLe, PySem.W.sortLe, PySem.W.keyToks, PyProof.Rows.listOrd, PyProof.Rows.lexLt, PyProof.Rows.itemOrd, PyProof.Rows.itemLt, n, h]
theorem sortF_id {l : List Fl} (h : (l.map Prod.fst).Pairwise (· < ·)) : sortF l = l := sort_id ((List.pairwise_map.mp h).imp fun q => leF q)
theorem sortI_id {l : List Int} (h : l.Pairwise (· < ·)) : sortI l = l := sort_id (h.imp fun q => leI q)
theorem sortF_sortF (l : List Fl) : sortF (sortF l) = sortF l := sort_id (List.pairwise_mergeSort (PySem.W.sortLe_total _ _ _).trans (fun a b => Bool.or_eq_true_iff.mpr ((PySem.W.sortLe_total _ _ _).total a b)) l)
/-! what is shown is short -/
theorem piled_le {n : Nat} : ∀ {ts : List Str}, (∀ t ∈ ts, t.length ≤ n) → piled ts ≤ (n + 2) * ts.length
  | [], _ => by simp [piled]
  | t :: ts, h => by
    have h1 := h t List.mem_cons_self
    have h2 := piled_le (ts := ts) fun x hx => h x (List.mem_cons_of_mem _ hx)
    rw [piled_cons, List.length_cons, Nat.mul_add]
    omega
theorem tupleText_le (ts : List Str) : (tupleText ts).length ≤ piled ts + 3 := by
  unfold tupleText
  rw [Str.length_append, Str.length_append]
  have a : (("(" : Str)).length = 1 := rfl
  have b : ((if ts.length == 1 then ",)" else ")" : String) : Str).length ≤ 2 := by split <;> decide
  cases ts with
  | nil => rw [a]; simp only [piled_nil]; have : (Str.join ", " ([] : List Str)).length = 0 := rfl; omega
  | cons t r =>
    have := join_length_add (t :: r) (by simp)
    rw [a]
    omega
theorem shownAll_len : ∀ ds : List PyData, (PyData.shownAll ds).length = ds.length
  | [] => rfl
  | d :: ds => by simp only [PyData.shownAll, List.length_cons, shownAll_len ds]
theorem shownAll_le {n : Nat} : ∀ {ds : List PyData}, (∀ d ∈ ds, d.shown.length ≤ n) → ∀ t ∈ PyData.shownAll ds, t.length ≤ n
  | [], _, t, h => by simp [PyData.shownAll] at h
  | d :: ds, h0, t, h => by
    simp only [PyData.shownAll, List.mem_cons] at h
    rcases h with rfl | h
    · exact h0 d List.mem_cons_self
    · exact shownAll_le (fun e he => h0 e (List.mem_cons_of_mem _ he)) t h
theorem tup_le {n m : Nat} {ds : List PyData} (h : ∀ d ∈ ds, d.shown.length ≤ n) (hm : ds.length ≤ m) : (PyData.tuple ds).shown.length ≤ (n + 2) * m + 3 := by
  simp only [PyData.shown]
  have a := tupleText_le (PyData.shownAll ds)
  have b := piled_le (shownAll_le h)
  rw [shownAll_len] at b
  have c := Nat.mul_le_mul_left (n + 2) hm
  omega
end Hb
set_option Elab.async false
set_option linter.all false
set_option maxRecDepth 100000
set_option maxHeartbeats 4000000
/-! Methods, comparisons, properties of a class, from the head's facts. -/
namespace Hb
open PySem PySem.Spec PyProof.Rows L2
section
variable {P : Program} {w : World} {K : PySem.W.Frag} {mg : Str → Option Value} {base : Heap}
/-- a method without defaults -/
def Dm (K : PySem.W.Frag) (C m qual : Str) (st : Stmt) : Prop := Meth K (He.ga K C) m (He.ma K (He.ga K C) m) ∧ ∃ fd, FunD K m qual (defArgs st) (defBody st) (defScope st) [] [] (He.ma K (He.ga K C) m) fd
/-- a property -/
def Dprop (K : PySem.W.Frag) (C m qual : Str) (st : Stmt) : Prop := PropOf K (He.ga K C) m (He.ma K (He.ga K C) m) (He.rp K "property" (He.ga K C) m) ∧ ∃ fd, FunD K m qual (defArgs st) (defBody st) (defScope st) [] [] (He.rp K "property" (He.ga K C) m) fd
variable {C m qual : Str} {st : Stmt} {ps : List Str} {k : Nat} {sp : Sp}
abbrev BdN (m qual : Str) (st : Stmt) (ps : List Str) : Prop := ∀ (kV doc pm : Value) (an : Option Addr) (cdv ct : Value) (us : List Value), us.length = ps.length → bindArgs (PySem.W.fnOf m qual (defArgs st) (defBody st) (defScope st) .none kV doc pm an cdv ct) ⟨us, []⟩ = pure (ps.zip us)
theorem met_ (D : Dm K C m qual st) (c : Cls K (He.ga K C)) (bd : BdN m qual st ps) (ok : ∀ {f : Addr} {fd : FuncData}, FunD K m qual (defArgs st) (defBody st) (defScope st) [] [] f fd → FnOk P w K mg base CX0 k f fd ps sp) : C8.Met P w K mg base k (He.ga K C) m sp [] := by
  obtain ⟨hm, fd, F⟩ := D
  exact ⟨⟨_, fd, ps, [], c, hm, ok F, F.bindsN bd, .nil⟩⟩
theorem eqOf_ (D : Dm K C "__eq__" qual st) (bd : BdN "__eq__" qual st ps) (ok : ∀ {f : Addr} {fd : FuncData}, FunD K "__eq__" qual (defArgs st) (defBody st) (defScope st) [] [] f fd → FnOk P w K mg base CX0 k f fd ps sp) : EqOf P w K mg base k (He.ga K C) sp := by
  obtain ⟨hm, fd, F⟩ := D
  exact ⟨⟨_, fd, ps, hm.at_, hm.fn, ok F, F.bindsN bd⟩⟩
theorem lenOf_ (D : Dm K C "__len__" qual st) (bd : BdN "__len__" qual st ps) (ok : ∀ {f : Addr} {fd : FuncData}, FunD K "__len__" qual (defArgs st) (defBody st) (defScope st) [] [] f fd → FnOk P w K mg base CX0 k f fd ps sp) : LenOf P w K mg base k (He.ga K C) sp := by
  obtain ⟨hm, fd, F⟩ := D
  exact ⟨⟨_, fd, ps, hm.at_, hm.fn, ok F, F.bindsN bd⟩⟩
theorem strOf_ (D : Dm K C "__str__" qual st) (bd : BdN "__str__" qual st ps) (ok : ∀ {f : Addr} {fd : FuncData}, FunD K "__str__" qual (defArgs st) (defBody st) (defScope st) [] [] f fd → FnOk P w K mg base CX0 k f fd ps sp) : StrOf P w K mg base k (He.ga K C) sp := by
  obtain ⟨hm, fd, F⟩ := D
  exact ⟨⟨_, fd, ps, hm.at_, hm.fn, ok F, F.bindsN bd⟩⟩
/-- the class at C has a property -/
structure GetOf (P : Program) (w : World) (K : PySem.W.Frag) (mg : Str → Option Value) (base : Heap) (k : Nat) (C : Addr) (m : Str) (sp : Sp) : Prop where
  ex : ∃ (p g : Addr) (fd : FuncData) (ps : List Str), PropOf K C m p g ∧ FnOk P w K mg base CX0 k g fd ps sp ∧ Binds K fd ps []
theorem getOf_ (D : Dprop K C m qual st) (bd : BdN m qual st ps) (ok : ∀ {f : Addr} {fd : FuncData}, FunD K m qual (defArgs st) (defBody st) (defScope st) [] [] f fd → FnOk P w K mg base CX0 k f fd ps sp) : GetOf P w K mg base k (He.ga K C) m sp := by
  obtain ⟨hp, fd, F⟩ := D
  exact ⟨⟨_, _, fd, ps, hp, ok F, F.bindsN bd⟩⟩
end
theorem pe_get {X : Cx} {C : Addr} {m : Str} {k j : Nat} {sp : Sp} (c : GetOf X.prog X.w X.K X.mg X.base k C m sp) (cl : Cls X.K C) (hr : Room j X.A) (hk : k + 1 ≤ j) {e : Expr} {ta : TE} {pos : Pos} (he : PE X e ta)
    (hab : attributeBase e m X.env (eval e X.env) = eval e X.env := by rfl) : PE X (.Attribute e m pos) (tProp C sp [] C8.E0 ta) := by
  obtain ⟨p, g, fd, ps, hp, F, b⟩ := c.ex
  exact pe_prop he cl hp F (hr.mono hk) b .nil C8.pass0 hab
end Hb
set_option Elab.async false
set_option linter.all false
set_option maxRecDepth 100000
set_option maxHeartbeats 4000000
/-! A class whose __init__ has defaults, called with all arguments and with none of these; sorted permutations. -/
namespace He
open PySem PySem.Spec PyProof.Rows L2
def nilB (K : PySem.W.Frag) (a : Addr) : Bool := match K.lookup a with
  | some ⟨.type c, _, .seq its _, _⟩ => decide (c = "tuple") && its.isEmpty
  | _ => false
theorem nilB_ok {K : PySem.W.Frag} {a : Addr} (h : nilB K a = true) (H : Hp) : SqT K H a [] := by
  unfold nilB at h
  split at h
  · rename_i c d its n sl e
    obtain ⟨h1, h2⟩ := ba h
    have e1 : c = "tuple" := of_decide_eq_true h1
    have e2 : its = #[] := Array.isEmpty_iff.mp h2
    subst e1 e2
    exact .inr ⟨_, #[], n, e, rfl, rfl, Nat.zero_le _, .nil⟩
  · cases h
end He
namespace Hb
open PySem PySem.Spec PyProof.Rows L2
section
variable {P : Program} {w : World} {K : PySem.W.Frag} {mg : Str → Option Value} {base : Heap}
def Df1v (K : PySem.W.Frag) (mg : Str → Option Value) (C qual : Str) (st : Stmt) (dvs : List V) : Prop := Mk K (He.ga K C) (He.ma K (He.ga K C) "__init__") ∧ mg C = some (.ref (He.ga K C)) ∧
  ∃ fd, FunD K "__init__" qual (defArgs st) (defBody st) (defScope st) dvs [] (He.ma K (He.ga K C) "__init__") fd
theorem mak_mkD2 {C qual : Str} {st : Stmt} {N ps : List Str} {k n : Nat} {sp : Sp} {dvs : List V} (hd : dvs ≠ []) (hn : n + dvs.length = ps.length) (D : Df1v K mg C qual st dvs) (S : FnScope N ps (defScope st))
    (bd : ∀ (T : Addr) (kV doc pm : Value) (an : Option Addr) (cdv ct : Value) (us its : List Value), us.length = ps.length → its.length = dvs.length →
      ∃ k, bindArgs (PySem.W.fnOf "__init__" qual (defArgs st) (defBody st) (defScope st) (.ref T) kV doc pm an cdv ct) ⟨us, []⟩ = seqItems? (.ref T) >>= k ∧ k (some its.toArray) = pure (ps.zip us))
    (bp : ∀ (T : Addr) (kV doc pm : Value) (an : Option Addr) (cdv ct : Value) (us its : List Value), us.length = n → its.length = dvs.length →
      ∃ k, bindArgs (PySem.W.fnOf "__init__" qual (defArgs st) (defBody st) (defScope st) (.ref T) kV doc pm an cdv ct) ⟨us, []⟩ = seqItems? (.ref T) >>= k ∧ k (some its.toArray) = pure (ps.zip (us ++ its)))
    (len : ∀ vs H Q E, sp vs H Q E → vs.length = ps.length)
    (hbody : ∀ (f : Addr) (cdv : Value) (A : Around) (outer : List Env) (s : Shared) (H : Hp) (vs : List V) (Q : VK) (E : XK), Room k (A.deeper (envOfC qual (defScope st) s.heap.objs.size f cdv)) → sp vs H Q E →
      ∃ t, PSs (cxOf CX0 P w K mg base N qual (defScope st) f cdv A outer s H E).nox (defBody st) t ∧ t { nx := fun _ H' => Q .non H', rt := Q } (start N vs) H) :
    C8.Mak P w K mg base (k + 1) C (He.ga K C) sp [] ∧ C8.Mak P w K mg base (k + 1) C (He.ga K C) sp dvs := by
  obtain ⟨M, hm, fd, F⟩ := D
  have ok : FnOk P w K mg base CX0 (k + 1) (He.ma K (He.ga K C) "__init__") fd ps sp := F.ok S len fun cdv A outer s H vs Q E hr h => by
    obtain ⟨t, h1, h2⟩ := hbody _ cdv A outer s H vs Q E hr h
    exact ⟨t, h1.nox, h2⟩
  constructor
  · obtain ⟨ds, r, b⟩ := F.binds1 ps.length dvs.length hd (by rw [Nat.sub_self, Nat.add_zero]) fun T kV doc pm an cdv ct us its h1 h2 => by
      obtain ⟨k, e1, e2⟩ := bd T kV doc pm an cdv ct us its h1 h2
      exact ⟨k, e1, by rw [e2, List.drop_of_length_le (by rw [h2] <;> exact Nat.le_refl _), List.append_nil]⟩
    rw [List.drop_of_length_le (Nat.le_refl _)] at r
    cases r
    exact ⟨⟨_, fd, ps, [], M, ok, hm, b, .nil⟩⟩
  · obtain ⟨ds, r, b⟩ := F.binds1 n 0 hd (by rw [Nat.sub_zero]; exact hn) fun T kV doc pm an cdv ct us its h1 h2 => by
      obtain ⟨k, e1, e2⟩ := bp T kV doc pm an cdv ct us its h1 h2
      exact ⟨k, e1, by rw [e2, List.drop_zero]⟩
    rw [List.drop_zero] at r
    exact ⟨⟨_, fd, ps, ds, M, ok, hm, b, r⟩⟩
end
/-! sorted permutations -/
theorem data_total {a b : PyData} (h1 : (listOrd itemOrd).blt (PySem.W.keyToks b) (PySem.W.keyToks a) = false) (h2 : (listOrd itemOrd).blt (PySem.W.keyToks a) (PySem.W.keyToks b) = false) : PySem.W.keyToks a = PySem.W.keyToks b := (listOrd itemOrd).total _ _ h2 h1
theorem le_blt {α : Type} {enc : α → PyData} {a b : α} (h : PySem.W.dataLe false enc a b = true) : (listOrd itemOrd).blt (PySem.W.keyToks (enc b)) (PySem.W.keyToks (enc a)) = false := by
  have z : (!(listOrd itemOrd).blt (PySem.W.keyToks (enc b)) (PySem.W.keyToks (enc a))) = true := h
  simpa using z
theorem sort_pw {α : Type} (enc : α → PyData) (l : List α) : (l.mergeSort (PySem.W.dataLe false enc)).Pairwise fun a b => PySem.W.dataLe false enc a b = true :=
  List.pairwise_mergeSort (PySem.W.sortLe_total _ _ _).trans (fun a b => Bool.or_eq_true_iff.mpr ((PySem.W.sortLe_total _ _ _).total a b)) l
theorem encF_toks {a b : Fl} (e : PySem.W.keyToks (encF a) = PySem.W.keyToks (encF b)) : a = b := by
  obtain ⟨a1, ⟨⟨a2⟩⟩⟩ := a
  obtain ⟨b1, ⟨⟨b2⟩⟩⟩ := b
  simp [encF, PySem.W.keyToks, PySem.W.keyToksAll] at e
  rw [e.1, e.2]
theorem sortF_perm_eq {es fs : List Fl} (p : es.Perm fs) (a : (fs.map Prod.fst).Pairwise (· < ·)) : sortF es = fs := by
  have nd : fs.Nodup := (List.pairwise_map.mp a).imp fun {x y} q e => by subst e; exact absurd q (Int.lt_irrefl _)
  have ps := (sortF_perm es).trans p
  exact pw_unique (r := fun x y => PySem.W.dataLe false encF x y = true) (fun x y h1 h2 => encF_toks (data_total (le_blt h1) (le_blt h2))) (sort_pw encF es) ((List.pairwise_map.mp a).imp fun q => leF q) (ps.nodup_iff.mpr nd) nd fun k => ps.mem_iff
theorem sortI_perm_eq {es fs : List Int} (p : es.Perm fs) (a : fs.Pairwise (· < ·)) : sortI es = fs := by
  have nd : fs.Nodup := a.imp fun {x y} q e => by subst e; exact absurd q (Int.lt_irrefl _)
  have ps := (sortI_perm es).trans p
  refine pw_unique (r := fun x y => PySem.W.dataLe false PyData.int x y = true) (fun x y h1 h2 => ?_) (sort_pw PyData.int es) (a.imp fun q => leI q) (ps.nodup_iff.mpr nd) nd fun k => ps.mem_iff
  have e := data_total (le_blt h1) (le_blt h2)
  simp [PySem.W.keyToks] at e
  exact e
end Hb
set_option Elab.async false
set_option linter.all false
set_option maxRecDepth 100000
set_option maxHeartbeats 4000000
/-! Calls without arguments; data that equals itself. -/
namespace Hb
open PySem PySem.Spec PyProof.Rows L2
theorem pe_c0 {X : Cx} {k j : Nat} {x : Str} {sp : Sp} {dvs : List V} {p pos : Pos} (c : C8.Cal X.prog X.w X.K X.mg X.base k x sp dvs) (hr : Room j X.A) (hk : k ≤ j) (hg : Gl X x) (hdb : (x == ("__debug__" : Str)) = false := by decide) :
    PE X (.Call (.Name x p) [] [] pos) (tCall sp dvs C8.E0 tNil) := by
  obtain ⟨f, fd, ps, ds, F, hm, kp, b, d⟩ := c.ex
  exact pe_call0 F (hr.mono hk) hg hm kp b d C8.pass0 hdb
mutual
theorem alike_self : ∀ d : PyData, d.canLay0 = true → PySem.W.alike d d = true
  | .none, _ => rfl
  | .bool _, _ => rfl
  | .int _, _ => rfl
  | .str _, _ => rfl
  | .list xs, h => by
    simp only [PyData.canLay0] at h
    simp only [PySem.W.alike]
    exact alikeAll_self xs h
  | .tuple xs, h => by
    simp only [PyData.canLay0] at h
    simp only [PySem.W.alike]
    exact alikeAll_self xs h
  | .dict _, h => by simp [PyData.canLay0] at h
theorem alikeAll_self : ∀ ds : List PyData, PyData.canLayAll0 ds = true → PySem.W.alikeAll ds ds = true
  | [], _ => rfl
  | d :: ds, h => by
    simp only [PyData.canLayAll0, Bool.and_eq_true] at h
    simp only [PySem.W.alikeAll, alike_self d h.1, alikeAll_self ds h.2, Bool.and_self]
end
theorem eqv_self {d : PyData} (h : SeqAt.shaped d = true) : PyData.eqv d d = true := PySem.W.eqv_refl_alike d (alike_self d (SeqAt.canLay_of_shaped h))
section
variable {K : PySem.W.Frag} {H : Hp} {Q : VK} {x y : V} {d : PyData}
theorem ne_data (hx : Dp K H x d) (hy : Dp K H y d) (s : SeqAt.shaped d = true) (q : Q (.bl false) H) : rNeD K x y H Q := ⟨d, d, hx, hy, s, s, by rw [eqv_self s]; exact q⟩
theorem eq_data (hx : Dp K H x d) (hy : Dp K H y d) (s : SeqAt.shaped d = true) (q : Q (.bl true) H) : rEqD K x y H Q := ⟨d, d, hx, hy, s, s, by rw [eqv_self s]; exact q⟩
end
theorem shaped_of {d : PyData} (h : Shp d) : SeqAt.shaped d = true := h.shaped
/-- tuples and lists of such -/
theorem Shp.tup {n : Nat} {ds : List PyData} (h : ∀ d ∈ ds, d.canLay0 = true ∧ d.depth ≤ n) (hn : n + 1 ≤ 60) : (PyData.tuple ds).canLay0 = true ∧ (PyData.tuple ds).depth ≤ n + 1 := by
  have g : PyData.canLayAll0 ds = true ∧ PyData.depthAll ds ≤ n := by
    induction ds with
    | nil => exact ⟨by simp [PyData.canLayAll0], by simp [PyData.depthAll]⟩
    | cons d ds ih =>
      obtain ⟨h1, h2⟩ := ih fun e he => h e (List.mem_cons_of_mem _ he)
      obtain ⟨h3, h4⟩ := h d List.mem_cons_self
      exact ⟨by simp [PyData.canLayAll0, h1, h3], by simp only [PyData.depthAll]; omega⟩
  exact ⟨by simp only [PyData.canLay0]; exact g.1, by simp only [PyData.depth]; have := g.2; omega⟩
theorem Shp.lst {n : Nat} {ds : List PyData} (h : ∀ d ∈ ds, d.canLay0 = true ∧ d.depth ≤ n) (hn : n + 1 ≤ 60) : (PyData.list ds).canLay0 = true ∧ (PyData.list ds).depth ≤ n + 1 := by
  obtain ⟨a, b⟩ := Shp.tup h hn
  simp only [PyData.canLay0, PyData.depth] at a b ⊢
  exact ⟨a, b⟩
end Hb
set_option Elab.async false
set_option linter.all false
set_option maxRecDepth 100000
set_option maxHeartbeats 4000000
/-! A head with a table of texts, properties and classmethods. -/
namespace He
open PySem PySem.Spec PyProof.Rows L2
abbrev AlZ : Type := AlX × List FnW
/-- what the names reach, and the table of the interpreter's own statics -/
def frZ (n : Nat) (g : Addr → Option Obj) : PySem.W.Frag := frT g (asD g n ++ [cStatics])
def obsZ (n : Nat) (fa : List Fa) (fn : List DefD) (ts : List Tab) (ex : PySem.W.Frag → Bool) (fp : List Dp) (g : Addr → Option Obj) : AlZ := ((obsT fa fn ts (frZ n g), ex (frZ n g)), fp.map fun p => fnP (frZ n g) (p.1 (frZ n g)))
def valZ (fn : List DefD) (ts : List Tab) (fp : List Dp) (w : World) : AlZ := (valX fn ts w, fp.map fun p => p.2.val)
structure SaysZ (fa : List Fa) (fn : List DefD) (ts : List Tab) (ex : PySem.W.Frag → Bool) (fp : List Dp) (w : World) (h : Heap) (K : PySem.W.Frag) : Prop where
  x : SaysX fa fn ts [] ex w h K
  p : fp.map (fun p => fnP K (p.1 K)) = fp.map fun p => p.2.val
def hookZ (n : Nat) (fa : List Fa) (fn : List DefD) (ts : List Tab) (ex : PySem.W.Frag → Bool) (fp : List Dp) : PySem.W.Hook where
  α := AlZ
  obs := fun s => obsZ n fa fn ts ex fp s.heap.get?
  val := fun w => valZ fn ts fp w
  says := fun w h => ∃ K : PySem.W.Frag, K.In h ∧ SaysZ fa fn ts ex fp w h K
  of := fun _ _ e => ⟨_, frT_in, ⟨congrArg (fun z : AlZ => z.1.1) e, congrArg (fun z : AlZ => z.1.2) e, fun _ h => (nomatch h), fun _ h => (nomatch h), fun _ h => (nomatch h)⟩, congrArg (fun z : AlZ => z.2) e⟩
  keeps := fun _ _ _ ⟨K, hK, c⟩ k => ⟨K, PySem.W.Frag.In.keeps hK k, ⟨⟨c.x.t, c.x.more, c.x.hd, c.x.out, fun p hp => k _ _ (c.x.empty p hp)⟩, c.p⟩⟩
theorem obsZ_eq {n : Nat} {fa : List Fa} {fn : List DefD} {ts : List Tab} {ex : PySem.W.Frag → Bool} {fp : List Dp} {g : Addr → Option Obj} {s : Shared} (h : ∀ a, g a = s.heap.get? a) : obsZ n fa fn ts ex fp g = (hookZ n fa fn ts ex fp).obs s := by
  have e : g = s.heap.get? := funext h
  rw [e] <;> rfl
/-! the tuples that a table holds -/
def tabAt (x k : Str) (K : PySem.W.Frag) : Addr := match PySem.W.nsIn K (ga K x) k with
  | some (some (.ref a)) => a
  | _ => 0
def tupA (K : PySem.W.Frag) (a : Addr) (vs : List V) : Bool := match K.lookup a with
  | some ⟨.type c, _, .seq its _, _⟩ => decide (c = "tuple") && (decide (its.size ≤ sizeLine) && relAll vs its.toList)
  | _ => false
theorem tupA_ok {K : PySem.W.Frag} {a : Addr} {vs : List V} (h : tupA K a vs = true) (H : Hp) : SqT K H a vs := by
  unfold tupA at h
  split at h
  · rename_i c d its n sl e
    obtain ⟨h1, h2⟩ := ba h
    obtain ⟨h3, h4⟩ := ba h2
    have e1 : c = "tuple" := of_decide_eq_true h1
    subst e1
    exact .inr ⟨_, its, n, e, rfl, rfl, of_decide_eq_true h3, relAll_ok h4⟩
  · cases h
/-- a table of tuples of texts: each key's tuple -/
def tabB (K : PySem.W.Frag) (x : Str) (L : List (Str × List Str)) : Bool := L.all fun q => eqO (PySem.W.nsIn K (ga K x) q.1) (some (some (.ref (tabAt x q.1 K)))) && tupA K (tabAt x q.1 K) (q.2.map V.str)
theorem tabB_ok {K : PySem.W.Frag} {w : World} {x : Str} {L : List (Str × List Str)} (h : tabB K x L = true) {es : Array DictEntry} {n : Nat} (D : KDict K w (ga K x) es n) {q : Str × List Str} (hq : q ∈ L) :
    KDct K w (ga K x) q.1 (.ref (tabAt x q.1 K)) ∧ ∀ H, SqT K H (tabAt x q.1 K) (q.2.map V.str) := by
  obtain ⟨h1, h2⟩ := ba (List.all_eq_true.mp h q hq)
  exact ⟨⟨es, n, _, D.at_, D.lit, eqO_ok h1, rfl⟩, tupA_ok h2⟩
/-! a classmethod -/
def cmB (K : PySem.W.Frag) (C : Addr) (m : Str) : Bool := PySem.W.readsIn K C (.type "type") && (eqO (PySem.W.specialIn K (.ref C) "__getattribute__") (some (some (.builtin "type.__getattribute__"))) &&
  ((match PySem.W.findCls K (.ref C) (.type "type") m with
  | some (.get (.builtin b) (.ref p) .none (.ref C')) => decide (b = "classmethod.__get__") && (decide (p = ma K C m) && decide (C' = C))
  | _ => false) && ((match PySem.W.recIn K (ma K C m) "classmethod" with
  | some (.ref g :: _) => true
  | _ => false) && PySem.W.fnIn K (rp K "classmethod" C m))))
theorem cm_ok {K : PySem.W.Frag} {C : Addr} {m : Str} (h : cmB K C m = true) : ClX.CRead K C (.type "type") ∧ ClX.CMet K C (.type "type") m (ma K C m) (rp K "classmethod" C m) := by
  obtain ⟨h1, h⟩ := ba h
  obtain ⟨h2, h⟩ := ba h
  obtain ⟨h3, h⟩ := ba h
  obtain ⟨h4, h5⟩ := ba h
  refine ⟨⟨h1, eqO_ok h2⟩, ?_, ?_, h5⟩
  · split at h3
    · rename_i b p C' e
      obtain ⟨x1, x2⟩ := ba h3
      obtain ⟨x3, x4⟩ := ba x2
      rw [e, of_decide_eq_true x1, of_decide_eq_true x3, of_decide_eq_true x4]
    · cases h3
  · unfold rp
    split at h4
    · rename_i g rest e
      rw [e]
      exact ⟨_, rfl⟩
    · cases h4
end He
namespace Hb
open PySem PySem.Spec PyProof.Rows L2
/-- with all arguments, and with but the first n (the defaults from the j-th on fill up) -/
theorem mak_mkDj {P : Program} {w : World} {K : PySem.W.Frag} {mg : Str → Option Value} {base : Heap} {C qual : Str} {st : Stmt} {N ps : List Str} {k n j : Nat} {sp : Sp} {dvs : List V} (hd : dvs ≠ []) (hn : n + (dvs.length - j) = ps.length) (D : Df1v K mg C qual st dvs) (S : FnScope N ps (defScope st))
    (bd : ∀ (T : Addr) (kV doc pm : Value) (an : Option Addr) (cdv ct : Value) (us its : List Value), us.length = ps.length → its.length = dvs.length →
      ∃ k, bindArgs (PySem.W.fnOf "__init__" qual (defArgs st) (defBody st) (defScope st) (.ref T) kV doc pm an cdv ct) ⟨us, []⟩ = seqItems? (.ref T) >>= k ∧ k (some its.toArray) = pure (ps.zip us))
    (bp : ∀ (T : Addr) (kV doc pm : Value) (an : Option Addr) (cdv ct : Value) (us its : List Value), us.length = n → its.length = dvs.length →
      ∃ k, bindArgs (PySem.W.fnOf "__init__" qual (defArgs st) (defBody st) (defScope st) (.ref T) kV doc pm an cdv ct) ⟨us, []⟩ = seqItems? (.ref T) >>= k ∧ k (some its.toArray) = pure (ps.zip (us ++ its.drop j)))
    (len : ∀ vs H Q E, sp vs H Q E → vs.length = ps.length)
    (hbody : ∀ (f : Addr) (cdv : Value) (A : Around) (outer : List Env) (s : Shared) (H : Hp) (vs : List V) (Q : VK) (E : XK), Room k (A.deeper (envOfC qual (defScope st) s.heap.objs.size f cdv)) → sp vs H Q E →
      ∃ t, PSs (cxOf CX0 P w K mg base N qual (defScope st) f cdv A outer s H E).nox (defBody st) t ∧ t { nx := fun _ H' => Q .non H', rt := Q } (start N vs) H) :
    C8.Mak P w K mg base (k + 1) C (He.ga K C) sp [] ∧ C8.Mak P w K mg base (k + 1) C (He.ga K C) sp (dvs.drop j) := by
  obtain ⟨M, hm, fd, F⟩ := D
  have ok : FnOk P w K mg base CX0 (k + 1) (He.ma K (He.ga K C) "__init__") fd ps sp := F.ok S len fun cdv A outer s H vs Q E hr h => by
    obtain ⟨t, h1, h2⟩ := hbody _ cdv A outer s H vs Q E hr h
    exact ⟨t, h1.nox, h2⟩
  constructor
  · obtain ⟨ds, r, b⟩ := F.binds1 ps.length dvs.length hd (by rw [Nat.sub_self, Nat.add_zero]) fun T kV doc pm an cdv ct us its h1 h2 => by
      obtain ⟨k, e1, e2⟩ := bd T kV doc pm an cdv ct us its h1 h2
      exact ⟨k, e1, by rw [e2, List.drop_of_length_le (by rw [h2] <;> exact Nat.le_refl _), List.append_nil]⟩
    rw [List.drop_of_length_le (Nat.le_refl _)] at r
    cases r
    exact ⟨⟨_, fd, ps, [], M, ok, hm, b, .nil⟩⟩
  · obtain ⟨ds, r, b⟩ := F.binds1 n j hd hn bp
    exact ⟨⟨_, fd, ps, ds, M, ok, hm, b, r⟩⟩
/-- a classmethod of the class C, without defaults -/
def Dcm (K : PySem.W.Frag) (C m qual : Str) (st : Stmt) : Prop := (ClX.CRead K (He.ga K C) (.type "type") ∧ ClX.CMet K (He.ga K C) (.type "type") m (He.ma K (He.ga K C) m) (He.rp K "classmethod" (He.ga K C) m)) ∧
  ∃ fd, FunD K m qual (defArgs st) (defBody st) (defScope st) [] [] (He.rp K "classmethod" (He.ga K C) m) fd
structure CmOf (P : Program) (w : World) (K : PySem.W.Frag) (mg : Str → Option Value) (base : Heap) (k : Nat) (C : Addr) (m : Str) (sp : Sp) : Prop where
  ex : ∃ p g, ClX.CRead K C (.type "type") ∧ ClX.CMet K C (.type "type") m p g ∧ FnR P w K mg base CX0 k g sp
theorem cmOf_ {P : Program} {w : World} {K : PySem.W.Frag} {mg : Str → Option Value} {base : Heap} {C m qual : Str} {st : Stmt} {ps : List Str} {k : Nat} {sp : Sp} (D : Dcm K C m qual st) (bd : BdN m qual st ps)
    (ok : ∀ {f : Addr} {fd : FuncData}, FunD K m qual (defArgs st) (defBody st) (defScope st) [] [] f fd → FnOk P w K mg base CX0 k f fd ps sp) : CmOf P w K mg base k (He.ga K C) m sp := by
  obtain ⟨⟨h1, h2⟩, fd, F⟩ := D
  refine ⟨⟨_, _, h1, h2, ?_⟩⟩
  have z := FnOk.raw (ok F) (F.bindsN bd) .nil
  exact z.imp fun vs H Q E q => by simpa using q
theorem pe_cm {X : Cx} {C : Addr} {m : Str} {k j : Nat} {sp : Sp} {o e : Expr} {es : List Expr} {pos apos : Pos} {ta : TE} {t : TA} {pl : Sem Bool} (c : CmOf X.prog X.w X.K X.mg X.base k C m sp) (hr : Room j X.A) (hk : k ≤ j) (he : PE X o ta) (ha : PA X (e :: es) t)
    (hst : starEach (e :: es) X.env = (false, eval e X.env) :: starEach es X.env := by rfl) (hpl : (backTo pos (starEach es X.env)).any (·.1) = false := by rfl)
    (ht : eval (.Call (.Attribute o m apos) (e :: es) [] pos) X.env = (do
      let ov ← eval o X.env
      standAt apos.atName
      let (f, first) ← holding [ov] (getMethod ov m pl)
      callWith pos f first (backTo pos (starEach (e :: es) X.env)) (backToKw pos (keywordEach [] X.env))) := by rfl) :
    PE X (.Call (.Attribute o m apos) (e :: es) [] pos) (ClX.tCMeth C sp C8.E0 ta t) := by
  obtain ⟨p, g, h1, h2, F⟩ := c.ex
  exact ClX.pe_cmeth he h1 h2 F (hr.mono hk) C8.pass0 ha hst hpl ht
end Hb
set_option Elab.async false
set_option linter.all false
set_option maxRecDepth 100000
set_option maxHeartbeats 4000000
/-! enumerate of a list or a tuple. -/
namespace Hb
open PySem PySem.Spec PyProof.Rows L2
theorem meets_enum1 {v : Value} {o : Obj} {B0 : Heap → Prop} (B : Begins v o B0) :
    Meets (Builtin.«enumerate.__new__» ⟨[.type "enumerate", v], []⟩) (fun _ R s => B0 s.heap ∧
      R (.ok (.ret (.ref (s.heap.push o).objs.size))) { s with heap := (s.heap.push o).push { cls := .type "enumerate", data := .fields #[.none, .bool false, .ref s.heap.objs.size, rawInt 0, .none, .none] } }) :=
  .of_wp fun prog w A R s h => by
    obtain ⟨hp, g, d, tk, os⟩ := s; obtain ⟨h1, h⟩ := h
    have hsub := sub_enumerate
    have q1 : ∀ {A' : Around} {E : Value → Shared → Prop} {Q : Value → Shared → Prop}, Q (.ref hp.objs.size) ⟨hp.push o, g, d, tk, os⟩ → wpAny (model prog w) A' (pyIter v) Q E ⟨hp, g, d, tk, os⟩ :=
      fun q => B.iter prog w _ _ ⟨hp, g, d, tk, os⟩ _ h1 q
    wp_walk using q1
    refine wpAny_stack_any fun st => wpAny_pure ?_
    split
    · rename_i c _ _ _ _ _
      cases (c == Value.type "enumerate")
      · wp_walk using q1
        exact ⟨_, rfl, h⟩
      · wp_walk using q1
        exact ⟨_, rfl, h⟩
    · wp_walk using q1
      exact ⟨_, rfl, h⟩
section
variable {prog : Program} {w : World} {A : Around} {E : Value → Shared → Prop} {s : Shared}
theorem call_enum1 {v : Value} {o : Obj} {B0 : Heap → Prop} {Q : Value → Shared → Prop} (B : Begins v o B0) (h1 : B0 s.heap)
    (h : ∀ h', IsEnum h' (s.heap.objs.size + 1) s.heap.objs.size 0 .none → h'.get? s.heap.objs.size = some o → h'.objs.size = s.heap.objs.size + 2 →
      (∀ b o, s.heap.get? b = some o → h'.get? b = some o) → Q (.ref (s.heap.objs.size + 1)) { s with heap := h' }) :
    wpAny (model prog w) A (call (.type "enumerate") [v]) Q E s := by
  refine callType_new F.called_enumerate (by decide) (F.typeCall_enumerate_1 _) (F.newCall_enumerate_1 _) (fun obj => F.args_object_init_2 obj _) F.entry_enumerate_new
    (meets_enum1 B) ⟨h1, ?_⟩
  have hz : (s.heap.push o).objs.size = s.heap.objs.size + 1 := Heap.size_push ..
  show _ ∧ _
  rw [hz]
  have he : IsEnum ((s.heap.push o).push { cls := .type "enumerate", data := .fields #[.none, .bool false, .ref s.heap.objs.size, rawInt 0, .none, .none] }) (s.heap.objs.size + 1) s.heap.objs.size 0 .none := by
    have := Heap.get?_push_size (s.heap.push o) (o := { cls := .type "enumerate", data := .fields #[.none, .bool false, .ref s.heap.objs.size, rawInt 0, .none, .none] }) rfl
    rw [hz] at this; exact this
  refine ⟨⟨_, he, rfl⟩, h _ he (Heap.get?_push_of_some _ (Heap.get?_push_size _ B.free)) (by rw [Heap.size_push, hz]) fun b o x => Heap.get?_push_of_some _ (Heap.get?_push_of_some _ x)⟩
end
/-- the tuple at a, each item in a new pair -/
def Itet (K : PySem.W.Frag) (a : Addr) (xs : List V) : It :=
  ⟨fun i H => SqT K H a xs ∧ ∃ x, xs[i]? = some x, fun i H v H' => ∃ T x, v = .ref T ∧ H T = none ∧ H' = upd H T (.tup [.int (i : Nat), x]) ∧ xs[i]? = some x, fun i H => SqT K H a xs ∧ xs.length ≤ i⟩
theorem turn_enumT {P : Program} {w : World} {K : PySem.W.Frag} {elts : List Expr} {kk : Nat} {tpos : Pos} (a e it : Addr) (xs : List V) (ha : a ≠ it) (hea : e ≠ a) :
    L2.Turn P w K (.Tuple elts kk tpos) (Itet K a xs) [e, it] e (fun i h => (∃ old, IsEnum h e it ((i : Nat) : Int) old) ∧ h.IsTupleIter it a i ∧ e ≠ it) where
  mem := by simp
  obj := fun i h st b hb => by
    obtain ⟨⟨old, he⟩, ⟨o, ho, hc, hd⟩, _⟩ := st
    have e' : b = e ∨ b = it := by simpa using hb
    rcases e' with z | z
    · rw [z]; exact ⟨_, he, fun v q => nomatch q⟩
    · rw [z]; exact ⟨o, ho, fun v q => by rw [hd] at q; cases q⟩
  keep := fun i h h' st k => let ⟨⟨old, he⟩, hi, hne⟩ := st; ⟨⟨old, k e (by simp) _ he⟩, hi.at fun o q => k it (by simp) o q, hne⟩
  item := by
    intro X hP hw hK hc i pins s σ H E I hf st hg
    subst hP hw hK
    obtain ⟨⟨old, he⟩, hit, hne⟩ := st
    obtain ⟨hq, x, hx⟩ := hg
    obtain ⟨its, rv, p, hz⟩ := I.tuple hq
    obtain ⟨u, hu, ru⟩ := rv.get hx
    have hel : e < s.heap.objs.size := Heap.lt_size he
    have hil : it < s.heap.objs.size := by obtain ⟨_, q, _⟩ := hit; exact Heap.lt_size q
    have hlen : its.toArray.size = xs.length := by rw [List.size_toArray]; exact rv.length.symm
    have hix : i < its.toArray.size := by rw [hlen]; exact (List.getElem?_eq_some_iff.mp hx).1
    refine wpAny_pyNext_enum_itemD (Draws.tuple (A := X.A.in1) (I.ok.hd hc) it a ha its.toArray) he ⟨hit, p⟩ hix hne (by simp [hea, hne]) fun u2 h' tk hu2 ho st' hT hsz hk => ?_
    have eu : u2 = u := by
      have e1 : its.toArray[i]? = some u := by simpa using hu
      exact Option.some.inj (hu2.symm.trans e1)
    subst eu
    refine ⟨_, rfl, wpAny_letOwnedTupleGo_enum (s := { s with heap := h', toks := tk + 1 }) ho fun h'' he' sb => ?_⟩
    have hT2 : h''.get? s.heap.objs.size = some { cls := .type "tuple", data := .seq #[.int i tk, u2] } := (sb.2 _ (Nat.ne_of_gt hel)).trans hT
    have new : ObjOk X.prog X.w (upd H s.heap.objs.size (.tup [.int (i : Nat), x])) h'' s.heap.objs.size (.tup [.int (i : Nat), x]) :=
      ⟨by show 2 ≤ sizeLine; decide, [.int i tk, u2], .cons ⟨_, rfl⟩ (.cons ru .nil), ⟨_, hT2, rfl, _, rfl⟩⟩
    have I1 : Inv X pins σ (upd H s.heap.objs.size (.tup [.int (i : Nat), x])) { s with heap := h'', toks := tk + 1 } :=
      I.turnedNew (ch := [e, it]) (fun b ob hb q => (sb.2 b (fun z => hb (by simp [z]))).trans (hk b ob (fun z => hb (by simp [z])) (fun z => hb (by simp [z])) q)) hf (Nat.le_refl _) new
    refine ⟨.ref s.heap.objs.size, _, I1, rfl, ⟨_, x, rfl, I.hok.fresh (Nat.le_refl _), rfl, hx⟩, ⟨⟨u2, ?_⟩, st'.1.at fun o q => (sb.2 it (Ne.symm hne)).trans q, hne⟩, fun b hb => ?_⟩
    · have e1 : ((i + 1 : Nat) : Int) = (i : Int) + 1 := by omega
      rw [e1]; exact he'
    · have hb' : b < s.heap.objs.size := by
        have e' : b = e ∨ b = it := by simpa using hb
        rcases e' with z | z
        · rw [z]; exact hel
        · rw [z]; exact hil
      rw [upd_ne (Nat.ne_of_lt hb')]
      exact (hf b hb).1
  done := by
    intro X hP hw hK hc i pins s σ H E I hf st hg
    subst hP hw hK
    obtain ⟨⟨old, he⟩, hit, hne⟩ := st
    obtain ⟨hq, hx⟩ := hg
    obtain ⟨its, rv, p, hz⟩ := I.tuple hq
    obtain ⟨f0, f1, f2, f3, f4, f5⟩ := hf it (by simp)
    have hlen : its.toArray.size = xs.length := by rw [List.size_toArray]; exact rv.length.symm
    have T : s.TypeIs (.ref e) "enumerate" := ⟨_, he, rfl⟩
    unfold pyNext
    refine wpAny_bind (wpAny_attempt (wpAny_callSpecial?_slot (name := Str.ofString "__next__") T F.slot_enumerate_next
      (wpAny_call_entry F.slot_enumerate_next T F.entry_enumerate_next ?_ (F.args_enumerate_next_1 _))))
    show wpAny _ _ (field (.ref e) 2 >>= _) _ _ _
    refine wpAny_bind (wpAny_field he rfl (x := .ref it) rfl ?_)
    refine wpAny_bind (wpAny_nextOf_tuple_end (I.ok.hd hc) hit p (Array.getElem?_eq_none (by omega)) fun h' x eb hx' => ?_)
    obtain ⟨o, ho, hcl⟩ := hx'
    refine wpAny_bind (wpAny_isInstance (T := "StopIteration") (b := true) ⟨o, ho, hcl⟩ isSubtype_stop ?_)
    exact wpAny_pure ⟨rfl, I.turned (t' := s.toks) (fun b o hb q => eb b o hb q) f0 f1 f3 f4 f5⟩
  self := fun A i s Q E st h => let ⟨⟨_, he⟩, _⟩ := st; wpAny_pyIter_enum he h
theorem walk_enumT {K : PySem.W.Frag} {a : Addr} {xs : List V} : Walk (Itet K a xs) xs.length (fun H => SqT K H a xs) (YPair (fun i => some (.int (i : Nat))) (fun i => xs[i]?)) := by
  refine ⟨fun i _ hi q => ⟨q, xs[i], by simp [hi]⟩, fun _ q => ⟨q, Nat.le_refl _⟩, fun i H v H' _ q y => ?_⟩
  obtain ⟨T, x, h1, h2, h3, h4⟩ := y
  exact ⟨T, .int (i : Nat), x, h1, h2, h3, rfl, h4⟩
/-- a list or a tuple, with numbers -/
def iEnumS (K : PySem.W.Frag) (ta : TA) : TI := fun σ H R => ta σ H fun vs H1 => ∃ a xs, vs = [.ref a] ∧ (SqL K H1 a xs ∨ SqT K H1 a xs) ∧
  ∀ (J : It) (G : Hp → Prop), (∀ H', Same H1 H' → G H') → Walk J xs.length G (YPair (fun i => some (.int (i : Nat))) (fun i => xs[i]?)) → R J H1
theorem pi_enumS {X : Cx} {e : Expr} {ta : TA} {p pos tpos : Pos} {elts : List Expr} {kk : Nat} (hg : Gl X "enumerate") (hm : X.mg "enumerate" = none) (ha : PA X [e] ta) (hs : starEach [e] X.env = [(false, eval e X.env)] := by rfl) :
    PI X (.Tuple elts kk tpos) (.Call (.Name "enumerate" p) [e] [] pos) (iEnumS X.K ta) := by
  refine ⟨fun pins s σ H R I h => ?_⟩
  refine Call_ (ld_blt I hg hm boot_enumerate (PyProof.Rows.callWith_type1 (thn (ha.run pos pins s σ H _ I h) fun us s1 ⟨vs, H1, I1, r1, q1⟩ => ?_) hs rfl))
  obtain ⟨a, xs, ex, hq, q⟩ := q1
  subst ex
  cases r1 with
  | cons r rr =>
    cases rr
    cases r
    have far : ∀ b ∈ [s1.heap.objs.size + 1, s1.heap.objs.size], FpOk X pins H1 b := fun b hb => by
      have e' : b = s1.heap.objs.size + 1 ∨ b = s1.heap.objs.size := by simpa using hb
      have hle : s1.heap.objs.size ≤ b := by
        rcases e' with z | z
        · rw [z]; exact Nat.le_add_right _ _
        · rw [z]; exact Nat.le_refl _
      exact I1.fpOk hle (I1.hok.fresh hle)
    rcases hq with hq | hq
    · obtain ⟨its, rv, p', hz⟩ := I1.list hq
      refine call_enumerate_list p'.isList fun h' he hit hsz hk => wpAny_pyIter_enum he ?_
      exact ⟨s1.heap.objs.size + 1, [s1.heap.objs.size + 1, s1.heap.objs.size], _, _, H1, rfl, I1.kept (t' := s1.toks) hk, turn_enum a (s1.heap.objs.size + 1) s1.heap.objs.size, ⟨⟨.none, he⟩, hit, Nat.succ_ne_self _⟩, far, q _ _ (fun H' s => Same.seq s hq) walk_enum⟩
    · obtain ⟨its, rv, p', hz⟩ := I1.tuple hq
      have hal : a < s1.heap.objs.size := by obtain ⟨o, ho, _⟩ := id p'; exact Heap.lt_size ho
      refine call_enum1 (begins_tuple a its.toArray) p' fun h' he hit hsz hk => wpAny_pyIter_enum he ?_
      exact ⟨s1.heap.objs.size + 1, [s1.heap.objs.size + 1, s1.heap.objs.size], _, _, H1, rfl, I1.kept (t' := s1.toks) hk, turn_enumT a (s1.heap.objs.size + 1) s1.heap.objs.size xs (Nat.ne_of_lt hal) (Nat.ne_of_gt (Nat.lt_succ_of_lt hal)), ⟨⟨.none, he⟩, ⟨_, hit, rfl, rfl⟩, Nat.succ_ne_self _⟩, far, q _ _ (fun H' s => SqT.keep (Same.tk s) hq) walk_enumT⟩
end Hb
set_option Elab.async false
set_option linter.all false
set_option maxRecDepth 100000
set_option maxHeartbeats 4000000
/-! A law's def run where it is called from: nothing is being shown there, so that what repr gives is known. -/
namespace Hb
open PySem PySem.Spec PyProof.Rows L2
/-- a law's body, where the law is called from -/
def BodyG (P : Program) (w : World) (K : PySem.W.Frag) (mg : Str → Option Value) (N : List Str) (sc : Scope) (body : List Stmt) (k n : Nat) : Prop :=
  ∀ (base : Heap) (f a : Addr) (cdv : Value) (s : Shared) (H : Hp) (ns : List Int), ns.length ≤ n → SqL K H a (ns.map V.int) → Room k (callerA.deeper (envOfC "law" sc s.heap.objs.size f cdv)) →
    ∃ t, PSs (cxOf CX0 P w K mg base N "law" sc f cdv callerA [] s H E0).nox body t ∧ t { nx := fun _ _ => False, rt := fun v _ => v = .bl true } (start N [.ref a]) H
section
variable {P : Program} {w : World} {K : PySem.W.Frag} {mg mb : Str → Option Value} {k n : Nat} {fa a : Addr} {fd : FuncData} {x : Str} {N : List Str} {sc : Scope} {body : List Stmt} {params : Arguments} {s1 : Shared} {vs : List Value} {ns : List Int}
/-- from the heap in which the script alone may be tracked -/
theorem run_law {H : Hp} {base : Heap} (F : FunD K "law" "law" params body sc [] [] fa fd) (S : FnScope N [x] sc) (hr : Room (k + 1) callerA) (hbind : ∀ (s : Shared) (u : Value), BindsTo s fd ⟨[u], []⟩ [(x, u)])
    (B : BodyG P w K mg N sc body k n) (e0 : Env0 P w K mg base callerA [] s1 H) (hq : SqL K H a (ns.map V.int)) (hn : ns.length ≤ n) (only : Only H) :
    codeAny (model P w) callerA (.call (.ref fa) ⟨[.ref a], []⟩) (fun r s' => r = .ok (.ret (.bool true)) ∧ OldK s1.heap s'.heap ∧ s'.os = s1.os ∧ AllBare s'.gens) s1 := by
  obtain ⟨oc, od, dV, kV, doc, pm, an, cdv, ct, osl, rfl, lk, hcd, _, _⟩ := F.ex
  have KX : K.In s1.heap := e0.mod.kin.keeps fun b o e => (e0.bs b o e).1
  have lim : s1.heap.NoLimit := e0.mod.nolimit.keeps fun b o e => (e0.bs b o e).1
  have kinds : ∀ y ∈ ([x] : List Str).zip [Value.ref a], sc.names.lookup y.1 = some .local ∨ (sc.names.lookup y.1 = some .cell ∧ ((cellsFrom (s1.heap.objs.size + 1) sc.names []).lookup y.1).isSome = true) := by
    rintro ⟨m, v⟩ hy
    exact (S.par m (List.of_mem_zip hy).1).imp id fun q => ⟨q, PySem.W.cellsFrom_some _ _ _ (.inl q)⟩
  refine codeAny_call_function hr.depth (KX _ _ lk) rfl S.co S.gen rfl (PySem.W.codeRec_of KX hcd) (hbind s1 (.ref a) _ _ _ _ ?_)
  refine wpAny_newFunctionEnv_cells S.kind kinds fun env he z y => ?_
  subst he
  obtain ⟨t, ht, hb⟩ := B base fa a cdv s1 H ns hn hq (hr.deeper _)
  have I : Inv (cxOf CX0 P w K mg base N "law" sc fa cdv callerA [] s1 H E0) [] (start N [.ref a]) H z := inv_start S hr.hd e0 rfl (.cons rfl .nil) y
  refine ⟨lim.keeps y.toInCall.keep, codeAny_func (wpAny_mono (ht.run [] z (start N [.ref a]) H _ (I.wish _) hb) (fun fl s' hs0 => ?_) fun e s' hs => False.elim hs)⟩
  have hs := hs0.unwish
  cases fl with
  | brk => obtain ⟨_, _, _, q⟩ := hs; exact False.elim q
  | cont => obtain ⟨_, _, _, q⟩ := hs; exact False.elim q
  | next => obtain ⟨_, _, _, q⟩ := hs; exact False.elim q
  | ret u =>
    obtain ⟨v, σ', H', J, rv, q⟩ := hs
    have q2 : v = V.bl true := q
    subst q2
    obtain rfl : u = Value.bool true := rv
    refine ⟨rfl, OldK.of_keep fun b o e => ?_, J.os, J.bare⟩
    cases r : H b with
    | none => exact J.base.keep b o e r (by intro z; cases z) (by intro z; cases z)
    | some u =>
      rcases only b with z | ⟨ob, xs, z⟩
      · rw [r] at z; cases z
      · have z2 := J.base.frzs b ob _ z
        obtain ⟨e1, _⟩ := e0.hok b _ z
        obtain ⟨e2, _⟩ := J.hok b _ z2
        rw [e] at e1; cases e1
        exact e2
/-- from the heap behind the top: the script's list alone is tracked, where the written part has it not -/
theorem run_top (F : FunD K "law" "law" params body sc [] [] fa fd) (S : FnScope N [x] sc) (hr : Room (k + 1) callerA) (hbind : ∀ (s : Shared) (u : Value), BindsTo s fd ⟨[u], []⟩ [(x, u)])
    (B : BodyG P w K mg N sc body k n) (KX : K.In s1.heap) (hns : s1.heap.Ns mainGlobals mg) (hb : s1.heap.Ns builtinsNs mb) (hbb : ∀ x : Str, x ≠ "__name__" → mb x = bootBuiltins x) (hlim : s1.heap.NoLimit) (hg : s1.gens = #[])
    (ha : s1.heap.get? a = some { cls := .type "list", data := .seq vs.toArray }) (hi : IntsAre vs ns) (hn : ns.length ≤ n) (hl : n ≤ sizeLine) :
    codeAny (model P w) callerA (.call (.ref fa) ⟨[.ref a], []⟩) (fun r s' => r = .ok (.ret (.bool true)) ∧ OldK s1.heap s'.heap ∧ s'.os = s1.os ∧ AllBare s'.gens) s1 := by
  have rv := vals_ints hi
  have len := hi.length
  have few : ns.length ≤ sizeLine := Nat.le_trans hn hl
  have go : ∀ H : Hp, Only H → SqL K H a (ns.map V.int) → HOk P w H s1.heap → (∀ b, H b ≠ none → b = a ∧ K.lookup a = none) → codeAny (model P w) callerA (.call (.ref fa) ⟨[.ref a], []⟩) (fun r s' => r = .ok (.ret (.bool true)) ∧ OldK s1.heap s'.heap ∧ s'.os = s1.os ∧ AllBare s'.gens) s1 := by
    intro H only hq hok hA
    have none_of : ∀ b : Addr, b ≠ a → H b = none := fun b ne => by
      cases q : H b with
      | none => rfl
      | some u => exact absurd (hA b (by rw [q]; intro z; cases z)).1 ne
    have low : ∀ {b : Addr} {o : Obj}, s1.heap.get? b = some o → H b = none → (hidT s1.heap H).get? b = some o := fun e q => hidT_get e q
    have dct : ∀ {b : Addr} {m : Str → Option Value}, s1.heap.Ns b m → (hidT s1.heap H).Ns b m := by
      rintro b m ⟨o, es, ep, e, d, r⟩
      refine ⟨o, es, ep, low e (none_of b fun q => ?_), d, r⟩
      subst q
      rw [ha] at e
      cases e
      cases d
    have kin : K.In (hidT s1.heap H) := fun b o e => by
      refine low (KX b o e) ?_
      cases q : H b with
      | none => rfl
      | some u =>
        obtain ⟨rfl, z⟩ := hA b (by rw [q]; intro z; cases z)
        rw [z] at e; cases e
    obtain ⟨mc, l1, l2⟩ := hlim
    exact run_law (H := H) (base := hidT s1.heap H) F S hr hbind B ⟨rfl, ⟨kin, dct hns, ⟨mb, dct hb, hbb⟩, ⟨mc, dct l1, l2⟩⟩, fun b o e => of_hidT e, Nat.le_of_eq (hidT_size _ _), trivial, fun b z => (nomatch z), hok, .of_eq hg⟩ hq hn only
  cases lk : K.lookup a with
  | some o =>
    obtain rfl : o = { cls := .type "list", data := .seq vs.toArray } := by
      have e := KX a o lk
      rw [ha] at e
      exact (Option.some.inj e).symm
    exact go (fun _ => none) (fun _ => Or.inl rfl) (Or.inr ⟨_, vs.toArray, _, lk, rfl, rfl, rfl, by rw [List.size_toArray, len]; exact few, by simpa using rv⟩) (fun b u z => nomatch (show (none : Option HO) = some u from z)) fun b z => absurd rfl z
  | none =>
    let u : HO := .frz { cls := .type "list", data := .seq vs.toArray } (.lst (ns.map V.int))
    have at_ : ∀ b, (upd (fun _ => none) a u) b = if b = a then some u else none := fun b => by
      by_cases e : b = a
      · subst e; rw [if_pos rfl]; exact upd_same
      · rw [if_neg e]; exact upd_ne e
    refine go (upd (fun _ => none) a u) (fun b => ?_) (Or.inl (Or.inr ⟨_, upd_same⟩)) (fun b v z => ?_) fun b z => ⟨?_, lk⟩
    · rw [at_]; split
      · exact Or.inr ⟨_, _, rfl⟩
      · exact Or.inl rfl
    · rw [at_] at z
      by_cases e : b = a
      · rw [if_pos e] at z
        cases z
        subst e
        exact ⟨ha, by rw [List.length_map]; exact few, vs, _, rv, ha⟩
      · rw [if_neg e] at z; cases z
    · apply Classical.byContradiction
      intro e
      rw [at_, if_neg e] at z
      exact z rfl
end
open PySem PySem.Spec PyProof.Rows
/-- the walk behind the top, from the body of the law's def -/
theorem walk_ofG {l : PySem.W.OpenLaw} {n k : Nat} {q : Program} {loose : List Str} {XP : (Str → Option Value) → Heap → Prop} {YP : World → Heap → Prop} {d : DefRec} {x : Str}
    (hn : l.most = some n) (hl : n ≤ sizeLine) (hdf : d.params.defaults = []) (hr : Room (k + 1) callerA)
    (F : ∀ (w : World) (mg : Str → Option Value) (fa : Addr) (h : Heap), YP w h → h.Ns mainGlobals mg → mg d.name = some (.ref fa) →
      ∃ (K : PySem.W.Frag) (fd : FuncData) (N : List Str) (sc : Scope) (body : List Stmt) (params : Arguments), K.In h ∧ FunD K "law" "law" params body sc [] [] fa fd ∧ FnScope N [x] sc ∧
        (∀ (s : Shared) (u : Value), BindsTo s fd ⟨[u], []⟩ [(x, u)]) ∧ BodyG l.prog w K mg N sc body k n) :
    PySem.W.WalkO q loose XP YP l.row.toRowW d [] (fun f vs => PySem.call f vs) := by
  refine Att.attach_call hn hdf fun w s0 s1 mg mb fa o pm cd doc a vs ns G Y ho hd hcd hmg hobj hi hlen hg => ?_
  obtain ⟨K, fd, N, sc, body, params, KX, f, S, hb, B⟩ := F w mg fa _ Y G.T.g hmg
  exact run_top f S hr hb B KX G.T.g G.T.b G.T.builtins G.T.nolimit hg hobj hi hlen hl
end Hb
set_option Elab.async false
set_option linter.all false
set_option maxRecDepth 100000
set_option maxHeartbeats 8000000
namespace Hb
open PySem PySem.Spec PyProof.Rows L2
section
variable {X : Cx}
/-- repr of an object that is data -/
def rReprD (K : PySem.W.Frag) : List V → Hp → VK → Prop := fun vs H Q => ∃ (a : Addr) (d : PyData), vs = [.ref a] ∧ Dp K H (.ref a) d ∧ d.showable = true ∧ d.hasDict = false ∧ d.depth ≤ 60 ∧ d.shown.length ≤ sizeLine ∧ Q (.str d.shown) H
theorem cr_reprD (hg : X.A.guards = some []) (hu : X.A.units + 64 < cLine) : CallR X (.builtin "repr") (rReprD X.K) := by
  intro pins s σ H vs us Q I r h
  obtain ⟨a, d, rfl, hd, hs, hk, hz, hl, q⟩ := h
  rw [Vals.ref1 r]
  obtain ⟨as, rd⟩ := L2.Dp.reads I d _ (.ref a) hd rfl
  refine repr_of_reads' rd hs (fun e => by rw [hk] at e; cases e) hg (by omega) (fun _ _ e => e) (fun h' u tk k => ?_) hl
  exact ⟨.str d.shown, H, I.kept k, ⟨u, rfl⟩, q⟩
end
end Hb
set_option Elab.async false
set_option linter.all false
set_option maxRecDepth 100000
set_option maxHeartbeats 4000000
/-! The text, by places. -/
namespace Lw
open PySem PySem.Spec PyProof.Rows L2 Hb
def top (i : Nat) : Stmt := PySem.Challenge.pw_hushsteps_k13_walks_made.main.body.getD i (.Pass ⟨0, 0, 0, 0⟩)
abbrev s_is_whole : Stmt := (top 6)
abbrev N_is_whole : List Str := ["value"]
theorem sc_is_whole : FnScope N_is_whole ["value"] (defScope s_is_whole) := C8.fnScope_by (by decide +kernel)
theorem bd_is_whole : ∀ (kV doc pm : Value) (an : Option Addr) (cdv ct : Value) (us : List Value), us.length = (["value"] : List Str).length → bindArgs (PySem.W.fnOf "is_whole" "is_whole" (defArgs s_is_whole) (defBody s_is_whole) (defScope s_is_whole) .none kV doc pm an cdv ct) ⟨us, []⟩ = pure ((["value"] : List Str).zip us) :=
  fun _ _ _ _ _ _ us hl => match us, hl with | [_], _ => rfl
abbrev s_is_number : Stmt := (top 7)
abbrev N_is_number : List Str := ["value"]
theorem sc_is_number : FnScope N_is_number ["value"] (defScope s_is_number) := C8.fnScope_by (by decide +kernel)
theorem bd_is_number : ∀ (kV doc pm : Value) (an : Option Addr) (cdv ct : Value) (us : List Value), us.length = (["value"] : List Str).length → bindArgs (PySem.W.fnOf "is_number" "is_number" (defArgs s_is_number) (defBody s_is_number) (defScope s_is_number) .none kV doc pm an cdv ct) ⟨us, []⟩ = pure ((["value"] : List Str).zip us) :=
  fun _ _ _ _ _ _ us hl => match us, hl with | [_], _ => rfl
abbrev s_is_row : Stmt := (top 8)
abbrev N_is_row : List Str := ["value"]
theorem sc_is_row : FnScope N_is_row ["value"] (defScope s_is_row) := C8.fnScope_by (by decide +kernel)
theorem bd_is_row : ∀ (kV doc pm : Value) (an : Option Addr) (cdv ct : Value) (us : List Value), us.length = (["value"] : List Str).length → bindArgs (PySem.W.fnOf "is_row" "is_row" (defArgs s_is_row) (defBody s_is_row) (defScope s_is_row) .none kV doc pm an cdv ct) ⟨us, []⟩ = pure ((["value"] : List Str).zip us) :=
  fun _ _ _ _ _ _ us hl => match us, hl with | [_], _ => rfl
abbrev s_is_numeral : Stmt := (top 9)
abbrev N_is_numeral : List Str := ["word", "digit"]
theorem sc_is_numeral : FnScope N_is_numeral ["word"] (defScope s_is_numeral) := C8.fnScope_by (by decide +kernel)
theorem bd_is_numeral : ∀ (kV doc pm : Value) (an : Option Addr) (cdv ct : Value) (us : List Value), us.length = (["word"] : List Str).length → bindArgs (PySem.W.fnOf "is_numeral" "is_numeral" (defArgs s_is_numeral) (defBody s_is_numeral) (defScope s_is_numeral) .none kV doc pm an cdv ct) ⟨us, []⟩ = pure ((["word"] : List Str).zip us) :=
  fun _ _ _ _ _ _ us hl => match us, hl with | [_], _ => rfl
abbrev s_is_person : Stmt := (top 13)
abbrev N_is_person : List Str := ["people", "word"]
theorem sc_is_person : FnScope N_is_person ["people", "word"] (defScope s_is_person) := C8.fnScope_by (by decide +kernel)
theorem bd_is_person : ∀ (kV doc pm : Value) (an : Option Addr) (cdv ct : Value) (us : List Value), us.length = (["people", "word"] : List Str).length → bindArgs (PySem.W.fnOf "is_person" "is_person" (defArgs s_is_person) (defBody s_is_person) (defScope s_is_person) .none kV doc pm an cdv ct) ⟨us, []⟩ = pure ((["people", "word"] : List Str).zip us) :=
  fun _ _ _ _ _ _ us hl => match us, hl with | [_, _], _ => rfl
abbrev s_is_event : Stmt := (top 14)
abbrev N_is_event : List Str := ["people", "value", "words"]
theorem sc_is_event : FnScope N_is_event ["people", "value"] (defScope s_is_event) := C8.fnScope_by (by decide +kernel)
theorem bd_is_event : ∀ (kV doc pm : Value) (an : Option Addr) (cdv ct : Value) (us : List Value), us.length = (["people", "value"] : List Str).length → bindArgs (PySem.W.fnOf "is_event" "is_event" (defArgs s_is_event) (defBody s_is_event) (defScope s_is_event) .none kV doc pm an cdv ct) ⟨us, []⟩ = pure ((["people", "value"] : List Str).zip us) :=
  fun _ _ _ _ _ _ us hl => match us, hl with | [_, _], _ => rfl
abbrev s_Walk_init : Stmt := (inClass (top 15) 0)
abbrev N_Walk_init : List Str := ["self", "guests", "nurses", "first", "events", "at", "event"]
theorem sc_Walk_init : FnScope N_Walk_init ["self", "guests", "nurses", "first", "events"] (defScope s_Walk_init) := C8.fnScope_by (by decide +kernel)
theorem bd_Walk_init : ∀ (kV doc pm : Value) (an : Option Addr) (cdv ct : Value) (us : List Value), us.length = (["self", "guests", "nurses", "first", "events"] : List Str).length → bindArgs (PySem.W.fnOf "__init__" "Walk.__init__" (defArgs s_Walk_init) (defBody s_Walk_init) (defScope s_Walk_init) .none kV doc pm an cdv ct) ⟨us, []⟩ = pure ((["self", "guests", "nurses", "first", "events"] : List Str).zip us) :=
  fun _ _ _ _ _ _ us hl => match us, hl with | [_, _, _, _, _], _ => rfl
theorem bk_Walk_init : ∀ (T : Addr) (kV doc pm : Value) (an : Option Addr) (cdv ct : Value) (us its : List Value), us.length = (["self", "guests", "nurses", "first", "events"] : List Str).length → its.length = 1 → ∃ k, bindArgs (PySem.W.fnOf "__init__" "Walk.__init__" (defArgs s_Walk_init) (defBody s_Walk_init) (defScope s_Walk_init) (.ref T) kV doc pm an cdv ct) ⟨us, []⟩ = seqItems? (.ref T) >>= k ∧ k (some its.toArray) = pure ((["self", "guests", "nurses", "first", "events"] : List Str).zip us) :=
  fun _ _ _ _ _ _ _ us its h1 h2 => match us, its, h1, h2 with | [_, _, _, _, _], [_], _, _ => ⟨_, rfl, rfl⟩
theorem bkp_Walk_init : ∀ (T : Addr) (kV doc pm : Value) (an : Option Addr) (cdv ct : Value) (us its : List Value), us.length = 4 → its.length = 1 → ∃ k, bindArgs (PySem.W.fnOf "__init__" "Walk.__init__" (defArgs s_Walk_init) (defBody s_Walk_init) (defScope s_Walk_init) (.ref T) kV doc pm an cdv ct) ⟨us, []⟩ = seqItems? (.ref T) >>= k ∧ k (some its.toArray) = pure ((["self", "guests", "nurses", "first", "events"] : List Str).zip (us ++ its)) :=
  fun _ _ _ _ _ _ _ us its h1 h2 => match us, its, h1, h2 with | [_, _, _, _], [_], _, _ => ⟨_, rfl, rfl⟩
abbrev s_Walk_upto : Stmt := (inClass (top 15) 1)
abbrev N_Walk_upto : List Str := ["self", "many"]
theorem sc_Walk_upto : FnScope N_Walk_upto ["self", "many"] (defScope s_Walk_upto) := C8.fnScope_by (by decide +kernel)
theorem bd_Walk_upto : ∀ (kV doc pm : Value) (an : Option Addr) (cdv ct : Value) (us : List Value), us.length = (["self", "many"] : List Str).length → bindArgs (PySem.W.fnOf "upto" "Walk.upto" (defArgs s_Walk_upto) (defBody s_Walk_upto) (defScope s_Walk_upto) .none kV doc pm an cdv ct) ⟨us, []⟩ = pure ((["self", "many"] : List Str).zip us) :=
  fun _ _ _ _ _ _ us hl => match us, hl with | [_, _], _ => rfl
abbrev s_Walk_further : Stmt := (inClass (top 15) 2)
abbrev N_Walk_further : List Str := ["self", "events"]
theorem sc_Walk_further : FnScope N_Walk_further ["self", "events"] (defScope s_Walk_further) := C8.fnScope_by (by decide +kernel)
theorem bd_Walk_further : ∀ (kV doc pm : Value) (an : Option Addr) (cdv ct : Value) (us : List Value), us.length = (["self", "events"] : List Str).length → bindArgs (PySem.W.fnOf "further" "Walk.further" (defArgs s_Walk_further) (defBody s_Walk_further) (defScope s_Walk_further) .none kV doc pm an cdv ct) ⟨us, []⟩ = pure ((["self", "events"] : List Str).zip us) :=
  fun _ _ _ _ _ _ us hl => match us, hl with | [_, _], _ => rfl
abbrev s_Walk_len : Stmt := (inClass (top 15) 3)
abbrev N_Walk_len : List Str := ["self"]
theorem sc_Walk_len : FnScope N_Walk_len ["self"] (defScope s_Walk_len) := C8.fnScope_by (by decide +kernel)
theorem bd_Walk_len : ∀ (kV doc pm : Value) (an : Option Addr) (cdv ct : Value) (us : List Value), us.length = (["self"] : List Str).length → bindArgs (PySem.W.fnOf "__len__" "Walk.__len__" (defArgs s_Walk_len) (defBody s_Walk_len) (defScope s_Walk_len) .none kV doc pm an cdv ct) ⟨us, []⟩ = pure ((["self"] : List Str).zip us) :=
  fun _ _ _ _ _ _ us hl => match us, hl with | [_], _ => rfl
abbrev s_Walk_eq : Stmt := (inClass (top 15) 4)
abbrev N_Walk_eq : List Str := ["self", "other"]
theorem sc_Walk_eq : FnScope N_Walk_eq ["self", "other"] (defScope s_Walk_eq) := C8.fnScope_by (by decide +kernel)
theorem bd_Walk_eq : ∀ (kV doc pm : Value) (an : Option Addr) (cdv ct : Value) (us : List Value), us.length = (["self", "other"] : List Str).length → bindArgs (PySem.W.fnOf "__eq__" "Walk.__eq__" (defArgs s_Walk_eq) (defBody s_Walk_eq) (defScope s_Walk_eq) .none kV doc pm an cdv ct) ⟨us, []⟩ = pure ((["self", "other"] : List Str).zip us) :=
  fun _ _ _ _ _ _ us hl => match us, hl with | [_, _], _ => rfl
abbrev s_deal : Stmt := (top 17)
abbrev N_deal : List Str := ["_law_script", "_law_base", "_law_cells", "_law_cell", "_law_mixed", "_law_great"]
theorem sc_deal : FnScope N_deal ["_law_script", "_law_base"] (defScope s_deal) := C8.fnScope_by (by decide +kernel)
theorem bd_deal : ∀ (kV doc pm : Value) (an : Option Addr) (cdv ct : Value) (us : List Value), us.length = (["_law_script", "_law_base"] : List Str).length → bindArgs (PySem.W.fnOf "_law_deal" "_law_deal" (defArgs s_deal) (defBody s_deal) (defScope s_deal) .none kV doc pm an cdv ct) ⟨us, []⟩ = pure ((["_law_script", "_law_base"] : List Str).zip us) :=
  fun _ _ _ _ _ _ us hl => match us, hl with | [_, _], _ => rfl
abbrev s_draw : Stmt := (top 18)
abbrev N_draw : List Str := ["_law_deal_here", "_law_many", "_law_digit", "_law_first", "_law_second"]
theorem sc_draw : FnScope N_draw ["_law_deal_here", "_law_many"] (defScope s_draw) := C8.fnScope_by (by decide +kernel)
theorem bd_draw : ∀ (kV doc pm : Value) (an : Option Addr) (cdv ct : Value) (us : List Value), us.length = (["_law_deal_here", "_law_many"] : List Str).length → bindArgs (PySem.W.fnOf "_law_draw" "_law_draw" (defArgs s_draw) (defBody s_draw) (defScope s_draw) .none kV doc pm an cdv ct) ⟨us, []⟩ = pure ((["_law_deal_here", "_law_many"] : List Str).zip us) :=
  fun _ _ _ _ _ _ us hl => match us, hl with | [_, _], _ => rfl
abbrev s_pick : Stmt := (top 19)
abbrev N_pick : List Str := ["_law_deal_here", "_law_some"]
theorem sc_pick : FnScope N_pick ["_law_deal_here", "_law_some"] (defScope s_pick) := C8.fnScope_by (by decide +kernel)
theorem bd_pick : ∀ (kV doc pm : Value) (an : Option Addr) (cdv ct : Value) (us : List Value), us.length = (["_law_deal_here", "_law_some"] : List Str).length → bindArgs (PySem.W.fnOf "_law_pick" "_law_pick" (defArgs s_pick) (defBody s_pick) (defScope s_pick) .none kV doc pm an cdv ct) ⟨us, []⟩ = pure ((["_law_deal_here", "_law_some"] : List Str).zip us) :=
  fun _ _ _ _ _ _ us hl => match us, hl with | [_, _], _ => rfl
abbrev s_value : Stmt := (top 20)
abbrev N_value : List Str := ["_law_deal_here", "_law_deep", "_law_form", "_law_some", "_law_k"]
theorem sc_value : FnScope N_value ["_law_deal_here", "_law_deep"] (defScope s_value) := C8.fnScope_by (by decide +kernel)
theorem bd_value : ∀ (kV doc pm : Value) (an : Option Addr) (cdv ct : Value) (us : List Value), us.length = (["_law_deal_here", "_law_deep"] : List Str).length → bindArgs (PySem.W.fnOf "_law_value" "_law_value" (defArgs s_value) (defBody s_value) (defScope s_value) .none kV doc pm an cdv ct) ⟨us, []⟩ = pure ((["_law_deal_here", "_law_deep"] : List Str).zip us) :=
  fun _ _ _ _ _ _ us hl => match us, hl with | [_, _], _ => rfl
abbrev s_words : Stmt := (top 21)
abbrev N_words : List Str := ["_law_deal_here", "_law_people", "_law_found", "_law_more", "_law_person", "_law_form"]
theorem sc_words : FnScope N_words ["_law_deal_here", "_law_people"] (defScope s_words) := C8.fnScope_by (by decide +kernel)
theorem bd_words : ∀ (kV doc pm : Value) (an : Option Addr) (cdv ct : Value) (us : List Value), us.length = (["_law_deal_here", "_law_people"] : List Str).length → bindArgs (PySem.W.fnOf "_law_words" "_law_words" (defArgs s_words) (defBody s_words) (defScope s_words) .none kV doc pm an cdv ct) ⟨us, []⟩ = pure ((["_law_deal_here", "_law_people"] : List Str).zip us) :=
  fun _ _ _ _ _ _ us hl => match us, hl with | [_, _], _ => rfl
abbrev s_bare_right : Stmt := (top 22)
abbrev N_bare_right : List Str := ["_law_bare"]
theorem sc_bare_right : FnScope N_bare_right [] (defScope s_bare_right) := C8.fnScope_by (by decide +kernel)
theorem bd_bare_right : ∀ (kV doc pm : Value) (an : Option Addr) (cdv ct : Value) (us : List Value), us.length = ([] : List Str).length → bindArgs (PySem.W.fnOf "_law_bare_right" "_law_bare_right" (defArgs s_bare_right) (defBody s_bare_right) (defScope s_bare_right) .none kV doc pm an cdv ct) ⟨us, []⟩ = pure (([] : List Str).zip us) :=
  fun _ _ _ _ _ _ us hl => match us, hl with | [], _ => rfl
abbrev s_law : Stmt := (top 23)
abbrev N_law : List Str := ["_law_script", "_law_deal_here", "_law_turn", "_law_guests", "_law_nurses", "_law_how", "_law_words_here", "_law_given", "_law_made", "_law_many", "_law_part", "_law_rest", "_law_others", "_law_one", "_law_thing"]
theorem sc_law : FnScope N_law ["_law_script"] (defScope s_law) := C8.fnScope_by (by decide +kernel)
theorem bd_law : ∀ (kV doc pm : Value) (an : Option Addr) (cdv ct : Value) (us : List Value), us.length = (["_law_script"] : List Str).length → bindArgs (PySem.W.fnOf "law" "law" (defArgs s_law) (defBody s_law) (defScope s_law) .none kV doc pm an cdv ct) ⟨us, []⟩ = pure ((["_law_script"] : List Str).zip us) :=
  fun _ _ _ _ _ _ us hl => match us, hl with | [_], _ => rfl
/-- what the module's names stand for -/
structure Tx (K : PySem.W.Frag) (mg : Str → Option Value) : Prop where
  n_len : mg "len" = none
  n_set : mg "set" = none
  n_abs : mg "abs" = none
  n_min : mg "min" = none
  n_max : mg "max" = none
  n_int : mg "int" = none
  n_str : mg "str" = none
  n_bool : mg "bool" = none
  n_list : mg "list" = none
  n_tuple : mg "tuple" = none
  n_dict : mg "dict" = none
  n_isinstance : mg "isinstance" = none
  n_all : mg "all" = none
  n_sorted : mg "sorted" = none
  n_range : mg "range" = none
  n_repr : mg "repr" = none
  n_enumerate : mg "enumerate" = none
  s_DIGITS : ∃ t, mg "DIGITS" = some (.str "0123456789" t)
  g_FIRSTS : mg "FIRSTS" = some (.ref (He.ga K "FIRSTS"))
  t_FIRSTS : ∀ H, SqT K H (He.ga K "FIRSTS") [.str "asleep", .str "dozing", .str "up"]
  g_HUMMED : mg "HUMMED" = some (.ref (He.ga K "HUMMED"))
  t_HUMMED : ∀ H, SqT K H (He.ga K "HUMMED") [.str "doze", .str "up"]
  g_Walk : mg "Walk" = some (.ref (He.ga K "Walk"))
  d_0 : ∀ H, SqT K H (He.dflAt ("Walk", some "__init__") 0 K) []
  i_any : ∀ t ∈ anyTy, PySem.W.kitOne K (.type t) (.ref (He.ga K "Walk")) = some false
  k_class : PySem.W.findIn K (.ref (He.ga K "Walk")) "__class__" = some (some (.builtin "object.__class__"))
  k_get : PySem.W.specialIn K (.builtin "object.__class__") "__get__" = some (some (.builtin "getset_descriptor.__get__"))
  k_takes : PySem.W.takesIn K (.builtin "object.__class__") = some true
  k_obj : PySem.W.mroIn K (He.ga K "Walk") (.type "object") = some true
  f_ne : PySem.W.findIn K (.ref (He.ga K "Walk")) "__ne__" = some (some (.builtin "object.__ne__"))
  cls : Cls K (He.ga K "Walk")
  a_guests : NoAttr K (He.ga K "Walk") "guests"
  a_nurses : NoAttr K (He.ga K "Walk") "nurses"
  a_first : NoAttr K (He.ga K "Walk") "first"
  a_events : NoAttr K (He.ga K "Walk") "events"
end Lw
set_option Elab.async false
set_option linter.all false
set_option maxRecDepth 100000
set_option maxHeartbeats 4000000
namespace Lw
open PySem PySem.Spec PyProof.Rows L2 Hb
def spDraw : Sp := fun vs H Q _ => ∃ (d g : Addr) (many : Int), vs = [.ref d, .int many] ∧ Deal d g H ∧ 0 < many ∧ many < 1000000 ∧
  ∀ (H' : Hp) (r : Int), Deal d g H' → Kp d g H H' → 0 ≤ r → r < many → Q (.int r) H'
def lenAt (g : Addr) (H : Hp) : Nat := match H g with
  | some (.lst xs) => xs.length
  | _ => 0
theorem lenAt_of {g : Addr} {H : Hp} {xs : List V} (h : H g = some (.lst xs)) : lenAt g H = xs.length := by unfold lenAt; rw [h]
section
variable {P : Program} {w : World} {K : PySem.W.Frag} {mg : Str → Option Value} {base : Heap}
theorem c_draw (D : Df K mg "_law_draw" s_draw) (T : Tx K mg) : C8.Cal P w K mg base 1 "_law_draw" spDraw [] := by
  refine cal_mk D sc_draw bd_draw (fun vs H Q E h => ?_) fun f cdv A outer s H vs Q E hr h => ?_
  · obtain ⟨d, g, many, rfl, _⟩ := h
    rfl
  · obtain ⟨d, g, many, rfl, ⟨ns, now, mixed, turn, x⟩, m0, m1, k⟩ := h
    have hu := hu_of hr
    refine ⟨_, (pss_cons (ps_while PassesOwn.never (PW.pt (pw_and (pt_cmpR op_eq (pe_dget hu (pv 0) pe_str (fun _ _ => rfl)) pe_int (by first | exact nomark _ | rfl)) (pw_and1 (pt_cmpR op_gt (pe_callB call_len (by rfl) T.n_len (by decide +kernel) (pa_cons (pe_dget hu (pv 0) pe_str (fun _ _ => rfl)) pa_nil)) pe_int (by first | exact nomark _ | rfl)))))
 (pss_one (ps_dput hu (pv 0) pe_str (pe_bm0 PySem.F.plainAttrs_list PySem.F.slot_list_pop PySem.F.type_list_pop mt_pop (pe_dget hu (pv 0) pe_str (fun _ _ => rfl))) rfl)))
 (pss_cons (ps_if (pt_cmpR op_gt (pe_dget hu (pv 0) pe_str (fun _ _ => rfl)) pe_int (by first | exact nomark _ | rfl))
 (pss_cons (ps_set (i := 2) sc_draw.nd rfl (Or.inl rfl) (pe_op op_mod (pe_callTy call_int1 (by rfl) T.n_int (by decide +kernel) (pa_cons (pe_dget hu (pv 0) pe_str (fun _ _ => rfl)) pa_nil)) (pv 1)))
 (pss_cons (ps_dput hu (pv 0) pe_str (pe_op op_fdiv (pe_dget hu (pv 0) pe_str (fun _ _ => rfl)) (pv 1)) rfl)
 (pss_one (ps_ret (pv 2)))))
 pss_nil)
 (pss_cons (ps_dput hu (pv 0) pe_str (pe_op op_add (pe_dget hu (pv 0) pe_str (fun _ _ => rfl)) pe_int) rfl)
 (pss_cons (ps_set (i := 3) sc_draw.nd rfl (Or.inl rfl) (pe_op op_mod (pe_callTy call_int1 (by rfl) T.n_int (by decide +kernel) (pa_cons (pe_op op_add (pe_op op_mul (pe_dget hu (pv 0) pe_str (fun _ _ => rfl)) pe_int) (pe_op op_mul (pe_dget hu (pv 0) pe_str (fun _ _ => rfl)) pe_int)) pa_nil)) pe_int))
 (pss_cons (ps_set (i := 4) sc_draw.nd rfl (Or.inl rfl) (pe_op op_mod (pe_callTy call_int1 (by rfl) T.n_int (by decide +kernel) (pa_cons (pe_op op_add (pe_op op_mul (pv 3) (pv 3)) (pe_op op_mul (pe_dget hu (pv 0) pe_str (fun _ _ => rfl)) pe_int)) pa_nil)) pe_int))
 (pss_cons (ps_dput hu (pv 0) pe_str (pe_op op_add (pe_op op_mod (pe_callTy call_int1 (by rfl) T.n_int (by decide +kernel) (pa_cons (pe_op op_add (pe_op op_mul (pv 4) pe_int) (pv 3)) pa_nil)) pe_int) pe_int) rfl)
 (pss_one (ps_ret (pe_op op_mod (pe_callTy call_int1 (by rfl) T.n_int (by decide +kernel) (pa_cons (pe_op op_add (pe_op op_fdiv (pv 4) pe_int) (pv 3)) pa_nil)) (pv 1)))))))))), ?_⟩
    refine cut_seq (fun σ' H' => σ' = start N_draw [.ref d, .int many] ∧ Deal d g H' ∧ Kp d g H H') ?rest fun rest => while_by (fun σ H' => σ = start N_draw [.ref d, .int many] ∧ Deal d g H' ∧ Kp d g H H') (fun _ H' => lenAt g H') ⟨rfl, ⟨ns, now, mixed, turn, x⟩, Kp.refl _ _ _⟩ ?_ ?_
    case rest =>
      rintro σ H1 ⟨rfl, ⟨ns, now, mixed, turn, x⟩, kp⟩
      refine ⟨_, rfl, d, _, rfl, DGet.k (k := Sum.inr "now") x.d, _, _, rfl, rfl, _, rfl, ?_⟩
      refine ite2 (fun h0 => ?_) (fun h0 => ?_)
      · have h1 : 0 < now := of_decide_eq_true h0
        refine ⟨_, rfl, d, _, rfl, DGet.k (k := Sum.inr "now") x.d, .inl ⟨_, rfl, _, rfl, _, _, rfl, rfl, m0, ?_⟩⟩
        refine ⟨_, rfl, d, _, rfl, DGet.k (k := Sum.inr "now") x.d, _, rfl, _, _, rfl, rfl, ⟨m0, by omega⟩, ?_⟩
        refine ⟨_, rfl, d, _, rfl, DPut.k (k := Sum.inr "now") x.d (by show 4 < sizeLine; decide), _, rfl, ?_⟩
        rw [show putK (dealKV g now mixed turn) (Sum.inr "now") (V.int (now / many)) = dealKV g (now / many) mixed turn from rfl]
        exact k _ _ ⟨ns, now / many, mixed, turn, ⟨upd_same, by rw [upd_ne x.ne.symm]; exact x.g, x.few, x.pos, Int.ediv_nonneg x.now (Int.le_of_lt m0)⟩⟩ (kp.trans Kp.put_d) (Int.emod_nonneg _ (by omega)) (Int.emod_lt_of_pos _ m0)
      · refine ⟨_, rfl, d, _, rfl, DGet.k (k := Sum.inr "turn") x.d, _, _, rfl, rfl, _, rfl, d, _, rfl, DPut.k (k := Sum.inr "turn") x.d (by show 4 < sizeLine; decide), ?_⟩
        rw [show putK (dealKV g now mixed turn) (Sum.inr "turn") (V.int (turn + 1)) = dealKV g now mixed (turn + 1) from rfl]
        have y : Dl d g (upd H1 d (.dK (dealKV g now mixed (turn + 1)))) ns now mixed (turn + 1) := ⟨upd_same, by rw [upd_ne x.ne.symm]; exact x.g, x.few, x.pos, x.now⟩
        refine ⟨_, rfl, d, _, rfl, DGet.k (k := Sum.inr "mixed") y.d, _, _, rfl, rfl, .inr (by decide), _, rfl, d, _, rfl, DGet.k (k := Sum.inr "turn") y.d, _, _, rfl, rfl, .inr (by decide), _, _, rfl, rfl, .inl ⟨_, rfl, _, _, rfl, rfl, (by show (0 : Int) < 2147483629; decide), ?_⟩⟩
        have f0 : 0 ≤ (mixed * 48271 + (turn + 1) * 69621) % 2147483629 := by omega
        have f1 : (mixed * 48271 + (turn + 1) * 69621) % 2147483629 < 2147483629 := by omega
        refine ⟨_, rfl, _, rfl, _, _, rfl, rfl, .inl ⟨by omega, by omega⟩, _, rfl, d, _, rfl, DGet.k (k := Sum.inr "turn") y.d, _, _, rfl, rfl, .inr (by decide), _, _, rfl, rfl, .inl ⟨_, rfl, _, _, rfl, rfl, (by show (0 : Int) < 2147483563; decide), ?_⟩⟩
        refine ⟨_, rfl, _, _, rfl, rfl, .inr (by decide), _, rfl, _, _, rfl, rfl, .inl ⟨_, rfl, _, _, rfl, rfl, (by show (0 : Int) < 2147483647; decide), _, _, rfl, rfl, _, rfl, d, _, rfl, DPut.k (k := Sum.inr "mixed") y.d (by show 4 < sizeLine; decide), ?_⟩⟩
        refine ⟨_, rfl, _, _, rfl, rfl, ⟨by decide, by decide⟩, _, rfl, _, _, rfl, rfl, .inl ⟨_, rfl, _, rfl, _, _, rfl, rfl, m0, ?_⟩⟩
        exact k _ _ ⟨ns, now, _, turn + 1, ⟨Eq.trans upd_same (congrArg (fun z => some (HO.dK z)) (put_mixed _ _ _ _ _)), by rw [upd_ne x.ne.symm]; exact y.g, x.few, x.pos, x.now⟩⟩ (kp.trans (Kp.trans Kp.put_d Kp.put_d)) (Int.emod_nonneg _ (by omega)) (Int.emod_lt_of_pos _ m0)
    · rintro σ H1 ⟨rfl, ⟨ns, now, mixed, turn, x⟩, kp⟩
      have nl : lenAt g H1 = ns.length := by rw [lenAt_of x.g, List.length_map]
      refine ⟨_, rfl, d, _, rfl, DGet.k (k := Sum.inr "now") x.d, rfl, _, rfl, ?_⟩
      refine ite2 (fun h0 => ?_) (fun h0 => ?_)
      · refine ⟨_, rfl, d, _, rfl, DGet.k (k := Sum.inr "great") x.d, _, _, rfl, .inl ⟨_, SqL.of x.g, rfl⟩, _, _, rfl, rfl, _, rfl, ?_⟩
        refine ite2 (fun h1 => ?_) (fun h1 => ?_)
        · have h1' := of_decide_eq_true h1
          rw [List.length_map] at h1'
          have hlt : ns.length - 1 < ns.length := by omega
          refine ⟨_, rfl, d, _, rfl, DGet.k (k := Sum.inr "great") x.d, .inl ⟨rfl, _, SqL.of x.g⟩, g, _, V.int (ns[ns.length - 1]), rfl, rfl, x.g, by rw [List.length_map, List.getElem?_map, List.getElem?_eq_getElem hlt] <;> rfl, ?_⟩
          refine ⟨_, rfl, d, _, rfl, DPut.k (k := Sum.inr "now") (Eq.trans (upd_ne x.ne) x.d) (by show 4 < sizeLine; decide), ?_⟩
          rw [show putK (dealKV g now mixed turn) (Sum.inr "now") (V.int ns[ns.length - 1]) = dealKV g (ns[ns.length - 1]) mixed turn from rfl]
          rw [show (ns.map V.int).dropLast = ns.dropLast.map V.int by rw [List.map_dropLast]]
          have y : Dl d g (upd (upd H1 g (.lst (ns.dropLast.map V.int))) d (.dK (dealKV g (ns[ns.length - 1]) mixed turn))) ns.dropLast (ns[ns.length - 1]) mixed turn :=
            ⟨upd_same, by rw [upd_ne x.ne.symm]; exact upd_same, by rw [List.length_dropLast]; have := x.few; omega, fun n hn => x.pos n ((List.dropLast_sublist _).subset hn), x.pos _ (List.getElem_mem hlt)⟩
          refine ⟨⟨rfl, ⟨_, _, _, _, y⟩, kp.trans (Kp.trans Kp.put_g Kp.put_d)⟩, ?_⟩
          rw [nl, lenAt_of y.g, List.length_map, List.length_dropLast]
          omega
        · exact rest _ _ ⟨rfl, ⟨ns, now, mixed, turn, x⟩, kp⟩
      · exact rest _ _ ⟨rfl, ⟨ns, now, mixed, turn, x⟩, kp⟩
    · intro σ H1 Q1 Q2 hq hc
      obtain ⟨v1, e1, a1, v2, e2, g1, s1, b1, eb, hc⟩ := hc
      refine ⟨v1, e1, a1, v2, e2, g1, s1, b1, eb, ?_⟩
      cases b1 with
      | false =>
        rw [if_neg Bool.false_ne_true] at hc
        exact iteF (hq _ _ hc)
      | true =>
        rw [if_pos rfl] at hc
        obtain ⟨v1, e1, a1, v2, e2, g1, v3, n3, e3, l3, i3, j3, e4, e5, b3, e6, hc⟩ := hc
        exact iteT ⟨v1, e1, a1, v2, e2, g1, v3, n3, e3, l3, i3, j3, e4, e5, b3, e6, hq _ _ hc⟩
end
end Lw
set_option Elab.async false
set_option linter.all false
set_option maxRecDepth 100000
set_option maxHeartbeats 4000000
namespace Lw
open PySem PySem.Spec PyProof.Rows L2 Hb
/-- one of them -/
def spPick (K : PySem.W.Frag) : Sp := fun vs H Q _ => ∃ (d g l : Addr) (xs : List V), vs = [.ref d, .ref l] ∧ Deal d g H ∧ ((H l = some (.lst xs) ∧ l ≠ g) ∨ SqT K H l xs) ∧ xs ≠ [] ∧ xs.length < 1000000 ∧
  ∀ (H' : Hp) (v : V), v ∈ xs → Deal d g H' → Kp d g H H' → Q v H'
section
variable {P : Program} {w : World} {K : PySem.W.Frag} {mg : Str → Option Value} {base : Heap}
theorem c_pick (D : Df K mg "_law_pick" s_pick) (T : Tx K mg) (c_draw : C8.Cal P w K mg base 1 "_law_draw" spDraw []) : C8.Cal P w K mg base 2 "_law_pick" (spPick K) [] := by
  refine cal_mk D sc_pick bd_pick (fun vs H Q E h => ?_) fun f cdv A outer s H vs Q E hr h => ?_
  · obtain ⟨d, g, l, xs, rfl, _⟩ := h
    rfl
  · obtain ⟨d, g, l, xs, rfl, dl, hl, ne, few, k⟩ := h
    have n0 : 0 < xs.length := List.length_pos_iff.mpr ne
    refine ⟨_, (pss_one (ps_ret (pe_ix ix_seq (pv 1) (C8.pe_c c_draw hr (by decide) rfl (pa_cons (pv 0) (pa_cons (pe_callB call_len (by rfl) T.n_len (by decide +kernel) (pa_cons (pv 1) pa_nil)) pa_nil))) (fun _ _ => rfl)))), ?_⟩
    refine ⟨_, rfl, _, rfl, _, rfl, .ref l, xs.length, rfl, ?_, d, g, xs.length, rfl, dl, by omega, by omega, fun H1 r d1 k1 r0 r1 => ?_⟩
    · rcases hl with ⟨h, _⟩ | h
      · exact .inl ⟨_, SqL.of h, rfl⟩
      · exact .inr ⟨_, h, rfl⟩
    · have hlt : r.toNat < xs.length := by omega
      have at_ : atI xs r = some xs[r.toNat] := by
        have q := atI_nat (xs := xs) (j := r.toNat) (List.getElem?_eq_getElem hlt)
        rw [show ((r.toNat : Nat) : Int) = r by omega] at q
        exact q
      have fin : Q xs[r.toNat] H1 := k _ _ (List.getElem_mem hlt) d1 k1
      rcases hl with ⟨h, n⟩ | h
      · exact .inl ⟨l, xs, r, _, rfl, rfl, SqL.of (k1 l _ (dl.ne_d h (by intro kvs q; cases q)) n h), at_, fin⟩
      · exact .inr (.inl ⟨l, xs, r, _, rfl, rfl, SqT.keep (dl.tk k1) h, at_, fin⟩)
end
end Lw
set_option Elab.async false
set_option linter.all false
set_option maxRecDepth 100000
set_option maxHeartbeats 4000000
namespace Lw
open PySem PySem.Spec PyProof.Rows L2 Hb
def eight : List Str := ["gate", "crk", "a", "zzzz", "door", "up", "tick", "loud"]
def unS : V → Str
  | .str x => x
  | _ => Str.empty
theorem unS_map (xs : List Str) : (xs.map V.str).map unS = xs := by
  rw [List.map_map]
  exact List.map_id xs
theorem strs_perm {ys : List V} {xs : List Str} (h : ys.Perm (xs.map V.str)) : ∃ zs : List Str, ys = zs.map V.str ∧ zs.Perm xs := by
  refine ⟨ys.map unS, ?_, by have := h.map unS; rw [unS_map] at this; exact this⟩
  rw [List.map_map]
  refine (List.map_id ys).symm.trans (List.map_congr_left fun v hv => ?_)
  obtain ⟨x, _, rfl⟩ := List.mem_map.mp (h.mem_iff.mp hv)
  rfl
theorem eight_nodup : eight.Nodup := by decide +kernel
theorem eight_ok : ∀ w ∈ eight, PyData.strOk w = true := by decide +kernel
theorem good_str {K : PySem.W.Frag} {H : Hp} {x : Str} (h : PyData.strOk x = true) : Hb.Good K H (.str x) := ⟨.str x, .str x, by simp only [PyData.canLay0]; exact h, by simp [PyData.depth]⟩
theorem cut_take (xs : List V) {i : Int} (h0 : 0 ≤ i) : cutV xs none (some i) = xs.take i.toNat := by
  have a : ¬ i < 0 := by omega
  simp [cutV, HT.sIx, a]
section
variable {P : Program} {w : World} {K : PySem.W.Frag} {mg : Str → Option Value} {base : Heap}
def absV1 : V → Option V
  | .int n => some (.int (if n < 0 then -n else n))
  | _ => none
def bigV : V → Option V
  | .int n => if 1000000000000000000 ≤ n then some (.int n) else none
  | _ => none
theorem cut_all {xs : List V} (h : xs.length ≤ 63) : cutV xs (some 0) (some 63) = xs := by
  have e : min 63 xs.length = xs.length := by omega
  simp [cutV, HT.sIx, e]
/-- the deal -/
def spDeal (K : PySem.W.Frag) : Sp := fun vs H Q _ => ∃ (a : Addr) (ns : List Int), vs = [.ref a, .int 0] ∧ SqL K H a (ns.map V.int) ∧ ns.length ≤ 63 ∧
  ∀ (H' : Hp) (d g : Addr), Deal d g H' → Same H H' → H d = none → H g = none → Q (.ref d) H'
theorem c_deal (D : Df K mg "_law_deal" s_deal) (T : Tx K mg) : C8.Cal P w K mg base 1 "_law_deal" (spDeal K) [] := by
  refine cal_mk D sc_deal bd_deal (fun vs H Q E h => ?_) fun f cdv A outer s H vs Q E hr h => ?_
  · obtain ⟨a, ns, rfl, _⟩ := h
    rfl
  · obtain ⟨a, ns, rfl, hS, few, k⟩ := h
    refine ⟨_, (pss_cons (ps_setLc (i := 2) (own := [("_law_cell", 3)]) (by rfl) sc_deal.nd rfl rfl (sw_true rfl rfl rfl (by decide +kernel)) (pi_list (pe_slice sl_list (pv 0) (po_some (pv 1)) (po_some pe_int))) (blkOk_by (N := N_deal) (sc := defScope s_deal) (by decide +kernel)) (fun _ _ _ _ _ => (pg_name (i := 3) sc_deal.nd rfl (Or.inl rfl))) (fun _ _ _ _ _ => pts_nil) (fun _ _ _ _ _ => (pe_callB call_abs (by rfl) T.n_abs (by decide +kernel) (pa_cons (pv 3) pa_nil))))
 (pss_cons (ps_set (i := 4) sc_deal.nd rfl (Or.inl rfl) (pe_op op_add pe_int (pv 1)))
 (pss_cons (ps_for PassesOwn.never rfl (pi_list (pv 2)) (pg_name (i := 3) sc_deal.nd rfl (Or.inl rfl))
 (pss_one (ps_set (i := 4) sc_deal.nd rfl (Or.inl rfl) (pe_op op_mod (pe_callTy call_int1 (by rfl) T.n_int (by decide +kernel) (pa_cons (pe_op op_add (pe_op op_mul (pv 4) pe_int) (pv 3)) pa_nil)) pe_int))))
 (pss_cons (ps_setLc (i := 5) (own := [("_law_cell", 3)]) (by rfl) sc_deal.nd rfl rfl (sw_true rfl rfl rfl (by decide +kernel)) (pi_list (pv 2)) (blkOk_by (N := N_deal) (sc := defScope s_deal) (by decide +kernel)) (fun _ _ _ _ _ => (pg_name (i := 3) sc_deal.nd rfl (Or.inl rfl))) (fun _ _ _ _ _ => (pts_one (pt_cmpR op_ge (pv 3) (pe_op op_pow pe_int pe_int) (by first | exact nomark _ | rfl)))) (fun _ _ _ _ _ => (pv 3)))
 (pss_one (ps_ret (pe_disp (pps_cons pe_str (pe_revL (pv 5)) (pps_cons pe_str pe_int (pps_cons pe_str (pe_op op_add (pv 4) pe_int) (pps_cons pe_str pe_int pps_nil)))) (by rfl) (by rfl) (fun z => by cases z) (by decide)))))))), ?_⟩
    have line := sizeLine_eq
    refine ⟨_, rfl, _, rfl, _, rfl, _, rfl, a, _, rfl, hS, fun p np => ?_⟩
    rw [show cutV (ns.map V.int) (some 0) (some 63) = ns.map V.int from cut_all (by rw [List.length_map]; exact few)]
    refine ⟨p, rfl, ⟨_, SqL.of upd_same⟩, fun D nD => lc_listP (xs := ns.map V.int) absV1 (by rw [List.length_map]; omega) (fun acc => SqL.laid (SqL.of upd_same) nD) ?_ ?_⟩
    · intro x hx acc N hl hN _
      obtain ⟨n, _, rfl⟩ := List.mem_map.mp hx
      refine ⟨rfl, yes_ ⟨_, rfl, n, rfl, acc, upd_same, hl, by rw [upd_upd]; exact hN _ rfl⟩⟩
    · rw [filterMap_ints (fun n => some (if n < 0 then -n else n)) ns absV1 (fun _ => rfl), List.filterMap_eq_map']
      have s1 : Same H (upd (upd H p (.lst (ns.map V.int))) D (.lst ((ns.map fun n => if n < 0 then -n else n).map V.int))) := (Same.new np).trans (Same.new nD)
      generalize hms : (ns.map fun n => if n < 0 then -n else n) = ms at s1 ⊢
      have few2 : ms.length ≤ 63 := by rw [← hms, List.length_map]; exact few
      generalize hH : upd (upd H p (.lst (ns.map V.int))) D (.lst (ms.map V.int)) = H2 at s1 ⊢
      have hD : H2 D = some (.lst (ms.map V.int)) := by rw [← hH]; exact upd_same
      refine ⟨_, rfl, _, _, rfl, rfl, ?_⟩
      refine ⟨_, rfl, D, rfl, ⟨_, SqL.of hD⟩, for_list (K := K) (a := D) (xs := ms.map V.int) (fun _ σ H' => ∃ z v, σ = [some (.ref a), some (.int 0), some (.ref D), v, some (.int z), none] ∧ H' = H2) ⟨_, none, rfl, rfl⟩ (fun _ _ _ _ ⟨_, _, _, e⟩ => by rw [e]; exact SqL.of hD) ?_ ?_⟩
      · rintro i x σ H' hx ⟨z, v, rfl, rfl⟩
        obtain ⟨n, _, rfl⟩ := List.mem_map.mp (List.mem_of_getElem? hx)
        exact ⟨_, rfl, _, _, rfl, rfl, .inr (by decide), _, rfl, _, _, rfl, rfl, .inl ⟨_, rfl, _, _, rfl, rfl, (by show (0 : Int) < 2147483647; decide), _, _, rfl, rfl⟩⟩
      · rintro σ H' ⟨z, v, rfl, rfl⟩
        refine ⟨_, rfl, D, rfl, ⟨_, SqL.of hD⟩, fun G nG => lc_listP (xs := ms.map V.int) bigV (by rw [List.length_map]; omega) (fun acc => SqL.laid (SqL.of hD) nG) ?_ ?_⟩
        · intro x hx acc N hl hN hN2
          obtain ⟨n, _, rfl⟩ := List.mem_map.mp hx
          refine ⟨rfl, _, rfl, _, _, rfl, rfl, ⟨by decide, by decide, by decide⟩, _, _, rfl, rfl, _, rfl, ?_⟩
          refine ite2 (fun q => ?_) (fun q => ?_)
          · have q' : (1000000000000000000 : Int) ≤ n := of_decide_eq_true q
            refine ⟨_, rfl, acc, upd_same, hl, ?_⟩
            rw [upd_upd]
            exact hN _ (by show (if _ then _ else _) = _; rw [if_pos q'])
          · have q' : ¬ (1000000000000000000 : Int) ≤ n := fun z => q (decide_eq_true z)
            exact hN2 (by show (if _ then _ else _) = _; rw [if_neg q'])
        · rw [filterMap_ints (fun n => if 1000000000000000000 ≤ n then some n else none) ms bigV (fun n => by show (if _ then _ else _) = _; split <;> simp_all)]
          have big : ∀ n ∈ ms.filterMap (fun n => if 1000000000000000000 ≤ n then some n else none), (0 : Int) ≤ n := fun n hn => by
            obtain ⟨m, _, e⟩ := List.mem_filterMap.mp hn
            by_cases q : (1000000000000000000 : Int) ≤ m
            · rw [if_pos q] at e
              cases e
              omega
            · rw [if_neg q] at e
              cases e
          have bl : (ms.filterMap (fun n => if 1000000000000000000 ≤ n then some n else none)).length ≤ 63 := Nat.le_trans (List.length_filterMap_le _ _) few2
          generalize ms.filterMap (fun n => if 1000000000000000000 ≤ n then some n else none) = gs at big bl ⊢
          intro d nd
          have ndG : d ≠ G := fun q => by rw [q, upd_same] at nd; cases nd
          have nd2 := nd
          rw [upd_ne ndG] at nd2
          refine ⟨_, rfl, G, _, rfl, SqL.of (Eq.trans (upd_ne ndG.symm) upd_same), fun g ng => ?_⟩
          have ngd : g ≠ d := fun q => by rw [q, upd_same] at ng; cases ng
          have ng2 := ng
          rw [upd_ne ngd] at ng2
          have ngG : g ≠ G := fun q => by rw [q, upd_same] at ng2; cases ng2
          rw [upd_ne ngG] at ng2
          refine ⟨_, rfl, _, _, rfl, rfl, Eq.trans (upd_ne ngd.symm) upd_same, dealKV g 0 (z + 1) 0, rfl, by show 4 ≤ 15; decide, ?_⟩
          rw [show mergeK [] (dealKV g 0 (z + 1) 0) = dealKV g 0 (z + 1) 0 from rfl]
          refine k _ d g ⟨gs.reverse, 0, z + 1, 0, ⟨upd_same, ?_, by rw [List.length_reverse]; exact bl, fun n hn => big n (List.mem_reverse.mp hn), by decide⟩⟩ ?_ (s1.free nd2) (s1.free ng2)
          · rw [upd_ne ngd, upd_same, List.map_reverse]
          · refine fun b o e => ?_
            have e1 := s1 b o e
            rw [upd_ne (ne_of_none e1 nd2), upd_ne (ne_of_none e1 ng2), upd_ne (ne_of_none e1 nd2), upd_ne (ne_of_none e1 nG)]
            exact e1
end
end Lw
set_option Elab.async false
set_option linter.all false
set_option maxRecDepth 100000
set_option maxHeartbeats 8000000
namespace Lw
open PySem PySem.Spec PyProof.Rows L2 Hb
def isDigit (c : Nat) : Bool := decide (c ∈ ("0123456789" : Str).cps.toList)
/-- whether a word is a number -/
def numB (w : Str) : Bool := decide (1 ≤ w.length ∧ w.length ≤ 2) && (w.cps.toList.all isDigit && (decide (w.length = 1) || !decide (w.cps.toList[0]? = some 48)))
def spNumeral : Sp := fun vs H Q _ => ∃ x : Str, vs = [.str x] ∧ x.length ≤ 1000 ∧ ∀ H', Same H H' → Q (.bl (numB x)) H'
section
variable {P : Program} {w : World} {K : PySem.W.Frag} {mg : Str → Option Value} {base : Heap}
theorem c_is_numeral (D : Df K mg "is_numeral" s_is_numeral) (T : Tx K mg) : C8.Cal P w K mg base 1 "is_numeral" spNumeral [] := by
  refine cal_mk D sc_is_numeral bd_is_numeral (fun vs H Q E h => ?_) fun f cdv A outer s H vs Q E hr h => ?_
  · obtain ⟨i, rfl, _⟩ := h
    rfl
  · obtain ⟨x, rfl, few, k⟩ := h
    obtain ⟨tL, hDIGITS⟩ := T.s_DIGITS
    have line := sizeLine_eq
    refine ⟨_, (pss_cons (ps_if (pt_not (pt_chain op_le op_le pe_int (pe_callB call_len (by rfl) T.n_len (by decide +kernel) (pa_cons (pv 0) pa_nil)) pe_int))
 (pss_one (ps_ret pe_bl))
 pss_nil)
 (pss_cons (ps_if (pt_not (pt_val (pe_callB (cr_all rfl) (by rfl) T.n_all (by decide +kernel) (pa_cons (pe_lc (own := [("digit", 1)]) (by rfl) sc_is_numeral.nd (pi_str (pv 0)) (blkOk_by (N := N_is_numeral) (sc := defScope s_is_numeral) (by decide +kernel)) (fun _ _ _ _ _ => (pg_name (i := 1) sc_is_numeral.nd rfl (Or.inl rfl))) (fun _ _ _ _ _ => pts_nil) (fun _ _ _ _ _ => (pe_cmpR op_in_sign (pv 1) (pe_glob (v := .str "0123456789") rfl hDIGITS ⟨_, rfl⟩) (by first | exact nomark _ | rfl)))) pa_nil))))
 (pss_one (ps_ret pe_bl))
 pss_nil)
 (pss_one (ps_ret (pe_or (pe_cmpR op_eq (pe_callB call_len (by rfl) T.n_len (by decide +kernel) (pa_cons (pv 0) pa_nil)) pe_int (by first | exact nomark _ | rfl)) (pe_one (pe_cmpR op_ne (pe_ix ix_str (pv 0) pe_int (fun _ _ => rfl)) pe_str (by first | exact nomark _ | rfl)))))))), ?_⟩
    refine ⟨_, rfl, .str x, x.length, rfl, ⟨by omega, rfl⟩, _, _, rfl, rfl, _, rfl, ?_⟩
    by_cases h1 : (1 : Int) ≤ (x.length : Nat)
    · rw [decide_eq_true h1]
      refine iteT ⟨_, _, rfl, rfl, _, rfl, ?_⟩
      by_cases h2 : ((x.length : Nat) : Int) ≤ 2
      · rw [decide_eq_true h2]
        refine iteF ⟨_, rfl, x, rfl, fun D nD => lc_it (walk_str (z := x)) (fun i H' => H' = upd H D (.lst (((x.cps.toList.take i).map isDigit).map V.bl))) (by simp) (fun _ _ _ _ => trivial) ?_ ?_⟩
        · rintro i v H' H2 hi rfl ⟨e, c, hc, rfl⟩
          subst e
          refine ⟨rfl, yes_ ⟨_, rfl, c, _, rfl, rfl, _, upd_same, ?_, ?_⟩⟩
          · rw [List.length_map, List.length_map, List.length_take]
            have el : x.cps.toList.length = x.length := by simp [Str.length]
            omega
          · rw [upd_upd]
            have hc2 : x.cps.toList[i]? = some c := by rw [Array.getElem?_toList]; exact hc
            show upd H D _ = upd H D _
            rw [List.take_add_one, hc2]
            simp [isDigit]
        · rintro H' rfl
          have el : x.cps.size = x.cps.toList.length := by simp
          have el2 : x.cps.toList.length = x.length := by simp [Str.length]
          have q : decide (1 ≤ x.length ∧ x.length ≤ 2) = true := decide_eq_true ⟨by omega, by omega⟩
          refine ⟨D, x.cps.toList.map isDigit, rfl, SqL.of (by rw [el, List.take_length]; exact upd_same), _, rfl, ?_⟩
          have sD : Same H (upd H D (.lst (((x.cps.toList.take x.cps.size).map isDigit).map V.bl))) := Same.new nD
          have ea : (x.cps.toList.map isDigit).all id = x.cps.toList.all isDigit := by rw [List.all_map]; rfl
          rw [ea]
          cases hall : x.cps.toList.all isDigit with
          | false =>
            refine iteT ?_
            have k2 := k _ sD
            rw [numB, q, hall] at k2
            exact k2
          | true =>
            refine iteF ⟨_, rfl, .str x, x.length, rfl, ⟨by omega, rfl⟩, rfl, _, rfl, ?_⟩
            by_cases h3 : x.length = 1
            · rw [decide_eq_true (show V.int ((x.length : Nat) : Int) = V.int 1 by rw [h3]; rfl)]
              refine iteT ?_
              have k2 := k _ sD
              rw [numB, q, hall, decide_eq_true h3] at k2
              exact k2
            · rw [decide_eq_false (show ¬ V.int ((x.length : Nat) : Int) = V.int 1 from fun z => h3 (by injection z with z; omega))]
              obtain ⟨c, hc⟩ : ∃ c, x.cps.toList[0]? = some c := ⟨_, List.getElem?_eq_getElem (by omega)⟩
              refine iteF ⟨_, rfl, x, 0, c, rfl, rfl, by omega, ?_, ?_⟩
              · have hlen : (0 : Int) < (x.cps.toList.length : Nat) := by omega
                unfold atI ixN
                rw [if_pos (Int.le_refl 0), if_pos hlen]
                exact hc
              · refine ⟨rfl, ?_⟩
                have k2 := k _ sD
                have e0 : decide (V.str (⟨#[c]⟩ : Str) = V.str "0") = decide (x.cps.toList[0]? = some 48) := by
                  rw [hc]
                  refine decide_eq_decide.mpr ⟨fun z => ?_, fun z => ?_⟩
                  · injection z with z
                    have z2 := congrArg (fun y : Str => y.cps.toList) z
                    have z3 : ([c] : List Nat) = [48] := z2
                    injection z3 with z4
                    rw [z4]
                  · injection z with z
                    rw [z]
                    rfl
                rw [numB, q, hall, decide_eq_false h3, ← e0] at k2
                exact k2
      · rw [decide_eq_false h2]
        refine iteT ?_
        have q : numB x = false := by
          have q : decide (1 ≤ x.length ∧ x.length ≤ 2) = false := decide_eq_false (by omega)
          rw [numB, q, Bool.false_and]
        have k2 := k H (Same.refl H)
        rw [q] at k2
        exact k2
    · rw [decide_eq_false h1]
      refine iteF ⟨_, rfl, iteT ?_⟩
      have q : numB x = false := by
        have q : decide (1 ≤ x.length ∧ x.length ≤ 2) = false := decide_eq_false (by omega)
        rw [numB, q, Bool.false_and]
      have k2 := k H (Same.refl H)
      rw [q] at k2
      exact k2
end
end Lw
set_option Elab.async false
set_option linter.all false
set_option maxRecDepth 100000
set_option maxHeartbeats 8000000
namespace Lw
open PySem PySem.Spec PyProof.Rows L2 Hb
def tI (i : Int) : Str := ((toString i : String) : Str)
def wordB (w : Str) : Bool := decide (32 ∉ TL.tl w) && decide (10 ∉ TL.tl w)
theorem no32 {w : Str} (h : wordB w = true) : 32 ∉ TL.tl w := of_decide_eq_true (Bool.and_eq_true_iff.mp h).1
theorem split_words {ws : List Str} (hne : ws ≠ []) (h : ∀ w ∈ ws, wordB w = true) : Txt.split (Txt.join " " ws) " " = ws := TL.split_join (s := 32) (S := []) rfl (by decide +kernel) hne fun p hp => no32 (h p hp)
theorem num_ints : ∀ i ∈ List.range 64, numB (tI (i : Int)) = true ∧ PySem.intText? (tI (i : Int)) = some (i : Int) ∧ (tI (i : Int)).length ≤ 2 ∧ wordB (tI (i : Int)) = true ∧ (i : Int).natAbs.log2 < 1920 := by decide +kernel
theorem num_tI {i : Int} (h : 0 ≤ i ∧ i < 64) : numB (tI i) = true ∧ PySem.intText? (tI i) = some i ∧ (tI i).length ≤ 2 ∧ wordB (tI i) = true ∧ i.natAbs.log2 < 1920 := by
  obtain ⟨n, rfl⟩ := Int.eq_ofNat_of_zero_le h.1
  exact num_ints n (List.mem_range.mpr (by omega))
theorem v_str_ne {x y : Str} (h : x ≠ y) : decide (V.str x = V.str y) = false := decide_eq_false fun e => h (by injection e)
theorem str_dec (x y : Str) : decide (V.str x = V.str y) = decide (x = y) := decide_eq_decide.mpr ⟨fun e => by injection e, fun e => by rw [e]⟩
/-- an event, told -/
inductive Ev where
  | tick | hum (p : Int) (d : Bool) | step (p n : Int)
def evW : Ev → List Str
  | .tick => ["tick"]
  | .hum p d => ["hum", tI p, if d then "doze" else "up"]
  | .step p n => ["step", tI p, tI n]
def evT (e : Ev) : Str := Txt.join " " (evW e)
def EvOk (k : Int) : Ev → Prop
  | .tick => True
  | .hum p _ => 0 ≤ p ∧ p < k
  | .step p n => (0 ≤ p ∧ p < k) ∧ 0 ≤ n ∧ n < 64
theorem lit_ne : ("hum" : Str) ≠ "step" ∧ ("tick" : Str) ≠ "step" ∧ ("tick" : Str) ≠ "hum" := by decide +kernel
theorem lit_words : wordB "hum" = true ∧ wordB "step" = true ∧ wordB "tick" = true ∧ wordB "doze" = true ∧ wordB "up" = true := by decide +kernel
theorem lit_len : ("hum" : Str).length = 3 ∧ ("step" : Str).length = 4 ∧ ("tick" : Str).length = 4 ∧ ("doze" : Str).length = 4 ∧ ("up" : Str).length = 2 ∧ (" " : Str).length = 1 := by decide +kernel
theorem tick_T : evT .tick = "tick" := by decide +kernel
theorem split_ev {k : Int} {e : Ev} (hk : k ≤ 64) (ok : EvOk k e) : Txt.split (evT e) " " = evW e := by
  obtain ⟨l1, l2, l3, l4, l5⟩ := lit_words
  refine split_words (by cases e <;> simp [evW]) fun w hw => ?_
  cases e with
  | tick =>
    rw [List.mem_singleton.mp hw]
    exact l3
  | hum p d =>
    have np := num_tI ⟨ok.1, Int.lt_of_lt_of_le ok.2 hk⟩
    simp only [evW, List.mem_cons, List.not_mem_nil, or_false] at hw
    rcases hw with rfl | rfl | rfl
    · exact l1
    · exact np.2.2.2.1
    · cases d
      · exact l5
      · exact l4
  | step p n =>
    have np := num_tI ⟨ok.1.1, Int.lt_of_lt_of_le ok.1.2 hk⟩
    have nn := num_tI ok.2
    simp only [evW, List.mem_cons, List.not_mem_nil, or_false] at hw
    rcases hw with rfl | rfl | rfl
    · exact l2
    · exact np.2.2.2.1
    · exact nn.2.2.2.1
theorem str_join_le (sep : Str) : ∀ ts : List Str, (Str.join sep ts).length ≤ (ts.map (·.length)).sum + ts.length * sep.length
  | [] => by simp [Str.join]; rfl
  | [x] => by show x.length ≤ _; simp
  | x :: y :: r => by
    have ih := str_join_le sep (y :: r)
    show (x ++ sep ++ Str.join sep (y :: r)).length ≤ _
    rw [Str.length_append, Str.length_append, List.map_cons, List.sum_cons, List.length_cons, Nat.succ_mul]
    omega
theorem ev_short {k : Int} {e : Ev} (hk : k ≤ 64) (ok : EvOk k e) : (evT e).length ≤ 20 := by
  obtain ⟨l1, l2, l3, l4, l5, l6⟩ := lit_len
  have z := str_join_le " " (evW e)
  rw [← TL.join_eq] at z
  change (evT e).length ≤ _ at z
  cases e with
  | tick =>
    rw [tick_T, l3]
    decide
  | hum p d =>
    have np := (num_tI ⟨ok.1, Int.lt_of_lt_of_le ok.2 hk⟩).2.2.1
    cases d <;> simp [evW, l1, l4, l5, l6] at z <;> omega
  | step p n =>
    have np := (num_tI ⟨ok.1.1, Int.lt_of_lt_of_le ok.1.2 hk⟩).2.2.1
    have nn := (num_tI ok.2).2.2.1
    simp [evW, l2, l6] at z
    omega
def spWhole : Sp := fun vs H Q _ => ∃ i : Int, vs = [.int i] ∧ Q (.bl true) H
def spNumber : Sp := fun vs H Q _ => ∃ i : Int, vs = [.int i] ∧ Q (.bl (decide (0 ≤ i))) H
def spRow (K : PySem.W.Frag) : Sp := fun vs H Q _ => ∃ (a : Addr) (xs : List V), vs = [.ref a] ∧ (SqL K H a xs ∨ SqT K H a xs) ∧ ∀ H', Same H H' → Q (.bl true) H'
def spPerson : Sp := fun vs H Q _ => ∃ (k p : Int), vs = [.int k, .str (tI p)] ∧ 0 ≤ p ∧ p < k ∧ k ≤ 64 ∧ ∀ H', Same H H' → Q (.bl true) H'
def spEvent : Sp := fun vs H Q _ => ∃ (k : Int) (e : Ev), vs = [.int k, .str (evT e)] ∧ EvOk k e ∧ k ≤ 64 ∧ ∀ H', Same H H' → Q (.bl true) H'
section
variable {P : Program} {w : World} {K : PySem.W.Frag} {mg : Str → Option Value} {base : Heap}
theorem c_is_whole (D : Df K mg "is_whole" s_is_whole) (T : Tx K mg) : C8.Cal P w K mg base 1 "is_whole" spWhole [] := by
  refine cal_mk D sc_is_whole bd_is_whole (fun vs H Q E h => ?_) fun f cdv A outer s H vs Q E hr h => ?_
  · obtain ⟨i, rfl, _⟩ := h
    rfl
  · obtain ⟨i, rfl, k⟩ := h
    refine ⟨_, (pss_one (ps_ret (pe_and (pe_callB call_isi (by rfl) T.n_isinstance (by decide +kernel) (pa_cons (pv 0) (pa_cons (pe_bltn (v := .ty "int") (u := .type "int") rfl T.n_int (by decide +kernel) rfl) pa_nil))) (pe_one (pe_not (pe_callB call_isi (by rfl) T.n_isinstance (by decide +kernel) (pa_cons (pv 0) (pa_cons (pe_bltn (v := .ty "bool") (u := .type "bool") rfl T.n_bool (by decide +kernel) rfl) pa_nil)))))))), ?_⟩
    refine ⟨_, rfl, _, _, _, _, true, rfl, .ty _, .base (.int i), kit_ty (by decide +kernel), _, rfl, iteT ?_⟩
    exact ⟨_, rfl, _, _, _, _, false, rfl, .ty _, .base (.int i), kit_ty (by decide +kernel), _, rfl, k⟩
theorem c_is_number (D : Df K mg "is_number" s_is_number) (T : Tx K mg) (c_is_whole : C8.Cal P w K mg base 1 "is_whole" spWhole []) : C8.Cal P w K mg base 2 "is_number" spNumber [] := by
  refine cal_mk D sc_is_number bd_is_number (fun vs H Q E h => ?_) fun f cdv A outer s H vs Q E hr h => ?_
  · obtain ⟨i, rfl, _⟩ := h
    rfl
  · obtain ⟨i, rfl, k⟩ := h
    refine ⟨_, (pss_one (ps_ret (pe_and (C8.pe_c c_is_whole hr (by decide) rfl (pa_cons (pv 0) pa_nil)) (pe_one (pe_cmpR op_ge (pv 0) pe_int (by first | exact nomark _ | rfl)))))), ?_⟩
    exact ⟨_, rfl, i, rfl, _, rfl, iteT ⟨_, rfl, _, _, rfl, rfl, k⟩⟩
theorem c_is_row (D : Df K mg "is_row" s_is_row) (T : Tx K mg) : C8.Cal P w K mg base 1 "is_row" (spRow K) [] := by
  refine cal_mk D sc_is_row bd_is_row (fun vs H Q E h => ?_) fun f cdv A outer s H vs Q E hr h => ?_
  · obtain ⟨a, xs, rfl, _⟩ := h
    rfl
  · obtain ⟨a, xs, rfl, hq, k⟩ := h
    refine ⟨_, (pss_one (ps_ret (pe_callB call_isiT (by rfl) T.n_isinstance (by decide +kernel) (pa_cons (pv 0) (pa_cons (pe_tup (pa_cons (pe_bltn (v := .ty "list") (u := .type "list") rfl T.n_list (by decide +kernel) rfl) (pa_cons (pe_bltn (v := .ty "tuple") (u := .type "tuple") rfl T.n_tuple (by decide +kernel) rfl) pa_nil))) pa_nil))))), ?_⟩
    refine ⟨_, rfl, by show 2 ≤ sizeLine; decide, fun p np => ?_⟩
    rcases hq with h | h
    · exact ⟨_, p, _, _, _, true, rfl, upd_same, .cons (.ty _) (.cons (.ty _) .nil), ty_lst (SqL.laid h np), kitAny_cons (kit_ty (b := "list") (r := true) (by decide +kernel)) (fun z => by cases z) (fun _ => rfl), k _ (Same.new np)⟩
    · exact ⟨_, p, _, _, _, true, rfl, upd_same, .cons (.ty _) (.cons (.ty _) .nil), ty_tup (SqT.laid h np), kitAny_cons (kit_ty (b := "list") (r := false) (by decide +kernel)) (fun _ => kitAny_cons (kit_ty (b := "tuple") (r := true) (by decide +kernel)) (fun z => by cases z) (fun _ => rfl)) (fun z => by cases z), k _ (Same.new np)⟩
theorem c_is_person (D : Df K mg "is_person" s_is_person) (T : Tx K mg) (c_is_numeral : C8.Cal P w K mg base 1 "is_numeral" spNumeral []) : C8.Cal P w K mg base 2 "is_person" spPerson [] := by
  refine cal_mk D sc_is_person bd_is_person (fun vs H Q E h => ?_) fun f cdv A outer s H vs Q E hr h => ?_
  · obtain ⟨k, p, rfl, _⟩ := h
    rfl
  · obtain ⟨k, p, rfl, p0, pk, k64, c⟩ := h
    obtain ⟨a1, a2, a3, a4, a5⟩ := num_tI (i := p) ⟨p0, by omega⟩
    refine ⟨_, (pss_one (ps_ret (pe_and (C8.pe_c c_is_numeral hr (by decide) rfl (pa_cons (pv 1) pa_nil)) (pe_one (pe_cmpR op_lt (pe_callTy call_int_str (by rfl) T.n_int (by decide +kernel) (pa_cons (pv 1) pa_nil)) (pv 0) (by first | exact nomark _ | rfl)))))), ?_⟩
    refine ⟨_, rfl, tI p, rfl, by omega, fun H1 s1 => ?_⟩
    rw [a1]
    refine ⟨_, rfl, iteT ⟨_, rfl, tI p, p, rfl, a2, by omega, _, rfl, _, _, rfl, rfl, ?_⟩⟩
    have e : V.bl (decide (p < k)) = V.bl true := by rw [decide_eq_true pk]
    show Q (V.bl (decide (p < k))) H1
    rw [e]
    exact c H1 s1
theorem c_is_event (D : Df K mg "is_event" s_is_event) (T : Tx K mg) (c_is_numeral : C8.Cal P w K mg base 1 "is_numeral" spNumeral []) (c_is_person : C8.Cal P w K mg base 2 "is_person" spPerson []) : C8.Cal P w K mg base 3 "is_event" spEvent [] := by
  refine cal_mk D sc_is_event bd_is_event (fun vs H Q E h => ?_) fun f cdv A outer s H vs Q E hr h => ?_
  · obtain ⟨k, e, rfl, _⟩ := h
    rfl
  · obtain ⟨k, e, rfl, ok, k64, c⟩ := h
    have short := ev_short k64 ok
    have line := sizeLine_eq
    obtain ⟨n1, n2, n3⟩ := lit_ne
    refine ⟨_, (pss_cons (ps_if (pt_not (pt_val (pe_callB call_isi (by rfl) T.n_isinstance (by decide +kernel) (pa_cons (pv 1) (pa_cons (pe_bltn (v := .ty "str") (u := .type "str") rfl T.n_str (by decide +kernel) rfl) pa_nil)))))
 (pss_one (ps_ret pe_bl))
 pss_nil)
 (pss_cons (ps_set (i := 2) sc_is_event.nd rfl (Or.inl rfl) (pe_split (pv 1) pe_str))
 (pss_cons (ps_if (pt_cmpR op_eq (pe_ix ix_list (pv 2) pe_int (fun _ _ => rfl)) pe_str (by first | exact nomark _ | rfl))
 (pss_one (ps_ret (pe_and (pe_cmpR op_eq (pe_callB call_len (by rfl) T.n_len (by decide +kernel) (pa_cons (pv 2) pa_nil)) pe_int (by first | exact nomark _ | rfl)) (pe_and (C8.pe_c c_is_person hr (by decide) rfl (pa_cons (pv 0) (pa_cons (pe_ix ix_list (pv 2) pe_int (fun _ _ => rfl)) pa_nil))) (pe_one (C8.pe_c c_is_numeral hr (by decide) rfl (pa_cons (pe_ix ix_list (pv 2) pe_int (fun _ _ => rfl)) pa_nil)))))))
 pss_nil)
 (pss_cons (ps_if (pt_cmpR op_eq (pe_ix ix_list (pv 2) pe_int (fun _ _ => rfl)) pe_str (by first | exact nomark _ | rfl))
 (pss_one (ps_ret (pe_and (pe_cmpR op_eq (pe_callB call_len (by rfl) T.n_len (by decide +kernel) (pa_cons (pv 2) pa_nil)) pe_int (by first | exact nomark _ | rfl)) (pe_and (C8.pe_c c_is_person hr (by decide) rfl (pa_cons (pv 0) (pa_cons (pe_ix ix_list (pv 2) pe_int (fun _ _ => rfl)) pa_nil))) (pe_one (pe_cmpR op_in_seq (pe_ix ix_list (pv 2) pe_int (fun _ _ => rfl)) (pe_glob (v := .ref _) rfl T.g_HUMMED rfl) (by first | exact nomark _ | rfl)))))))
 pss_nil)
 (pss_one (ps_ret (pe_cmpR op_eq (pv 1) pe_str (by first | exact nomark _ | rfl)))))))), ?_⟩
    refine ⟨_, rfl, _, _, _, _, true, rfl, .ty _, .base (.str _), kit_ty (by decide +kernel), _, rfl, iteF ?_⟩
    refine ⟨_, rfl, ⟨_, rfl⟩, evT e, " ", rfl, rfl, by decide +kernel, by omega, fun p np => ?_⟩
    rw [split_ev k64 ok]
    have sp : Same H (upd H p (.lst ((evW e).map V.str))) := Same.new np
    have hp : SqL K (upd H p (.lst ((evW e).map V.str))) p ((evW e).map V.str) := SqL.of upd_same
    generalize upd H p (.lst ((evW e).map V.str)) = H1 at sp hp ⊢
    cases e with
    | tick =>
      refine ⟨_, rfl, p, _, 0, .str "tick", rfl, rfl, hp, rfl, rfl, _, rfl, ?_⟩
      rw [v_str_ne n2]
      refine iteF ⟨_, rfl, p, _, 0, .str "tick", rfl, rfl, hp, rfl, rfl, _, rfl, ?_⟩
      rw [v_str_ne n3]
      refine iteF ⟨_, rfl, rfl, ?_⟩
      rw [str_dec, tick_T, decide_eq_true rfl]
      exact c H1 sp
    | hum q d =>
      refine ⟨_, rfl, p, _, 0, .str "hum", rfl, rfl, hp, rfl, rfl, _, rfl, ?_⟩
      rw [v_str_ne n1]
      refine iteF ⟨_, rfl, p, _, 0, .str "hum", rfl, rfl, hp, rfl, rfl, _, rfl, ?_⟩
      rw [decide_eq_true rfl]
      refine iteT ⟨_, rfl, .ref p, 3, rfl, .inl ⟨_, hp, rfl⟩, rfl, _, rfl, iteT ?_⟩
      refine ⟨_, rfl, _, rfl, p, _, 1, .str (tI q), rfl, rfl, hp, rfl, k, q, rfl, ok.1, ok.2, k64, fun H2 s2 => ⟨_, rfl, iteT ?_⟩⟩
      refine ⟨_, rfl, p, _, 2, .str (if d then "doze" else "up"), rfl, rfl, Same.seq s2 hp, rfl, _, _, rfl, .inr (T.t_HUMMED _), rfl, rfl, ?_⟩
      have e : V.bl (if false = true then !inV (.str (if d then "doze" else "up")) [V.str "doze", V.str "up"] else inV (.str (if d then "doze" else "up")) [V.str "doze", V.str "up"]) = V.bl true := by
        cases d <;> decide +kernel
      rw [e]
      exact c H2 (sp.trans s2)
    | step q n =>
      refine ⟨_, rfl, p, _, 0, .str "step", rfl, rfl, hp, rfl, rfl, _, rfl, ?_⟩
      rw [decide_eq_true rfl]
      refine iteT ⟨_, rfl, .ref p, 3, rfl, .inl ⟨_, hp, rfl⟩, rfl, _, rfl, iteT ?_⟩
      refine ⟨_, rfl, _, rfl, p, _, 1, .str (tI q), rfl, rfl, hp, rfl, k, q, rfl, ok.1.1, ok.1.2, k64, fun H2 s2 => ⟨_, rfl, iteT ?_⟩⟩
      have nn := num_tI ok.2
      refine ⟨_, rfl, p, _, 2, .str (tI n), rfl, rfl, Same.seq s2 hp, rfl, tI n, rfl, by omega, fun H3 s3 => ?_⟩
      rw [nn.1]
      exact c H3 ((sp.trans s2).trans s3)
end
end Lw
set_option Elab.async false
set_option linter.all false
set_option maxRecDepth 100000
set_option maxHeartbeats 8000000
namespace Lw
open PySem PySem.Spec PyProof.Rows L2 Hb
/-- a walk, told -/
structure Wk where
  g : Int
  n : Int
  f : Str
  es : List Str
def EvS (k : Int) (s : Str) : Prop := ∃ e, s = evT e ∧ EvOk k e
def firstL : List Str := ["asleep", "dozing", "up"]
structure WkOk (w : Wk) : Prop where
  g0 : 0 ≤ w.g
  n0 : 0 ≤ w.n
  few : w.g + w.n ≤ 64
  f : w.f ∈ firstL
  es : ∀ s ∈ w.es, EvS (w.g + w.n) s
  len : w.es.length ≤ 1000
def wFs (t : Addr) (w : Wk) : List (Str × V) := [("guests", .int w.g), ("nurses", .int w.n), ("first", .str w.f), ("events", .ref t)]
def WAt (K : PySem.W.Frag) (C : Addr) (H : Hp) (p : Addr) (w : Wk) : Prop := ∃ dx t, H p = some (.ins C dx (wFs t w)) ∧ SqT K H t (w.es.map V.str)
theorem WAt.same {K : PySem.W.Frag} {C : Addr} {H H' : Hp} {p : Addr} {w : Wk} (x : WAt K C H p w) (s : Same H H') : WAt K C H' p w := by
  obtain ⟨dx, t, h1, h2⟩ := x
  exact ⟨dx, t, s _ _ h1, SqT.keep (Same.tk s) h2⟩
theorem flat_strs' (xs : List Str) : (xs.map V.str).all flatV = true := by
  induction xs with
  | nil => rfl
  | cons x xs ih => rw [List.map_cons, List.all_cons, ih]; rfl
abbrev dflW (K : PySem.W.Frag) : Addr := He.dflAt ("Walk", some "__init__") 0 K
def spWInit (K : PySem.W.Frag) (C : Addr) : Sp := fun vs H Q _ => ∃ (x dx a : Addr) (w : Wk), vs = [.ref x, .int w.g, .int w.n, .str w.f, .ref a] ∧ H x = some (.ins C dx []) ∧
  (SqL K H a (w.es.map V.str) ∨ SqT K H a (w.es.map V.str)) ∧ WkOk w ∧ ∀ H', (∀ b o, b ≠ x → H b = some o → H' b = some o) → WAt K C H' x w → Q .non H'
section
variable {P : Program} {w : World} {K : PySem.W.Frag} {mg : Str → Option Value} {base : Heap}
theorem m_Walk_mk (D : Df1v K mg "Walk" "Walk.__init__" s_Walk_init [.ref (dflW K)]) (T : Tx K mg) (c_is_number : C8.Cal P w K mg base 2 "is_number" spNumber []) (c_is_row : C8.Cal P w K mg base 1 "is_row" (spRow K) [])
    (c_is_event : C8.Cal P w K mg base 3 "is_event" spEvent []) :
    C8.Mak P w K mg base 4 "Walk" (He.ga K "Walk") (spWInit K (He.ga K "Walk")) [] ∧ C8.Mak P w K mg base 4 "Walk" (He.ga K "Walk") (spWInit K (He.ga K "Walk")) [.ref (dflW K)] := by
  refine mak_mkD2 (n := 4) (by simp) rfl D sc_Walk_init bk_Walk_init bkp_Walk_init (fun vs H Q E h => ?_) fun f cdv A outer s H vs Q E hr h => ?_
  · obtain ⟨x, dx, a, z, rfl, _⟩ := h
    rfl
  · obtain ⟨x, dx, a, z, rfl, hx, ha, ok, k⟩ := h
    refine ⟨_, (pss_cons (ps_if (pt_not (pt_val (C8.pe_c c_is_number hr (by decide) rfl (pa_cons (pv 1) pa_nil))))
 (pss_one ps_never)
 pss_nil)
 (pss_cons (ps_if (pt_not (pt_val (C8.pe_c c_is_number hr (by decide) rfl (pa_cons (pv 2) pa_nil))))
 (pss_one ps_never)
 pss_nil)
 (pss_cons (ps_if (pt_cmpR op_notIn_seq (pv 3) (pe_glob (v := .ref _) rfl T.g_FIRSTS rfl) (by first | exact nomark _ | rfl))
 (pss_one ps_never)
 pss_nil)
 (pss_cons (ps_if (pt_not (pt_val (C8.pe_c c_is_row hr (by decide) rfl (pa_cons (pv 4) pa_nil))))
 (pss_one ps_never)
 pss_nil)
 (pss_cons (ps_for PassesOwn.never rfl (pi_enumS (by rfl) T.n_enumerate (pa_cons (pv 4) pa_nil)) (pg_tup (by rfl) (pgs_cons (pg_name (i := 5) sc_Walk_init.nd rfl (Or.inl rfl)) (pgs_cons (pg_name (i := 6) sc_Walk_init.nd rfl (Or.inl rfl)) pgs_nil)))
 (pss_one (ps_if (pt_not (pt_val (C8.pe_c c_is_event hr (by decide) rfl (pa_cons (pe_op op_add (pv 1) (pv 2)) (pa_cons (pv 6) pa_nil)))))
 (pss_one ps_never)
 pss_nil)))
 (pss_cons (ps_fld (pv 0) (pv 1) rfl)
 (pss_cons (ps_fld (pv 0) (pv 2) rfl)
 (pss_cons (ps_fld (pv 0) (pv 3) rfl)
 (pss_one (ps_fld (pv 0) (pe_callTy call_tuple_of (by rfl) T.n_tuple (by decide +kernel) (pa_cons (pv 4) pa_nil)) rfl)))))))))), ?_⟩
    refine ⟨_, rfl, z.g, rfl, _, rfl, ?_⟩
    rw [decide_eq_true ok.g0]
    refine iteF ⟨_, rfl, z.n, rfl, _, rfl, ?_⟩
    rw [decide_eq_true ok.n0]
    refine iteF ⟨_, rfl, _, _, rfl, .inr (T.t_FIRSTS _), rfl, rfl, _, rfl, ?_⟩
    rw [if_pos rfl]
    have eF : inV (.str z.f) [V.str "asleep", V.str "dozing", V.str "up"] = true := by
      show inV (.str z.f) (firstL.map V.str) = true
      rw [inV_strs, decide_eq_true ok.f]
    rw [eF]
    refine iteF ⟨_, rfl, a, _, rfl, ha, fun H1 s1 => ⟨_, rfl, iteF ?_⟩⟩
    have ha1 : SqL K H1 a (z.es.map V.str) ∨ SqT K H1 a (z.es.map V.str) := ha.imp (Same.seq s1) (SqT.keep (Same.tk s1))
    refine ⟨_, rfl, a, _, rfl, ha1, fun J G hG wk => for_it wk (fun i σ H' => (∃ v5 v6, σ = [some (.ref x), some (.int z.g), some (.int z.n), some (.str z.f), some (.ref a), v5, v6]) ∧ Same H1 H') ⟨⟨_, _, rfl⟩, Same.refl _⟩ (fun i σ H' _ e => hG _ e.2) ?_ ?_⟩
    · rintro i y σ H' H2 hi ⟨⟨v5, v6, rfl⟩, s2⟩ ⟨Tp, u, v, rfl, hT, rfl, e1, e2⟩
      injection e1 with e1
      subst e1
      replace e2 : (z.es.map V.str)[i]? = some v := e2
      rw [List.getElem?_map] at e2
      obtain ⟨s, hs, rfl⟩ := Option.map_eq_some_iff.mp e2
      obtain ⟨e, rfl, oe⟩ := ok.es s (List.mem_of_getElem? hs)
      have s3 : Same H' (upd H' Tp (.tup [.int (i : Nat), .str (evT e)])) := Same.new hT
      refine ⟨Tp, _, rfl, SqT.of upd_same, rfl, _, _, rfl, _, _, rfl, rfl, ?_⟩
      refine ⟨_, rfl, _, rfl, _, _, rfl, rfl, _, rfl, z.g + z.n, e, rfl, oe, ok.few, fun H3 s4 => ⟨_, rfl, iteF ?_⟩⟩
      exact ⟨⟨_, _, rfl⟩, (s2.trans s3).trans s4⟩
    · rintro σ H2 ⟨⟨v5, v6, rfl⟩, s2⟩
      have s12 := s1.trans s2
      have ha2 : SqL K H2 a (z.es.map V.str) ∨ SqT K H2 a (z.es.map V.str) := ha.imp (Same.seq s12) (SqT.keep (Same.tk s12))
      have hx2 := s12 _ _ hx
      refine ⟨_, rfl, _, rfl, x, _, dx, [], rfl, hx2, T.cls, T.a_guests, by decide, ?_⟩
      have h3 : upd H2 x (.ins (He.ga K "Walk") dx (putF "guests" (.int z.g) [])) x = some (.ins (He.ga K "Walk") dx [("guests", .int z.g)]) := upd_same
      have k3 : KX x H2 (upd H2 x (.ins (He.ga K "Walk") dx (putF "guests" (.int z.g) []))) := KX.put
      generalize upd H2 x (.ins (He.ga K "Walk") dx (putF "guests" (.int z.g) [])) = H3 at h3 k3 ⊢
      refine ⟨_, rfl, _, rfl, x, _, dx, _, rfl, h3, T.cls, T.a_nurses, by show 1 < 1000; decide, ?_⟩
      have h4 : upd H3 x (.ins (He.ga K "Walk") dx (putF "nurses" (.int z.n) [("guests", .int z.g)])) x = some (.ins (He.ga K "Walk") dx [("guests", .int z.g), ("nurses", .int z.n)]) := upd_same
      have k4 : KX x H3 (upd H3 x (.ins (He.ga K "Walk") dx (putF "nurses" (.int z.n) [("guests", .int z.g)]))) := KX.put
      generalize upd H3 x (.ins (He.ga K "Walk") dx (putF "nurses" (.int z.n) [("guests", .int z.g)])) = H4 at h4 k4 ⊢
      refine ⟨_, rfl, _, rfl, x, _, dx, _, rfl, h4, T.cls, T.a_first, by show 2 < 1000; decide, ?_⟩
      have h5 : upd H4 x (.ins (He.ga K "Walk") dx (putF "first" (.str z.f) [("guests", .int z.g), ("nurses", .int z.n)])) x = some (.ins (He.ga K "Walk") dx [("guests", .int z.g), ("nurses", .int z.n), ("first", .str z.f)]) := upd_same
      have k5 : KX x H4 (upd H4 x (.ins (He.ga K "Walk") dx (putF "first" (.str z.f) [("guests", .int z.g), ("nurses", .int z.n)]))) := KX.put
      generalize upd H4 x (.ins (He.ga K "Walk") dx (putF "first" (.str z.f) [("guests", .int z.g), ("nurses", .int z.n)])) = H5 at h5 k5 ⊢
      have k25 := (k3.trans k4).trans k5
      have kAll := (Hb.Same.kx s12).trans k25
      rcases ha2 with ha2 | ha2
      · refine ⟨_, rfl, a, _, rfl, .inl ⟨k25.seq hx2 ha2, fun t nt => ?_⟩⟩
        have s6 : Same H5 (upd H5 t (.tup (z.es.map V.str))) := Same.new nt
        have h6 := s6 _ _ h5
        refine ⟨_, rfl, x, _, dx, _, rfl, h6, T.cls, T.a_events, by show 3 < 1000; decide, ?_⟩
        exact k _ ((kAll.trans (Hb.Same.kx s6)).trans KX.put) ⟨dx, t, upd_same, SqT.keep (KX.tk KX.put h6) (SqT.of upd_same)⟩
      · refine ⟨_, rfl, a, _, rfl, .inr ⟨SqT.keep (k25.tk hx2) ha2, ?_⟩⟩
        refine ⟨_, rfl, x, _, dx, _, rfl, h5, T.cls, T.a_events, by show 3 < 1000; decide, ?_⟩
        exact k _ (kAll.trans KX.put) ⟨dx, a, upd_same, SqT.keep (KX.tk KX.put h5) (SqT.keep (k25.tk hx2) ha2)⟩
end
end Lw
set_option Elab.async false
set_option linter.all false
set_option maxRecDepth 100000
set_option maxHeartbeats 8000000
namespace Lw
open PySem PySem.Spec PyProof.Rows L2 Hb
theorem eqv_all {α : Type} [DecidableEq α] {enc : α → PyData} (h : ∀ x y, PyData.eqv (enc x) (enc y) = decide (x = y)) : ∀ ps qs : List α, PyData.eqvAll (ps.map enc) (qs.map enc) = decide (ps = qs)
  | [], [] => by simp [PyData.eqvAll]
  | [], q :: qs => by simp [PyData.eqvAll]
  | p :: ps, [] => by simp [PyData.eqvAll]
  | p :: ps, q :: qs => by
    rw [List.map_cons, List.map_cons, PyData.eqvAll, h, eqv_all h ps qs]
    by_cases h1 : p = q <;> by_cases h2 : ps = qs <;> simp [h1, h2]
theorem eqv_tup {α : Type} [DecidableEq α] {enc : α → PyData} (h : ∀ x y, PyData.eqv (enc x) (enc y) = decide (x = y)) (ps qs : List α) : PyData.eqv (.tuple (ps.map enc)) (.tuple (qs.map enc)) = decide (ps = qs) := by
  rw [PyData.eqv, eqv_all h]
theorem eqv_lst {α : Type} [DecidableEq α] {enc : α → PyData} (h : ∀ x y, PyData.eqv (enc x) (enc y) = decide (x = y)) (ps qs : List α) : PyData.eqv (.list (ps.map enc)) (.list (qs.map enc)) = decide (ps = qs) := by
  rw [PyData.eqv, eqv_all h]
theorem eqv_S (x y : Str) : PyData.eqv (.str x) (.str y) = decide (x = y) := by simp [PyData.eqv, beq_dec]
theorem strOk_tl (x : Str) : PyData.strOk x = (TL.tl x).all (· < 0x110000) := by
  unfold PyData.strOk TL.tl
  rw [← Array.all_toList]
theorem strOk_app {x y : Str} (hx : PyData.strOk x = true) (hy : PyData.strOk y = true) : PyData.strOk (x ++ y) = true := by
  rw [strOk_tl] at hx hy ⊢
  rw [TL.tl_append, List.all_append, hx, hy]
  rfl
theorem strOk_join : ∀ {ws : List Str}, (∀ w ∈ ws, PyData.strOk w = true) → PyData.strOk (Str.join " " ws) = true
  | [], _ => by decide +kernel
  | [w], h => h w List.mem_cons_self
  | w :: x :: r, h => strOk_app (strOk_app (h w List.mem_cons_self) (by decide +kernel)) (strOk_join (ws := x :: r) fun y hy => h y (List.mem_cons_of_mem _ hy))
theorem num_ok : ∀ i ∈ List.range 64, PyData.strOk (tI (i : Int)) = true := by decide +kernel
theorem lits_ok : PyData.strOk "hum" = true ∧ PyData.strOk "step" = true ∧ PyData.strOk "tick" = true ∧ PyData.strOk "doze" = true ∧ PyData.strOk "up" = true := by decide +kernel
theorem num_ok' {i : Int} (h : 0 ≤ i ∧ i < 64) : PyData.strOk (tI i) = true := by
  obtain ⟨n, rfl⟩ := Int.eq_ofNat_of_zero_le h.1
  exact num_ok n (List.mem_range.mpr (by omega))
theorem ev_ok {k : Int} (hk : k ≤ 64) {s : Str} (h : EvS k s) : PyData.strOk s = true := by
  obtain ⟨e, rfl, ok⟩ := h
  obtain ⟨l1, l2, l3, l4, l5⟩ := lits_ok
  unfold evT
  rw [TL.join_eq]
  refine strOk_join fun w hw => ?_
  cases e with
  | tick =>
    rw [List.mem_singleton.mp hw]
    exact l3
  | hum p d =>
    simp only [evW, List.mem_cons, List.not_mem_nil, or_false] at hw
    rcases hw with rfl | rfl | rfl
    · exact l1
    · exact num_ok' ⟨ok.1, Int.lt_of_lt_of_le ok.2 hk⟩
    · cases d
      · exact l5
      · exact l4
  | step p n =>
    simp only [evW, List.mem_cons, List.not_mem_nil, or_false] at hw
    rcases hw with rfl | rfl | rfl
    · exact l2
    · exact num_ok' ⟨ok.1.1, Int.lt_of_lt_of_le ok.1.2 hk⟩
    · exact num_ok' ok.2
theorem tds_strsW {K : PySem.W.Frag} {H : Hp} : ∀ xs : List Str, TDs K H (xs.map V.str) (xs.map PyData.str)
  | [] => .nil
  | x :: xs => .cons (.str x) (tds_strsW xs)
theorem shp_str {x : Str} (h : PyData.strOk x = true) : Shp (.str x) := ⟨by simp only [PyData.canLay0]; exact h, by simp [PyData.depth]⟩
theorem shaped_es {xs : List Str} (h : ∀ s ∈ xs, PyData.strOk s = true) : SeqAt.shaped (.tuple (xs.map PyData.str)) = true := shaped_tup fun d hd => by
  obtain ⟨x, hx, rfl⟩ := List.mem_map.mp hd
  exact shp_str (h x hx)
/-- alike walks -/
def wEq (a b : Wk) : Bool := decide (a.g = b.g) && (decide (a.n = b.n) && (decide (a.f = b.f) && decide (a.es = b.es)))
theorem wEq_refl (a : Wk) : wEq a a = true := by simp [wEq]
theorem ok_strs {z : Wk} (ok : WkOk z) : ∀ s ∈ z.es, PyData.strOk s = true := fun s hs => ev_ok ok.few (ok.es s hs)
def spUpto (K : PySem.W.Frag) (C : Addr) : Sp := fun vs H Q _ => ∃ (p : Addr) (m : Int) (z : Wk), vs = [.ref p, .int m] ∧ WAt K C H p z ∧ WkOk z ∧ 0 ≤ m ∧
  ∀ H' q, Same H H' → H q = none → WAt K C H' q ⟨z.g, z.n, z.f, z.es.take m.toNat⟩ → Q (.ref q) H'
def spFurther (K : PySem.W.Frag) (C : Addr) : Sp := fun vs H Q _ => ∃ (p a : Addr) (es : List Str) (z : Wk), vs = [.ref p, .ref a] ∧ WAt K C H p z ∧ WkOk z ∧ (SqL K H a (es.map V.str) ∨ SqT K H a (es.map V.str)) ∧ WkOk ⟨z.g, z.n, z.f, z.es ++ es⟩ ∧
  ∀ H' q, Same H H' → H q = none → WAt K C H' q ⟨z.g, z.n, z.f, z.es ++ es⟩ → Q (.ref q) H'
def spLenW (K : PySem.W.Frag) (C : Addr) : Sp := fun vs H Q _ => ∃ (p : Addr) (z : Wk), vs = [.ref p] ∧ WAt K C H p z ∧ WkOk z ∧ Q (.int z.es.length) H
def spEqW (K : PySem.W.Frag) (C : Addr) : Sp := fun vs H Q _ => ∃ (p : Addr) (y : V) (z : Wk), vs = [.ref p, y] ∧ WAt K C H p z ∧ WkOk z ∧ ((∃ q k, y = .ref q ∧ WAt K C H q k ∧ WkOk k ∧ Q (.bl (wEq z k)) H) ∨ ∃ t ∈ anyTy, TyX K H y (.type t) ∧ Q (.bl false) H)
theorem sIx_some (n : Nat) {i : Int} (h0 : 0 ≤ i) : HT.sIx n n (some i) = min i.toNat n := by
  have a : ¬ i < 0 := by omega
  simp [HT.sIx, a]
theorem app_nil {K : PySem.W.Frag} {H : Hp} {t : Addr} {xs ys : List V} (e : ys = []) (h : SqT K H t xs) : SqT K H t (xs ++ ys) := by
  rw [e, List.append_nil]
  exact h
/-- a walk made -/
theorem mk_W {K : PySem.W.Frag} {C : Addr} {H : Hp} {r x dx : Addr} {z : Wk} {R : VK} {E : XK} (hr : SqL K H r (z.es.map V.str) ∨ SqT K H r (z.es.map V.str)) (ok : WkOk z) (nx : H x = none) (ndx : H dx = none) (ne : dx ≠ x)
    (hR : ∀ H2, Same H H2 → WAt K C H2 x z → R .non H2) : spWInit K C [.ref x, .int z.g, .int z.n, .str z.f, .ref r] (upd (upd H dx (.own x)) x (.ins C dx [])) R E := by
  have s1 : Same H (upd (upd H dx (.own x)) x (.ins C dx [])) := fun b u e => by
    rw [upd_ne (ne_of_none e nx), upd_ne (ne_of_none e ndx)]
    exact e
  exact ⟨x, dx, r, z, rfl, upd_same, hr.imp (Same.seq s1) (SqT.keep (Same.tk s1)), ok, fun H2 kp hz => hR H2 (fun b u e => kp b u (ne_of_none e nx) (s1 b u e)) hz⟩
section
variable {P : Program} {w : World} {K : PySem.W.Frag} {mg : Str → Option Value} {base : Heap}
theorem ok_upto {f : Addr} {fd : FuncData} (F : FunD K "upto" "Walk.upto" (defArgs s_Walk_upto) (defBody s_Walk_upto) (defScope s_Walk_upto) [] [] f fd) (T : Tx K mg) (m_Walk : C8.Mak P w K mg base 4 "Walk" (He.ga K "Walk") (spWInit K (He.ga K "Walk")) []) :
    FnOk P w K mg base CX0 6 f fd ["self", "many"] (spUpto K (He.ga K "Walk")) := by
  refine F.ok sc_Walk_upto (fun vs H Q E h => ?_) fun cdv A outer s H vs Q E hr h => ?_
  · obtain ⟨p, m, z, rfl, _⟩ := h
    rfl
  · obtain ⟨p, m, z, rfl, hp, ok, m0, k⟩ := h
    suffices go : ∃ t, PSs (cxOf CX0 P w K mg base N_Walk_upto "Walk.upto" (defScope s_Walk_upto) f cdv A outer s H E).nox (defBody s_Walk_upto) t ∧ t { nx := fun _ H' => Q .non H', rt := Q } (start N_Walk_upto [.ref p, .int m]) H by
      obtain ⟨t, h1, h2⟩ := go
      exact ⟨t, h1.nox, h2⟩
    refine ⟨_, (pss_one (ps_ret (C8.pe_mk m_Walk hr (by decide) rfl (pa_cons (pe_fld (pv 0) rfl) (pa_cons (pe_fld (pv 0) rfl) (pa_cons (pe_fld (pv 0) rfl) (pa_cons (pe_slice sl_tupA (pe_fld (pv 0) rfl) po_none (po_some (pv 1))) pa_nil))))))), ?_⟩
    obtain ⟨dx, t, hO, ht⟩ := hp
    have ok2 : WkOk ⟨z.g, z.n, z.f, z.es.take m.toNat⟩ := ⟨ok.g0, ok.n0, ok.few, ok.f, fun s hs => ok.es s (List.mem_of_mem_take hs), by show (z.es.take m.toNat).length ≤ _; rw [List.length_take]; have := ok.len; omega⟩
    refine ⟨_, rfl, p, _, dx, _, _, rfl, hO, T.cls, T.a_guests, rfl, _, rfl, p, _, dx, _, _, rfl, hO, T.cls, T.a_nurses, rfl, _, rfl, p, _, dx, _, _, rfl, hO, T.cls, T.a_first, rfl, _, rfl, p, _, dx, _, _, rfl, hO, T.cls, T.a_events, rfl, _, rfl, _, rfl, t, _, rfl, ht, fun wh => ?_, fun _ r nr => ?_⟩
    · have e : z.es.take m.toNat = z.es := by
        have q := wh.2
        rw [sIx_some _ m0, List.length_map] at q
        exact List.take_of_length_le (by omega)
      intro x dx' nx ndx ne
      refine mk_W (z := ⟨z.g, z.n, z.f, z.es.take m.toNat⟩) (r := t) (.inr (by rw [e]; exact ht)) ok2 nx ndx ne fun H2 s2 hz => ⟨rfl, k H2 x s2 nx hz⟩
    · rw [cut_take _ m0, ← List.map_take]
      have sr : Same H (upd H r (.tup ((z.es.take m.toNat).map V.str))) := Same.new nr
      intro x dx' nx ndx ne
      exact mk_W (z := ⟨z.g, z.n, z.f, z.es.take m.toNat⟩) (r := r) (.inr (SqT.of upd_same)) ok2 nx ndx ne fun H2 s2 hz => ⟨rfl, k H2 x (sr.trans s2) (sr.free nx) hz⟩
theorem ok_further {f : Addr} {fd : FuncData} (F : FunD K "further" "Walk.further" (defArgs s_Walk_further) (defBody s_Walk_further) (defScope s_Walk_further) [] [] f fd) (T : Tx K mg) (c_is_row : C8.Cal P w K mg base 1 "is_row" (spRow K) []) (m_Walk : C8.Mak P w K mg base 4 "Walk" (He.ga K "Walk") (spWInit K (He.ga K "Walk")) []) :
    FnOk P w K mg base CX0 6 f fd ["self", "events"] (spFurther K (He.ga K "Walk")) := by
  refine F.ok sc_Walk_further (fun vs H Q E h => ?_) fun cdv A outer s H vs Q E hr h => ?_
  · obtain ⟨p, a, es, z, rfl, _⟩ := h
    rfl
  · obtain ⟨p, a, es, z, rfl, hp, ok, ha, ok2, k⟩ := h
    suffices go : ∃ t, PSs (cxOf CX0 P w K mg base N_Walk_further "Walk.further" (defScope s_Walk_further) f cdv A outer s H E).nox (defBody s_Walk_further) t ∧ t { nx := fun _ H' => Q .non H', rt := Q } (start N_Walk_further [.ref p, .ref a]) H by
      obtain ⟨t, h1, h2⟩ := go
      exact ⟨t, h1.nox, h2⟩
    refine ⟨_, (pss_cons (ps_if (pt_not (pt_val (C8.pe_c c_is_row hr (by decide) rfl (pa_cons (pv 1) pa_nil))))
 (pss_one ps_never)
 pss_nil)
 (pss_one (ps_ret (C8.pe_mk m_Walk hr (by decide) rfl (pa_cons (pe_fld (pv 0) rfl) (pa_cons (pe_fld (pv 0) rfl) (pa_cons (pe_fld (pv 0) rfl) (pa_cons (pe_op op_catA (pe_fld (pv 0) rfl) (pe_callTy call_tuple_of (by rfl) T.n_tuple (by decide +kernel) (pa_cons (pv 1) pa_nil))) pa_nil)))))))), ?_⟩
    obtain ⟨dx, t, hO, ht⟩ := hp
    refine ⟨_, rfl, a, _, rfl, ha, fun H1 s1 => ⟨_, rfl, iteF ?_⟩⟩
    have hO1 := s1 _ _ hO
    have ht1 := SqT.keep (Same.tk s1) ht
    have ha1 : SqL K H1 a (es.map V.str) ∨ SqT K H1 a (es.map V.str) := ha.imp (Same.seq s1) (SqT.keep (Same.tk s1))
    refine ⟨_, rfl, p, _, dx, _, _, rfl, hO1, T.cls, T.a_guests, rfl, _, rfl, p, _, dx, _, _, rfl, hO1, T.cls, T.a_nurses, rfl, _, rfl, p, _, dx, _, _, rfl, hO1, T.cls, T.a_first, rfl, _, rfl, p, _, dx, _, _, rfl, hO1, T.cls, T.a_events, rfl, ?_⟩
    have fin : ∀ (H2 : Hp) (r : Addr), Same H H2 → SqT K H2 r (z.es.map V.str ++ es.map V.str) → ∀ (x dx : Addr), H2 x = none → H2 dx = none → dx ≠ x →
        spWInit K (He.ga K "Walk") [.ref x, .int z.g, .int z.n, .str z.f, .ref r] (upd (upd H2 dx (.own x)) x (.ins (He.ga K "Walk") dx [])) (fun v H2 => v = V.non ∧ Q (V.ref x) H2) C8.E0 := fun H2 r s2 hr x dx nx ndx ne =>
      mk_W (z := ⟨z.g, z.n, z.f, z.es ++ es⟩) (.inr (by show SqT K H2 r ((z.es ++ es).map V.str); rw [List.map_append]; exact hr)) ok2 nx ndx ne fun H3 s3 hz => ⟨rfl, k H3 x (s2.trans s3) (s2.free nx) hz⟩
    have len : (z.es.map V.str).length + (es.map V.str).length ≤ sizeLine := by
      have := ok2.len
      have e : (z.es ++ es).length ≤ 1000 := this
      rw [List.length_append] at e
      have line := sizeLine_eq
      rw [List.length_map, List.length_map]
      omega
    rcases ha1 with ha1 | ha1
    · refine ⟨_, rfl, a, _, rfl, .inl ⟨ha1, fun u nu => ?_⟩⟩
      have su : Same H1 (upd H1 u (.tup (es.map V.str))) := Same.new nu
      have ht2 := SqT.keep (Same.tk su) ht1
      have hu : SqT K (upd H1 u (.tup (es.map V.str))) u (es.map V.str) := SqT.of upd_same
      exact ⟨t, u, _, _, rfl, rfl, ht2, hu, len, fun e0 => fin _ u (s1.trans su) (by rw [e0]; exact hu), fun _ e1 => fin _ t (s1.trans su) (app_nil e1 ht2), fun _ _ r nr => fin _ r ((s1.trans su).trans (Same.new nr)) (SqT.of upd_same)⟩
    · exact ⟨_, rfl, a, _, rfl, .inr ⟨ha1, t, a, _, _, rfl, rfl, ht1, ha1, len, fun e0 => fin _ a s1 (by rw [e0]; exact ha1), fun _ e1 => fin _ t s1 (app_nil e1 ht1), fun _ _ r nr => fin _ r (s1.trans (Same.new nr)) (SqT.of upd_same)⟩⟩
theorem ok_len {f : Addr} {fd : FuncData} (F : FunD K "__len__" "Walk.__len__" (defArgs s_Walk_len) (defBody s_Walk_len) (defScope s_Walk_len) [] [] f fd) (T : Tx K mg) : FnOk P w K mg base CX0 1 f fd ["self"] (spLenW K (He.ga K "Walk")) := by
  refine F.ok sc_Walk_len (fun vs H Q E h => ?_) fun cdv A outer s H vs Q E hr h => ?_
  · obtain ⟨p, z, rfl, _⟩ := h
    rfl
  · obtain ⟨p, z, rfl, hp, ok, k⟩ := h
    obtain ⟨dx, t, hO, ht⟩ := hp
    suffices go : ∃ t, PSs (cxOf CX0 P w K mg base N_Walk_len "Walk.__len__" (defScope s_Walk_len) f cdv A outer s H E).nox (defBody s_Walk_len) t ∧ t { nx := fun _ H' => Q .non H', rt := Q } (start N_Walk_len [.ref p]) H by
      obtain ⟨t, h1, h2⟩ := go
      exact ⟨t, h1.nox, h2⟩
    refine ⟨_, (pss_one (ps_ret (pe_callB call_len (by rfl) T.n_len (by decide +kernel) (pa_cons (pe_fld (pv 0) rfl) pa_nil)))), ?_⟩
    exact ⟨_, rfl, p, _, dx, _, _, rfl, hO, T.cls, T.a_events, rfl, _, _, rfl, .inr ⟨_, ht, (List.length_map _).symm⟩, k⟩
theorem ok_eq {f : Addr} {fd : FuncData} (F : FunD K "__eq__" "Walk.__eq__" (defArgs s_Walk_eq) (defBody s_Walk_eq) (defScope s_Walk_eq) [] [] f fd) (T : Tx K mg) : FnOk P w K mg base CX0 1 f fd ["self", "other"] (spEqW K (He.ga K "Walk")) := by
  refine F.ok sc_Walk_eq (fun vs H Q E h => ?_) fun cdv A outer s H vs Q E hr h => ?_
  · obtain ⟨p, y, z, rfl, _⟩ := h
    rfl
  · obtain ⟨p, y, z, rfl, hz, ok, h⟩ := h
    suffices go : ∃ t, PSs (cxOf CX0 P w K mg base N_Walk_eq "Walk.__eq__" (defScope s_Walk_eq) f cdv A outer s H E).nox (defBody s_Walk_eq) t ∧ t { nx := fun _ H' => Q .non H', rt := Q } (start N_Walk_eq [.ref p, y]) H by
      obtain ⟨t, h1, h2⟩ := go
      exact ⟨t, h1.nox, h2⟩
    refine ⟨_, (pss_one (ps_ret (pe_and (pe_callB call_isi (by rfl) T.n_isinstance (by decide +kernel) (pa_cons (pv 1) (pa_cons (pe_glob (v := .ref _) rfl T.g_Walk rfl) pa_nil))) (pe_and (pe_cmpR op_eq (pe_fld (pv 0) rfl) (pe_fld (pv 1) rfl) (by first | exact nomark _ | rfl)) (pe_and (pe_cmpR op_eq (pe_fld (pv 0) rfl) (pe_fld (pv 1) rfl) (by first | exact nomark _ | rfl)) (pe_and (pe_cmpR op_eq (pe_fld (pv 0) rfl) (pe_fld (pv 1) rfl) (by first | exact nomark _ | rfl)) (pe_one (pe_cmpR (op_eqD hr.units) (pe_fld (pv 0) rfl) (pe_fld (pv 1) rfl) (by first | exact nomark _ | rfl))))))))), ?_⟩
    rcases h with ⟨q, z2, rfl, hz2, ok2, k⟩ | ⟨t, ht, ty, k⟩
    · obtain ⟨dx, a, hp, ha⟩ := hz
      obtain ⟨dy, a2, hq, ha2⟩ := hz2
      refine ⟨_, rfl, .ref q, .ref _, .ref (He.ga K "Walk"), .ref (He.ga K "Walk"), true, rfl, .own _, .base (.ins hq T.cls T.k_class T.k_get T.k_takes T.k_obj), if_pos (beq_self_eq_true _), _, rfl, iteT ?_⟩
      refine ⟨_, rfl, p, _, dx, _, _, rfl, hp, T.cls, T.a_guests, rfl, _, rfl, q, _, dy, _, _, rfl, hq, T.cls, T.a_guests, rfl, rfl, _, rfl, ?_⟩
      unfold wEq at k
      by_cases e1 : z.g = z2.g
      · rw [decide_eq_true e1] at k
        rw [decide_eq_true (show V.int z.g = V.int z2.g by rw [e1])]
        refine iteT ⟨_, rfl, p, _, dx, _, _, rfl, hp, T.cls, T.a_nurses, rfl, _, rfl, q, _, dy, _, _, rfl, hq, T.cls, T.a_nurses, rfl, rfl, _, rfl, ?_⟩
        by_cases e2 : z.n = z2.n
        · rw [decide_eq_true e2] at k
          rw [decide_eq_true (show V.int z.n = V.int z2.n by rw [e2])]
          refine iteT ⟨_, rfl, p, _, dx, _, _, rfl, hp, T.cls, T.a_first, rfl, _, rfl, q, _, dy, _, _, rfl, hq, T.cls, T.a_first, rfl, rfl, _, rfl, ?_⟩
          rw [str_dec]
          by_cases e3 : z.f = z2.f
          · rw [decide_eq_true e3] at k ⊢
            refine iteT ⟨_, rfl, p, _, dx, _, _, rfl, hp, T.cls, T.a_events, rfl, _, rfl, q, _, dy, _, _, rfl, hq, T.cls, T.a_events, rfl, _, _, TD.dp (.tup ha (tds_strsW _)), TD.dp (.tup ha2 (tds_strsW _)), shaped_es (ok_strs ok), shaped_es (ok_strs ok2), ?_⟩
            rw [eqv_tup eqv_S]
            exact k
          · rw [decide_eq_false e3] at k ⊢
            exact iteF k
        · rw [decide_eq_false e2] at k
          rw [decide_eq_false (show ¬ V.int z.n = V.int z2.n from fun q => e2 (by injection q))]
          exact iteF k
      · rw [decide_eq_false e1] at k
        rw [decide_eq_false (show ¬ V.int z.g = V.int z2.g from fun q => e1 (by injection q))]
        exact iteF k
    · exact ⟨_, rfl, y, .ref _, _, _, false, rfl, .own _, ty, T.i_any t ht, _, rfl, iteF k⟩
end
end Lw
set_option Elab.async false
set_option linter.all false
set_option maxRecDepth 100000
set_option maxHeartbeats 8000000
namespace Lw
open PySem PySem.Spec PyProof.Rows L2 Hb
theorem hum_T (p : Int) (d : Bool) : ((("hum " : Str) ++ tI p) ++ " ") ++ (if d then "doze" else "up") = evT (.hum p d) := by
  refine TL.ext_tl ?_
  unfold evT
  rw [TL.join_eq]
  cases d
  · show TL.tl ((("hum " ++ tI p) ++ " ") ++ "up") = TL.tl ("hum" ++ " " ++ (tI p ++ " " ++ "up"))
    simp only [TL.tl_append, List.append_assoc]
    rfl
  · show TL.tl ((("hum " ++ tI p) ++ " ") ++ "doze") = TL.tl ("hum" ++ " " ++ (tI p ++ " " ++ "doze"))
    simp only [TL.tl_append, List.append_assoc]
    rfl
theorem hum_up (p : Int) : ((("hum " : Str) ++ tI p) ++ " ") ++ "up" = evT (.hum p false) := hum_T p false
theorem hum_doze (p : Int) : ((("hum " : Str) ++ tI p) ++ " ") ++ "doze" = evT (.hum p true) := hum_T p true
theorem step_T (p n : Int) : ((("step " : Str) ++ tI p) ++ " ") ++ tI n = evT (.step p n) := by
  refine TL.ext_tl ?_
  unfold evT
  rw [TL.join_eq]
  show TL.tl _ = TL.tl ("step" ++ " " ++ (tI p ++ " " ++ tI n))
  simp only [TL.tl_append, List.append_assoc]
  rfl
def EvLow : Ev → Prop
  | .tick => True
  | .hum _ _ => True
  | .step _ n => n < 12
def evV (es : List Ev) : List V := (es.map evT).map V.str
def spWordsK (K : PySem.W.Frag) : Sp := fun vs H Q _ => ∃ (d g : Addr) (k : Int), vs = [.ref d, .int k] ∧ Deal d g H ∧ 0 ≤ k ∧ k ≤ 6 ∧
  ∀ (H' : Hp) (p : Addr) (es : List Ev), Deal d g H' → Kp d g H H' → H p = none → H' p = some (.lst (evV es)) → p ≠ g → es.length ≤ 40 → (∀ e ∈ es, EvOk k e ∧ EvLow e) → Q (.ref p) H'
section
variable {P : Program} {w : World} {K : PySem.W.Frag} {mg : Str → Option Value} {base : Heap}
theorem c_words (D : Df K mg "_law_words" s_words) (T : Tx K mg) (c_draw : C8.Cal P w K mg base 1 "_law_draw" spDraw []) (c_pick : C8.Cal P w K mg base 2 "_law_pick" (spPick K) []) : C8.Cal P w K mg base 3 "_law_words" (spWordsK K) [] := by
  refine cal_mk D sc_words bd_words (fun vs H Q E h => ?_) fun f cdv A outer s H vs Q E hr h => ?_
  · obtain ⟨d, g, k, rfl, _⟩ := h
    rfl
  · obtain ⟨d, g, k, rfl, dl, k0, k6, c⟩ := h
    have line := sizeLine_eq
    obtain ⟨l1, l2, l3, l4, l5, l6⟩ := lit_len
    have l7 : ("hum " : Str).length = 4 ∧ ("step " : Str).length = 5 := by decide +kernel
    refine ⟨_, (pss_cons (ps_set (i := 2) sc_words.nd rfl (Or.inl rfl) (pe_lst pa_nil))
 (pss_cons (ps_for PassesOwn.never rfl (pi_range1 (by rfl) T.n_range (pa_cons (C8.pe_c c_draw hr (by decide) rfl (pa_cons (pv 0) (pa_cons pe_int pa_nil))) pa_nil)) (pg_name (i := 3) sc_words.nd rfl (Or.inl rfl))
 (pss_cons (ps_par (i := 4) (j := 5) (by rfl) sc_words.nd rfl rfl (by decide) rfl rfl (pa_cons (pe_callTy (show CallR _ _ (fun xs H Q => ∃ n : Int, xs = [.int n] ∧ n.natAbs.log2 < 1920 ∧ Q (.str ((toString n : String) : Str)) H) from call_str_int) (by rfl) T.n_str (by decide +kernel) (pa_cons (C8.pe_c c_draw hr (by decide) rfl (pa_cons (pv 0) (pa_cons (pe_callB (call_max2 rfl) (by rfl) T.n_max (by decide +kernel) (pa_cons pe_int (pa_cons (pv 1) pa_nil))) pa_nil))) pa_nil)) (pa_cons (C8.pe_c c_draw hr (by decide) rfl (pa_cons (pv 0) (pa_cons (pe_ifExp (pt_cmpR op_gt (pv 1) pe_int (by first | exact nomark _ | rfl)) pe_int pe_int) pa_nil))) pa_nil)) (by rfl))
 (pss_one (ps_if (pt_cmpR op_eq (pv 5) pe_int (by first | exact nomark _ | rfl))
 (pss_one (ps_expr (pe_bm PySem.F.plainAttrs_list PySem.F.slot_list_append PySem.F.type_list_append mt_append (pv 2) (pa_cons pe_str pa_nil))))
 (pss_one (ps_if (pt_cmpR op_eq (pv 5) pe_int (by first | exact nomark _ | rfl))
 (pss_one (ps_expr (pe_bm PySem.F.plainAttrs_list PySem.F.slot_list_append PySem.F.type_list_append mt_append (pv 2) (pa_cons (pe_op (show OpR _ _ (fun x y H Q => ∃ a b : Str, x = .str a ∧ y = .str b ∧ a.length + b.length ≤ sizeLine ∧ Q (.str (a ++ b)) H) from op_add_str) (pe_op (show OpR _ _ (fun x y H Q => ∃ a b : Str, x = .str a ∧ y = .str b ∧ a.length + b.length ≤ sizeLine ∧ Q (.str (a ++ b)) H) from op_add_str) (pe_op (show OpR _ _ (fun x y H Q => ∃ a b : Str, x = .str a ∧ y = .str b ∧ a.length + b.length ≤ sizeLine ∧ Q (.str (a ++ b)) H) from op_add_str) pe_str (pv 4)) pe_str) (C8.pe_c c_pick hr (by decide) rfl (pa_cons (pv 0) (pa_cons (pe_lst (pa_cons pe_str (pa_cons pe_str pa_nil))) pa_nil)))) pa_nil))))
 (pss_one (ps_expr (pe_bm PySem.F.plainAttrs_list PySem.F.slot_list_append PySem.F.type_list_append mt_append (pv 2) (pa_cons (pe_op (show OpR _ _ (fun x y H Q => ∃ a b : Str, x = .str a ∧ y = .str b ∧ a.length + b.length ≤ sizeLine ∧ Q (.str (a ++ b)) H) from op_add_str) (pe_op (show OpR _ _ (fun x y H Q => ∃ a b : Str, x = .str a ∧ y = .str b ∧ a.length + b.length ≤ sizeLine ∧ Q (.str (a ++ b)) H) from op_add_str) (pe_op (show OpR _ _ (fun x y H Q => ∃ a b : Str, x = .str a ∧ y = .str b ∧ a.length + b.length ≤ sizeLine ∧ Q (.str (a ++ b)) H) from op_add_str) pe_str (pv 4)) pe_str) (pe_callTy (show CallR _ _ (fun xs H Q => ∃ n : Int, xs = [.int n] ∧ n.natAbs.log2 < 1920 ∧ Q (.str ((toString n : String) : Str)) H) from call_str_int) (by rfl) T.n_str (by decide +kernel) (pa_cons (C8.pe_c c_draw hr (by decide) rfl (pa_cons (pv 0) (pa_cons pe_int pa_nil))) pa_nil))) pa_nil))))))))))
 (pss_one (ps_ret (pv 2))))), ?_⟩
    refine ⟨Nat.zero_le _, fun q nq => ?_⟩
    have dl1 := dl.new nq (o := .lst [])
    have qd := (dl.free nq).1
    have qg := (dl.free nq).2
    have kp1 : Kp d g H (upd H q (.lst [])) := Hb.Same.kp (Same.new nq)
    have hq1 : upd H q (.lst []) q = some (.lst (evV [])) := upd_same
    generalize upd H q (.lst []) = H1 at dl1 kp1 hq1 ⊢
    refine ⟨_, rfl, d, g, 41, rfl, dl1, by decide, by decide, fun H2 m dl2 kp2 m0 m1 => ?_⟩
    refine ⟨m, rfl, by omega, by omega, for_range (lo := 0) (n := m.toNat) (fun i σ H' => (∃ v3 v4 v5, σ = [some (.ref d), some (.int k), some (.ref q), v3, v4, v5]) ∧ Deal d g H' ∧ Kp d g H H' ∧ ∃ es, H' q = some (.lst (evV es)) ∧ es.length = i ∧ ∀ e ∈ es, EvOk k e ∧ EvLow e)
      ⟨⟨_, _, _, rfl⟩, dl2, kp1.trans kp2, [], kp2 q _ qd qg hq1, rfl, fun e h => by cases h⟩ ?_ ?_⟩
    · rintro i σ H3 hi ⟨⟨v3, v4, v5, rfl⟩, dl3, kp3, es, hq3, len, all⟩
      have put : ∀ (H5 : Hp) (e : Ev), Deal d g H5 → Kp d g H3 H5 → EvOk k e → EvLow e → H5 q = some (.lst (evV es)) ∧ (evV es).length < sizeLine ∧ Deal d g (upd H5 q (.lst (evV es ++ [.str (evT e)]))) ∧ Kp d g H (upd H5 q (.lst (evV es ++ [.str (evT e)]))) ∧
          ∃ es', upd H5 q (.lst (evV es ++ [.str (evT e)])) q = some (.lst (evV es')) ∧ es'.length = i + 1 ∧ ∀ e ∈ es', EvOk k e ∧ EvLow e := fun H5 e dl5 kp5 o1 o2 => by
        refine ⟨kp5 q _ qd qg hq3, by unfold evV; rw [List.length_map, List.length_map]; omega, dl5.set qd qg, fun b o n1 n2 x => ?_, es ++ [e], ?_, by rw [List.length_append, len]; rfl, fun x hx => ?_⟩
        · rw [upd_ne (ne_of_none x nq)]
          exact kp5 b o n1 n2 (kp3 b o n1 n2 x)
        · rw [upd_same]
          simp [evV]
        · rcases List.mem_append.mp hx with hx | hx
          · exact all x hx
          · rw [List.mem_singleton.mp hx]
            exact ⟨o1, o2⟩
      refine ⟨_, rfl, _, rfl, 1, k, rfl, d, g, _, rfl, dl3, by split <;> omega, by split <;> omega, fun H4 r dl4 kp4 r0 r1 => ?_⟩
      have r6 : r < 6 := by
        split at r1 <;> omega
      obtain ⟨a1, a2, a3, a4, a5⟩ := num_tI (i := r) ⟨r0, by omega⟩
      refine ⟨r, rfl, a5, _, rfl, _, rfl, _, _, rfl, rfl, _, rfl, ?_⟩
      by_cases hk : 0 < k
      · rw [decide_eq_true hk]
        have rk : r < k := by
          split at r1 <;> omega
        refine iteT ⟨d, g, 4, rfl, dl4, by decide, by decide, fun H5 u dl5 kp5 u0 u1 => ?_⟩
        have kp35 := kp4.trans kp5
        refine ⟨_, _, rfl, _, rfl, rfl, _, rfl, ?_⟩
        by_cases e0 : u = 0
        · rw [decide_eq_true (show V.int u = V.int 0 by rw [e0])]
          obtain ⟨p1, p2, p3, p4, p5⟩ := put H5 .tick dl5 kp35 trivial trivial
          rw [tick_T] at p3 p4 p5
          exact iteT ⟨_, rfl, .inl ⟨rfl, _, SqL.of p1⟩, q, _, _, rfl, rfl, p1, p2, ⟨_, _, _, rfl⟩, p3, p4, p5⟩
        · rw [decide_eq_false (show ¬ V.int u = V.int 0 from fun z => e0 (by injection z))]
          refine iteF ⟨_, rfl, rfl, _, rfl, ?_⟩
          have hq5 := (put H5 .tick dl5 kp35 trivial trivial).1
          by_cases e1 : u = 1
          · rw [decide_eq_true (show V.int u = V.int 1 by rw [e1])]
            refine iteT ⟨_, rfl, .inl ⟨rfl, _, SqL.of hq5⟩, _, rfl, _, _, rfl, rfl, (by show ("hum " : Str).length + (tI r).length ≤ _; rw [l7.1]; omega), ?_⟩
            refine ⟨_, _, rfl, rfl, (by show (("hum " : Str) ++ tI r).length + (" " : Str).length ≤ _; rw [Str.length_append, l7.1, l6]; omega), ?_⟩
            refine ⟨_, rfl, by show 2 ≤ sizeLine; decide, fun t nt => ?_⟩
            refine ⟨d, g, t, _, rfl, dl5.new nt, .inl ⟨upd_same, (dl5.free nt).2⟩, by simp, by show 2 < 1000000; decide, fun H6 v hv dl6 kp6 => ?_⟩
            have kp36 := kp35.trans ((Hb.Same.kp (Same.new nt)).trans kp6)
            simp only [List.mem_cons, List.not_mem_nil, or_false] at hv
            rcases hv with rfl | rfl
            · obtain ⟨p1, p2, p3, p4, p5⟩ := put H6 (.hum r false) dl6 kp36 ⟨r0, rk⟩ trivial
              refine ⟨_, _, rfl, rfl, (by
                show ((("hum " : Str) ++ tI r) ++ " ").length + ("up" : Str).length ≤ _
                rw [Str.length_append, Str.length_append, l7.1, l6, l5]
                omega), ?_⟩
              rw [← hum_up] at p3 p4 p5
              exact ⟨q, _, _, rfl, rfl, p1, p2, ⟨_, _, _, rfl⟩, p3, p4, p5⟩
            · obtain ⟨p1, p2, p3, p4, p5⟩ := put H6 (.hum r true) dl6 kp36 ⟨r0, rk⟩ trivial
              refine ⟨_, _, rfl, rfl, (by
                show ((("hum " : Str) ++ tI r) ++ " ").length + ("doze" : Str).length ≤ _
                rw [Str.length_append, Str.length_append, l7.1, l6, l4]
                omega), ?_⟩
              rw [← hum_doze] at p3 p4 p5
              exact ⟨q, _, _, rfl, rfl, p1, p2, ⟨_, _, _, rfl⟩, p3, p4, p5⟩
          · rw [decide_eq_false (show ¬ V.int u = V.int 1 from fun z => e1 (by injection z))]
            refine iteF ⟨_, rfl, .inl ⟨rfl, _, SqL.of hq5⟩, _, rfl, _, _, rfl, rfl, (by show ("step " : Str).length + (tI r).length ≤ _; rw [l7.2]; omega), ?_⟩
            refine ⟨_, _, rfl, rfl, (by show (("step " : Str) ++ tI r).length + (" " : Str).length ≤ _; rw [Str.length_append, l7.2, l6]; omega), ?_⟩
            refine ⟨_, rfl, d, g, 12, rfl, dl5, by decide, by decide, fun H6 n dl6 kp6 n0 n1 => ?_⟩
            obtain ⟨b1, b2, b3, b4, b5⟩ := num_tI (i := n) ⟨n0, by omega⟩
            obtain ⟨p1, p2, p3, p4, p5⟩ := put H6 (.step r n) dl6 (kp35.trans kp6) ⟨⟨r0, rk⟩, n0, by omega⟩ n1
            refine ⟨n, rfl, b5, _, _, rfl, rfl, (by
              show ((("step " : Str) ++ tI r) ++ " ").length + (tI n).length ≤ _
              rw [Str.length_append, Str.length_append, l7.2, l6]
              omega), ?_⟩
            rw [← step_T] at p3 p4 p5
            exact ⟨q, _, _, rfl, rfl, p1, p2, ⟨_, _, _, rfl⟩, p3, p4, p5⟩
      · rw [decide_eq_false hk]
        refine iteF ⟨d, g, 1, rfl, dl4, by decide, by decide, fun H5 u dl5 kp5 u0 u1 => ?_⟩
        have e0 : u = 0 := by omega
        refine ⟨_, _, rfl, _, rfl, rfl, _, rfl, ?_⟩
        rw [decide_eq_true (show V.int u = V.int 0 by rw [e0])]
        obtain ⟨p1, p2, p3, p4, p5⟩ := put H5 .tick dl5 (kp4.trans kp5) trivial trivial
        rw [tick_T] at p3 p4 p5
        exact iteT ⟨_, rfl, .inl ⟨rfl, _, SqL.of p1⟩, q, _, _, rfl, rfl, p1, p2, ⟨_, _, _, rfl⟩, p3, p4, p5⟩
    · rintro σ H3 ⟨⟨v3, v4, v5, rfl⟩, dl3, kp3, es, hq3, len, all⟩
      exact ⟨_, rfl, c H3 q es dl3 kp3 nq hq3 qg (by omega) all⟩
end
end Lw
set_option Elab.async false
set_option linter.all false
set_option maxRecDepth 100000
set_option maxHeartbeats 8000000
/-! by omega -/
namespace Lw
open PySem PySem.Spec PyProof.Rows L2 Hb
/-- any values, n deep: their lists are new -/
def spVal (K : PySem.W.Frag) (n : Nat) : Sp := fun vs H Q _ => ∃ (d g : Addr) (i : Int), vs = [.ref d, .int i] ∧ i = n ∧ Deal d g H ∧
  ∀ H' v e, Deal d g H' → Kp d g H H' → VD K (fun a => H a = none) H' v e → e.depth ≤ 2 * n + 2 → Q v H'
def spNo : Sp := fun _ _ _ _ => False
section
variable {P : Program} {w : World} {K : PySem.W.Frag} {mg : Str → Option Value} {base : Heap}
theorem c_value_no (D : Df K mg "_law_value" s_value) : C8.Cal P w K mg base 1 "_law_value" spNo [] :=
  cal_mk D sc_value bd_value (fun vs H Q E h => h.elim) fun f cdv A outer s H vs Q E hr h => h.elim
theorem c_value_at (n : Nat) {j : Nat} {sp : Sp} (D : Df K mg "_law_value" s_value) (T : Tx K mg) (c_draw : C8.Cal P w K mg base 1 "_law_draw" spDraw []) (c_pick : C8.Cal P w K mg base 2 "_law_pick" (spPick K) []) (c_value : C8.Cal P w K mg base (j + 1) "_law_value" sp [])
    (hsp : n = 0 ∨ ∃ m, n = m + 1 ∧ sp = spVal K m) : C8.Cal P w K mg base (j + 3) "_law_value" (spVal K n) [] := by
  refine cal_mk D sc_value bd_value (fun vs H Q E h => ?_) fun f cdv A outer s H vs Q E hr h => ?_
  · obtain ⟨d, g, i, rfl, _⟩ := h
    rfl
  · obtain ⟨d, g, i, rfl, rfl, dl, k⟩ := h
    have line := sizeLine_eq
    refine ⟨_, (pss_cons (ps_set (i := 2) sc_value.nd rfl (Or.inl rfl) (C8.pe_c c_draw hr (by omega) rfl (pa_cons (pv 0) (pa_cons (pe_ifExp (pt_cmpR op_gt (pv 1) pe_int (by first | exact nomark _ | rfl)) pe_int pe_int) pa_nil))))
 (pss_cons (ps_if (pt_cmpR op_eq (pv 2) pe_int (by first | exact nomark _ | rfl))
 (pss_one (ps_ret (C8.pe_c c_pick hr (by omega) rfl (pa_cons (pv 0) (pa_cons (pe_lst (pa_cons pe_int (pa_cons pe_int (pa_cons (pe_op op_sub pe_int pe_int) (pa_cons (pe_op op_pow pe_int pe_int) pa_nil))))) pa_nil)))))
 pss_nil)
 (pss_cons (ps_if (pt_cmpR op_eq (pv 2) pe_int (by first | exact nomark _ | rfl))
 (pss_one (ps_ret (C8.pe_c c_pick hr (by omega) rfl (pa_cons (pv 0) (pa_cons (pe_lst (pa_cons pe_non (pa_cons pe_bl (pa_cons pe_bl pa_nil)))) pa_nil)))))
 pss_nil)
 (pss_cons (ps_if (pt_cmpR op_lt (pv 2) pe_int (by first | exact nomark _ | rfl))
 (pss_one (ps_ret (C8.pe_c c_pick hr (by omega) rfl (pa_cons (pv 0) (pa_cons (pe_lst (pa_cons pe_str (pa_cons pe_str (pa_cons pe_str (pa_cons pe_str (pa_cons pe_str (pa_cons pe_str (pa_cons pe_str (pa_cons pe_str pa_nil))))))))) pa_nil)))))
 pss_nil)
 (pss_cons (ps_setLc (i := 3) (own := [("_law_k", 4)]) (by rfl) sc_value.nd rfl rfl (sw_true rfl rfl rfl (by decide +kernel)) (pi_range1 (by rfl) T.n_range (pa_cons (C8.pe_c c_draw hr (by omega) rfl (pa_cons (pv 0) (pa_cons pe_int pa_nil))) pa_nil)) (blkOk_by (N := N_value) (sc := defScope s_value) (by decide +kernel)) (fun _ _ _ _ _ => (pg_name (i := 4) sc_value.nd rfl (Or.inl rfl))) (fun _ _ _ _ _ => pts_nil) (fun _ _ _ _ _ => (C8.pe_c c_value hr (by omega) rfl (pa_cons (pv 0) (pa_cons (pe_op op_sub (pv 1) pe_int) pa_nil)))))
 (pss_one (ps_ret (pe_ifExp (pt_cmpR op_eq (pv 2) pe_int (by first | exact nomark _ | rfl)) (pv 3) (pe_callTy call_tuple_of (by rfl) T.n_tuple (by decide +kernel) (pa_cons (pv 3) pa_nil)))))))))), ?_⟩
    refine cut_seq (fun σ H' => ∃ r : Int, σ = [some (.ref d), some (.int (n : Int)), some (.int r), none, none] ∧ Deal d g H' ∧ Kp d g H H' ∧ 0 ≤ r ∧ (r < 4 ∨ r < 7 ∧ 0 < n)) ?_ fun rest => ?_
    · rintro σ H1 ⟨r, rfl, dl1, k1, r0, r1⟩
      have out : ∀ (H' : Hp) (v : V), VD K (fun a => H a = none) H' v (match v with | .int i => .int i | .bl b => .bool b | .str x => .str x | _ => .none) → Deal d g H' → Kp d g H1 H' → Q v H' := fun H' v hv dl' k' =>
        k H' v _ dl' (k1.trans k') hv (by cases v <;> simp [PyData.depth])
      refine ⟨_, rfl, rfl, _, rfl, ?_⟩
      by_cases e0 : r = 0
      · rw [decide_eq_true (show V.int r = V.int 0 by rw [e0])]
        refine iteT ⟨_, rfl, _, _, rfl, rfl, _, _, rfl, rfl, ⟨by decide, by decide, by decide⟩, by show 4 ≤ sizeLine; decide, fun q nq => ?_⟩
        refine ⟨d, g, q, _, rfl, dl1.new nq, .inl ⟨upd_same, (dl1.free nq).2⟩, by simp, by show 4 < 1000000; decide, fun H2 v hv dl2 k2 => ?_⟩
        simp only [List.mem_cons, List.not_mem_nil, or_false] at hv
        rcases hv with rfl | rfl | rfl | rfl <;> exact out _ _ (.int _) dl2 ((Hb.Same.kp (Same.new nq)).trans k2)
      · rw [decide_eq_false (show ¬ V.int r = V.int 0 from fun q => e0 (by injection q))]
        refine iteF ⟨_, rfl, rfl, _, rfl, ?_⟩
        by_cases e1 : r = 1
        · rw [decide_eq_true (show V.int r = V.int 1 by rw [e1])]
          refine iteT ⟨_, rfl, by show 3 ≤ sizeLine; decide, fun q nq => ?_⟩
          refine ⟨d, g, q, _, rfl, dl1.new nq, .inl ⟨upd_same, (dl1.free nq).2⟩, by simp, by show 3 < 1000000; decide, fun H2 v hv dl2 k2 => ?_⟩
          simp only [List.mem_cons, List.not_mem_nil, or_false] at hv
          rcases hv with rfl | rfl | rfl
          · exact out _ _ .non dl2 ((Hb.Same.kp (Same.new nq)).trans k2)
          · exact out _ _ (.bl _) dl2 ((Hb.Same.kp (Same.new nq)).trans k2)
          · exact out _ _ (.bl _) dl2 ((Hb.Same.kp (Same.new nq)).trans k2)
        · rw [decide_eq_false (show ¬ V.int r = V.int 1 from fun q => e1 (by injection q))]
          refine iteF ⟨_, rfl, _, _, rfl, rfl, _, rfl, ite2 (fun h => ?_) (fun h => ?_)⟩
          · refine ⟨_, rfl, by show 8 ≤ sizeLine; decide, fun q nq => ?_⟩
            refine ⟨d, g, q, _, rfl, dl1.new nq, .inl ⟨upd_same, (dl1.free nq).2⟩, by simp, by show 8 < 1000000; decide, fun H2 v hv dl2 k2 => ?_⟩
            simp only [List.mem_cons, List.not_mem_nil, or_false] at hv
            rcases hv with rfl | rfl | rfl | rfl | rfl | rfl | rfl | rfl <;> exact out _ _ (.str _) dl2 ((Hb.Same.kp (Same.new nq)).trans k2)
          · have r4 : ¬ r < 4 := fun q => h (decide_eq_true q)
            obtain ⟨m, en, rfl⟩ : ∃ m, n = m + 1 ∧ sp = spVal K m := by
              rcases hsp with z | z
              · omega
              · exact z
            refine ⟨_, rfl, d, g, 4, rfl, dl1, by decide, by decide, fun H2 c dl2 k2 c0 c1 => ?_⟩
            refine ⟨c, rfl, by omega, by omega, fun D nD => lc_range (lo := 0) (n := c.toNat) (fun i H' => Deal d g H' ∧ Kp d g H2 H' ∧ ∃ (acc : List V) (es : List PyData), H' D = some (.lst acc) ∧ VDs K (fun a => H a = none ∧ a ≠ D) H' acc es ∧ (∀ e ∈ es, e.depth ≤ 2 * m + 2) ∧ acc.length = i)
              ⟨dl2.new nD, Hb.Same.kp (Same.new nD), [], [], upd_same, .nil, (fun e h => by cases h), rfl⟩ ?_ ?_⟩
            · rintro i H' hi ⟨dl', k', acc, es, hD, hvs, dep, len⟩
              have Dd := (dl2.free nD).1
              have Dg := (dl2.free nD).2
              refine ⟨rfl, yes_ ⟨_, rfl, _, rfl, _, _, rfl, rfl, d, g, _, rfl, by rw [en]; show ((m + 1 : Nat) : Int) - 1 = m; omega, dl', fun H3 v e dl3 k3 hv he => ?_⟩⟩
              have hD3 := k3 D _ Dd Dg hD
              have all : Kp d g H H' := (k1.trans k2).trans k'
              have ne : ∀ a o, H' a = some o → ∀ xs, H' a = some (.lst xs) → H a = none ∧ a ≠ D → a ≠ d := fun a o _ xs e _ => dl'.ne_d e (by intro kvs z; cases z)
              have lk : LK (fun a => H a = none ∧ a ≠ D) H' (upd H3 D (.lst (acc ++ [v]))) := fun a xs n1 e1 => by
                rw [upd_ne n1.2]
                refine k3 a _ (dl'.ne_d e1 (by intro kvs z; cases z)) ?_ e1
                rintro rfl
                obtain ⟨_, _, _, _, y⟩ := dl
                have n2 := n1.1
                rw [y.g] at n2
                cases n2
              have tk3 : TK H' (upd H3 D (.lst (acc ++ [v]))) := (dl'.tk k3).trans (tk_acc hD3)
              have aD : ∀ a, H' a = none → a ≠ D := fun a n2 z => by
                rw [z, hD] at n2
                cases n2
              have lk2 : LK (fun a => H' a = none) H3 (upd H3 D (.lst (acc ++ [v]))) := fun a xs n1 e1 => by
                rw [upd_ne (aD a n1)]
                exact e1
              have hv2 : VD K (fun a => H a = none ∧ a ≠ D) (upd H3 D (.lst (acc ++ [v]))) v e := VD.keep (tk_acc hD3) lk2 (fun a o e1 n1 => ⟨all.free dl' n1, aD a n1⟩) hv
              refine ⟨acc, hD3, by omega, dl3.set Dd Dg, (k'.trans k3).acc nD, acc ++ [v], es ++ [e], upd_same, VDs.app (VDs.keep tk3 lk (fun a o _ z => z) hvs) (.cons hv2 .nil), fun x hx => ?_, by rw [List.length_append, len]; rfl⟩
              · rcases List.mem_append.mp hx with hx | hx
                · exact dep x hx
                · rw [List.mem_singleton.mp hx]
                  exact he
            · rintro H' ⟨dl', k', acc, es, hD, hvs, dep, len⟩
              have all : Kp d g H H' := (k1.trans k2).trans k'
              have nH : H D = none := (k1.trans k2).free dl2 nD
              have dAll := depthAll_le dep
              have lst : VD K (fun a => H a = none) H' (.ref D) (.list es) := .lst hD nH (VDs.keep (TK.refl _) (fun _ _ _ e => e) (fun a o _ z => z.1) hvs)
              refine ⟨_, rfl, rfl, _, rfl, ?_⟩
              by_cases e4 : r = 4
              · rw [decide_eq_true (show V.int r = V.int 4 by rw [e4])]
                exact iteT ⟨_, rfl, k H' _ _ dl' all lst (by simp only [PyData.depth]; omega)⟩
              · rw [decide_eq_false (show ¬ V.int r = V.int 4 from fun q => e4 (by injection q))]
                refine iteF ⟨_, rfl, D, acc, rfl, .inl ⟨SqL.of hD, fun t nt => ?_⟩⟩
                have s1 : Same H' (upd H' t (.tup acc)) := Same.new nt
                exact k _ _ (.tuple es) (dl'.same s1) (all.trans (Hb.Same.kp s1)) (.tup (SqT.of upd_same) (VDs.keep (Same.tk s1) (fun a xs _ e => s1 _ _ e) (fun a o _ z => z.1) hvs)) (by simp only [PyData.depth]; omega)
    · refine ⟨_, rfl, _, rfl, _, _, rfl, rfl, _, rfl, ite2 (fun h => ?_) (fun h => ?_)⟩
      · have n1 : (0 : Int) < n := of_decide_eq_true h
        exact ⟨d, g, 7, rfl, dl, by decide, by decide, fun H1 r dl1 k1 r0 r1 => rest _ _ ⟨r, rfl, dl1, k1, r0, .inr ⟨r1, by omega⟩⟩⟩
      · exact ⟨d, g, 4, rfl, dl, by decide, by decide, fun H1 r dl1 k1 r0 r1 => rest _ _ ⟨r, rfl, dl1, k1, r0, .inl r1⟩⟩
end
end Lw
set_option Elab.async false
set_option linter.all false
set_option maxRecDepth 100000
set_option maxHeartbeats 8000000
namespace Lw
open PySem PySem.Spec PyProof.Rows L2 Hb
def bareW : Wk := ⟨1, 2, "asleep", []⟩
def zeroW : Wk := ⟨0, 0, "up", []⟩
theorem first_mem : ("asleep" : Str) ∈ firstL ∧ ("dozing" : Str) ∈ firstL ∧ ("up" : Str) ∈ firstL := by decide +kernel
theorem bareW_ok : WkOk bareW := ⟨by decide, by decide, by decide, first_mem.1, (fun _ h => by cases h), by decide⟩
theorem zeroW_ok : WkOk zeroW := ⟨by decide, by decide, by decide, first_mem.2.2, (fun _ h => by cases h), by decide⟩
def spBare : Sp := fun vs H Q _ => vs = [] ∧ ∀ H', Same H H' → Q (.bl true) H'
section
variable {K : PySem.W.Frag} {mg : Str → Option Value} {H : Hp} {Q : VK} {p q : Addr} {h k : Wk}
theorem WAt.ob {C : Addr} (x : WAt K C H p h) : ∃ dx t, H p = some (.ins C dx (wFs t h)) := by
  obtain ⟨dx, t, e, _⟩ := x
  exact ⟨dx, t, e⟩
theorem ty_W (T : Tx K mg) (hq : WAt K (He.ga K "Walk") H q k) : TyX K H (.ref q) (.ref (He.ga K "Walk")) ∧ PySem.W.notFirst K (He.ga K "Walk") (.ref (He.ga K "Walk")) = true := by
  obtain ⟨dx, t, hq, _⟩ := hq
  refine ⟨.base (.ins hq T.cls T.k_class T.k_get T.k_takes T.k_obj), ?_⟩
  unfold PySem.W.notFirst
  rw [beq_self_eq_true]
  rfl
theorem eq_W (T : Tx K mg) (hp : WAt K (He.ga K "Walk") H p h) (hq : WAt K (He.ga K "Walk") H q k) (sp : WkOk h) (sk : WkOk k) (e : Q (.bl (wEq h k)) H) : rEqOwn K (He.ga K "Walk") (spEqW K (He.ga K "Walk")) (.ref p) (.ref q) H Q := by
  obtain ⟨t1, t2⟩ := ty_W T hq
  obtain ⟨dx, t, hp2⟩ := hp.ob
  exact ⟨p, dx, _, _, rfl, hp2, t1, t2, p, .ref q, h, rfl, hp, sp, .inl ⟨q, k, rfl, hq, sk, e⟩⟩
theorem ne_W (T : Tx K mg) (hp : WAt K (He.ga K "Walk") H p h) (hq : WAt K (He.ga K "Walk") H q k) (sp : WkOk h) (sk : WkOk k) (e : Q (.bl (!wEq h k)) H) : rNeOwn K (He.ga K "Walk") (spEqW K (He.ga K "Walk")) (.ref p) (.ref q) H Q := by
  obtain ⟨t1, t2⟩ := ty_W T hq
  obtain ⟨dx, t, hp2⟩ := hp.ob
  exact ⟨p, dx, _, _, rfl, hp2, t1, t2, p, .ref q, h, rfl, hp, sp, .inl ⟨q, k, rfl, hq, sk, _, rfl, e⟩⟩
end
section
variable {P : Program} {w : World} {K : PySem.W.Frag} {mg : Str → Option Value} {base : Heap}
theorem c_bare (D : Df K mg "_law_bare_right" s_bare_right) (T : Tx K mg) (m_Walk : C8.Mak P w K mg base 4 "Walk" (He.ga K "Walk") (spWInit K (He.ga K "Walk")) []) (m_Walk0 : C8.Mak P w K mg base 4 "Walk" (He.ga K "Walk") (spWInit K (He.ga K "Walk")) [.ref (dflW K)])
    (c_eq : EqOf P w K mg base 1 (He.ga K "Walk") (spEqW K (He.ga K "Walk"))) (c_len : LenOf P w K mg base 1 (He.ga K "Walk") (spLenW K (He.ga K "Walk"))) (c_upto : C8.Met P w K mg base 6 (He.ga K "Walk") "upto" (spUpto K (He.ga K "Walk")) []) :
    C8.Cal P w K mg base 7 "_law_bare_right" spBare [] := by
  refine cal_mk D sc_bare_right bd_bare_right (fun vs H Q E h => ?_) fun f cdv A outer s H vs Q E hr h => ?_
  · obtain ⟨rfl, _⟩ := h
    rfl
  · obtain ⟨rfl, k⟩ := h
    refine ⟨_, (pss_cons (ps_set (i := 0) sc_bare_right.nd rfl (Or.inl rfl) (C8.pe_mk m_Walk0 hr (by decide) rfl (pa_cons pe_int (pa_cons pe_int (pa_cons pe_str pa_nil)))))
 (pss_cons (ps_if (PW.pt (pw_or (pt_cmpR op_ne (pe_callB (call_lenOwn c_len hr (by decide)) (by rfl) T.n_len (by decide +kernel) (pa_cons (C8.pe_mk m_Walk0 hr (by decide) rfl (pa_cons pe_int (pa_cons pe_int (pa_cons pe_str pa_nil)))) pa_nil)) pe_int (by first | exact nomark _ | rfl)) (pw_or1 (pt_cmpR (op_neD hr.units) (pe_fld (pv 0) rfl) (pe_tup pa_nil) (by first | exact nomark _ | rfl)))))
 (pss_one (ps_ret pe_bl))
 pss_nil)
 (pss_one (ps_ret (pe_cmpR (op_eqOwn c_eq hr (by decide)) (C8.pe_mt c_upto hr (by decide) (pv 0) (pa_cons pe_int pa_nil)) (C8.pe_mk m_Walk hr (by decide) rfl (pa_cons pe_int (pa_cons pe_int (pa_cons pe_str (pa_cons (pe_lst pa_nil) pa_nil))))) (by first | exact nomark _ | rfl)))))), ?_⟩
    intro x dx nx ndx ne
    refine mk_W (z := bareW) (r := dflW K) (.inr (T.d_0 _)) bareW_ok nx ndx ne fun H1 s1 hz => ⟨rfl, ?_⟩
    intro y dy ny ndy ney
    refine mk_W (z := zeroW) (r := dflW K) (.inr (T.d_0 _)) zeroW_ok ny ndy ney fun H2 s2 hy => ⟨rfl, ?_⟩
    obtain ⟨d2, t2, hyO⟩ := hy.ob
    refine ⟨y, d2, _, rfl, hyO, y, zeroW, rfl, hy, zeroW_ok, _, rfl, by decide, by decide, rfl, _, rfl, iteF ?_⟩
    have hz2 := hz.same s2
    obtain ⟨dz, tz, hzO, hzt⟩ := id hz2
    refine ⟨_, rfl, x, _, dz, _, _, rfl, hzO, T.cls, T.a_events, rfl, Nat.zero_le _, fun p1 np1 => ?_⟩
    have v1 : Same H2 (upd H2 p1 (.tup [])) := Same.new np1
    refine ne_data (d := .tuple []) (.tup (SqT.keep (Same.tk v1) hzt) .nil) (.tup (SqT.of upd_same) .nil) (by decide +kernel) ⟨_, rfl, iteF ?_⟩
    have hz3 := hz2.same v1
    have hzO3 := v1 _ _ hzO
    have s3 := (s1.trans s2).trans v1
    generalize upd H2 p1 (.tup []) = H3 at v1 hz3 hzO3 s3 ⊢
    refine ⟨_, rfl, x, dz, _, rfl, hzO3, by rfl, x, 5, bareW, rfl, hz3, bareW_ok, by decide, fun H4 u s4 nu hu => ?_⟩
    refine ⟨Nat.zero_le _, fun p2 np2 => ?_⟩
    have v2 : Same H4 (upd H4 p2 (.lst [])) := Same.new np2
    have hu2 := hu.same v2
    have hp2 : upd H4 p2 (.lst []) p2 = some (.lst []) := upd_same
    generalize upd H4 p2 (.lst []) = H5 at v2 hu2 hp2 ⊢
    intro b db nb ndb neb
    refine mk_W (z := bareW) (r := p2) (.inl (SqL.of hp2)) bareW_ok nb ndb neb fun H6 s6 hb => ⟨rfl, ?_⟩
    refine eq_W T (hu2.same s6) hb bareW_ok bareW_ok ?_
    show Q (V.bl (wEq bareW bareW)) H6
    rw [wEq_refl]
    exact k _ (((s3.trans s4).trans v2).trans s6)
end
end Lw
set_option Elab.async false
set_option linter.all false
set_option maxRecDepth 100000
set_option maxHeartbeats 8000000
namespace Lw
open PySem PySem.Spec PyProof.Rows L2 Hb
theorem few_shown : ∀ i : Fin 64, (PyData.int (i.val : Int)).shown.length ≤ 8 ∧ (PyData.int (i.val : Int)).showable = true := by decide +kernel
theorem int_shown {i : Int} (h0 : 0 ≤ i) (h1 : i < 64) : (PyData.int i).shown.length ≤ 8 ∧ (PyData.int i).showable = true := by
  obtain ⟨n, rfl⟩ := Int.eq_ofNat_of_zero_le h0
  exact few_shown ⟨n, by omega⟩
/-- data whose text is at most n signs -/
structure Sh (n : Nat) (d : PyData) : Prop where
  le : d.shown.length ≤ n
  sh : d.showable = true
  nd : d.hasDict = false
theorem showableAll_of : ∀ {ds : List PyData}, (∀ d ∈ ds, d.showable = true) → PyData.showableAll ds = true
  | [], _ => rfl
  | d :: ds, h => by simp only [PyData.showableAll, h d List.mem_cons_self, showableAll_of fun e he => h e (List.mem_cons_of_mem _ he), Bool.and_self]
theorem hasDictAll_of : ∀ {ds : List PyData}, (∀ d ∈ ds, d.hasDict = false) → PyData.hasDictAll ds = false
  | [], _ => rfl
  | d :: ds, h => by simp only [PyData.hasDictAll, h d List.mem_cons_self, hasDictAll_of fun e he => h e (List.mem_cons_of_mem _ he), Bool.or_self]
theorem Sh.tup {n m k : Nat} {ds : List PyData} (h : ∀ d ∈ ds, Sh n d) (hm : ds.length ≤ m) (hk : (n + 2) * m + 3 ≤ k) : Sh k (.tuple ds) :=
  ⟨Nat.le_trans (tup_le (fun d hd => (h d hd).le) hm) hk, by simp only [PyData.showable]; exact showableAll_of fun d hd => (h d hd).sh, by simp only [PyData.hasDict]; exact hasDictAll_of fun d hd => (h d hd).nd⟩
theorem Sh.int {i : Int} (h0 : 0 ≤ i) (h1 : i < 64) : Sh 8 (.int i) := ⟨(int_shown h0 h1).1, (int_shown h0 h1).2, rfl⟩
theorem Sh.mono {n m : Nat} {d : PyData} (h : Sh n d) (e : n ≤ m) : Sh m d := ⟨Nat.le_trans h.le e, h.sh, h.nd⟩
theorem step_shown : ∀ p ∈ List.range 6, ∀ n ∈ List.range 12, (PyData.str (evT (.step (p : Int) (n : Int)))).shown.length ≤ 30 := by decide +kernel
theorem hum_shown : ∀ p ∈ List.range 6, (PyData.str (evT (.hum (p : Int) false))).shown.length ≤ 30 ∧ (PyData.str (evT (.hum (p : Int) true))).shown.length ≤ 30 := by decide +kernel
theorem tick_shown : (PyData.str (evT .tick)).shown.length ≤ 30 := by decide +kernel
theorem ev_shown {k : Int} {e : Ev} (hk : k ≤ 6) (ok : EvOk k e) (lo : EvLow e) : (PyData.str (evT e)).shown.length ≤ 30 := by
  cases e with
  | tick => exact tick_shown
  | hum p d =>
    obtain ⟨n, rfl⟩ := Int.eq_ofNat_of_zero_le ok.1
    have h2 : (n : Int) < k := ok.2
    have z := hum_shown n (List.mem_range.mpr (by omega))
    cases d
    · exact z.1
    · exact z.2
  | step p m =>
    obtain ⟨n, rfl⟩ := Int.eq_ofNat_of_zero_le ok.1.1
    obtain ⟨j, rfl⟩ := Int.eq_ofNat_of_zero_le ok.2.1
    have h2 : (n : Int) < k := ok.1.2
    have h3 : (j : Int) < 12 := lo
    exact step_shown n (List.mem_range.mpr (by omega)) j (List.mem_range.mpr (by omega))
def encW (z : Wk) : PyData := .tuple [.int z.g, .int z.n, .str z.f, .tuple (z.es.map PyData.str)]
theorem first_shown : ∀ f ∈ firstL, (PyData.str f).shown.length ≤ 30 ∧ PyData.strOk f = true := by decide +kernel
/-- a walk that is drawn -/
structure WkLow (z : Wk) : Prop where
  ok : WkOk z
  g : z.g < 64
  n : z.n < 64
  len : z.es.length ≤ 40
  sh : ∀ s ∈ z.es, (PyData.str s).shown.length ≤ 30
theorem Sh_W {z : Wk} (x : WkLow z) : Sh 20000 (encW z) := by
  refine Sh.tup (n := 2000) (m := 4) (fun d hd => ?_) (by simp) (by decide)
  simp only [List.mem_cons, List.not_mem_nil, or_false] at hd
  rcases hd with rfl | rfl | rfl | rfl
  · exact (Sh.int x.ok.g0 x.g).mono (by decide)
  · exact (Sh.int x.ok.n0 x.n).mono (by decide)
  · exact Sh.mono (n := 30) ⟨(first_shown _ x.ok.f).1, rfl, rfl⟩ (by decide)
  · refine Sh.tup (n := 30) (m := 40) (fun d hd => ?_) (by rw [List.length_map]; exact x.len) (by decide)
    obtain ⟨s, hs, rfl⟩ := List.mem_map.mp hd
    exact ⟨x.sh s hs, rfl, rfl⟩
theorem depth_W (z : Wk) : (encW z).depth ≤ 60 := by
  have : PyData.depthAll (z.es.map PyData.str) ≤ 1 := depthAll_le fun e he => by
    obtain ⟨w, _, rfl⟩ := List.mem_map.mp he
    simp [PyData.depth]
  simp only [encW, PyData.depth, PyData.depthAll]
  omega
theorem shaped_esL {xs : List Str} (h : ∀ s ∈ xs, PyData.strOk s = true) : SeqAt.shaped (.list (xs.map PyData.str)) = true := by
  refine shaped_list fun d hd => ?_
  obtain ⟨x, hx, rfl⟩ := List.mem_map.mp hd
  have z := shp_str (h x hx)
  exact ⟨z.1, by have := z.2; omega⟩
theorem ne_es {K : PySem.W.Frag} {H : Hp} {Q : VK} {p q : Addr} {xs : List Str} (hp : SqL K H p (xs.map V.str)) (hq : SqL K H q (xs.map V.str)) (ok : ∀ s ∈ xs, PyData.strOk s = true) (k : Q (.bl false) H) : rNeD K (.ref p) (.ref q) H Q :=
  ne_data (.lst hp (TDs.dp (tds_strsW _))) (.lst hq (TDs.dp (tds_strsW _))) (shaped_esL ok) k
theorem ne_esT {K : PySem.W.Frag} {H : Hp} {Q : VK} {p q : Addr} {xs : List Str} (hp : SqT K H p (xs.map V.str)) (hq : SqT K H q (xs.map V.str)) (ok : ∀ s ∈ xs, PyData.strOk s = true) (k : Q (.bl false) H) : rNeD K (.ref p) (.ref q) H Q :=
  ne_data (.tup hp (TDs.dp (tds_strsW _))) (.tup hq (TDs.dp (tds_strsW _))) (shaped_es ok) k
end Lw
set_option Elab.async false
set_option linter.all false
set_option maxRecDepth 100000
set_option maxHeartbeats 8000000
namespace Lw
open PySem PySem.Spec PyProof.Rows L2 Hb
theorem cut_drop (xs : List V) {i : Int} (h0 : 0 ≤ i) : cutV xs (some i) none = xs.drop i.toNat := by
  have a : ¬ i < 0 := by omega
  by_cases h : i.toNat ≤ xs.length
  · have e : min i.toNat xs.length = i.toNat := by omega
    simp [cutV, HT.sIx, a, e]
    exact List.take_of_length_le (by rw [List.length_drop]; exact Nat.le_refl _)
  · have e : min i.toNat xs.length = xs.length := by omega
    simp [cutV, HT.sIx, a, e]
    omega
theorem EvS.mono {k j : Int} {x : Str} (h : EvS k x) (e : k ≤ j) : EvS j x := by
  obtain ⟨v, rfl, o⟩ := h
  refine ⟨v, rfl, ?_⟩
  cases v with
  | tick => trivial
  | hum p d => exact ⟨o.1, Int.lt_of_lt_of_le o.2 e⟩
  | step p n => exact ⟨⟨o.1.1, Int.lt_of_lt_of_le o.1.2 e⟩, o.2⟩
theorem part_eq (g n : Int) (f : Str) (ws : List Str) {m : Int} (m0 : 0 ≤ m) : wEq ⟨g, n, f, ws.take m.toNat⟩ ⟨g, n, f, ws⟩ = decide (((ws.length : Nat) : Int) ≤ m) := by
  unfold wEq
  have e : decide (ws.take m.toNat = ws) = decide (((ws.length : Nat) : Int) ≤ m) := by
    refine decide_eq_decide.mpr ⟨fun z => ?_, fun z => List.take_of_length_le (by omega)⟩
    have z2 := congrArg List.length z
    rw [List.length_take] at z2
    omega
  simp [e]
/-- a list, or a tuple of its things, by a draw -/
theorem if_seq {K : PySem.W.Frag} {H : Hp} {d g r : Addr} {xs : List V} {i : Nat} {σ : L2.St} {Q : VK} (hd : σ[1]? = some (some (.ref d))) (hi : σ[i]? = some (some (.ref r))) (dl : Deal d g H) (hr : H r = some (.lst xs)) (rg : r ≠ g)
    (k : ∀ H' r', Deal d g H' → Kp d g H H' → (SqL K H' r' xs ∨ SqT K H' r' xs) → Q (.ref r') H') :
    tIf (tTest (tOp rEq (tCall spDraw [] C8.E0 (tCons (tVar 1) (tCons (tC (V.int 2)) tNil))) (tC (V.int 0)))) (tVar i)
      (tCB (fun xs H Q => ∃ p ys, xs = [.ref p] ∧ ((SqL K H p ys ∧ ∀ l, H l = none → Q (.ref l) (upd H l (.tup ys))) ∨ SqT K H p ys ∧ Q (.ref p) H)) (tCons (tVar i) tNil)) σ H Q := by
  have rd : r ≠ d := dl.ne_d hr (by intro kvs e; cases e)
  refine ⟨_, hd, d, g, 2, rfl, dl, by decide, by decide, fun H2 u dl2 k2 u0 u1 => ⟨rfl, _, rfl, ?_⟩⟩
  have hr2 := k2 r _ rd rg hr
  by_cases ez : u = 0
  · rw [decide_eq_true (show V.int u = V.int 0 by rw [ez])]
    exact iteT ⟨_, hi, k H2 r dl2 k2 (.inl (SqL.of hr2))⟩
  · rw [decide_eq_false (show ¬ V.int u = V.int 0 from fun q => ez (by injection q))]
    exact iteF ⟨_, hi, r, _, rfl, .inl ⟨SqL.of hr2, fun t nt => k _ t (dl2.new nt) (k2.trans (Hb.Same.kp (Same.new nt))) (.inr (SqT.of upd_same))⟩⟩
theorem WAt.kp {K : PySem.W.Frag} {C : Addr} {H H' : Hp} {d g m : Addr} {z : Wk} (x : WAt K C H m z) (dl : Deal d g H) (k : Kp d g H H') : WAt K C H' m z := by
  obtain ⟨dx, t, h1, h2⟩ := x
  have nd : m ≠ d := dl.ne_d h1 (by intro kvs e; cases e)
  have ng : m ≠ g := fun e => by
    have dl2 := dl
    obtain ⟨_, _, _, _, y⟩ := dl2
    have z := y.g
    rw [← e, h1] at z
    cases z
  exact ⟨dx, t, k m _ nd ng h1, SqT.keep (dl.tk k) h2⟩
theorem bl_ne (b : Bool) : decide (V.bl (!b) = V.bl b) = false := by cases b <;> simp
theorem room64 {k : Nat} {A : Around} (hr : Room k A) : A.units + 64 < cLine := by have := hr.un; omega
section
variable {P : Program} {w : World} {K : PySem.W.Frag} {mg : Str → Option Value} {base : Heap}
theorem ok_law (T : Tx K mg)
    (c_deal : C8.Cal P w K mg base 1 "_law_deal" (spDeal K) []) (c_draw : C8.Cal P w K mg base 1 "_law_draw" spDraw []) (c_pick : C8.Cal P w K mg base 2 "_law_pick" (spPick K) []) (c_words : C8.Cal P w K mg base 3 "_law_words" (spWordsK K) []) (c_value : C8.Cal P w K mg base 7 "_law_value" (spVal K 2) [])
    (m_Walk : C8.Mak P w K mg base 4 "Walk" (He.ga K "Walk") (spWInit K (He.ga K "Walk")) []) (c_bare_right : C8.Cal P w K mg base 7 "_law_bare_right" spBare [])
    (c_eq : EqOf P w K mg base 1 (He.ga K "Walk") (spEqW K (He.ga K "Walk"))) (c_len : LenOf P w K mg base 1 (He.ga K "Walk") (spLenW K (He.ga K "Walk"))) (c_upto : C8.Met P w K mg base 6 (He.ga K "Walk") "upto" (spUpto K (He.ga K "Walk")) [])
    (c_further : C8.Met P w K mg base 6 (He.ga K "Walk") "further" (spFurther K (He.ga K "Walk")) [])
    (f a : Addr) (cdv : Value) (s : Shared) (H : Hp) (ns : List Int) (few : ns.length ≤ 63) (hS : SqL K H a (ns.map V.int)) (hr : Room 8 (callerA.deeper (envOfC "law" (defScope s_law) s.heap.objs.size f cdv))) :
    ∃ t, PSs (cxOf CX0 P w K mg base N_law "law" (defScope s_law) f cdv callerA [] s H E0).nox (defBody s_law) t ∧ t { nx := fun _ _ => False, rt := fun v _ => v = .bl true } (start N_law [.ref a]) H := by
  have hu := hu_of hr
  have h64 := room64 hr
  have line := sizeLine_eq
  have hg : (cxOf CX0 P w K mg base N_law "law" (defScope s_law) f cdv callerA [] s H E0).nox.A.guards = some [] := rfl
  refine ⟨_, (pss_cons (ps_set (i := 1) sc_law.nd rfl (Or.inl rfl) (C8.pe_c c_deal hr (by decide) rfl (pa_cons (pv 0) (pa_cons pe_int pa_nil))))
 (pss_cons (ps_for PassesOwn.never rfl (pi_range1 (by rfl) T.n_range (pa_cons pe_int pa_nil)) (pg_name (i := 2) sc_law.nd rfl (Or.inl rfl))
 (pss_cons (ps_par (i := 3) (j := 4) (by rfl) sc_law.nd rfl rfl (by decide) rfl rfl (pa_cons (C8.pe_c c_draw hr (by decide) rfl (pa_cons (pv 1) (pa_cons pe_int pa_nil))) (pa_cons (C8.pe_c c_draw hr (by decide) rfl (pa_cons (pv 1) (pa_cons pe_int pa_nil))) pa_nil)) (by rfl))
 (pss_cons (ps_par (i := 5) (j := 6) (by rfl) sc_law.nd rfl rfl (by decide) rfl rfl (pa_cons (C8.pe_c c_pick hr (by decide) rfl (pa_cons (pv 1) (pa_cons (pe_lst (pa_cons pe_str (pa_cons pe_str (pa_cons pe_str pa_nil)))) pa_nil))) (pa_cons (C8.pe_c c_words hr (by decide) rfl (pa_cons (pv 1) (pa_cons (pe_op op_add (pv 3) (pv 4)) pa_nil))) pa_nil)) (by rfl))
 (pss_cons (ps_set (i := 7) sc_law.nd rfl (Or.inl rfl) (pe_callTy call_list_of (by rfl) T.n_list (by decide +kernel) (pa_cons (pv 6) pa_nil)))
 (pss_cons (ps_set (i := 8) sc_law.nd rfl (Or.inr rfl) (C8.pe_mk m_Walk hr (by decide) rfl (pa_cons (pv 3) (pa_cons (pv 4) (pa_cons (pv 5) (pa_cons (pe_ifExp (pt_cmpR op_eq (C8.pe_c c_draw hr (by decide) rfl (pa_cons (pv 1) (pa_cons pe_int pa_nil))) pe_int (by first | exact nomark _ | rfl)) (pv 7) (pe_callTy call_tuple_of (by rfl) T.n_tuple (by decide +kernel) (pa_cons (pv 7) pa_nil))) pa_nil))))))
 (pss_cons (ps_if (pt_cmpR (op_neD hr.units) (pv 7) (pv 6) (by first | exact nomark _ | rfl))
 (pss_one (ps_ret pe_bl))
 pss_nil)
 (pss_cons (ps_expr (pe_bm PySem.F.plainAttrs_list PySem.F.slot_list_append PySem.F.type_list_append mt_append (pv 7) (pa_cons pe_str pa_nil)))
 (pss_cons (ps_if (pt_cmpR op_ne (pe_callB (cr_reprD hg h64) (by rfl) T.n_repr (by decide +kernel) (pa_cons (pe_tup (pa_cons (pe_fld (pv 8) rfl) (pa_cons (pe_fld (pv 8) rfl) (pa_cons (pe_fld (pv 8) rfl) (pa_cons (pe_fld (pv 8) rfl) pa_nil))))) pa_nil)) (pe_callB (cr_reprD hg h64) (by rfl) T.n_repr (by decide +kernel) (pa_cons (pe_tup (pa_cons (pv 3) (pa_cons (pv 4) (pa_cons (pv 5) (pa_cons (pe_callTy call_tuple_of (by rfl) T.n_tuple (by decide +kernel) (pa_cons (pv 6) pa_nil)) pa_nil))))) pa_nil)) (by first | exact nomark _ | rfl))
 (pss_one (ps_ret pe_bl))
 pss_nil)
 (pss_cons (ps_set (i := 9) sc_law.nd rfl (Or.inl rfl) (C8.pe_c c_draw hr (by decide) rfl (pa_cons (pv 1) (pa_cons (pe_op op_add (pe_callB call_len (by rfl) T.n_len (by decide +kernel) (pa_cons (pv 6) pa_nil)) pe_int) pa_nil))))
 (pss_cons (ps_par (i := 10) (j := 11) (by rfl) sc_law.nd rfl rfl (by decide) rfl rfl (pa_cons (C8.pe_mt c_upto hr (by decide) (pv 8) (pa_cons (pv 9) pa_nil)) (pa_cons (pe_slice sl_list (pv 6) (po_some (pv 9)) po_none) pa_nil)) (by rfl))
 (pss_cons (ps_if (PW.pt (pw_or (pt_cmpR op_ne (pe_callB (call_lenOwn c_len hr (by decide)) (by rfl) T.n_len (by decide +kernel) (pa_cons (pv 8) pa_nil)) (pe_callB call_len (by rfl) T.n_len (by decide +kernel) (pa_cons (pv 6) pa_nil)) (by first | exact nomark _ | rfl)) (pw_or (pt_cmpR (op_neD hr.units) (pe_fld (pv 10) rfl) (pe_callTy call_tuple_of (by rfl) T.n_tuple (by decide +kernel) (pa_cons (pe_slice sl_list (pv 6) po_none (po_some (pv 9))) pa_nil)) (by first | exact nomark _ | rfl)) (pw_or1 (pt_cmpR op_ne (pe_fld (pv 10) rfl) (pv 5) (by first | exact nomark _ | rfl))))))
 (pss_one (ps_ret pe_bl))
 pss_nil)
 (pss_cons (ps_if (PW.pt (pw_or (pt_cmpR (op_neOwn c_eq T.f_ne T.k_obj hr (by decide)) (C8.pe_mt c_further hr (by decide) (pv 10) (pa_cons (pe_ifExp (pt_cmpR op_eq (C8.pe_c c_draw hr (by decide) rfl (pa_cons (pv 1) (pa_cons pe_int pa_nil))) pe_int (by first | exact nomark _ | rfl)) (pv 11) (pe_callTy call_tuple_of (by rfl) T.n_tuple (by decide +kernel) (pa_cons (pv 11) pa_nil))) pa_nil)) (pv 8) (by first | exact nomark _ | rfl)) (pw_or1 (pt_cmpR (op_neD hr.units) (pe_fld (pv 8) rfl) (pe_callTy call_tuple_of (by rfl) T.n_tuple (by decide +kernel) (pa_cons (pv 6) pa_nil)) (by first | exact nomark _ | rfl)))))
 (pss_one (ps_ret pe_bl))
 pss_nil)
 (pss_cons (ps_if (PW.pt (pw_or (pt_cmpR (op_neD hr.units) (pv 11) (pe_slice sl_list (pv 6) (po_some (pv 9)) po_none) (by first | exact nomark _ | rfl)) (pw_or1 (pt_not (pt_val (pe_callB call_isi (by rfl) T.n_isinstance (by decide +kernel) (pa_cons (pe_fld (pv 8) rfl) (pa_cons (pe_bltn (v := .ty "tuple") (u := .type "tuple") rfl T.n_tuple (by decide +kernel) rfl) pa_nil))))))))
 (pss_one (ps_ret pe_bl))
 pss_nil)
 (pss_cons (ps_if (PW.pt (pw_or (pt_cmpR op_ne (pe_cmpR (op_eqOwn c_eq hr (by decide)) (pv 10) (pv 8) (by first | exact nomark _ | rfl)) (pe_cmpR op_ge (pv 9) (pe_callB call_len (by rfl) T.n_len (by decide +kernel) (pa_cons (pv 6) pa_nil)) (by first | exact nomark _ | rfl)) (by first | exact nomark _ | rfl)) (pw_or1 (pt_cmpR op_eq (pe_cmpR (op_neOwn c_eq T.f_ne T.k_obj hr (by decide)) (pv 10) (pv 8) (by first | exact nomark _ | rfl)) (pe_cmpR (op_eqOwn c_eq hr (by decide)) (pv 10) (pv 8) (by first | exact nomark _ | rfl)) (by first | exact nomark _ | rfl)))))
 (pss_one (ps_ret pe_bl))
 pss_nil)
 (pss_cons (ps_set (i := 12) sc_law.nd rfl (Or.inl rfl) (pe_lst (pa_cons (C8.pe_mk m_Walk hr (by decide) rfl (pa_cons (pe_op op_add (pv 3) pe_int) (pa_cons (pv 4) (pa_cons (pv 5) (pa_cons (pv 6) pa_nil))))) (pa_cons (C8.pe_mk m_Walk hr (by decide) rfl (pa_cons (pv 3) (pa_cons (pe_op op_add (pv 4) pe_int) (pa_cons (pv 5) (pa_cons (pv 6) pa_nil))))) pa_nil))))
 (pss_cons (ps_expr (pe_bm PySem.F.plainAttrs_list PySem.F.slot_list_append PySem.F.type_list_append mt_append (pv 12) (pa_cons (C8.pe_mk m_Walk hr (by decide) rfl (pa_cons (pv 3) (pa_cons (pv 4) (pa_cons (pe_ifExp (pt_cmpR op_ne (pv 5) pe_str (by first | exact nomark _ | rfl)) pe_str pe_str) (pa_cons (pv 6) pa_nil))))) pa_nil)))
 (pss_cons (ps_if (PW.pt (pw_or (pt_cmpR (op_neD hr.units) (pe_lc (own := [("_law_one", 13)]) (by rfl) sc_law.nd (pi_list (pv 12)) (blkOk_by (N := N_law) (sc := defScope s_law) (by decide +kernel)) (fun _ _ _ _ _ => (pg_name (i := 13) sc_law.nd rfl (Or.inl rfl))) (fun _ _ _ _ _ => (pts_one (pt_cmpR (show OpR _ _ (rEqOwn K (He.ga K "Walk") (spEqW K (He.ga K "Walk"))) from op_eqOwn c_eq hr (by decide)) (pv 13) (pv 8) (by first | exact nomark _ | rfl)))) (fun _ _ _ _ _ => (pv 13))) (pe_lst pa_nil) (by first | exact nomark _ | rfl)) (pw_or1 (pt_cmpR (op_neOwn c_eq T.f_ne T.k_obj hr (by decide)) (C8.pe_mk m_Walk hr (by decide) rfl (pa_cons (pv 3) (pa_cons (pv 4) (pa_cons (pv 5) (pa_cons (pe_callTy call_tuple_of (by rfl) T.n_tuple (by decide +kernel) (pa_cons (pv 6) pa_nil)) pa_nil))))) (pv 8) (by first | exact nomark _ | rfl)))))
 (pss_one (ps_ret pe_bl))
 pss_nil)
 (pss_one (ps_if (pt_cmpR (op_neD hr.units) (pe_lc (own := [("_law_thing", 14)]) (by rfl) sc_law.nd (pi_tup (pe_tup (pa_cons pe_non (pa_cons (pv 6) (pa_cons (C8.pe_c c_value hr (by decide) rfl (pa_cons (pv 1) (pa_cons pe_int pa_nil))) pa_nil))))) (blkOk_by (N := N_law) (sc := defScope s_law) (by decide +kernel)) (fun _ _ _ _ _ => (pg_name (i := 14) sc_law.nd rfl (Or.inl rfl))) (fun _ _ _ _ _ => (pts_one (pt_cmpR (show OpR _ _ (rEqOwn K (He.ga K "Walk") (spEqW K (He.ga K "Walk"))) from op_eqOwn c_eq hr (by decide)) (pv 8) (pv 14) (by first | exact nomark _ | rfl)))) (fun _ _ _ _ _ => (pv 14))) (pe_lst pa_nil) (by first | exact nomark _ | rfl))
 (pss_one (ps_ret pe_bl))
 pss_nil)))))))))))))))))))
 (pss_one (ps_ret (Hb.pe_c0 c_bare_right hr (by decide) rfl))))), ?_⟩
  refine ⟨_, rfl, a, ns, rfl, hS, few, fun H0 d g dl0 s0 nd ng => ?_⟩
  refine ⟨8, rfl, by decide, by decide, for_range (lo := 0) (n := 8) (fun _ σ H' => Deal d g H' ∧ ∃ v2 v3 v4 v5 v6 v7 v8 v9 v10 v11 v12 v13 v14, σ = [some (.ref a), some (.ref d), v2, v3, v4, v5, v6, v7, v8, v9, v10, v11, v12, v13, v14])
    ⟨dl0, _, _, _, _, _, _, _, _, _, _, _, _, _, rfl⟩ ?_ (fun σ H' q => ?_)⟩
  · rintro turn σ H1 _ ⟨dl1, v2, v3, v4, v5, v6, v7, v8, v9, v10, v11, v12, v13, v14, rfl⟩
    refine ⟨_, rfl, d, g, 3, rfl, dl1, by decide, by decide, fun H2 gs dl2 k2 g0 g1 => ⟨_, rfl, d, g, 4, rfl, dl2, by decide, by decide, fun H3 nn dl3 k3 n0 n1 => ⟨_, _, rfl, ?_⟩⟩⟩
    refine ⟨_, rfl, by show 3 ≤ sizeLine; decide, fun t nt => ⟨d, g, t, _, rfl, dl3.new nt, .inl ⟨upd_same, (dl3.free nt).2⟩, by simp, by show 3 < 1000000; decide, fun H4 v hv dl4 k4 => ?_⟩⟩
    obtain ⟨fi, fm, rfl⟩ : ∃ fi, fi ∈ firstL ∧ v = .str fi := by
      obtain ⟨f1, f2, f3⟩ := first_mem
      simp only [List.mem_cons, List.not_mem_nil, or_false] at hv
      rcases hv with rfl | rfl | rfl
      · exact ⟨_, f1, rfl⟩
      · exact ⟨_, f2, rfl⟩
      · exact ⟨_, f3, rfl⟩
    clear hv
    refine ⟨_, rfl, _, rfl, _, rfl, _, _, rfl, rfl, d, g, gs + nn, rfl, dl4, by omega, by omega, fun H5 q es dl5 k5 nq hq qg len all => ⟨_, _, rfl, ?_⟩⟩
    obtain ⟨ws, ews⟩ : ∃ ws, ws = es.map evT := ⟨_, rfl⟩
    have hw : evV es = ws.map V.str := by rw [ews]; rfl
    rw [hw] at hq
    have wlen : ws.length ≤ 40 := by rw [ews, List.length_map]; exact len
    have wev : ∀ s ∈ ws, EvS (gs + nn) s := fun s hs => by
      rw [ews] at hs
      obtain ⟨e, he, rfl⟩ := List.mem_map.mp hs
      exact ⟨e, rfl, (all e he).1⟩
    have wsh : ∀ s ∈ ws, (PyData.str s).shown.length ≤ 30 := fun s hs => by
      rw [ews] at hs
      obtain ⟨e, he, rfl⟩ := List.mem_map.mp hs
      exact ev_shown (by omega) (all e he).1 (all e he).2
    have qd : q ≠ d := dl5.ne_d hq (by intro kvs e; cases e)
    clear hw all len ews es k5 nq k4 dl4 dl3 dl2 k2 k3 dl1
    have ok : WkOk ⟨gs, nn, fi, ws⟩ := ⟨g0, n0, by show gs + nn ≤ 64; omega, fm, wev, by show ws.length ≤ _; omega⟩
    have low : WkLow ⟨gs, nn, fi, ws⟩ := ⟨ok, by show gs < 64; omega, by show nn < 64; omega, wlen, wsh⟩
    have wok := ok_strs ok
    refine ⟨_, rfl, q, _, rfl, .inl (SqL.of hq), fun l nl => ?_⟩
    have r1 : Same H5 (upd H5 l (.lst (ws.map V.str))) := Same.new nl
    have hq6 := r1 _ _ hq
    have hl6 : upd H5 l (.lst (ws.map V.str)) l = some (.lst (ws.map V.str)) := upd_same
    have lq : l ≠ q := (ne_of_none hq nl).symm
    have ld := (dl5.free nl).1
    have lg := (dl5.free nl).2
    have dl6 := dl5.same r1
    generalize upd H5 l (.lst (ws.map V.str)) = H6 at r1 hq6 hl6 dl6 ⊢
    clear r1 hq dl5 nl
    dsimp only
    refine cut_seq (fun σ' H' => ∃ m, σ' = [some (.ref a), some (.ref d), some (.int (0 + (turn : Nat))), some (.int gs), some (.int nn), some (.str fi), some (.ref q), some (.ref l), some (.ref m), v9, v10, v11, v12, v13, v14] ∧ Deal d g H' ∧ H' q = some (.lst (ws.map V.str)) ∧ H' l = some (.lst (ws.map V.str)) ∧ WAt K (He.ga K "Walk") H' m ⟨gs, nn, fi, ws⟩) ?_ fun rest => ?_
    · rintro σ H7 ⟨m, rfl, dl7, hq7, hl7, hm7⟩
      refine ⟨_, rfl, _, rfl, ne_es (SqL.of hl7) (SqL.of hq7) wok ⟨_, rfl, iteF ?_⟩⟩
      have ml : m ≠ l := fun e => by
        obtain ⟨dx, t, h1, _⟩ := hm7
        rw [e, hl7] at h1
        cases h1
      refine ⟨_, rfl, .inl ⟨rfl, _, SqL.of hl7⟩, l, _, _, rfl, rfl, hl7, by rw [List.length_map]; omega, ?_⟩
      have hm8 : WAt K (He.ga K "Walk") (upd H7 l (.lst (ws.map V.str ++ [.str "late"]))) m ⟨gs, nn, fi, ws⟩ := by
        obtain ⟨dx, t, h1, h2⟩ := hm7
        exact ⟨dx, t, by rw [upd_ne ml]; exact h1, SqT.keep (tk_acc hl7) h2⟩
      have hq8 : upd H7 l (.lst (ws.map V.str ++ [.str "late"])) q = some (.lst (ws.map V.str)) := by rw [upd_ne lq.symm]; exact hq7
      have dl8 := dl7.set (o := .lst (ws.map V.str ++ [.str "late"])) ld lg
      generalize upd H7 l (.lst (ws.map V.str ++ [.str "late"])) = H8 at hm8 hq8 dl8 ⊢
      clear hm7 hl7 hq7 dl7 hl6 hq6 dl6 ml lq ld lg
      -- told
      obtain ⟨dm, tm, hmO, hmt⟩ := id hm8
      refine ⟨_, rfl, m, _, dm, _, _, rfl, hmO, T.cls, T.a_guests, rfl, _, rfl, m, _, dm, _, _, rfl, hmO, T.cls, T.a_nurses, rfl, _, rfl, m, _, dm, _, _, rfl, hmO, T.cls, T.a_first, rfl, _, rfl, m, _, dm, _, _, rfl, hmO, T.cls, T.a_events, rfl, by show 4 ≤ sizeLine; decide, fun t1 nt1 => ?_⟩
      have s1 : Same H8 (upd H8 t1 (.tup [.int gs, .int nn, .str fi, .ref tm])) := Same.new nt1
      have S := Sh_W low
      have le : (encW ⟨gs, nn, fi, ws⟩).shown.length ≤ sizeLine := by have := S.le; omega
      have tdW : ∀ {H' : Hp} {p r : Addr}, SqT K H' p [.int gs, .int nn, .str fi, .ref r] → SqT K H' r (ws.map V.str) → TD K H' (.ref p) (encW ⟨gs, nn, fi, ws⟩) := fun h1 h2 => .tup h1 (.cons (.int _) (.cons (.int _) (.cons (.str _) (.cons (.tup h2 (tds_strsW _)) .nil))))
      refine ⟨t1, _, rfl, TD.dp (tdW (SqT.of upd_same) (SqT.keep (Same.tk s1) hmt)), S.sh, S.nd, depth_W _, le, ?_⟩
      generalize upd H8 t1 (.tup [.int gs, .int nn, .str fi, .ref tm]) = H9 at s1 ⊢
      refine ⟨_, rfl, _, rfl, _, rfl, _, rfl, q, _, rfl, .inl ⟨SqL.of (s1 _ _ hq8), fun t2 nt2 => ⟨by show 4 ≤ sizeLine; decide, fun t3 nt3 => ?_⟩⟩⟩
      have s2 : Same H9 (upd H9 t2 (.tup (ws.map V.str))) := Same.new nt2
      have s3 : Same _ (upd (upd H9 t2 (.tup (ws.map V.str))) t3 (.tup [.int gs, .int nn, .str fi, .ref t2])) := Same.new nt3
      refine ⟨t3, _, rfl, TD.dp (tdW (SqT.of upd_same) (SqT.keep (Same.tk s3) (SqT.of upd_same))), S.sh, S.nd, depth_W _, le, rfl, _, rfl, ?_⟩
      rw [decide_eq_true rfl]
      have s13 := (s1.trans s2).trans s3
      have hm9 := hm8.same s13
      have hq9 := s13 _ _ hq8
      have dl9 := dl8.same s13
      generalize upd (upd H9 t2 (.tup (ws.map V.str))) t3 (.tup [.int gs, .int nn, .str fi, .ref t2]) = H10 at hm9 hq9 dl9 ⊢
      clear s13 s3 s2 s1 nt3 nt2 nt1 tdW le S hmt hmO hm8 hq8 dl8
      refine iteF ?_
      -- a part
      have lenq : ∀ {H' : Hp}, H' q = some (.lst (ws.map V.str)) → LenV K (.ref q) H' ws.length := fun h => .inl ⟨_, SqL.of h, (List.length_map _).symm⟩
      refine ⟨_, rfl, _, rfl, .ref q, ws.length, rfl, lenq hq9, _, _, rfl, rfl, d, g, _, rfl, dl9, by omega, by omega, fun H11 mm dl11 k11 mm0 mm1 => ?_⟩
      have hq11 := k11 q _ qd qg hq9
      have hm11 := hm9.kp dl9 k11
      clear k11 dl9 hm9 hq9
      obtain ⟨dm, tm, hmO⟩ := hm11.ob
      refine ⟨_, rfl, m, dm, _, rfl, hmO, by rfl, _, rfl, m, mm, _, rfl, hm11, ok, mm0, fun H12 p s12 np hp => ?_⟩
      have okp : WkOk ⟨gs, nn, fi, ws.take mm.toNat⟩ := ⟨g0, n0, ok.few, fm, fun s hs => wev s (List.mem_of_mem_take hs), by show (ws.take mm.toNat).length ≤ _; rw [List.length_take]; omega⟩
      refine ⟨_, rfl, _, rfl, _, rfl, q, _, rfl, SqL.of (s12 _ _ hq11), fun rr nr => ⟨_, _, rfl, ?_⟩⟩
      rw [cut_drop _ mm0, ← List.map_drop]
      have s13 : Same H12 (upd H12 rr (.lst ((ws.drop mm.toNat).map V.str))) := Same.new nr
      have S13 := s12.trans s13
      have hq13 := S13 _ _ hq11
      have hm13 := hm11.same S13
      have hp13 := hp.same s13
      have dl13 := dl11.same S13
      have hr13 : upd H12 rr (.lst ((ws.drop mm.toNat).map V.str)) rr = some (.lst ((ws.drop mm.toNat).map V.str)) := upd_same
      have rrd := ((dl11.same s12).free nr).1
      have rrg := ((dl11.same s12).free nr).2
      generalize upd H12 rr (.lst ((ws.drop mm.toNat).map V.str)) = H13 at hq13 hm13 hp13 dl13 hr13 ⊢
      clear S13 s13 nr hp np s12 hmO hm11 hq11 dl11
      obtain ⟨dm, tm, hmO, hmt⟩ := id hm13
      obtain ⟨dp, tp, hpO, hpt⟩ := id hp13
      refine ⟨_, rfl, m, dm, _, rfl, hmO, m, _, rfl, hm13, ok, _, rfl, by omega, (by show ((ws.length : Nat) : Int) < 2 ^ 63; omega), _, rfl, .ref q, ws.length, rfl, lenq hq13, rfl, _, rfl, ?_⟩
      rw [decide_eq_true rfl]
      refine iteF ?_
      refine ⟨_, rfl, p, _, dp, _, _, rfl, hpO, T.cls, T.a_events, rfl, _, rfl, _, rfl, _, rfl, q, _, rfl, SqL.of hq13, fun u nu => ⟨u, _, rfl, .inl ⟨SqL.of upd_same, fun t nt => ?_⟩⟩⟩
      rw [cut_take _ mm0, ← List.map_take] at nt ⊢
      have s1 : Same H13 (upd H13 u (.lst ((ws.take mm.toNat).map V.str))) := Same.new nu
      have s2 : Same _ (upd (upd H13 u (.lst ((ws.take mm.toNat).map V.str))) t (.tup ((ws.take mm.toNat).map V.str))) := Same.new nt
      have s12 := s1.trans s2
      refine ne_esT (SqT.keep (Same.tk s12) hpt) (SqT.of upd_same) (ok_strs okp) ⟨_, rfl, iteF ?_⟩
      have hq14 := s12 _ _ hq13
      have hm14 := hm13.same s12
      have hp14 := hp13.same s12
      have dl14 := dl13.same s12
      have hr14 := s12 _ _ hr13
      have hpO14 := s12 _ _ hpO
      generalize upd (upd H13 u (.lst ((ws.take mm.toNat).map V.str))) t (.tup ((ws.take mm.toNat).map V.str)) = H14 at hq14 hm14 hp14 dl14 hr14 hpO14 ⊢
      clear s12 s2 s1 nt nu hq13 hm13 hp13 dl13 hr13 hmO hmt hpO hpt
      refine ⟨_, rfl, p, _, dp, _, _, rfl, hpO14, T.cls, T.a_first, rfl, _, rfl, rfl, _, rfl, ?_⟩
      rw [str_dec, decide_eq_true rfl]
      refine iteF ?_
      -- further
      refine ⟨_, rfl, p, dp, _, rfl, hpO14, by rfl, ?_⟩
      refine if_seq (i := 11) (xs := (ws.drop mm.toNat).map V.str) rfl rfl dl14 hr14 rrg fun H15 r2 dl15 k15 hs15 => ?_
      have hq15 := k15 q _ qd qg hq14
      have hm15 := hm14.kp dl14 k15
      have hp15 := hp14.kp dl14 k15
      have hr15 := k15 rr _ rrd rrg hr14
      have ok2 : WkOk ⟨gs, nn, fi, ws.take mm.toNat ++ ws.drop mm.toNat⟩ := by rw [List.take_append_drop]; exact ok
      refine ⟨p, r2, ws.drop mm.toNat, ⟨gs, nn, fi, ws.take mm.toNat⟩, rfl, hp15, okp, hs15, ok2, fun H16 q2 s16 nq2 hq2 => ?_⟩
      have hq2' : WAt K (He.ga K "Walk") H16 q2 ⟨gs, nn, fi, ws⟩ := by
        have z := hq2
        dsimp only at z
        rw [List.take_append_drop] at z
        exact z
      have hm16 := hm15.same s16
      refine ⟨_, rfl, ne_W T hq2' hm16 ok ok ?_⟩
      rw [wEq_refl]
      refine ⟨_, rfl, iteF ?_⟩
      have hq16 := s16 _ _ hq15
      have hp16 := hp15.same s16
      have dl16 := dl15.same s16
      have hr16 := s16 _ _ hr15
      clear hq2' hq2 nq2 s16 hm15 hp15 hq15 hr15 hs15 k15 dl15 hq14 hm14 hp14 dl14 hr14 hpO14 ok2
      obtain ⟨dm, tm, hmO, hmt⟩ := id hm16
      refine ⟨_, rfl, m, _, dm, _, _, rfl, hmO, T.cls, T.a_events, rfl, _, rfl, q, _, rfl, .inl ⟨SqL.of hq16, fun t nt => ?_⟩⟩
      have s1 : Same H16 (upd H16 t (.tup (ws.map V.str))) := Same.new nt
      refine ne_esT (SqT.keep (Same.tk s1) hmt) (SqT.of upd_same) wok ⟨_, rfl, iteF ?_⟩
      have hq17 := s1 _ _ hq16
      have hm17 := hm16.same s1
      have hp17 := hp16.same s1
      have dl17 := dl16.same s1
      have hr17 := s1 _ _ hr16
      generalize upd H16 t (.tup (ws.map V.str)) = H17 at hq17 hm17 hp17 dl17 hr17 ⊢
      clear s1 nt hmO hmt hq16 hm16 hp16 dl16 hr16
      -- the rest stays
      refine ⟨_, rfl, _, rfl, _, rfl, _, rfl, q, _, rfl, SqL.of hq17, fun u nu => ?_⟩
      rw [cut_drop _ mm0, ← List.map_drop]
      have s1 : Same H17 (upd H17 u (.lst ((ws.drop mm.toNat).map V.str))) := Same.new nu
      refine ne_es (SqL.of (s1 _ _ hr17)) (SqL.of upd_same) (fun s hs => wok s (List.mem_of_mem_drop hs)) ⟨_, rfl, iteF ?_⟩
      have hq18 := s1 _ _ hq17
      have hm18 := hm17.same s1
      have hp18 := hp17.same s1
      have dl18 := dl17.same s1
      generalize upd H17 u (.lst ((ws.drop mm.toNat).map V.str)) = H18 at hq18 hm18 hp18 dl18 ⊢
      clear s1 nu hq17 hm17 hp17 dl17 hr17
      obtain ⟨dm, tm, hmO, hmt⟩ := id hm18
      refine ⟨_, rfl, m, _, dm, _, _, rfl, hmO, T.cls, T.a_events, rfl, .ref tm, _, _, _, true, rfl, .ty _, ty_tup hmt, kit_ty (by decide +kernel), _, rfl, iteF ?_⟩
      -- alike just if it is the whole
      refine ⟨_, rfl, _, rfl, eq_W T hp18 hm18 okp ok ?_⟩
      rw [part_eq _ _ _ _ mm0]
      refine ⟨_, rfl, _, rfl, .ref q, ws.length, rfl, lenq hq18, _, _, rfl, rfl, rfl, _, rfl, ?_⟩
      rw [decide_eq_true rfl]
      refine iteF ?_
      refine ⟨_, rfl, _, rfl, ne_W T hp18 hm18 okp ok ?_⟩
      refine ⟨_, rfl, _, rfl, eq_W T hp18 hm18 okp ok ?_⟩
      refine ⟨rfl, _, rfl, ?_⟩
      rw [bl_ne]
      refine iteF ?_
      -- others
      have okA : WkOk ⟨gs + 1, nn, fi, ws⟩ := ⟨by show 0 ≤ gs + 1; omega, n0, by show gs + 1 + nn ≤ 64; omega, fm, fun s hs => (wev s hs).mono (by show gs + nn ≤ gs + 1 + nn; omega), by show ws.length ≤ _; omega⟩
      have okB : WkOk ⟨gs, nn + 1, fi, ws⟩ := ⟨g0, by show 0 ≤ nn + 1; omega, by show gs + (nn + 1) ≤ 64; omega, fm, fun s hs => (wev s hs).mono (by show gs + nn ≤ gs + (nn + 1); omega), by show ws.length ≤ _; omega⟩
      have neA : wEq ⟨gs + 1, nn, fi, ws⟩ ⟨gs, nn, fi, ws⟩ = false := by
        have e : decide (gs + 1 = gs) = false := decide_eq_false (by omega)
        simp only [wEq, e, Bool.false_and]
      have neB : wEq ⟨gs, nn + 1, fi, ws⟩ ⟨gs, nn, fi, ws⟩ = false := by
        have e : decide (nn + 1 = nn) = false := decide_eq_false (by omega)
        simp only [wEq, e, Bool.false_and, Bool.and_false]
      refine ⟨_, rfl, _, _, rfl, rfl, _, rfl, _, rfl, _, rfl, ?_⟩
      intro x1 dx1 nx1 ndx1 ne1
      refine mk_W (z := ⟨gs + 1, nn, fi, ws⟩) (.inl (SqL.of hq18)) okA nx1 ndx1 ne1 fun H19 s19 hx1 => ⟨rfl, ?_⟩
      refine ⟨_, rfl, _, rfl, _, _, rfl, rfl, _, rfl, _, rfl, ?_⟩
      intro x2 dx2 nx2 ndx2 ne2
      refine mk_W (z := ⟨gs, nn + 1, fi, ws⟩) (.inl (SqL.of (s19 _ _ hq18))) okB nx2 ndx2 ne2 fun H20 s20 hx2 => ⟨rfl, ?_⟩
      refine ⟨by show 2 ≤ sizeLine; decide, fun o no => ?_⟩
      have s21 : Same H20 (upd H20 o (.lst [.ref x1, .ref x2])) := Same.new no
      have S21 := (s19.trans s20).trans s21
      have hq21 := S21 _ _ hq18
      have hm21 := hm18.same S21
      have dl21 := dl18.same S21
      have hx1' := hx1.same (s20.trans s21)
      have hx2' := hx2.same s21
      have ho21 : upd H20 o (.lst [.ref x1, .ref x2]) o = some (.lst [.ref x1, .ref x2]) := upd_same
      have oq : o ≠ q := (ne_of_none (s20 _ _ (s19 _ _ hq18)) no).symm
      have od := ((dl18.same (s19.trans s20)).free no).1
      have og := ((dl18.same (s19.trans s20)).free no).2
      generalize upd H20 o (.lst [.ref x1, .ref x2]) = H21 at hq21 hm21 dl21 hx1' hx2' ho21 ⊢
      clear S21 s21 no hx2 s20 nx2 ndx2 ne2 hx1 s19 nx1 ndx1 ne1 hq18 hm18 hp18 dl18 hmO hmt
      dsimp only
      refine cut_seq (fun σ' H' => σ' = [some (.ref a), some (.ref d), some (.int (0 + (turn : Nat))), some (.int gs), some (.int nn), some (.str fi), some (.ref q), some (.ref l), some (.ref m), some (.int mm), some (.ref p), some (.ref rr), some (.ref o), v13, v14] ∧ Deal d g H' ∧ H' q = some (.lst (ws.map V.str)) ∧ WAt K (He.ga K "Walk") H' m ⟨gs, nn, fi, ws⟩ ∧
        ∃ xs : List V, H' o = some (.lst xs) ∧ xs.length = 3 ∧ ∀ v ∈ xs, ∃ x z, v = .ref x ∧ WAt K (He.ga K "Walk") H' x z ∧ WkOk z ∧ wEq z ⟨gs, nn, fi, ws⟩ = false) ?_ fun rest => ?_
      · rintro σ H22 ⟨rfl, dl22, hq22, hm22, xs, ho22, xl, oth⟩
        refine ⟨_, rfl, o, rfl, ⟨_, SqL.of ho22⟩, fun D nD => lc_list (xs := xs) (fun i H' => Same H22 H' ∧ H' D = some (.lst [])) ⟨Same.new nD, upd_same⟩ (fun i H' _ e => SqL.of (e.1 _ _ ho22)) (fun i y H' hy ⟨s1, hD⟩ => ?_) (fun H23 ⟨s23, hD⟩ => ?_)⟩
        · obtain ⟨x, z, rfl, hx, okz, nez⟩ := oth y (List.mem_of_getElem? hy)
          refine ⟨rfl, _, rfl, _, rfl, eq_W T (hx.same s1) (hm22.same s1) okz ok ?_⟩
          rw [nez]
          exact ⟨_, rfl, iteF ⟨s1, hD⟩⟩
        refine ⟨Nat.zero_le _, fun e1 ne1 => ?_⟩
        have sq : Same H23 (upd H23 e1 (.lst [])) := Same.new ne1
        refine ne_data (d := .list []) (.lst (SqL.of (sq _ _ hD)) .nil) (.lst (SqL.of upd_same) .nil) (by decide +kernel) ⟨_, rfl, iteF ?_⟩
        have s24 := s23.trans sq
        have hq24 := s24 _ _ hq22
        have hm24 := hm22.same s24
        have dl24 := dl22.same s24
        generalize upd H23 e1 (.lst []) = H24 at hq24 hm24 dl24 ⊢
        clear s24 sq ne1 hD s23 oth ho22 xl hq22 hm22 dl22 oq od og
        refine ⟨_, rfl, _, rfl, _, rfl, _, rfl, q, _, rfl, .inl ⟨SqL.of hq24, fun t nt => ?_⟩⟩
        have st : Same H24 (upd H24 t (.tup (ws.map V.str))) := Same.new nt
        intro x dx nx ndx ne
        refine mk_W (z := ⟨gs, nn, fi, ws⟩) (.inr (SqT.of upd_same)) ok nx ndx ne fun H25 s25 hw => ⟨rfl, _, rfl, ne_W T hw (hm24.same (st.trans s25)) ok ok ?_⟩
        rw [wEq_refl]
        refine ⟨_, rfl, iteF ?_⟩
        have S25 := st.trans s25
        have hq25 := S25 _ _ hq24
        have hm25 := hm24.same S25
        have dl25 := dl24.same S25
        clear S25 hw s25 st nx ndx ne nt hq24 hm24 dl24
        -- nothing else equals it
        refine ⟨_, rfl, _, rfl, d, g, 2, rfl, rfl, dl25, fun H27 v e dl27 k27 hv _ => ⟨by show 3 ≤ sizeLine; decide, fun t5 nt5 => ?_⟩⟩
        have hq27 := k27 q _ qd qg hq25
        have hm27 := hm25.kp dl25 k27
        have s28 : Same H27 (upd H27 t5 (.tup [.non, .ref q, v])) := Same.new nt5
        have ht5 : SqT K (upd H27 t5 (.tup [.non, .ref q, v])) t5 [.non, .ref q, v] := SqT.of upd_same
        have hv28 := VD.keep (M := fun a => H25 a = none) (Same.tk s28) (fun a xs _ e => s28 _ _ e) (fun a o _ n => n) hv
        have hm28 := hm27.same s28
        have hq28 := s28 _ _ hq27
        have dl28 := dl27.same s28
        generalize upd H27 t5 (.tup [.non, .ref q, v]) = H28 at ht5 hv28 hm28 hq28 dl28 ⊢
        clear s28 nt5 hq27 hm27 hv dl27 k27 dl25 hq25 hm25
        obtain ⟨dq, tq, hqO⟩ := hm28.ob
        refine ⟨t5, rfl, ⟨_, ht5⟩, fun D nD => lc_tup (xs := [.non, .ref q, v]) (fun i H' => Same H28 H' ∧ H' D = some (.lst [])) ⟨Same.new nD, upd_same⟩ (fun i H' _ e => SqT.keep (Same.tk e.1) ht5) (fun i x H' hx ⟨s1, hD⟩ => ?_) (fun H29 ⟨s29, hD⟩ => ?_)⟩
        · obtain ⟨ty, hty, hX⟩ : ∃ ty ∈ anyTy, TyX K H' x (.type ty) := by
            have hx2 := List.mem_of_getElem? hx
            simp only [List.mem_cons, List.not_mem_nil, or_false] at hx2
            rcases hx2 with rfl | rfl | rfl
            · exact ⟨"NoneType", by decide, .base .non⟩
            · exact ⟨"list", by decide, ty_lst (SqL.of (s1 _ _ hq28))⟩
            · exact VD.ty (VD.keep (M := fun a => H25 a = none) (Same.tk s1) (fun a xs _ e => s1 _ _ e) (fun a o _ n => n) hv28)
          exact ⟨rfl, _, rfl, _, rfl, m, dq, _, .type ty, rfl, s1 _ _ hqO, hX, sub_any ty hty, m, x, _, rfl, hm28.same s1, ok, .inr ⟨ty, hty, hX, _, rfl, iteF ⟨s1, hD⟩⟩⟩
        · refine ⟨Nat.zero_le _, fun e1 ne1 => ?_⟩
          have sq : Same H29 (upd H29 e1 (.lst [])) := Same.new ne1
          refine ne_data (d := .list []) (.lst (SqL.of (sq _ _ hD)) .nil) (.lst (SqL.of upd_same) .nil) (by decide +kernel) ⟨_, rfl, iteF ?_⟩
          exact ⟨dl28.same (s29.trans sq), _, _, _, _, _, _, _, _, _, _, _, _, _, rfl⟩
      · have third : ∀ (fz : Str), fz ∈ firstL → fz ≠ fi → ∀ (x dx : Addr) (R : VK), H21 x = none → H21 dx = none → dx ≠ x →
            (∀ H22, o ≠ q → H22 o = some (.lst [.ref x1, .ref x2]) → Deal d g H22 → Deal d g (upd H22 o (.lst [.ref x1, .ref x2, .ref x])) → (∀ K' : Unit, upd H22 o (.lst [.ref x1, .ref x2, .ref x]) q = some (.lst (ws.map V.str)) ∧ WAt K (He.ga K "Walk") (upd H22 o (.lst [.ref x1, .ref x2, .ref x])) m ⟨gs, nn, fi, ws⟩ ∧
              ∃ xs : List V, upd H22 o (.lst [.ref x1, .ref x2, .ref x]) o = some (.lst xs) ∧ xs.length = 3 ∧ ∀ v ∈ xs, ∃ y z, v = .ref y ∧ WAt K (He.ga K "Walk") (upd H22 o (.lst [.ref x1, .ref x2, .ref x])) y z ∧ WkOk z ∧ wEq z ⟨gs, nn, fi, ws⟩ = false) → R .non H22) →
            spWInit K (He.ga K "Walk") [.ref x, .int gs, .int nn, .str fz, .ref q] (upd (upd H21 dx (.own x)) x (.ins (He.ga K "Walk") dx [])) R C8.E0 := fun fz hz nz x dx R nx ndx ne hR => by
          have okC : WkOk ⟨gs, nn, fz, ws⟩ := ⟨g0, n0, ok.few, hz, wev, ok.len⟩
          have neC : wEq ⟨gs, nn, fz, ws⟩ ⟨gs, nn, fi, ws⟩ = false := by
            have e : decide (fz = fi) = false := decide_eq_false nz
            simp only [wEq, e, Bool.false_and, Bool.and_false]
          refine mk_W (z := ⟨gs, nn, fz, ws⟩) (.inl (SqL.of hq21)) okC nx ndx ne fun H22 s22 hx3 => ?_
          have ho22 := s22 _ _ ho21
          have put : ∀ {y : Addr} {z : Wk}, WAt K (He.ga K "Walk") H22 y z → WAt K (He.ga K "Walk") (upd H22 o (.lst [.ref x1, .ref x2, .ref x])) y z := fun {y z} h => by
            obtain ⟨dy, t, h1, h2⟩ := h
            have yo : y ≠ o := fun e => by
              rw [e, ho22] at h1
              cases h1
            exact ⟨dy, t, by rw [upd_ne yo]; exact h1, SqT.keep (tk_acc ho22) h2⟩
          refine hR H22 oq ho22 (dl21.same s22) ((dl21.same s22).set od og) fun _ => ⟨by rw [upd_ne oq.symm]; exact s22 _ _ hq21, put (hm21.same s22), _, upd_same, rfl, fun v hv => ?_⟩
          simp only [List.mem_cons, List.not_mem_nil, or_false] at hv
          rcases hv with rfl | rfl | rfl
          · exact ⟨x1, _, rfl, put (hx1'.same s22), okA, neA⟩
          · exact ⟨x2, _, rfl, put (hx2'.same s22), okB, neB⟩
          · exact ⟨x, _, rfl, put hx3, okC, neC⟩
        refine ⟨_, rfl, .inl ⟨rfl, _, SqL.of ho21⟩, _, rfl, _, rfl, _, rfl, rfl, _, rfl, ?_⟩
        obtain ⟨f1, f2, f3⟩ := first_mem
        rw [str_dec]
        by_cases ef : fi = "up"
        · rw [decide_eq_true ef]
          refine iteF ⟨_, rfl, ?_⟩
          intro x dx nx ndx ne
          exact third "asleep" f1 (by rw [ef]; decide +kernel) x dx _ nx ndx ne fun H22 _ ho22 _ dl22 K' => ⟨rfl, o, _, _, rfl, rfl, ho22, by show 2 < sizeLine; decide, rest _ _ ⟨rfl, dl22, (K' ()).1, (K' ()).2.1, (K' ()).2.2⟩⟩
        · rw [decide_eq_false ef]
          refine iteT ⟨_, rfl, ?_⟩
          intro x dx nx ndx ne
          exact third "up" f3 (fun e => ef e.symm) x dx _ nx ndx ne fun H22 _ ho22 _ dl22 K' => ⟨rfl, o, _, _, rfl, rfl, ho22, by show 2 < sizeLine; decide, rest _ _ ⟨rfl, dl22, (K' ()).1, (K' ()).2.1, (K' ()).2.2⟩⟩
    · refine ⟨_, rfl, _, rfl, _, rfl, _, rfl, d, g, 2, rfl, dl6, by decide, by decide, fun H7 r dl7 k7 r0 r1 => ⟨rfl, _, rfl, ?_⟩⟩
      have hq7 := k7 q _ qd qg hq6
      have hl7 := k7 l _ ld lg hl6
      by_cases ez : r = 0
      · rw [decide_eq_true (show V.int r = V.int 0 by rw [ez])]
        refine iteT ⟨_, rfl, ?_⟩
        intro x dx nx ndx ne
        exact mk_W (z := ⟨gs, nn, fi, ws⟩) (.inl (SqL.of hl7)) ok nx ndx ne fun H8 s8 hz => ⟨rfl, rest _ _ ⟨x, rfl, dl7.same s8, s8 _ _ hq7, s8 _ _ hl7, hz⟩⟩
      · rw [decide_eq_false (show ¬ V.int r = V.int 0 from fun q => ez (by injection q))]
        refine iteF ⟨_, rfl, l, _, rfl, .inl ⟨SqL.of hl7, fun t nt => ?_⟩⟩
        have s0 : Same H7 (upd H7 t (.tup (ws.map V.str))) := Same.new nt
        intro x dx nx ndx ne
        exact mk_W (z := ⟨gs, nn, fi, ws⟩) (.inr (SqT.of upd_same)) ok nx ndx ne fun H8 s8 hz => ⟨rfl, rest _ _ ⟨x, rfl, dl7.same (s0.trans s8), s8 _ _ (s0 _ _ hq7), s8 _ _ (s0 _ _ hl7), hz⟩⟩
  · obtain ⟨dl, v2, v3, v4, v5, v6, v7, v8, v9, v10, v11, v12, v13, v14, rfl⟩ := q
    exact ⟨rfl, fun H2 _ => rfl⟩
end
end Lw
set_option Elab.async false
set_option linter.all false
set_option maxRecDepth 100000
set_option maxHeartbeats 0
namespace Lw
open PySem PySem.Spec PyProof.Rows L2 Hb
/-! ### the head: facts by names, the run -/
def d_is_whole : He.DefD := ⟨("is_whole", none), "is_whole", "is_whole", defArgs s_is_whole, defBody s_is_whole, defScope s_is_whole, [], []⟩
def d_is_number : He.DefD := ⟨("is_number", none), "is_number", "is_number", defArgs s_is_number, defBody s_is_number, defScope s_is_number, [], []⟩
def d_is_row : He.DefD := ⟨("is_row", none), "is_row", "is_row", defArgs s_is_row, defBody s_is_row, defScope s_is_row, [], []⟩
def d_is_numeral : He.DefD := ⟨("is_numeral", none), "is_numeral", "is_numeral", defArgs s_is_numeral, defBody s_is_numeral, defScope s_is_numeral, [], []⟩
def d_is_person : He.DefD := ⟨("is_person", none), "is_person", "is_person", defArgs s_is_person, defBody s_is_person, defScope s_is_person, [], []⟩
def d_is_event : He.DefD := ⟨("is_event", none), "is_event", "is_event", defArgs s_is_event, defBody s_is_event, defScope s_is_event, [], []⟩
def d_Walk_init : He.DefD := ⟨("Walk", some "__init__"), "__init__", "Walk.__init__", defArgs s_Walk_init, defBody s_Walk_init, defScope s_Walk_init, [.adr (He.dflAt ("Walk", some "__init__") 0)], []⟩
def d_Walk_upto : He.DefD := ⟨("Walk", some "upto"), "upto", "Walk.upto", defArgs s_Walk_upto, defBody s_Walk_upto, defScope s_Walk_upto, [], []⟩
def d_Walk_further : He.DefD := ⟨("Walk", some "further"), "further", "Walk.further", defArgs s_Walk_further, defBody s_Walk_further, defScope s_Walk_further, [], []⟩
def d_Walk_len : He.DefD := ⟨("Walk", some "__len__"), "__len__", "Walk.__len__", defArgs s_Walk_len, defBody s_Walk_len, defScope s_Walk_len, [], []⟩
def d_Walk_eq : He.DefD := ⟨("Walk", some "__eq__"), "__eq__", "Walk.__eq__", defArgs s_Walk_eq, defBody s_Walk_eq, defScope s_Walk_eq, [], []⟩
def d_deal : He.DefD := ⟨("_law_deal", none), "_law_deal", "_law_deal", defArgs s_deal, defBody s_deal, defScope s_deal, [], []⟩
def d_draw : He.DefD := ⟨("_law_draw", none), "_law_draw", "_law_draw", defArgs s_draw, defBody s_draw, defScope s_draw, [], []⟩
def d_pick : He.DefD := ⟨("_law_pick", none), "_law_pick", "_law_pick", defArgs s_pick, defBody s_pick, defScope s_pick, [], []⟩
def d_value : He.DefD := ⟨("_law_value", none), "_law_value", "_law_value", defArgs s_value, defBody s_value, defScope s_value, [], []⟩
def d_words : He.DefD := ⟨("_law_words", none), "_law_words", "_law_words", defArgs s_words, defBody s_words, defScope s_words, [], []⟩
def d_bare_right : He.DefD := ⟨("_law_bare_right", none), "_law_bare_right", "_law_bare_right", defArgs s_bare_right, defBody s_bare_right, defScope s_bare_right, [], []⟩
def d_law : He.DefD := ⟨("law", none), "law", "law", defArgs s_law, defBody s_law, defScope s_law, [], []⟩
def fn : List He.DefD := [d_is_whole, d_is_number, d_is_row, d_is_numeral, d_is_person, d_is_event, d_Walk_init, d_Walk_upto, d_Walk_further, d_Walk_len, d_Walk_eq, d_deal, d_draw, d_pick, d_value, d_words, d_bare_right, d_law]
def fa : List He.Fa := [.meth "Walk" "upto", .meth "Walk" "further", .meth "Walk" "__len__", .meth "Walk" "__eq__", .glo "is_whole", .glo "is_number", .glo "is_row", .glo "is_numeral", .glo "is_person", .glo "is_event", .glo "_law_deal", .glo "_law_draw", .glo "_law_pick", .glo "_law_value", .glo "_law_words", .glo "_law_bare_right", .glo "law", .free "len", .free "set", .free "abs", .free "min", .free "max", .free "int", .free "str", .free "bool", .free "list", .free "tuple", .free "dict", .free "isinstance", .free "all", .free "sorted", .free "range", .free "repr", .free "enumerate", .str "DIGITS" "0123456789", .glo "FIRSTS", .glo "HUMMED", .glo "Walk", .cls "Walk", .noat "Walk" "guests", .noat "Walk" "nurses", .noat "Walk" "first", .noat "Walk" "events", .mkr "Walk"]
def ex (K : PySem.W.Frag) : Bool := (He.tupB K "FIRSTS" [.str "asleep", .str "dozing", .str "up"] && (He.tupB K "HUMMED" [.str "doze", .str "up"] && (He.nilB K (He.dflAt ("Walk", some "__init__") 0 K) && ((Hb.anyTy.all fun t => decide (PySem.W.kitOne K (.type t) (.ref (He.ga K "Walk")) = some false)) && (He.eqO (PySem.W.findIn K (.ref (He.ga K "Walk")) "__class__") (some (some (.builtin "object.__class__"))) && (He.eqO (PySem.W.specialIn K (.builtin "object.__class__") "__get__") (some (some (.builtin "getset_descriptor.__get__"))) && (decide (PySem.W.takesIn K (.builtin "object.__class__") = some true) && (decide (PySem.W.mroIn K (He.ga K "Walk") (.type "object") = some true) && (He.eqO (PySem.W.findIn K (.ref (He.ga K "Walk")) "__ne__") (some (some (.builtin "object.__ne__"))) && true)))))))))
theorem EX0 {K : PySem.W.Frag} (h : ex K = true) : He.tupB K "FIRSTS" [.str "asleep", .str "dozing", .str "up"] = true := (He.ba h).1
theorem EX1 {K : PySem.W.Frag} (h : ex K = true) : He.tupB K "HUMMED" [.str "doze", .str "up"] = true := (He.ba (He.ba h).2).1
theorem EX2 {K : PySem.W.Frag} (h : ex K = true) : He.nilB K (He.dflAt ("Walk", some "__init__") 0 K) = true := (He.ba (He.ba (He.ba h).2).2).1
theorem EX3 {K : PySem.W.Frag} (h : ex K = true) : (Hb.anyTy.all fun t => decide (PySem.W.kitOne K (.type t) (.ref (He.ga K "Walk")) = some false)) = true := (He.ba (He.ba (He.ba (He.ba h).2).2).2).1
theorem EX4 {K : PySem.W.Frag} (h : ex K = true) : He.eqO (PySem.W.findIn K (.ref (He.ga K "Walk")) "__class__") (some (some (.builtin "object.__class__"))) = true := (He.ba (He.ba (He.ba (He.ba (He.ba h).2).2).2).2).1
theorem EX5 {K : PySem.W.Frag} (h : ex K = true) : He.eqO (PySem.W.specialIn K (.builtin "object.__class__") "__get__") (some (some (.builtin "getset_descriptor.__get__"))) = true := (He.ba (He.ba (He.ba (He.ba (He.ba (He.ba h).2).2).2).2).2).1
theorem EX6 {K : PySem.W.Frag} (h : ex K = true) : decide (PySem.W.takesIn K (.builtin "object.__class__") = some true) = true := (He.ba (He.ba (He.ba (He.ba (He.ba (He.ba (He.ba h).2).2).2).2).2).2).1
theorem EX7 {K : PySem.W.Frag} (h : ex K = true) : decide (PySem.W.mroIn K (He.ga K "Walk") (.type "object") = some true) = true := (He.ba (He.ba (He.ba (He.ba (He.ba (He.ba (He.ba (He.ba h).2).2).2).2).2).2).2).1
theorem EX8 {K : PySem.W.Frag} (h : ex K = true) : He.eqO (PySem.W.findIn K (.ref (He.ga K "Walk")) "__ne__") (some (some (.builtin "object.__ne__"))) = true := (He.ba (He.ba (He.ba (He.ba (He.ba (He.ba (He.ba (He.ba (He.ba h).2).2).2).2).2).2).2).2).1
abbrev R : PySem.W.OpenRow := PySem.W.OpenLaw.row PySem.Challenge.rw_hushsteps_k13_walks_made
abbrev hk : PySem.W.Hook := He.hookX 7 fa fn [] [] ex
def ob (s : PySem.W.SharedT) : He.AlX := He.obsX 7 fa fn [] [] ex (HandSHeadRun.getT s)
theorem ob_eq (s : PySem.W.SharedT) : ob s = hk.obs s.abs := He.obsX_eq (HandSHeadRun.getT_eq s)
def names : List PySem.Str := (["HushError", "InvalidWalk", "InvalidEvent", "DIGITS", "is_whole", "is_number", "is_row", "is_numeral", "FIRSTS", "HUMMED", "is_person", "is_event"] : List PySem.Str) ++ (["Walk", "_law_deal", "_law_draw", "_law_pick", "_law_value", "_law_words", "_law_bare_right"] : List PySem.Str)
theorem run (w : World) : HandSHeadRun.RunEq R (PySem.W.view R.prog [23]) hk ob 6000 names w := by
  intro os
  kernel_rfl
section
variable {P : Program} {w : World} {K : PySem.W.Frag} {h : Heap} {mg : Str → Option Value}
theorem tx_of (X : K.In h) (G : h.Ns mainGlobals mg) (cd : He.SaysD fa fn K) (cx : ex K = true) : Tx K mg :=
  ⟨He.free_ok X G (cd.fact 17 rfl),
   He.free_ok X G (cd.fact 18 rfl),
   He.free_ok X G (cd.fact 19 rfl),
   He.free_ok X G (cd.fact 20 rfl),
   He.free_ok X G (cd.fact 21 rfl),
   He.free_ok X G (cd.fact 22 rfl),
   He.free_ok X G (cd.fact 23 rfl),
   He.free_ok X G (cd.fact 24 rfl),
   He.free_ok X G (cd.fact 25 rfl),
   He.free_ok X G (cd.fact 26 rfl),
   He.free_ok X G (cd.fact 27 rfl),
   He.free_ok X G (cd.fact 28 rfl),
   He.free_ok X G (cd.fact 29 rfl),
   He.free_ok X G (cd.fact 30 rfl),
   He.free_ok X G (cd.fact 31 rfl),
   He.free_ok X G (cd.fact 32 rfl),
   He.free_ok X G (cd.fact 33 rfl),
   He.str_ok X G (cd.fact 34 rfl),
   He.glo_ok X G (cd.fact 35 rfl),
   fun H => He.tupB_ok (EX0 cx) H,
   He.glo_ok X G (cd.fact 36 rfl),
   fun H => He.tupB_ok (EX1 cx) H,
   He.glo_ok X G (cd.fact 37 rfl),
   He.nilB_ok (EX2 cx),
   fun t ht => of_decide_eq_true (List.all_eq_true.mp (EX3 cx) t ht),
   He.eqO_ok (EX4 cx),
   He.eqO_ok (EX5 cx),
   of_decide_eq_true (EX6 cx),
   of_decide_eq_true (EX7 cx),
   He.eqO_ok (EX8 cx),
   He.cls_ok (cd.fact 38 rfl),
   He.noat_ok (cd.fact 39 rfl),
   He.noat_ok (cd.fact 40 rfl),
   He.noat_ok (cd.fact 41 rfl),
   He.noat_ok (cd.fact 42 rfl)⟩
theorem df_is_whole (X : K.In h) (G : h.Ns mainGlobals mg) (cd : He.SaysD fa fn K) : Df K mg "is_whole" s_is_whole := by
  obtain ⟨fd, F⟩ := cd.def_ 0 (d := d_is_whole) rfl
  exact ⟨fd, F, He.glo_ok X G (cd.fact 4 rfl)⟩
theorem df_is_number (X : K.In h) (G : h.Ns mainGlobals mg) (cd : He.SaysD fa fn K) : Df K mg "is_number" s_is_number := by
  obtain ⟨fd, F⟩ := cd.def_ 1 (d := d_is_number) rfl
  exact ⟨fd, F, He.glo_ok X G (cd.fact 5 rfl)⟩
theorem df_is_row (X : K.In h) (G : h.Ns mainGlobals mg) (cd : He.SaysD fa fn K) : Df K mg "is_row" s_is_row := by
  obtain ⟨fd, F⟩ := cd.def_ 2 (d := d_is_row) rfl
  exact ⟨fd, F, He.glo_ok X G (cd.fact 6 rfl)⟩
theorem df_is_numeral (X : K.In h) (G : h.Ns mainGlobals mg) (cd : He.SaysD fa fn K) : Df K mg "is_numeral" s_is_numeral := by
  obtain ⟨fd, F⟩ := cd.def_ 3 (d := d_is_numeral) rfl
  exact ⟨fd, F, He.glo_ok X G (cd.fact 7 rfl)⟩
theorem df_is_person (X : K.In h) (G : h.Ns mainGlobals mg) (cd : He.SaysD fa fn K) : Df K mg "is_person" s_is_person := by
  obtain ⟨fd, F⟩ := cd.def_ 4 (d := d_is_person) rfl
  exact ⟨fd, F, He.glo_ok X G (cd.fact 8 rfl)⟩
theorem df_is_event (X : K.In h) (G : h.Ns mainGlobals mg) (cd : He.SaysD fa fn K) : Df K mg "is_event" s_is_event := by
  obtain ⟨fd, F⟩ := cd.def_ 5 (d := d_is_event) rfl
  exact ⟨fd, F, He.glo_ok X G (cd.fact 9 rfl)⟩
theorem df_Walk_init (X : K.In h) (G : h.Ns mainGlobals mg) (cd : He.SaysD fa fn K) : Df1v K mg "Walk" "Walk.__init__" s_Walk_init [.ref (He.dflAt ("Walk", some "__init__") 0 K)] := by
  obtain ⟨fd, F⟩ := cd.def_ 6 (d := d_Walk_init) rfl
  exact ⟨He.mkr_ok (cd.fact 43 rfl), He.glo_ok X G (cd.fact 37 rfl), fd, F⟩
theorem df_Walk_upto (X : K.In h) (G : h.Ns mainGlobals mg) (cd : He.SaysD fa fn K) : Dm K "Walk" "upto" "Walk.upto" s_Walk_upto := ⟨He.meth_ok (cd.fact 0 rfl), cd.def_ 7 (d := d_Walk_upto) rfl⟩
theorem df_Walk_further (X : K.In h) (G : h.Ns mainGlobals mg) (cd : He.SaysD fa fn K) : Dm K "Walk" "further" "Walk.further" s_Walk_further := ⟨He.meth_ok (cd.fact 1 rfl), cd.def_ 8 (d := d_Walk_further) rfl⟩
theorem df_Walk_len (X : K.In h) (G : h.Ns mainGlobals mg) (cd : He.SaysD fa fn K) : Dm K "Walk" "__len__" "Walk.__len__" s_Walk_len := ⟨He.meth_ok (cd.fact 2 rfl), cd.def_ 9 (d := d_Walk_len) rfl⟩
theorem df_Walk_eq (X : K.In h) (G : h.Ns mainGlobals mg) (cd : He.SaysD fa fn K) : Dm K "Walk" "__eq__" "Walk.__eq__" s_Walk_eq := ⟨He.meth_ok (cd.fact 3 rfl), cd.def_ 10 (d := d_Walk_eq) rfl⟩
theorem df_deal (X : K.In h) (G : h.Ns mainGlobals mg) (cd : He.SaysD fa fn K) : Df K mg "_law_deal" s_deal := by
  obtain ⟨fd, F⟩ := cd.def_ 11 (d := d_deal) rfl
  exact ⟨fd, F, He.glo_ok X G (cd.fact 10 rfl)⟩
theorem df_draw (X : K.In h) (G : h.Ns mainGlobals mg) (cd : He.SaysD fa fn K) : Df K mg "_law_draw" s_draw := by
  obtain ⟨fd, F⟩ := cd.def_ 12 (d := d_draw) rfl
  exact ⟨fd, F, He.glo_ok X G (cd.fact 11 rfl)⟩
theorem df_pick (X : K.In h) (G : h.Ns mainGlobals mg) (cd : He.SaysD fa fn K) : Df K mg "_law_pick" s_pick := by
  obtain ⟨fd, F⟩ := cd.def_ 13 (d := d_pick) rfl
  exact ⟨fd, F, He.glo_ok X G (cd.fact 12 rfl)⟩
theorem df_value (X : K.In h) (G : h.Ns mainGlobals mg) (cd : He.SaysD fa fn K) : Df K mg "_law_value" s_value := by
  obtain ⟨fd, F⟩ := cd.def_ 14 (d := d_value) rfl
  exact ⟨fd, F, He.glo_ok X G (cd.fact 13 rfl)⟩
theorem df_words (X : K.In h) (G : h.Ns mainGlobals mg) (cd : He.SaysD fa fn K) : Df K mg "_law_words" s_words := by
  obtain ⟨fd, F⟩ := cd.def_ 15 (d := d_words) rfl
  exact ⟨fd, F, He.glo_ok X G (cd.fact 14 rfl)⟩
theorem df_bare_right (X : K.In h) (G : h.Ns mainGlobals mg) (cd : He.SaysD fa fn K) : Df K mg "_law_bare_right" s_bare_right := by
  obtain ⟨fd, F⟩ := cd.def_ 16 (d := d_bare_right) rfl
  exact ⟨fd, F, He.glo_ok X G (cd.fact 15 rfl)⟩
theorem facts {f : Addr} (X : K.In h) (G : h.Ns mainGlobals mg) (hfa : mg ("law" : Str) = some (.ref f)) (cd : He.SaysD fa fn K) (cx : ex K = true) :
    ∃ fd : FuncData, FunD K "law" "law" (defArgs s_law) (defBody s_law) (defScope s_law) [] [] f fd ∧ (∀ (s : Shared) (v : Value), BindsTo s fd ⟨[v], []⟩ [("_law_script", v)]) ∧ BodyG P w K mg N_law (defScope s_law) (defBody s_law) 8 63 := by
  obtain ⟨fd, F⟩ := cd.def_ 17 (d := d_law) rfl
  have T := tx_of X G cd cx
  have e := hfa.symm.trans (He.glo_ok X G (cd.fact 16 rfl))
  cases e
  have b := FunD.bindsA (ps := ["_law_script"]) F bd_law
  refine ⟨fd, F, fun s v => b s [v] rfl, fun base f a cdv s H ns few hS hr => ?_⟩
  have c_draw := c_draw (P := P) (w := w) (base := base) (df_draw X G cd) T
  have c_pick := c_pick (df_pick X G cd) T c_draw
  have c_deal := c_deal (P := P) (w := w) (base := base) (df_deal X G cd) T
  have c_words := c_words (df_words X G cd) T c_draw c_pick
  have c_is_whole := c_is_whole (P := P) (w := w) (base := base) (df_is_whole X G cd) T
  have c_is_number := c_is_number (df_is_number X G cd) T c_is_whole
  have c_is_row := c_is_row (P := P) (w := w) (base := base) (df_is_row X G cd) T
  have c_is_numeral := c_is_numeral (P := P) (w := w) (base := base) (df_is_numeral X G cd) T
  have c_is_person := c_is_person (df_is_person X G cd) T c_is_numeral
  have c_is_event := c_is_event (df_is_event X G cd) T c_is_numeral c_is_person
  have c_mk2 := m_Walk_mk (df_Walk_init X G cd) T c_is_number c_is_row c_is_event
  have c_mk := c_mk2.1
  have c_mk0 := c_mk2.2
  have c_upto := met_ (P := P) (w := w) (mg := mg) (base := base) (df_Walk_upto X G cd) T.cls bd_Walk_upto fun F => ok_upto F T c_mk
  have c_further := met_ (P := P) (w := w) (mg := mg) (base := base) (df_Walk_further X G cd) T.cls bd_Walk_further fun F => ok_further F T c_is_row c_mk
  have c_len := lenOf_ (P := P) (w := w) (mg := mg) (base := base) (df_Walk_len X G cd) bd_Walk_len fun F => ok_len F T
  have c_eq := eqOf_ (P := P) (w := w) (mg := mg) (base := base) (df_Walk_eq X G cd) bd_Walk_eq fun F => ok_eq F T
  have c_value0 := c_value_at (P := P) (w := w) (base := base) (j := 0) (sp := spNo) 0 (df_value X G cd) T c_draw c_pick (c_value_no (df_value X G cd)) (.inl rfl)
  have c_value1 := c_value_at (P := P) (w := w) (base := base) (j := 2) (sp := spVal K 0) 1 (df_value X G cd) T c_draw c_pick c_value0 (.inr ⟨0, rfl, rfl⟩)
  have c_value2 := c_value_at (P := P) (w := w) (base := base) (j := 4) (sp := spVal K 1) 2 (df_value X G cd) T c_draw c_pick c_value1 (.inr ⟨1, rfl, rfl⟩)
  have c_bare := c_bare (df_bare_right X G cd) T c_mk c_mk0 c_eq c_len c_upto
  exact ok_law T c_deal c_draw c_pick c_words c_value2 c_mk c_bare c_eq c_len c_upto c_further f a cdv s H ns few hS hr
end
end Lw
open PySem PySem.W PySem.Calls PyProof.Rows
theorem PySem.Challenge.cw_hushsteps_k13_walks_made_holds : PySem.Challenge.rw_hushsteps_k13_walks_made.Holds := by
  w_on; o_law
  refine HandSHeadRun.head_any (r := OpenLaw.row PySem.Challenge.rw_hushsteps_k13_walks_made) (q := view (OpenLaw.row PySem.Challenge.rw_hushsteps_k13_walks_made).prog [23]) (H := Lw.hk) (ob := Lw.ob) (M := 6000) (loose := Lw.names) (d := HandSHeadRun.topDef (OpenLaw.row PySem.Challenge.rw_hushsteps_k13_walks_made).prog 23) (kwd := []) Lw.ob_eq
    (by kernel_rfl) (fun s => by kernel_rfl) Lw.run (by kernel_rfl) (by kernel_rfl) (by kernel_rfl) (by rfl) (by first | assumption | decide +kernel) (by decide +kernel) ⟨rfl, rfl, rfl, rfl, rfl, by decide +kernel⟩ ?hw ?hc
  case hw => w_witness2
  case hc =>
    refine Hb.walk_ofG (l := PySem.Challenge.rw_hushsteps_k13_walks_made) (n := 63) (k := 8) (x := "_law_script") rfl (by decide) (by kernel_rfl) ⟨rfl, by decide, by decide⟩ ?F
    intro w mg fa h Y G hmg0
    obtain ⟨K, KX, c⟩ := Y
    have hmg : mg ("law" : PySem.Str) = some (.ref fa) := by
      have e : (HandSHeadRun.topDef (OpenLaw.row PySem.Challenge.rw_hushsteps_k13_walks_made).prog 23).name = ("law" : PySem.Str) := by kernel_rfl
      rw [← e]
      exact hmg0
    obtain ⟨fd, hF, hb, hB⟩ := Lw.facts (P := (PySem.Challenge.rw_hushsteps_k13_walks_made).prog) (w := w) KX G hmg c.t.d c.more
    exact ⟨K, fd, _, _, _, _, KX, hF, Lw.sc_law, hb, hB⟩
