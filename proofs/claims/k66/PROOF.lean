import PyProof.Rows.All
import Wide.All
import OpenK.AllK
import Wide.FinOn
import HandS.ForMost
import HandS.Strs
import HandS.Zip
import KE.SortData
import HandS.Codes
import HandS.Defaults
import HandS.IsInst
import HandS.Deep
import HandS.Style
import HandS.TupAny
import HandS.RaiseMore
import HandS.HeadHook1
import HandS.HeadHook2
import HandS.Walk
import KE.SortLaws
import HandS.SetFor
import HandS.Conv
import HandS.OwnEq
import HandS.SlotsOwn
import HandS.More
import PyProof.InstNe
import PyProof.CallStr
import HandS.Set
import HandS.Property
import HandS.HeadHook3
import HandS.HeadHook4
import HandS.ClsMeth
import PyProof.Rows.StrMeet
import PyProof.Rows.SortStr
import KE.GoesMore
import HandS.Ends
import HandS.HeadEnd
import PyProof.ReprRoads
import HandS.TupMul
import HandS.ForExc
import HandS.ExcInit
import HandS.ExcField
import HandS.ExcIs
import KE.KExcIs
import PyProof.CallFns
import HandS.Head0
import Wide.Once
import HandS.Head1
import HandS.Head2
import HandS.FStr
import HandS.Text
import PyProof.StrLawsRepr
import HandS.TupLe
import PySem.Challenge.RW_hushsteps_k66_whole_deeds_taken_back
set_option Elab.async false
set_option linter.all false
set_option maxRecDepth 100000
set_option maxHeartbeats 4000000
/-! Sets of unlike texts told by their length; sorted lists of pairs of texts. -/
namespace Hb
open PySem PySem.Spec PyProof.Rows L2

theorem grown_text (xs : List Str) (nd : xs.Nodup) {i : Nat} (hi : i < xs.length) : ((xs.take i).any (· == xs.getD i Str.empty)) = false := by
  have e1 : xs.getD i Str.empty = xs[i] := by rw [List.getD_eq_getElem?_getD, List.getElem?_eq_getElem hi] <;> rfl
  rw [e1, Bool.eq_false_iff]
  intro hb
  obtain ⟨y, hy, ey⟩ := List.any_eq_true.mp hb
  rw [eq_of_beq ey] at hy
  obtain ⟨j, hj, ej⟩ := List.mem_iff_getElem.mp hy
  rw [List.length_take] at hj
  rw [List.getElem_take] at ej
  exact absurd ej (List.pairwise_iff_getElem.mp nd j i (by omega) hi (by omega))
theorem more_text (xs : List Str) {i : Nat} (hi : i < xs.length) : xs.take (i + 1) = xs.take i ++ [xs.getD i Str.empty] := by
  have e1 : xs.getD i Str.empty = xs[i] := by rw [List.getD_eq_getElem?_getD, List.getElem?_eq_getElem hi] <;> rfl
  rw [e1, List.take_add_one, List.getElem?_eq_getElem hi] <;> rfl

section
variable {prog : Program} {w : World} {A : Around} {R : Result → Shared → Prop} {I : Addr} {fp wr : List Addr} {G : Array GenState → Array GenState → Prop} {n : Nat} {P : Nat → Value → Prop} {Z : Nat → Shared → Prop}
/-- the turns of set.update over unlike texts -/
theorem turns_text (W : WalksS prog w A.in1 I fp wr G n P Z) (S : Addr) (apart : S ∉ fp) (xs : List Str) (len : xs.length = n) (nd : xs.Nodup) (few : n + 1 < scanBound)
    (told : ∀ i v, P i v → ∃ t, v = .str (xs.getD i Str.empty) t) : ∀ (left i : Nat) (s : Shared), n - i = left → i ≤ n → Z i s →
      s.heap.SetOf (PySem.strKind prog w) S (fun z => (xs.take i).any (· == z)) i →
      (∀ s', Moved (S :: wr) G s s' → s'.heap.SetOf (PySem.strKind prog w) S (fun z => (xs.take n).any (· == z)) n → R (.ok (.ret .none)) s') →
      codeAny (model prog w) A (.builtin "set.update.loop" ⟨[.ref S, .ref I], []⟩) R s := by
  have nwr : S ∉ wr := fun h => apart (W.sub _ h)
  have up : ∀ b ∈ wr, b ∈ S :: wr := fun b hb => List.mem_cons_of_mem _ hb
  intro left
  induction left with
  | zero =>
    intro i s hk hi hst hS hR
    obtain rfl : i = n := by omega
    refine codeAny_builtin PyProof.Rows.F.entry_set_update_loop (by
      rw [Around.under_plainId PyProof.Rows.F.plain_set_update_loop _]; show wpAny _ A.in1 (pyNext (.ref I) >>= _) _ _ s
      refine wpAny_bind (W.done s _ _ hst fun s' hm => ?_); show wpAny _ A.in1 (ret Value.none) _ _ s'
      refine wpAny_pure (hR s' (hm.mono up) ?_); obtain ⟨o, es, ep, t, ho, rest⟩ := hS; exact ⟨o, es, ep, t, hm.heap S _ nwr ho, rest⟩)
  | succ left ih =>
    intro i s hk hi hst hS hR
    have lt : i < n := by omega
    have lt2 : i < xs.length := by omega
    refine codeAny_builtin PyProof.Rows.F.entry_set_update_loop (by
      rw [Around.under_plainId PyProof.Rows.F.plain_set_update_loop _]; show wpAny _ A.in1 (pyNext (.ref I) >>= _) _ _ s
      refine wpAny_bind (W.item i s _ _ lt hst fun v s' hP hst' hm => ?_)
      obtain ⟨t, rfl⟩ := told i v hP
      have hS' : s'.heap.SetOf (PySem.strKind prog w) S (fun z => (xs.take i).any (· == z)) i := by
        obtain ⟨o, es, ep, tb, ho, rest⟩ := hS; exact ⟨o, es, ep, tb, hm.heap S _ nwr ho, rest⟩
      show wpAny _ A.in1 (holding [Value.str (xs.getD i Str.empty) t] (setAdd S (.str (xs.getD i Str.empty) t)) >>= _) _ _ s'
      refine wpAny_bind (wpAny_holding ?_); unfold setAdd
      refine wpAny_holding (wpAny_bind ((PySem.strKind prog w).pyHash (k := xs.getD i Str.empty) (strKind_is _ _ _ _) ?_))
      refine wpAny_setAddHashed_of (knd := PySem.strKind prog w) (s := { s' with toks := s'.toks + 1 }) (strKind_is prog w _ _) rfl hS' (by omega) fun h' same hS2 => ?_
      have hS3 : h'.SetOf (PySem.strKind prog w) S (fun z => (xs.take (i + 1)).any (· == z)) (i + 1) := PyProof.Rows.SetOf_congr hS2 (fun z => by
        rw [more_text xs lt2, List.any_append]
        by_cases e : z = xs.getD i Str.empty
        · subst e; simp
        · have q : (xs.getD i Str.empty == z) = false := beq_eq_false_iff_ne.mpr fun h => e h.symm
          simp only [List.any_cons, List.any_nil, q, Bool.or_false, e, decide_false]) (by rw [if_neg (by rw [grown_text xs nd lt2]; decide)])
      refine wpAny_pure ⟨plainId_quiet PyProof.Rows.F.plain_set_update_loop _, ih (i + 1) _ (by omega) lt (W.frame _ s' _ _ hst' (Nat.le_succ _) fun b hb o e => ?_) hS3 fun s'' hm2 hS4 => ?_⟩
      · rw [same.2 b (fun h : b = S => apart (h ▸ hb))]; exact e
      · refine hR s'' (Moved.trans W.gtrans ((hm.mono up).then_heap (Nat.le_succ _) fun b o hb e => ?_) hm2) hS4
        rw [same.2 b (fun h : b = S => hb (by rw [h]; exact List.mem_cons_self))]; exact e)
end
end Hb
set_option Elab.async false
set_option linter.all false
set_option maxRecDepth 100000
set_option maxHeartbeats 8000000
namespace Hb
open PySem PySem.Spec PyProof.Rows L2
section
variable {prog : Program} {w : World} {A : Around} {E : Value → Shared → Prop} {s : Shared}
/-- the new empty set, as the model makes it -/
abbrev bareSet (led : Bool) : Obj := { cls := .type "set", dict := none, data := .set #[] 0 (.fresh 0 0 led) }
/-- set(xs) of a list of unlike texts -/
theorem set_texts {l : Addr} {its : Array Value} {xs : List Str} {Q : Value → Shared → Prop} (calm : A.handled = none) (at_ : s.heap.IsList l its) (are : StrsAre its.toList xs) (nd : xs.Nodup) (few : xs.length + 1 < scanBound)
    (k : ∀ (h' : Heap) (tk : Nat), h'.SetOf (PySem.strKind prog w) s.heap.objs.size (fun z => (xs.take xs.length).any (· == z)) xs.length → (∀ b o, s.heap.get? b = some o → h'.get? b = some o) → Q (.ref s.heap.objs.size) { s with heap := h', toks := tk }) :
    wpAny (model prog w) A (call (.type "set") [.ref l]) Q E s := by
  have size : its.size = xs.length := by have q := are.length; rw [Array.length_toList] at q; exact q
  obtain ⟨c, tl, mro⟩ := F.called_set.mro
  have f1 := F.called_set.made; have f2 := F.called_set.sub; have f3 := F.called_set.notType; have f4 := F.called_set.canCreate; have f5 := F.typeCall_set_1 (.ref l)
  refine wpAny_call (codeAny_of_tree (by
    show wpAny _ _ (callAny (.type "set") _) _ _ _
    refine wpAny_pure ⟨Code.quiet_builtin _ (by decide +kernel), codeAny_builtin F.entry_type_call ?_⟩
    rw [Around.under_plain (weight_type_call_type "set" [.ref l] []) rfl]
    repeat (any_goals (first | assumption | wp_step))
    refine codeAny_mono (code_set_new_1 (.ref l) (E := E) (Q₁ := fun v z => ∃ led : Bool, v = .ref s.heap.objs.size ∧ z = { s with heap := s.heap.push (bareSet led) }) fun led => ⟨led, rfl, rfl⟩) fun r z hr => ?_
    match r, hr with
    | .error e, hr => exact hr
    | .ok .next, hr => exact hr.elim
    | .ok .brk, hr => exact hr.elim
    | .ok .cont, hr => exact hr.elim
    | .ok (.ret v), ⟨led, e1, e2⟩ =>
      subst e1 e2
      have mine : (s.heap.push (bareSet led)).get? s.heap.objs.size = some (bareSet led) := Heap.get?_push_size _ rfl
      have kind : Shared.TypeIs { s with heap := s.heap.push (bareSet led) } (.ref s.heap.objs.size) "set" := ⟨_, mine, rfl⟩
      have f6 := F.called_set.init.lookup; have f7 := F.called_set.init.bind (.ref s.heap.objs.size)
      repeat (any_goals (first | assumption | wp_step))
      refine codeAny_mono (codeAny_call_builtin (R := wants (fun r z => r = .none ∧ ∃ h' tk, z = { s with heap := h', toks := tk } ∧
        h'.SetOf (PySem.strKind prog w) s.heap.objs.size (fun z => (xs.take xs.length).any (· == z)) xs.length ∧ ∀ b o, s.heap.get? b = some o → h'.get? b = some o) E) F.called_set.init.plain F.entry_set_init (check_set_init_1 kind ?_)) fun r2 z2 hr2 => ?_
      · obtain ⟨⟨ocls, odict, odata, oslots⟩, ho, hc, nl, hd⟩ := at_
        simp only at hc hd; subst hc hd
        have ho2 : (s.heap.push (bareSet led)).get? l = some { cls := .type "list", dict := odict, data := .seq its nl, slots := oslots } := Heap.get?_push_of_some _ ho
        have g1 := F.sub_list_set; have g2 := F.sub_list_frozenset; have g3 : (Value.type "list" == Value.type "dict") = false := by decide
        have ml : (s.heap.push (bareSet led)).IsList l its := ⟨_, ho2, rfl, nl, rfl⟩
        unfold Builtin.«set.__init__» noKeywords Builtin.Frozenset.updateFrom
        generalize hI : pyIter = It
        wp_walk
        subst hI
        have lo : l < s.heap.objs.size := Heap.lt_size ho
        have far : l ≠ (s.heap.push (bareSet led)).objs.size := by rw [Heap.size_push]; exact Nat.ne_of_lt (Nat.lt_succ_of_lt lo)
        refine wpAny_pyIter_list ml (wpAny_bind (wpAny_runValue (turns_text ((Walks.list (by simp [calm]) _ l far its).toS) s.heap.objs.size (by
            rw [Heap.size_push]; simp only [List.mem_cons, List.not_mem_nil, or_false, not_or]
            exact ⟨Nat.ne_of_lt (Nat.lt_succ_self _), Nat.ne_of_gt lo⟩) xs size.symm nd (by omega) (fun i v hv => SS.strs_at are i v (by rw [Array.getElem?_toList]; exact hv)) (its.size - 0) 0 _ (by omega) (Nat.zero_le _)
          ⟨⟨_, Heap.get?_push_size _ rfl, rfl, rfl⟩, (ml.push _)⟩ ?zer ?fin1)))
        case zer =>
          have e0 : ((s.heap.push (bareSet led)).push { cls := .type "list_iterator", data := .fields #[.ref l, .int 0 0] }).get? s.heap.objs.size = some (bareSet led) := Heap.get?_push_of_some _ mine
          exact SetOf_congr ((setObjOf_fresh (knd := PySem.strKind prog w) led).setOf e0 (by unfold scanBound; omega)) (fun _ => rfl) rfl
        case fin1 =>
          rintro ⟨h', g', d', tk', os'⟩ hm hS
          obtain rfl : g' = s.gens := hm.gens
          obtain rfl : d' = s.drawn := hm.drawn
          obtain rfl : os' = s.os := hm.os
          show wpAny _ _ _ _ _ _
          refine wpAny_pure (by
            show wpAny _ _ (ret Value.none) _ _ _
            rw [size] at hS
            refine wpAny_pure ⟨rfl, h', tk', rfl, hS, fun b o e => hm.heap b o ?_ (Heap.get?_push_of_some _ (Heap.get?_push_of_some _ e))⟩
            have lb := Heap.lt_size e
            rw [Heap.size_push]; simp only [List.mem_cons, List.not_mem_nil, or_false, not_or]
            exact ⟨Nat.ne_of_lt lb, Nat.ne_of_lt (Nat.lt_succ_of_lt lb)⟩)
      · match r2, hr2 with
        | .error e, h => exact h
        | .ok .next, h => exact h.elim
        | .ok .brk, h => exact h.elim
        | .ok .cont, h => exact h.elim
        | .ok (.ret v), ⟨e1, h', tk, e2, hS, hk⟩ =>
          subst e1 e2
          repeat (any_goals (first | assumption | wp_step))
          exact k _ _ hS hk))
end
end Hb
namespace Hb
open PySem PySem.Spec PyProof.Rows L2
/-- len(set(xs)), xs a list of unlike texts, or of unlike ints -/
def tLenSet2 (K : PySem.W.Frag) (ta : TE) : TE := fun σ H Q => ta σ H fun x H1 => ∃ l : Addr, x = .ref l ∧
  ((∃ xs : List Str, SqL K H1 l (xs.map V.str) ∧ xs.Nodup ∧ xs.length ≤ 4000 ∧ Q (.int xs.length) H1) ∨ ∃ ns : List Int, SqL K H1 l (ns.map V.int) ∧ ns.Nodup ∧ ns.length ≤ 4000 ∧ Q (.int ns.length) H1)
theorem pe_lenSet2 {X : Cx} {a : Expr} {ta : TE} {p p2 q pos : Pos} (hg : Gl X "len") (hm : X.mg "len" = none) (hg2 : Gl X "set") (hm2 : X.mg "set" = none) (ha : PE X a ta) (calm : X.calm = true := by rfl)
    (na : starEach [a] X.env = (false, eval a X.env) :: starEach [] X.env := by rfl) : PE X (.Call (.Name "len" p) [.Call (.Name "set" p2) [a] [] q] [] pos) (tLenSet2 X.K ta) := by
  refine ⟨fun pins s σ H Q I h => Call_ (ld_blt I hg hm boot_len (callWith_builtin1 (args_cons (Call_ (ld_blt I hg2 hm2 boot_set
    (callWith_type1 (args_cons (thn (ha.run pins s σ H _ I h) fun v z ⟨x, H1, J, r, q⟩ => args_nil ?_) na) na rfl))) rfl) rfl rfl))⟩
  obtain ⟨l, rfl, q⟩ := q
  cases r
  have fin : ∀ (n : Nat) (h' : Heap) (tk : Nat) (κ : Type) (i1 : DecidableEq κ) (i2 : BEq κ) (i3 : LawfulBEq κ) (kd : KeyKind X.prog X.w κ) (S : κ → Bool), n ≤ 4000 → h'.SetOf kd z.heap.objs.size S n → (∀ b o, z.heap.get? b = some o → h'.get? b = some o) → Q (.int n) H1 →
      wpAny (model X.prog X.w) X.A (spliced (backTo pos (starEach [] X.env))) (fun vs y => wpAny (model X.prog X.w) X.A (call (.builtin "len") (Value.ref z.heap.objs.size :: vs)) (EP X pins σ Q) X.xe y) X.xe { z with heap := h', toks := tk } := by
    intro n h' tk κ i1 i2 i3 kd S hn hS hk q
    refine args_nil ?_
    obtain ⟨o, es, ep, t, ho, hex, hd, _, _, _, hf, e⟩ := hS
    have J2 : Inv X pins σ H1 { z with heap := h', toks := tk } := J.kept hk
    exact call_len_set ho hex hd hf (by rw [e] <;> omega) ⟨.int n, H1, J2.tok _, ⟨_, by rw [e]⟩, q⟩
  rcases q with ⟨xs, hq, nd, few, q⟩ | ⟨ns, hq, nd, few, q⟩
  · obtain ⟨its, r, pl, hz⟩ := J.list hq
    exact set_texts (J.ok.hd calm) pl.isList (by simpa using strsAre_of r) nd (by unfold scanBound; omega) fun h' tk hS hk => fin _ h' tk _ inferInstance inferInstance inferInstance _ _ few hS hk q
  · obtain ⟨its, r, pl, hz⟩ := J.list hq
    have size : its.toArray.size = ns.length := by rw [List.size_toArray, ← r.length, List.length_map]
    refine call_set_list (J.ok.hd calm) pl.isList (by simpa using RZ.intsAre_vals r) (by rw [size]; unfold scanBound; omega) fun h' tk hS hk => ?_
    rw [size, RZ.firstMet_nodup nd ns.length (Nat.le_refl _)] at hS
    rw [List.take_length] at hS
    exact fin _ h' tk _ inferInstance inferInstance inferInstance _ _ few hS (fun b o e => hk b o (Heap.lt_size e) e) q
end Hb
set_option Elab.async false
set_option linter.all false
set_option maxRecDepth 100000
set_option maxHeartbeats 8000000
namespace Hb
open PySem PySem.Spec PyProof.Rows L2
section
variable {prog : Program} {w : World} {A : Around} {E : Value → Shared → Prop} {s : Shared}
/-- what it holds, taken into a list that nobody keeps: the heap behind it, exactly -/
theorem taken {Q : List Value → Shared → Prop} (it : Addr) {T : String} {o : Obj} {vs : List Value} {n : Nat} (hT : T = "list" ∨ T = "tuple") (ho : s.heap.get? it = some o) (hc : o.cls = .type T) (hd : o.data = .seq vs.toArray n) (hL : vs.length ≤ sizeLine)
    (k : Q vs { s with heap := (s.heap.push (seqObj "list" #[] 0)).update s.heap.objs.size (Obj.mapSeq (· ++ vs.toArray)) }) : wpAny (model prog w) A (collect (.ref it)) Q E s := by
  have e1 : (s.heap.push (seqObj "list" #[] 0)).get? s.heap.objs.size = some { cls := .type "list", data := .seq #[] 0 } := Heap.get?_push_size _ rfl
  have e2 := Heap.get?_update_self (Obj.mapSeq (· ++ vs.toArray)) e1 rfl
  have last : wpAny (model prog w) A (match Value.ref s.heap.objs.size with
      | Value.ref a => (do match (← load a).data with
          | Data.seq xs _ => pure xs.toList
          | _ => unsupported "internal:collect")
      | _ => unsupported "internal:collect") Q E { s with heap := (s.heap.push (seqObj "list" #[] 0)).update s.heap.objs.size (Obj.mapSeq (· ++ vs.toArray)) } := by
    show wpAny _ A (load s.heap.objs.size >>= _) _ _ _
    refine wpAny_bind (wpAny_load e2 (wpAny_pure ?_)); show Q ((#[] : Array Value) ++ vs.toArray).toList _
    rw [show ((#[] : Array Value) ++ vs.toArray).toList = vs by simp]; exact k
  unfold collect
  refine wpAny_bind (wpAny_runValue (codeAny_builtin F.entry_proto_collect (by
    rw [Around.under_plainId F.plain_proto_collect _]; show wpAny _ A.in1 (newList [] >>= fun l => again (.builtin "list.__iadd__" ⟨[l, .ref it], []⟩)) _ _ s
    refine wpAny_bind (wpAny_newObj_type (wpAny_pure ⟨plainId_quiet F.plain_list_iadd _, codeAny_builtin F.entry_list_iadd (by
      rw [Around.under_plainId F.plain_list_iadd _]; show wpAny _ A.in1 (Builtin.List.listExtendWith (.ref s.heap.objs.size) (.ref it) (.ref s.heap.objs.size)) _ _ _
      refine wpAny_mono (wpAny_extend_seq (hsz := by rw [List.size_toArray]; exact hL) (A := A) (R := fun r z => r = .ok (.ret (.ref s.heap.objs.size)) ∧ z = { s with heap := (s.heap.push (seqObj "list" #[] 0)).update s.heap.objs.size (Obj.mapSeq (· ++ vs.toArray)) })
        (s := { s with heap := s.heap.push (seqObj "list" #[] 0) }) _ it _ 0 hT e1 (Heap.get?_push_of_some _ ho) hc hd ⟨rfl, rfl⟩) (fun f z h => ?_) (fun e z h => absurd h.1 (by simp))
      cases f with
      | done f => obtain ⟨e, rfl⟩ := h; cases e; exact last
      | again c => exact ⟨h.1, codeAny_mono h.2 fun r z2 hr => by obtain ⟨rfl, rfl⟩ := hr; exact last⟩)⟩)))))
/-- sorted(it) of a list or a tuple whose items read as data -/
theorem sorted_any {β : Type} {it : Addr} {T : String} {o : Obj} {vs : List Value} {n : Nat} {bs : List β} {enc : β → PyData} {R : Value → β → Prop} {Q : Value → Shared → Prop} (hT : T = "list" ∨ T = "tuple")
    (ho : s.heap.get? it = some o) (hc : o.cls = .type T) (hd : o.data = .seq vs.toArray n) (e : PySem.W.EachIs R vs bs) (er : PySem.W.EachIs (fun v b => ∃ as, Reads s.heap v (enc b) as) vs bs)
    (hal : PySem.W.AllAlike (bs.map enc)) (hk : PySem.W.Sortable (bs.map enc)) (hL : bs.length ≤ sizeLine) (hu : ∀ b, b ∈ bs → A.units + 2 + (enc b).depth < cLine)
    (k : ∀ (h' : Heap) (p : Addr) (out : List Value) (c : Nat), s.heap.objs.size ≤ p → (∀ b u, s.heap.get? b = some u → h'.get? b = some u) → h'.get? p = some (seqObj "list" out.toArray c) →
      PySem.W.EachIs R out (bs.mergeSort (PySem.W.dataLe false enc)) → Q (.ref p) { s with heap := h' }) :
    wpAny (model prog w) A (call (.builtin "sorted") [.ref it]) Q E s := by
  have len : vs.length = bs.length := e.length
  refine Calls.call_function_entry kind_sorted plain_sorted entry_sorted (args_sorted1 _) (by
    unfold Builtin.«sorted»
    refine wpAny_bind (m := checkCount "sorted" 1 1 _) (wpAny_pure (wpAny_bind (taken it hT ho hc hd (by rw [len]; exact hL) (wpAny_bind (wpAny_newList ?_ (by rw [len]; exact hL))))))
    have h1s : ((s.heap.push (seqObj "list" #[] 0)).update s.heap.objs.size (Obj.mapSeq (· ++ vs.toArray))).objs.size = s.heap.objs.size + 1 := by rw [Heap.size_update, size_push']
    have k1 : ∀ b u, s.heap.get? b = some u → ((s.heap.push (seqObj "list" #[] 0)).update s.heap.objs.size (Obj.mapSeq (· ++ vs.toArray))).get? b = some u := fun b u q =>
      (Heap.get?_update_other _ _ (Nat.ne_of_gt (Heap.lt_size q))).trans (Heap.get?_push_of_some _ q)
    show wpAny _ _ _ _ _ { s with heap := ((s.heap.push (seqObj "list" #[] 0)).update s.heap.objs.size (Obj.mapSeq (· ++ vs.toArray))).push (seqObj "list" vs.toArray 0) }
    generalize ((s.heap.push (seqObj "list" #[] 0)).update s.heap.objs.size (Obj.mapSeq (· ++ vs.toArray))) = h1 at h1s k1 ⊢
    have le1 : s.heap.objs.size ≤ h1.objs.size := by omega
    have at2 : (h1.push (seqObj "list" vs.toArray 0)).get? h1.objs.size = some (seqObj "list" vs.toArray 0) := Heap.get?_push_size _ rfl
    have k2 : ∀ b u, s.heap.get? b = some u → (PySem.W.sortingHeap (h1.push (seqObj "list" vs.toArray 0)) h1.objs.size vs).get? b = some u := fun b u q =>
      PySem.W.sortingHeap_old (Nat.ne_of_lt (Heap.lt_size (k1 b u q))) (Heap.get?_push_of_some _ (k1 b u q))
    have er2 : PySem.W.EachIs (fun v b => ∃ as, Reads (PySem.W.sortingHeap (h1.push (seqObj "list" vs.toArray 0)) h1.objs.size vs) v (enc b) as) vs bs := er.mono fun _ _ ⟨as, r⟩ => ⟨as, PyProof.Rows.Reads.keeps k2 r⟩
    obtain ⟨c, e2⟩ := sortedHeap_at (vs := vs) (out := (PySem.W.sortVals (PySem.W.dataKind (PySem.W.sortingHeap (h1.push (seqObj "list" vs.toArray 0)) h1.objs.size vs) (bs.map enc)) false vs vs).toArray) at2
    have k3 : ∀ b u, s.heap.get? b = some u → (sortedHeap (h1.push (seqObj "list" vs.toArray 0)) h1.objs.size vs (PySem.W.sortVals (PySem.W.dataKind (PySem.W.sortingHeap (h1.push (seqObj "list" vs.toArray 0)) h1.objs.size vs) (bs.map enc)) false vs vs).toArray).get? b = some u := fun b u q => by
      have q1 := k1 b u q
      have lt := Heap.lt_size q1
      rw [sortedHeap_old (Nat.ne_of_lt lt) (by rw [size_push']; exact Nat.lt_succ_of_lt lt)]
      exact Heap.get?_push_of_some _ q1
    refine wpAny_bind (wpAny_holding (wpAny_call_entry slot_list_sort ⟨_, at2, rfl⟩ entry_list_sort (PySem.W.list_sort_vals (s := { s with heap := h1.push (seqObj "list" vs.toArray 0) }) at2
      (PySem.W.SortsAt.data (s := { s with heap := PySem.W.sortingHeap (h1.push (seqObj "list" vs.toArray 0)) h1.objs.size vs }) (PySem.W.each_map (R := fun v d => ∃ as, Reads (PySem.W.sortingHeap (h1.push (seqObj "list" vs.toArray 0)) h1.objs.size vs) v d as) enc er2) hal hk (PySem.W.bound_map hu)) (by rw [len]; exact hL) ?_) (args_list_sort _)))
    refine ⟨_, rfl, wpAny_pure ⟨_, rfl, k _ h1.objs.size _ c le1 k3 e2 (PySem.W.sortVals_data false e er2 hal)⟩⟩)
end
end Hb
set_option Elab.async false
set_option linter.all false
set_option maxRecDepth 100000
set_option maxHeartbeats 8000000
namespace Hb
open PySem PySem.Spec PyProof.Rows L2
section
variable {X : Cx} {β : Type}
theorem each_of {R : Value → V × β → Prop} : ∀ {zs : List (V × β)} {us : List Value}, Vals (zs.map (·.1)) us → (∀ u z, z ∈ zs → RelV z.1 u → R u z) → PySem.W.EachIs R us zs
  | [], _, r, _ => by cases r; exact .nil
  | z :: zs, _, r, h => by
    cases r with
    | cons r1 r2 => exact .cons (h _ _ List.mem_cons_self r1) (each_of r2 fun u y m q => h u y (List.mem_cons_of_mem _ m) q)
theorem each_back : ∀ {us : List Value} {zs : List (V × β)}, PySem.W.EachIs (fun u (z : V × β) => RelV z.1 u) us zs → Vals (zs.map (·.1)) us
  | _, _, .nil => .nil
  | _, _, .cons h t => .cons h (each_back t)
/-- sorted(it), it a list or a tuple of data of one kind -/
def rSortedAny (K : PySem.W.Frag) (enc : β → PyData) : List V → Hp → VK → Prop := fun vs H Q => ∃ (a : Addr) (zs : List (V × β)), vs = [.ref a] ∧ (SqL K H a (zs.map (·.1)) ∨ SqT K H a (zs.map (·.1))) ∧
  (∀ z ∈ zs, Dp K H z.1 (enc z.2)) ∧ PySem.W.AllAlike (zs.map fun z => enc z.2) ∧ PySem.W.Sortable (zs.map fun z => enc z.2) ∧ (∀ z ∈ zs, (enc z.2).depth ≤ 60) ∧
  ∀ p, H p = none → Q (.ref p) (upd H p (.lst ((zs.mergeSort (PySem.W.dataLe false fun z => enc z.2)).map (·.1))))
theorem cr_sortedAny (enc : β → PyData) (hu : X.A.units + 64 < cLine) : CallR X (.builtin "sorted") (rSortedAny X.K enc) := by
  intro pins s σ H vs us Q I r h
  obtain ⟨a, zs, rfl, hq, hd, hal, hk, hz, q⟩ := h
  rw [Vals.ref1 r]
  have main : ∀ (T : String) (o : Obj) (its : List Value) (n : Nat), (T = "list" ∨ T = "tuple") → s.heap.get? a = some o → o.cls = .type T → o.data = .seq its.toArray n → Vals (zs.map (·.1)) its → (zs.map (·.1)).length ≤ sizeLine →
      wpAny (model X.prog X.w) X.A (call (.builtin "sorted") [.ref a]) (EP X pins σ Q) X.xe s := by
    intro T o its n hT ho hc hdt rv hL
    rw [List.length_map] at hL
    refine sorted_any (R := fun u (z : V × β) => RelV z.1 u) (enc := fun z => enc z.2) hT ho hc hdt (each_of rv fun u z _ q => q) (each_of rv fun u z m q => Dp.reads I _ _ _ (hd z m) q) hal hk hL (fun z m => by have := hz z m; omega) fun h' p out c hp kp at_ eo => ?_
    have lenO : (zs.mergeSort (PySem.W.dataLe false fun z => enc z.2)).length = zs.length := (List.mergeSort_perm _ _).length_eq
    exact ⟨.ref p, _, I.laid (t' := s.toks) kp hp (show ObjOk X.prog X.w _ h' p (.lst _) from ⟨by rw [List.length_map, lenO]; exact hL, out, c, each_back eo, at_⟩), rfl, q p (I.hok.fresh hp)⟩
  rcases hq with hq | hq
  · obtain ⟨its, rv, ⟨o, n, ho, hc, _, hdt⟩, hL⟩ := I.list hq
    exact main _ o its n (.inl rfl) ho hc hdt rv hL
  · obtain ⟨its, rv, ⟨o, ho, hc, n, hdt⟩, hL⟩ := I.tuple hq
    exact main _ o its n (.inr rfl) ho hc hdt rv hL
end
/-! ### pairs of texts -/
def encP (p : Str × Str) : PyData := .tuple [.str p.1, .str p.2]
theorem alike_P (p q : Str × Str) : PySem.W.alike (encP p) (encP q) = true := by simp [encP, PySem.W.alike, PySem.W.alikeAll]
theorem depth_P (p : Str × Str) : (encP p).depth ≤ 60 := by simp [encP, PyData.depth, PyData.depthAll]
end Hb
set_option Elab.async false
set_option linter.all false
set_option maxRecDepth 100000
set_option maxHeartbeats 4000000
namespace Hb
open PySem PySem.Spec PyProof.Rows L2
/-! ### what stays -/
/-- tuples, and what is locked, stay -/
structure TK (H H' : Hp) : Prop where
  t : ∀ b xs, H b = some (.tup xs) → H' b = some (.tup xs)
  z : ∀ b o u, H b = some (.frz o u) → H' b = some (.frz o u)
theorem TK.refl (H : Hp) : TK H H := ⟨fun _ _ h => h, fun _ _ _ h => h⟩
theorem TK.trans {H H1 H2 : Hp} (a : TK H H1) (b : TK H1 H2) : TK H H2 := ⟨fun c xs h => b.t c xs (a.t c xs h), fun c o u h => b.z c o u (a.z c o u h)⟩
theorem Same.tk {H H' : Hp} (s : Same H H') : TK H H' := ⟨fun b xs h => s b _ h, fun b o u h => s b _ h⟩
theorem Same.new {H : Hp} {p : Addr} {o : HO} (h : H p = none) : Same H (upd H p o) := fun b u e => by
  rw [upd_ne (ne_of_none e h)]
  exact e
theorem TK.put {H : Hp} {p : Addr} {o o' : HO} (h : H p = some o') (h1 : ∀ xs, o' ≠ .tup xs) (h2 : ∀ q u, o' ≠ .frz q u) : TK H (upd H p o) := by
  refine ⟨fun b xs e => ?_, fun b q u e => ?_⟩
  · rw [upd_ne (fun z => by rw [z, h] at e; exact h1 xs (Option.some.inj e))]
    exact e
  · rw [upd_ne (fun z => by rw [z, h] at e; exact h2 q u (Option.some.inj e))]
    exact e
section
variable {K : PySem.W.Frag} {H H' : Hp}
theorem SqT.keep (k : TK H H') {a : Addr} {xs : List V} (h : SqT K H a xs) : SqT K H' a xs := by
  rcases h with (h | ⟨o, h⟩) | h
  · exact .inl (.inl (k.t _ _ h))
  · exact .inl (.inr ⟨o, k.z _ _ _ h⟩)
  · exact .inr h
theorem SqL.keep (k : TK H H') {a : Addr} {xs : List V} (h : SqL K H a xs) (hl : H a = some (.lst xs) → H' a = some (.lst xs)) : SqL K H' a xs := by
  rcases h with (h | ⟨o, h⟩) | h
  · exact .inl (.inl (hl h))
  · exact .inl (.inr ⟨o, k.z _ _ _ h⟩)
  · exact .inr h
end
/-! ### data of tuples alone -/
mutual
inductive TD (K : PySem.W.Frag) (H : Hp) : V → PyData → Prop
  | non : TD K H .non .none
  | bl (b : Bool) : TD K H (.bl b) (.bool b)
  | int (i : Int) : TD K H (.int i) (.int i)
  | str (x : Str) : TD K H (.str x) (.str x)
  | tup {a : Addr} {xs : List V} {ds : List PyData} : SqT K H a xs → TDs K H xs ds → TD K H (.ref a) (.tuple ds)
inductive TDs (K : PySem.W.Frag) (H : Hp) : List V → List PyData → Prop
  | nil : TDs K H [] []
  | cons {v : V} {vs : List V} {d : PyData} {ds : List PyData} : TD K H v d → TDs K H vs ds → TDs K H (v :: vs) (d :: ds)
end
section
variable {K : PySem.W.Frag} {H H' : Hp}
mutual
theorem TD.keep (k : TK H H') : ∀ {v : V} {d : PyData}, TD K H v d → TD K H' v d
  | _, _, .non => .non
  | _, _, .bl b => .bl b
  | _, _, .int i => .int i
  | _, _, .str x => .str x
  | _, _, .tup h hs => .tup (SqT.keep k h) (TDs.keep k hs)
theorem TDs.keep (k : TK H H') : ∀ {vs : List V} {ds : List PyData}, TDs K H vs ds → TDs K H' vs ds
  | _, _, .nil => .nil
  | _, _, .cons h hs => .cons (TD.keep k h) (TDs.keep k hs)
end
mutual
theorem TD.dp : ∀ {v : V} {d : PyData}, TD K H v d → Dp K H v d
  | _, _, .non => .non
  | _, _, .bl b => .bl b
  | _, _, .int i => .int i
  | _, _, .str x => .str x
  | _, _, .tup h hs => .tup h (TDs.dp hs)
theorem TDs.dp : ∀ {vs : List V} {ds : List PyData}, TDs K H vs ds → DpAll K H vs ds
  | _, _, .nil => .nil
  | _, _, .cons h hs => .cons (TD.dp h) (TDs.dp hs)
end
theorem TDs.length : ∀ {vs : List V} {ds : List PyData}, TDs K H vs ds → vs.length = ds.length
  | _, _, .nil => rfl
  | _, _, .cons h hs => congrArg Nat.succ (TDs.length hs)
theorem TDs.app : ∀ {vs ws : List V} {ds es : List PyData}, TDs K H vs ds → TDs K H ws es → TDs K H (vs ++ ws) (ds ++ es)
  | _, _, _, _, .nil, h => h
  | _, _, _, _, .cons h hs, h2 => .cons h (TDs.app hs h2)
theorem TDs.at : ∀ {vs : List V} {ds : List PyData} {i : Nat} {v : V}, TDs K H vs ds → vs[i]? = some v → ∃ d, ds[i]? = some d ∧ TD K H v d
  | _, _, _, _, .nil, e => by simp at e
  | _, _, 0, _, .cons h hs, e => by simp at e; subst e; exact ⟨_, rfl, h⟩
  | _, _, i + 1, _, .cons h hs, e => by
    obtain ⟨d, h1, h2⟩ := TDs.at hs (i := i) (by simpa using e)
    exact ⟨d, by simpa using h1, h2⟩
theorem tds_strs : ∀ xs : List Str, TDs K H (xs.map V.str) (xs.map PyData.str)
  | [] => .nil
  | x :: xs => .cons (.str x) (tds_strs xs)
theorem tds_ints : ∀ xs : List Int, TDs K H (xs.map V.int) (xs.map PyData.int)
  | [] => .nil
  | x :: xs => .cons (.int x) (tds_ints xs)
end
/-! ### a deal: the dict at d, its list at g -/
def dealKV (g : Addr) (now mixed turn : Int) : List (Key × V) := [(.inr "great", .ref g), (.inr "now", .int now), (.inr "mixed", .int mixed), (.inr "turn", .int turn)]
theorem deal_great (g : Addr) (now mixed turn : Int) : valV (dealKV g now mixed turn) (Sum.inr "great") = some (.ref g) := rfl
theorem deal_now (g : Addr) (now mixed turn : Int) : valV (dealKV g now mixed turn) (Sum.inr "now") = some (.int now) := rfl
theorem deal_mixed (g : Addr) (now mixed turn : Int) : valV (dealKV g now mixed turn) (Sum.inr "mixed") = some (.int mixed) := rfl
theorem deal_turn (g : Addr) (now mixed turn : Int) : valV (dealKV g now mixed turn) (Sum.inr "turn") = some (.int turn) := rfl
theorem put_now (g : Addr) (now mixed turn z : Int) : putK (dealKV g now mixed turn) (Sum.inr "now") (.int z) = dealKV g z mixed turn := rfl
theorem put_mixed (g : Addr) (now mixed turn z : Int) : putK (dealKV g now mixed turn) (Sum.inr "mixed") (.int z) = dealKV g now z turn := rfl
theorem put_turn (g : Addr) (now mixed turn z : Int) : putK (dealKV g now mixed turn) (Sum.inr "turn") (.int z) = dealKV g now mixed z := rfl
structure Dl (d g : Addr) (H : Hp) (ns : List Int) (now mixed turn : Int) : Prop where
  d : H d = some (.dK (dealKV g now mixed turn))
  g : H g = some (.lst (ns.map V.int))
  few : ns.length ≤ 63
  pos : ∀ n ∈ ns, 0 ≤ n
  now : 0 ≤ now
def Deal (d g : Addr) (H : Hp) : Prop := ∃ ns now mixed turn, Dl d g H ns now mixed turn
theorem Dl.ne {d g : Addr} {H : Hp} {ns : List Int} {now mixed turn : Int} (x : Dl d g H ns now mixed turn) : d ≠ g := ne_of x.d x.g (by intro e; cases e)
/-- all but the deal stays -/
def Kp (d g : Addr) (H H' : Hp) : Prop := ∀ b o, b ≠ d → b ≠ g → H b = some o → H' b = some o
theorem Kp.refl (d g : Addr) (H : Hp) : Kp d g H H := fun _ _ _ _ h => h
theorem Kp.trans {d g : Addr} {H H1 H2 : Hp} (a : Kp d g H H1) (b : Kp d g H1 H2) : Kp d g H H2 := fun c o n m h => b c o n m (a c o n m h)
theorem Same.kp {d g : Addr} {H H' : Hp} (s : Same H H') : Kp d g H H' := fun b o _ _ h => s b o h
theorem Kp.put_d {d g : Addr} {H : Hp} {o : HO} : Kp d g H (upd H d o) := fun b u n _ h => by rw [upd_ne n]; exact h
theorem Kp.put_g {d g : Addr} {H : Hp} {o : HO} : Kp d g H (upd H g o) := fun b u _ n h => by rw [upd_ne n]; exact h
theorem Deal.tk {d g : Addr} {H H' : Hp} (x : Deal d g H) (k : Kp d g H H') : TK H H' := by
  obtain ⟨ns, now, mixed, turn, x⟩ := x
  exact ⟨fun b xs e => k b _ (ne_of e x.d (by intro q; cases q)) (ne_of e x.g (by intro q; cases q)) e, fun b o u e => k b _ (ne_of e x.d (by intro q; cases q)) (ne_of e x.g (by intro q; cases q)) e⟩
/-- a deal stands behind what leaves all as it is -/
theorem Deal.same {d g : Addr} {H H' : Hp} (x : Deal d g H) (s : Same H H') : Deal d g H' := by
  obtain ⟨ns, now, mixed, turn, x⟩ := x
  exact ⟨ns, now, mixed, turn, s _ _ x.d, s _ _ x.g, x.few, x.pos, x.now⟩
theorem Deal.set {d g p : Addr} {H : Hp} {o : HO} (x : Deal d g H) (n : p ≠ d) (m : p ≠ g) : Deal d g (L2.upd H p o) := by
  obtain ⟨ns, now, mixed, turn, x⟩ := x
  exact ⟨ns, now, mixed, turn, by rw [upd_ne n.symm]; exact x.d, by rw [upd_ne m.symm]; exact x.g, x.few, x.pos, x.now⟩
theorem Deal.new {d g p : Addr} {H : Hp} {o : HO} (x : Deal d g H) (h : H p = none) : Deal d g (L2.upd H p o) := x.same (Same.new h)
theorem Deal.ne_d {d g p : Addr} {H : Hp} {o : HO} (x : Deal d g H) (h : H p = some o) (hk : ∀ kvs, o ≠ .dK kvs) : p ≠ d := by
  obtain ⟨ns, now, mixed, turn, x⟩ := x
  exact ne_of h x.d (hk _)
theorem Deal.ne_g {d g p : Addr} {H : Hp} {o : HO} (x : Deal d g H) (h : H p = some o) (hk : ∀ xs, o ≠ .lst xs) : p ≠ g := by
  obtain ⟨ns, now, mixed, turn, x⟩ := x
  exact ne_of h x.g (hk _)
theorem Deal.free {d g p : Addr} {H : Hp} (x : Deal d g H) (h : H p = none) : p ≠ d ∧ p ≠ g := by
  obtain ⟨ns, now, mixed, turn, x⟩ := x
  exact ⟨(ne_of_none x.d h).symm, (ne_of_none x.g h).symm⟩
/-- what is not there now was not there ahead -/
theorem Kp.free {d g : Addr} {H H' : Hp} (k : Kp d g H H') (x : Deal d g H') {b : Addr} (h : H' b = none) : H b = none := by
  obtain ⟨n, m⟩ := x.free h
  cases e : H b with
  | none => rfl
  | some o =>
    rw [k b o n m e] at h
    cases h
end Hb
set_option Elab.async false
set_option linter.all false
set_option maxRecDepth 100000
set_option maxHeartbeats 4000000
namespace Hb
open PySem PySem.Spec PyProof.Rows L2
section
variable {P : Program} {w : World} {K : PySem.W.Frag} {mg : Str → Option Value} {base : Heap}
/-- a def of the module without defaults, under its name -/
def Df (K : PySem.W.Frag) (mg : Str → Option Value) (x : Str) (st : Stmt) : Prop := ∃ fd, FunD K x x (defArgs st) (defBody st) (defScope st) [] [] (He.ga K x) fd ∧ mg x = some (.ref (He.ga K x))
theorem fn_mk {x : Str} {st : Stmt} {f : Addr} {fd : FuncData} {N ps : List Str} {k : Nat} {sp : Sp} (F : FunD K x x (defArgs st) (defBody st) (defScope st) [] [] f fd) (S : FnScope N ps (defScope st))
    (len : ∀ vs H Q E, sp vs H Q E → vs.length = ps.length)
    (hbody : ∀ (f : Addr) (cdv : Value) (A : Around) (outer : List Env) (s : Shared) (H : Hp) (vs : List V) (Q : VK) (E : XK), Room k (A.deeper (envOfC x (defScope st) s.heap.objs.size f cdv)) → sp vs H Q E →
      ∃ t, PSs (cxOf CX0 P w K mg base N x (defScope st) f cdv A outer s H E).nox (defBody st) t ∧ t { nx := fun _ H' => Q .non H', rt := Q } (start N vs) H) : FnOk P w K mg base CX0 (k + 1) f fd ps sp :=
  F.ok S len fun cdv A outer s H vs Q E hr h => by
    obtain ⟨t, h1, h2⟩ := hbody _ cdv A outer s H vs Q E hr h
    exact ⟨t, h1.nox, h2⟩
theorem cal_mk {x : Str} {st : Stmt} {N ps : List Str} {k : Nat} {sp : Sp} (D : Df K mg x st) (S : FnScope N ps (defScope st))
    (bd : ∀ (kV doc pm : Value) (an : Option Addr) (cdv ct : Value) (us : List Value), us.length = ps.length → bindArgs (PySem.W.fnOf x x (defArgs st) (defBody st) (defScope st) .none kV doc pm an cdv ct) ⟨us, []⟩ = pure (ps.zip us))
    (len : ∀ vs H Q E, sp vs H Q E → vs.length = ps.length)
    (hbody : ∀ (f : Addr) (cdv : Value) (A : Around) (outer : List Env) (s : Shared) (H : Hp) (vs : List V) (Q : VK) (E : XK), Room k (A.deeper (envOfC x (defScope st) s.heap.objs.size f cdv)) → sp vs H Q E →
      ∃ t, PSs (cxOf CX0 P w K mg base N x (defScope st) f cdv A outer s H E).nox (defBody st) t ∧ t { nx := fun _ H' => Q .non H', rt := Q } (start N vs) H) : C8.Cal P w K mg base (k + 1) x sp [] := by
  obtain ⟨fd, F, hm⟩ := D
  exact ⟨⟨_, fd, ps, [], F.ok S len fun cdv A outer s H vs Q E hr h => by
    obtain ⟨t, h1, h2⟩ := hbody _ cdv A outer s H vs Q E hr h
    exact ⟨t, h1.nox, h2⟩, hm, F.kp, F.bindsN bd, .nil⟩⟩
/-- a class with an __init__ of its own -/
def Df1 (K : PySem.W.Frag) (mg : Str → Option Value) (C qual : Str) (st : Stmt) : Prop := Mk K (He.ga K C) (He.ma K (He.ga K C) "__init__") ∧ mg C = some (.ref (He.ga K C)) ∧ ∃ fd, FunD K "__init__" qual (defArgs st) (defBody st) (defScope st) [] [] (He.ma K (He.ga K C) "__init__") fd
theorem mak_mk {C qual : Str} {st : Stmt} {N ps : List Str} {k : Nat} {sp : Sp} (D : Df1 K mg C qual st) (S : FnScope N ps (defScope st))
    (bd : ∀ (kV doc pm : Value) (an : Option Addr) (cdv ct : Value) (us : List Value), us.length = ps.length → bindArgs (PySem.W.fnOf "__init__" qual (defArgs st) (defBody st) (defScope st) .none kV doc pm an cdv ct) ⟨us, []⟩ = pure (ps.zip us))
    (len : ∀ vs H Q E, sp vs H Q E → vs.length = ps.length)
    (hbody : ∀ (f : Addr) (cdv : Value) (A : Around) (outer : List Env) (s : Shared) (H : Hp) (vs : List V) (Q : VK) (E : XK), Room k (A.deeper (envOfC qual (defScope st) s.heap.objs.size f cdv)) → sp vs H Q E →
      ∃ t, PSs (cxOf CX0 P w K mg base N qual (defScope st) f cdv A outer s H E).nox (defBody st) t ∧ t { nx := fun _ H' => Q .non H', rt := Q } (start N vs) H) : C8.Mak P w K mg base (k + 1) C (He.ga K C) sp [] := by
  obtain ⟨M, hm, fd, F⟩ := D
  exact ⟨⟨_, fd, ps, [], M, F.ok S len fun cdv A outer s H vs Q E hr h => by
    obtain ⟨t, h1, h2⟩ := hbody _ cdv A outer s H vs Q E hr h
    exact ⟨t, h1.nox, h2⟩, hm, F.bindsN bd, .nil⟩⟩
end
/-- a word between two statements: the rest is read once -/
theorem cut_seq {t u : TS} {D : Ends} {σ : L2.St} {H : Hp} (R : L2.St → Hp → Prop) (h2 : ∀ σ H, R σ H → u D σ H) (h1 : (∀ σ H, R σ H → u D σ H) → t { D with nx := u D } σ H) : tSeq t u D σ H := h1 h2
end Hb
set_option Elab.async false
set_option linter.all false
set_option maxRecDepth 100000
set_option maxHeartbeats 4000000
namespace Hb
open PySem PySem.Spec PyProof.Rows L2
/-- data that may be compared -/
def Shp (d : PyData) : Prop := d.canLay0 = true ∧ d.depth ≤ 60
theorem Shp.shaped {d : PyData} (h : Shp d) : SeqAt.shaped d = true := Bool.and_eq_true_iff.mpr ⟨h.1, decide_eq_true (by have := h.2; omega)⟩
theorem shps_all : ∀ {ds : List PyData}, (∀ d ∈ ds, Shp d) → PyData.canLayAll0 ds = true ∧ PyData.depthAll ds ≤ 60
  | [], _ => ⟨by simp [PyData.canLayAll0], by simp [PyData.depthAll]⟩
  | d :: ds, h => by
    obtain ⟨h1, h2⟩ := shps_all (ds := ds) fun e he => h e (List.mem_cons_of_mem _ he)
    obtain ⟨h3, h4⟩ := h d List.mem_cons_self
    exact ⟨by simp [PyData.canLayAll0, h1, h3], by simp only [PyData.depthAll]; omega⟩
theorem shaped_list {ds : List PyData} (h : ∀ d ∈ ds, Shp d) : SeqAt.shaped (.list ds) = true := by
  obtain ⟨h1, h2⟩ := shps_all h
  exact Bool.and_eq_true_iff.mpr ⟨by simp only [PyData.canLay0]; exact h1, decide_eq_true (by simp only [PyData.depth]; omega)⟩
theorem shaped_tup {ds : List PyData} (h : ∀ d ∈ ds, Shp d) : SeqAt.shaped (.tuple ds) = true := by
  obtain ⟨h1, h2⟩ := shps_all h
  exact Bool.and_eq_true_iff.mpr ⟨by simp only [PyData.canLay0]; exact h1, decide_eq_true (by simp only [PyData.depth]; omega)⟩
/-- flat things, and tuples of such -/
theorem shp_tup {ds : List PyData} (h : ∀ d ∈ ds, d.canLay0 = true ∧ d.depth ≤ 50) : Shp (.tuple ds) := by
  have g : PyData.canLayAll0 ds = true ∧ PyData.depthAll ds ≤ 50 := by
    induction ds with
    | nil => exact ⟨by simp [PyData.canLayAll0], by simp [PyData.depthAll]⟩
    | cons d ds ih =>
      obtain ⟨h1, h2⟩ := ih fun e he => h e (List.mem_cons_of_mem _ he)
      obtain ⟨h3, h4⟩ := h d List.mem_cons_self
      exact ⟨by simp [PyData.canLayAll0, h1, h3], by simp only [PyData.depthAll]; omega⟩
  exact ⟨by simp only [PyData.canLay0]; exact g.1, by simp only [PyData.depth]; have := g.2; omega⟩
theorem eqv_nil (ds : List PyData) : PyData.eqv (.list ds) (.list []) = ds.isEmpty := by
  cases ds <;> simp [PyData.eqv, PyData.eqvAll]
/-- data of tuples, small enough -/
def Good (K : PySem.W.Frag) (H : Hp) (v : V) : Prop := ∃ d, TD K H v d ∧ Shp d
theorem Good.keep {K : PySem.W.Frag} {H H' : Hp} {v : V} (k : TK H H') (h : Good K H v) : Good K H' v := by
  obtain ⟨d, h1, h2⟩ := h
  exact ⟨d, TD.keep k h1, h2⟩
theorem goods {K : PySem.W.Frag} {H : Hp} : ∀ {xs : List V}, (∀ v ∈ xs, Good K H v) → ∃ ds, TDs K H xs ds ∧ ∀ d ∈ ds, Shp d
  | [], _ => ⟨[], .nil, fun d h => by cases h⟩
  | v :: xs, h => by
    obtain ⟨ds, h1, h2⟩ := goods (xs := xs) fun u hu => h u (List.mem_cons_of_mem _ hu)
    obtain ⟨d, h3, h4⟩ := h v List.mem_cons_self
    exact ⟨d :: ds, .cons h3 h1, fun e he => (List.mem_cons.mp he).elim (fun q => by rw [q]; exact h4) (h2 e)⟩
theorem seqIx {r : Int} {n : Nat} (h0 : 0 ≤ r) (h1 : r < n) : seqIndex? r n = some r.toNat := by
  have a : ¬ r < 0 := by omega
  simp [seqIndex?, a, h0, h1]
theorem perm_erase {α : Type} : ∀ {xs : List α} {k : Nat} {y : α}, xs[k]? = some y → (y :: xs.eraseIdx k).Perm xs
  | [], k, y, h => by simp at h
  | x :: xs, 0, y, h => by
    simp at h
    subst h
    simp
  | x :: xs, k + 1, y, h => by
    have ih := perm_erase (xs := xs) (k := k) (y := y) (by simpa using h)
    show (y :: x :: xs.eraseIdx k).Perm (x :: xs)
    exact (List.Perm.swap x y _).trans (ih.cons x)
end Hb
set_option Elab.async false
set_option linter.all false
set_option maxRecDepth 100000
set_option maxHeartbeats 4000000
namespace Hb
open PySem PySem.Spec PyProof.Rows L2
theorem take_next {α β : Type} (f : α → Option β) {xs : List α} {i : Nat} {x : α} (h : xs[i]? = some x) : (xs.take (i + 1)).filterMap f = (xs.take i).filterMap f ++ (f x).toList := by
  rw [List.take_add_one, h, List.filterMap_append]
  cases q : f x <;> simp [q]
theorem take_len {α β : Type} (f : α → Option β) (xs : List α) (i : Nat) : ((xs.take i).filterMap f).length ≤ xs.length :=
  Nat.le_trans (List.length_filterMap_le _ _) (by rw [List.length_take]; exact Nat.min_le_right _ _)
section
variable {K : PySem.W.Frag} {a : Addr} {xs : List V} {g : TG} {tt : TT} {te : TE} {vs : List Nat} {σ : L2.St} {H1 : Hp} {D : Addr} {Qd : Hp → Prop}
/-- one turn of a comprehension whose parts leave the heap as it is -/
def Turn (f : V → Option V) (x : V) (g : TG) (tt : TT) (te : TE) (vs : List Nat) (σ : L2.St) (H1 : Hp) (D : Addr) : Prop :=
  ∀ (acc : List V) (N : Hp → Prop), acc.length < sizeLine → (∀ y, f x = some y → N (upd H1 D (.lst (acc ++ [y])))) → (f x = none → N (upd H1 D (.lst acc))) →
    g x (wipe σ vs) (upd H1 D (.lst acc)) fun σ2 H2 => wipe σ2 vs = wipe σ vs ∧ tt σ2 H2 fun b H3 => if b = true then te σ2 H3 fun y H4 => ∃ acc', H4 D = some (.lst acc') ∧ acc'.length < sizeLine ∧ N (upd H4 D (.lst (acc' ++ [y]))) else N H3
theorem turn_at {f : V → Option V} {i : Nat} {x : V} {H : Hp} (hx : xs[i]? = some x) (e : H = upd H1 D (.lst ((xs.take i).filterMap f))) (few : xs.length < sizeLine) (h : Turn f x g tt te vs σ H1 D) :
    g x (wipe σ vs) H fun σ2 H2 => wipe σ2 vs = wipe σ vs ∧ tt σ2 H2 fun b H3 => if b = true then te σ2 H3 fun y H4 => ∃ acc', H4 D = some (.lst acc') ∧ acc'.length < sizeLine ∧ (fun z => z = upd H1 D (.lst ((xs.take (i + 1)).filterMap f))) (upd H4 D (.lst (acc' ++ [y]))) else (fun z => z = upd H1 D (.lst ((xs.take (i + 1)).filterMap f))) H3 := by
  subst e
  refine h _ _ (Nat.lt_of_le_of_lt (take_len f xs i) few) (fun y hy => ?_) (fun hn => ?_)
  · show upd H1 D _ = upd H1 D _
    rw [take_next f hx, hy]
    rfl
  · show upd H1 D _ = upd H1 D _
    rw [take_next f hx, hn]
    simp
theorem lc_listP (f : V → Option V) (few : xs.length < sizeLine) (hl : ∀ acc, SqL K (upd H1 D (.lst acc)) a xs) (hs : ∀ x ∈ xs, Turn f x g tt te vs σ H1 D) (hd : Qd (upd H1 D (.lst (xs.filterMap f)))) :
    ∃ W : Nat → Nat → Hp → Prop, (∃ m, W 0 m (upd H1 D (.lst []))) ∧ ∀ i m H, W i m H →
      ((Itl K a).stop i H ∧ Qd H) ∨ ((Itl K a).go i H ∧ ∃ Nx : Hp → Prop, (∀ H', Nx H' → ∃ m', m' < m ∧ W (i + 1) m' H') ∧ ∀ x H', (Itl K a).yld i H x H' → g x (wipe σ vs) H' fun σ2 H2 => wipe σ2 vs = wipe σ vs ∧ tt σ2 H2 fun b H3 =>
        if b = true then te σ2 H3 fun y H4 => ∃ acc, H4 D = some (.lst acc) ∧ acc.length < sizeLine ∧ Nx (upd H4 D (.lst (acc ++ [y]))) else Nx H3) :=
  lc_list (xs := xs) (fun i H => H = upd H1 D (.lst ((xs.take i).filterMap f))) rfl (fun i H _ e => by rw [e]; exact hl _) (fun i x H hx e => turn_at hx e few (hs x (List.mem_of_getElem? hx)))
    (fun H e => by rw [e, List.take_length]; exact hd)
theorem lc_tupP (f : V → Option V) (few : xs.length < sizeLine) (hl : ∀ acc, SqT K (upd H1 D (.lst acc)) a xs) (hs : ∀ x ∈ xs, Turn f x g tt te vs σ H1 D) (hd : Qd (upd H1 D (.lst (xs.filterMap f)))) :
    ∃ W : Nat → Nat → Hp → Prop, (∃ m, W 0 m (upd H1 D (.lst []))) ∧ ∀ i m H, W i m H →
      ((Itt K a).stop i H ∧ Qd H) ∨ ((Itt K a).go i H ∧ ∃ Nx : Hp → Prop, (∀ H', Nx H' → ∃ m', m' < m ∧ W (i + 1) m' H') ∧ ∀ x H', (Itt K a).yld i H x H' → g x (wipe σ vs) H' fun σ2 H2 => wipe σ2 vs = wipe σ vs ∧ tt σ2 H2 fun b H3 =>
        if b = true then te σ2 H3 fun y H4 => ∃ acc, H4 D = some (.lst acc) ∧ acc.length < sizeLine ∧ Nx (upd H4 D (.lst (acc ++ [y]))) else Nx H3) :=
  lc_tup (xs := xs) (fun i H => H = upd H1 D (.lst ((xs.take i).filterMap f))) rfl (fun i H _ e => by rw [e]; exact hl _) (fun i x H hx e => turn_at hx e few (hs x (List.mem_of_getElem? hx)))
    (fun H e => by rw [e, List.take_length]; exact hd)
theorem SqL.laid {H : Hp} {p : Addr} {o : HO} (h : SqL K H a xs) (n : H p = none) : SqL K (upd H p o) a xs := Same.seq (Same.new n) h
theorem SqT.laid {H : Hp} {p : Addr} {o : HO} (h : SqT K H a xs) (n : H p = none) : SqT K (upd H p o) a xs := SqT.keep (Same.tk (Same.new n)) h
end
theorem yes_ {σ : L2.St} {H : Hp} {f g : Hp → Prop} (h : f H) : tYes σ H fun b H3 => if b = true then f H3 else g H3 := (if_pos rfl : (if true = true then f H else g H) = f H).mpr h
theorem filterMap_ints (f : Int → Option Int) (ns : List Int) (h : V → Option V) (e : ∀ n, h (.int n) = (f n).map V.int) : (ns.map V.int).filterMap h = (ns.filterMap f).map V.int := by
  rw [List.filterMap_map]
  induction ns with
  | nil => rfl
  | cons n ns ih =>
    simp only [List.filterMap_cons, Function.comp, e]
    cases q : f n <;> simp [ih]
theorem filterMap_strs (f : Str → Option Str) (ns : List Str) (h : V → Option V) (e : ∀ n, h (.str n) = (f n).map V.str) : (ns.map V.str).filterMap h = (ns.filterMap f).map V.str := by
  rw [List.filterMap_map]
  induction ns with
  | nil => rfl
  | cons n ns ih =>
    simp only [List.filterMap_cons, Function.comp, e]
    cases q : f n <;> simp [ih]
end Hb
set_option Elab.async false
set_option linter.all false
set_option maxRecDepth 100000
set_option maxHeartbeats 4000000
namespace Hb
open PySem PySem.Spec PyProof.Rows L2
section
variable {K : PySem.W.Frag} {H : Hp}
theorem TD.tup_inv {v : V} {ds : List PyData} (h : TD K H v (.tuple ds)) : ∃ a xs, v = .ref a ∧ SqT K H a xs ∧ TDs K H xs ds := by
  cases h with
  | tup h1 h2 => exact ⟨_, _, rfl, h1, h2⟩
theorem TD.int_inv {v : V} {i : Int} (h : TD K H v (.int i)) : v = .int i := by cases h; rfl
theorem TD.str_inv {v : V} {x : Str} (h : TD K H v (.str x)) : v = .str x := by cases h; rfl
theorem TDs.nil_inv {vs : List V} (h : TDs K H vs []) : vs = [] := by cases h; rfl
theorem TDs.cons_inv {vs : List V} {d : PyData} {ds : List PyData} (h : TDs K H vs (d :: ds)) : ∃ v ws, vs = v :: ws ∧ TD K H v d ∧ TDs K H ws ds := by
  cases h with
  | cons h1 h2 => exact ⟨_, _, rfl, h1, h2⟩
theorem TDs.strs_inv : ∀ {vs : List V} {xs : List Str}, TDs K H vs (xs.map PyData.str) → vs = xs.map V.str
  | _, [], h => TDs.nil_inv h
  | _, x :: xs, h => by
    obtain ⟨v, ws, rfl, h1, h2⟩ := TDs.cons_inv h
    rw [TD.str_inv h1, TDs.strs_inv h2]
    rfl
theorem TDs.ints_inv : ∀ {vs : List V} {xs : List Int}, TDs K H vs (xs.map PyData.int) → vs = xs.map V.int
  | _, [], h => TDs.nil_inv h
  | _, x :: xs, h => by
    obtain ⟨v, ws, rfl, h1, h2⟩ := TDs.cons_inv h
    rw [TD.int_inv h1, TDs.ints_inv h2]
    rfl
end
/-! ### names -/
def isLetter (c : Nat) : Bool := decide (c ∈ ("abcdefghijklmnopqrstuvwxyz" : Str).cps.toList)
def nameB (x : Str) : Bool := decide (1 ≤ x.length ∧ x.length ≤ 4) && x.cps.toList.all isLetter
/-! ### a sleeper, told as data -/
structure Zz where
  sorts : List (Str × Str)
  stir : Int
  doze : Int
  near : Int
  loud : Str
def encZ (z : Zz) : PyData := .tuple [.tuple (z.sorts.map encP), .int z.stir, .int z.doze, .int z.near, .str z.loud]
def fourS : List Str := ["faint", "loud", "soft", "sudden"]
def threeS : List Str := ["again", "nothing", "wake"]
def OneAt (K : PySem.W.Frag) (H : Hp) (p : Addr) (z : Zz) : Prop := TD K H (.ref p) (encZ z)
/-- what stands in it -/
structure OneIs (K : PySem.W.Frag) (H : Hp) (p : Addr) (z : Zz) (t : Addr) (xs : List V) : Prop where
  all : SqT K H p [.ref t, .int z.stir, .int z.doze, .int z.near, .str z.loud]
  srt : SqT K H t xs
  its : TDs K H xs (z.sorts.map encP)
theorem OneAt.inv {K : PySem.W.Frag} {H : Hp} {p : Addr} {z : Zz} (h : OneAt K H p z) : ∃ t xs, OneIs K H p z t xs := by
  obtain ⟨a, xs, e, h1, h2⟩ := TD.tup_inv h
  cases e
  obtain ⟨v1, w1, rfl, a1, h2⟩ := TDs.cons_inv h2
  obtain ⟨v2, w2, rfl, a2, h2⟩ := TDs.cons_inv h2
  obtain ⟨v3, w3, rfl, a3, h2⟩ := TDs.cons_inv h2
  obtain ⟨v4, w4, rfl, a4, h2⟩ := TDs.cons_inv h2
  obtain ⟨v5, w5, rfl, a5, h2⟩ := TDs.cons_inv h2
  obtain rfl := TDs.nil_inv h2
  obtain rfl := TD.int_inv a2
  obtain rfl := TD.int_inv a3
  obtain rfl := TD.int_inv a4
  obtain rfl := TD.str_inv a5
  obtain ⟨t, ys, rfl, h3, h4⟩ := TD.tup_inv a1
  exact ⟨t, ys, h1, h3, h4⟩
theorem OneIs.one {K : PySem.W.Frag} {H : Hp} {p : Addr} {z : Zz} {t : Addr} {xs : List V} (h : OneIs K H p z t xs) : OneAt K H p z :=
  .tup h.all (.cons (.tup h.srt h.its) (.cons (.int _) (.cons (.int _) (.cons (.int _) (.cons (.str _) .nil)))))
/-- a sleeper that is drawn, its words among ws -/
structure Zok (z : Zz) (ws : List Str) : Prop where
  nd : (z.sorts.map Prod.fst).Nodup
  inw : ∀ p ∈ z.sorts, p.1 ∈ ws
  ok : ∀ p ∈ z.sorts, PyData.strOk p.1 = true ∧ nameB p.1 = true
  srt : ∀ p ∈ z.sorts, p.2 ∈ fourS
  few : z.sorts.length ≤ 8
  s1 : 1 ≤ z.stir
  s5 : z.stir ≤ 5
  d1 : 1 ≤ z.doze
  d5 : z.doze ≤ 5
  n1 : 1 ≤ z.near
  n2 : z.near ≤ 2
  lo : z.loud ∈ threeS
end Hb
set_option Elab.async false
set_option linter.all false
set_option maxRecDepth 100000
set_option maxHeartbeats 4000000
namespace Hb
open PySem PySem.Spec PyProof.Rows L2
section
variable {K : PySem.W.Frag} {H : Hp} {a : Addr} {xs : List V}
theorem ty_tup (h : SqT K H a xs) : TyX K H (.ref a) (.type "tuple") := by
  rcases h with (h | ⟨o, h⟩) | ⟨o, its, n, h, hc, _⟩
  · exact .base (.tup h)
  · exact .fTuple h
  · exact .kTuple h hc
theorem ty_lst (h : SqL K H a xs) : TyX K H (.ref a) (.type "list") := by
  rcases h with (h | ⟨o, h⟩) | ⟨o, its, n, h, hc, _⟩
  · exact .base (.lst h)
  · exact .base (.frz h)
  · exact .kList h hc
end
theorem inV_strs (y : Str) : ∀ xs : List Str, inV (.str y) (xs.map V.str) = decide (y ∈ xs)
  | [] => by simp [inV]
  | x :: xs => by
    have ih := inV_strs y xs
    unfold inV at ih ⊢
    rw [List.map_cons, List.any_cons, ih]
    by_cases e : x = y
    · subst e
      simp [eqV]
    · have e2 : ¬ y = x := fun z => e z.symm
      simp [eqV, e, e2]
/-- a list or a tuple, walked: whatever walks so -/
def iSeq (K : PySem.W.Frag) (tl : TE) : TI := fun σ H R => tl σ H fun x H1 => ∃ a xs, x = .ref a ∧ (SqL K H1 a xs ∨ SqT K H1 a xs) ∧ ∀ (J : It) (G : Hp → Prop), (∀ H', Same H1 H' → G H') → Walk J xs.length G (YAt xs) → R J H1
theorem pi_seq {X : Cx} {tg l : Expr} {tl : TE} (hl : PE X l tl) : PI X tg l (iSeq X.K tl) := by
  refine ⟨fun pins s σ H R I h => thn (hl.run pins s σ H _ I h) fun v z ⟨x, H1, J, r, a, xs, e, hq, q⟩ => ?_⟩
  subst e
  cases r
  have far : ∀ b ∈ [z.heap.objs.size], FpOk X pins H1 b := fun b hb => by
    rw [List.mem_singleton.mp hb]; exact J.fpOk (Nat.le_refl _) (J.hok.fresh (Nat.le_refl _))
  rcases hq with hq | hq
  · have q2 := q _ _ (fun H' s => Same.seq s hq) walk_list
    obtain ⟨its, rv, p, hz⟩ := J.list hq
    exact wpAny_pyIter_list p.isList ⟨_, [z.heap.objs.size], _, _, H1, rfl, J.kept (t' := z.toks) (fun b o e => Heap.get?_push_of_some _ e), turn_list a _, ⟨_, Heap.get?_push_size _ rfl, rfl, rfl⟩, (by exact far), q2⟩
  · have q2 := q _ _ (fun H' s => SqT.keep (Same.tk s) hq) walk_tup
    obtain ⟨its, rv, p, hz⟩ := J.tuple hq
    exact wpAny_pyIter_tuple (show z.heap.IsTuple a its.toArray from p) ⟨_, [z.heap.objs.size], _, _, H1, rfl, J.kept (t' := z.toks) (fun b o e => Heap.get?_push_of_some _ e), turn_tuple a _, ⟨_, Heap.get?_push_size _ rfl, rfl, rfl⟩, (by exact far), q2⟩
/-- a comprehension's list, put anew -/
theorem Same.acc {H H' : Hp} {D : Addr} {o : HO} (s : Same H H') (n : H D = none) : Same H (upd H' D o) := fun b u e => by
  rw [upd_ne (ne_of_none e n)]
  exact s b u e
end Hb
set_option Elab.async false
set_option linter.all false
set_option maxRecDepth 100000
set_option maxHeartbeats 4000000
namespace Hb
open PySem PySem.Spec PyProof.Rows L2
/-- pairs of texts in Python's order -/
def sortP (ps : List (Str × Str)) : List (Str × Str) := ps.mergeSort (PySem.W.dataLe false encP)
theorem sortP_perm (ps : List (Str × Str)) : (sortP ps).Perm ps := List.mergeSort_perm _ _
theorem zip_fst {α β : Type} : ∀ {xs : List α} {ys : List β}, xs.length = ys.length → (xs.zip ys).map (·.1) = xs
  | [], [], _ => rfl
  | x :: xs, y :: ys, h => congrArg (x :: ·) (zip_fst (xs := xs) (ys := ys) (by simpa using h))
theorem zip_snd {α β : Type} : ∀ {xs : List α} {ys : List β}, xs.length = ys.length → (xs.zip ys).map (·.2) = ys
  | [], [], _ => rfl
  | x :: xs, y :: ys, h => congrArg (y :: ·) (zip_snd (xs := xs) (ys := ys) (by simpa using h))
section
variable {K : PySem.W.Frag} {H : Hp}
theorem zip_td : ∀ {xs : List V} {ps : List (Str × Str)}, TDs K H xs (ps.map encP) → ∀ z ∈ xs.zip ps, TD K H z.1 (encP z.2)
  | [], [], _, z, h => by cases h
  | _ :: _, [], t, _, _ => by cases t
  | [], _ :: _, t, _, _ => by cases t
  | x :: xs, p :: ps, t, z, h => by
    obtain ⟨v, ws, e, h1, h2⟩ := TDs.cons_inv t
    cases e
    rcases List.mem_cons.mp h with h | h
    · rw [h]; exact h1
    · exact zip_td h2 z h
theorem td_zip : ∀ {zs : List (V × (Str × Str))}, (∀ z ∈ zs, TD K H z.1 (encP z.2)) → TDs K H (zs.map (·.1)) ((zs.map (·.2)).map encP)
  | [], _ => .nil
  | z :: zs, h => .cons (h z List.mem_cons_self) (td_zip fun y hy => h y (List.mem_cons_of_mem _ hy))
end
theorem sort_zip (zs : List (V × (Str × Str))) : (zs.mergeSort (PySem.W.dataLe false fun z => encP z.2)).map (·.2) = sortP (zs.map (·.2)) :=
  PySem.W.sort_maps (fun z : V × (Str × Str) => z.2) fun _ _ _ _ => rfl
/-! ### a Sleeper -/
def slpFs (t : Addr) (z : Zz) : List (Str × V) := [("sorts", .ref t), ("stir", .int z.stir), ("doze", .int z.doze), ("near", .int z.near), ("loud", .str z.loud)]
/-- a Sleeper of the class at C -/
def SlpAt (K : PySem.W.Frag) (C : Addr) (H : Hp) (p : Addr) (z : Zz) : Prop := ∃ dx t xs, H p = some (.ins C dx (slpFs t z)) ∧ SqT K H t xs ∧ TDs K H xs ((sortP z.sorts).map encP)
theorem SlpAt.keep {K : PySem.W.Frag} {C : Addr} {H H' : Hp} {p : Addr} {z : Zz} (h : SlpAt K C H p z) (k : TK H H') (e : ∀ o, H p = some o → H' p = some o) : SlpAt K C H' p z := by
  obtain ⟨dx, t, xs, h1, h2, h3⟩ := h
  exact ⟨dx, t, xs, e _ h1, SqT.keep k h2, TDs.keep k h3⟩
theorem SlpAt.same {K : PySem.W.Frag} {C : Addr} {H H' : Hp} {p : Addr} {z : Zz} (h : SlpAt K C H p z) (s : Same H H') : SlpAt K C H' p z := h.keep (Same.tk s) fun o e => s _ _ e
theorem SlpAt.kp {K : PySem.W.Frag} {C d g : Addr} {H H' : Hp} {p : Addr} {z : Zz} (h : SlpAt K C H p z) (dl : Deal d g H) (k : Kp d g H H') : SlpAt K C H' p z :=
  h.keep (dl.tk k) fun o e => by
    obtain ⟨dx, t, xs, h1, h2, h3⟩ := h
    exact k _ _ (dl.ne_d h1 (by intro kvs q; cases q)) (dl.ne_g h1 (by intro kvs q; cases q)) e
end Hb
set_option Elab.async false
set_option linter.all false
set_option maxRecDepth 100000
set_option maxHeartbeats 4000000
namespace Hb
open PySem PySem.Spec PyProof.Rows L2
/-! ### states -/
inductive S0 where
  | up | doz (t : Int) | asl | kept (n : Str) (a : Int) | stir (t : Int) | wok
  deriving DecidableEq
def S0.vals : S0 → List V
  | .up => [.str "up"]
  | .doz t => [.str "dozing", .int t]
  | .asl => [.str "asleep"]
  | .kept n a => [.str "asleep", .str n, .int a]
  | .stir t => [.str "stirring", .int t]
  | .wok => [.str "woken"]
def S0.ds : S0 → List PyData
  | .up => [.str "up"]
  | .doz t => [.str "dozing", .int t]
  | .asl => [.str "asleep"]
  | .kept n a => [.str "asleep", .str n, .int a]
  | .stir t => [.str "stirring", .int t]
  | .wok => [.str "woken"]
def S0.word : S0 → Str
  | .up => "up"
  | .doz _ => "dozing"
  | .asl => "asleep"
  | .kept _ _ => "asleep"
  | .stir _ => "stirring"
  | .wok => "woken"
theorem S0.head (s : S0) : atI s.vals 0 = some (.str s.word) := by cases s <;> rfl
def StAt (K : PySem.W.Frag) (H : Hp) (v : V) (s : S0) : Prop := ∃ a, v = .ref a ∧ SqT K H a s.vals
theorem StAt.keep {K : PySem.W.Frag} {H H' : Hp} {v : V} {s : S0} (k : TK H H') (h : StAt K H v s) : StAt K H' v s := by
  obtain ⟨a, e, h⟩ := h
  exact ⟨a, e, SqT.keep k h⟩
theorem S0.td (K : PySem.W.Frag) (H : Hp) (s : S0) : TDs K H s.vals s.ds := by
  cases s
  case up => exact .cons (.str _) .nil
  case doz => exact .cons (.str _) (.cons (.int _) .nil)
  case asl => exact .cons (.str _) .nil
  case kept => exact .cons (.str _) (.cons (.str _) (.cons (.int _) .nil))
  case stir => exact .cons (.str _) (.cons (.int _) .nil)
  case wok => exact .cons (.str _) .nil
theorem StAt.td {K : PySem.W.Frag} {H : Hp} {v : V} {s : S0} (h : StAt K H v s) : TD K H v (.tuple s.ds) := by
  obtain ⟨a, rfl, h⟩ := h
  exact .tup h (S0.td K H s)
def soV : Option Str → V
  | none => .non
  | some x => .str x
theorem soV_eq (so : Option Str) (x : Str) : decide (soV so = V.str x) = decide (so = some x) := by
  cases so with
  | none => simp [soV]
  | some y => simp [soV]
theorem soV_scal (so : Option Str) (x : Str) : scal (soV so) (.str x) = true := by cases so <;> rfl
/-- its name may be compared -/
def S0.ok : S0 → Prop
  | .kept n _ => PyData.strOk n = true
  | _ => True
theorem flat_ok : ∀ w ∈ (["up", "dozing", "asleep", "stirring", "woken"] : List Str), PyData.strOk w = true := by decide +kernel
theorem S0.shp {s : S0} (h : s.ok) : Shp (.tuple s.ds) := by
  have w : ∀ x ∈ (["up", "dozing", "asleep", "stirring", "woken"] : List Str), (PyData.str x).canLay0 = true ∧ (PyData.str x).depth ≤ 50 := fun x hx => ⟨by simp only [PyData.canLay0]; exact flat_ok x hx, by simp [PyData.depth]⟩
  have i : ∀ t : Int, (PyData.int t).canLay0 = true ∧ (PyData.int t).depth ≤ 50 := fun t => ⟨by simp [PyData.canLay0], by simp [PyData.depth]⟩
  refine shp_tup fun d hd => ?_
  cases s
  case up => simp only [S0.ds, List.mem_cons, List.not_mem_nil, or_false] at hd; subst hd; exact w _ (by simp)
  case asl => simp only [S0.ds, List.mem_cons, List.not_mem_nil, or_false] at hd; subst hd; exact w _ (by simp)
  case wok => simp only [S0.ds, List.mem_cons, List.not_mem_nil, or_false] at hd; subst hd; exact w _ (by simp)
  case doz => simp only [S0.ds, List.mem_cons, List.not_mem_nil, or_false] at hd; exact hd.elim (fun e => e ▸ w _ (by simp)) (fun e => e ▸ i _)
  case stir => simp only [S0.ds, List.mem_cons, List.not_mem_nil, or_false] at hd; exact hd.elim (fun e => e ▸ w _ (by simp)) (fun e => e ▸ i _)
  case kept n a =>
    simp only [S0.ds, List.mem_cons, List.not_mem_nil, or_false] at hd
    exact hd.elim (fun e => e ▸ w _ (by simp)) fun hd => hd.elim (fun e => e ▸ ⟨by simp only [PyData.canLay0]; exact h, by simp [PyData.depth]⟩) (fun e => e ▸ i _)
theorem words_ne : ("asleep" : Str) ≠ "up" ∧ ("dozing" : Str) ≠ "up" ∧ ("stirring" : Str) ≠ "up" ∧ ("woken" : Str) ≠ "up" ∧ ("asleep" : Str) ≠ "dozing" ∧ ("stirring" : Str) ≠ "dozing" ∧ ("woken" : Str) ≠ "dozing" ∧
    ("stirring" : Str) ≠ "asleep" ∧ ("woken" : Str) ≠ "asleep" ∧ ("woken" : Str) ≠ "stirring" := by decide +kernel
theorem beq_dec {α : Type} [DecidableEq α] [BEq α] [LawfulBEq α] (a b : α) : (a == b) = decide (a = b) := by
  by_cases h : a = b
  · rw [decide_eq_true h, h, beq_self_eq_true]
  · rw [decide_eq_false h, beq_eq_false_iff_ne.mpr h]
/-- states are alike if their data are -/
theorem eqv_st (s t : S0) : PyData.eqv (.tuple s.ds) (.tuple t.ds) = decide (s = t) := by
  obtain ⟨h1, h2, h3, h4, h5, h6, h7, h8, h9, h10⟩ := words_ne
  cases s <;> cases t <;> simp [beq_dec, S0.ds, PyData.eqv, PyData.eqvAll, h1, h2, h3, h4, h5, h6, h7, h8, h9, h10, h1.symm, h2.symm, h3.symm, h4.symm, h5.symm, h6.symm, h7.symm, h8.symm, h9.symm, h10.symm]
/-- what a noise of sort so does -/
def hear (z : Zz) (so : Option Str) (n : Str) : S0 → S0
  | .up => .up
  | .wok => .wok
  | .doz t => if so = some ("loud" : Str) then (if z.loud = "wake" then .wok else if z.loud = "again" then .doz z.doze else .doz t) else .doz t
  | .asl => if so = some ("soft" : Str) then .stir z.stir else if so = some ("loud" : Str) ∨ so = some ("sudden" : Str) then .wok else if so = some ("faint" : Str) then .kept n 0 else .asl
  | .kept m a => if so = some ("soft" : Str) then .stir z.stir else if so = some ("loud" : Str) ∨ so = some ("sudden" : Str) then .wok else if so = some ("faint" : Str) then (if m = n then .kept n 0 else .wok) else .kept m a
  | .stir t => if so = some ("loud" : Str) then .wok else .stir t
def sortOf (z : Zz) (n : Str) : Option Str := (sortP z.sorts).lookup n
def tick (z : Zz) : S0 → S0
  | .up => .up
  | .wok => .wok
  | .doz t => if 1 < t then .doz (t - 1) else .asl
  | .asl => .asl
  | .kept m a => if a < z.near then .kept m (a + 1) else .asl
  | .stir t => if 1 < t then .stir (t - 1) else .wok
def hum (z : Zz) (w : Str) : S0 → S0
  | .wok => .wok
  | _ => if w = "up" then .up else .doz z.doze
end Hb
set_option Elab.async false
set_option linter.all false
set_option maxRecDepth 100000
set_option maxHeartbeats 4000000
namespace Hb
open PySem PySem.Spec PyProof.Rows L2
/-- a list being filled, changed: tuples stay -/
theorem tk_acc {H : Hp} {D : Addr} {xs ys : List V} (h : H D = some (.lst xs)) : TK H (upd H D (.lst ys)) := TK.put h (by intro xs e; cases e) (by intro q u e; cases e)
/-! ### rows of states -/
inductive SsAt (K : PySem.W.Frag) (H : Hp) : List V → List S0 → Prop
  | nil : SsAt K H [] []
  | cons {v : V} {vs : List V} {s : S0} {ss : List S0} : StAt K H v s → SsAt K H vs ss → SsAt K H (v :: vs) (s :: ss)
section
variable {K : PySem.W.Frag} {H H' : Hp}
theorem SsAt.keep (k : TK H H') : ∀ {vs : List V} {ss : List S0}, SsAt K H vs ss → SsAt K H' vs ss
  | _, _, .nil => .nil
  | _, _, .cons h t => .cons (h.keep k) (SsAt.keep k t)
theorem SsAt.app : ∀ {vs ws : List V} {ss ts : List S0}, SsAt K H vs ss → SsAt K H ws ts → SsAt K H (vs ++ ws) (ss ++ ts)
  | _, _, _, _, .nil, h => h
  | _, _, _, _, .cons h t, h2 => .cons h (SsAt.app t h2)
theorem SsAt.length : ∀ {vs : List V} {ss : List S0}, SsAt K H vs ss → vs.length = ss.length
  | _, _, .nil => rfl
  | _, _, .cons _ t => congrArg Nat.succ (SsAt.length t)
theorem SsAt.at : ∀ {vs : List V} {ss : List S0} {i : Nat} {v : V}, SsAt K H vs ss → vs[i]? = some v → ∃ s, ss[i]? = some s ∧ StAt K H v s
  | _, _, _, _, .nil, e => by simp at e
  | _, _, 0, _, .cons h _, e => by simp at e; subst e; exact ⟨_, rfl, h⟩
  | _, _, i + 1, _, .cons _ t, e => by
    obtain ⟨s, h1, h2⟩ := SsAt.at t (i := i) (by simpa using e)
    exact ⟨s, by simpa using h1, h2⟩
theorem SsAt.td : ∀ {vs : List V} {ss : List S0}, SsAt K H vs ss → TDs K H vs (ss.map fun s => .tuple s.ds)
  | _, _, .nil => .nil
  | _, _, .cons h t => .cons h.td (SsAt.td t)
end
/-- a list of states, one put behind -/
theorem SsAt.more {K : PySem.W.Frag} {H1 H H2 : Hp} {D : Addr} {acc : List V} {ss : List S0} {v : V} {s : S0} (nD : H1 D = none) (s1 : Same H1 H) (hD : H D = some (.lst acc)) (hs : SsAt K H acc ss) (s2 : Same H H2) (hv : StAt K H2 v s) :
    Same H1 (upd H2 D (.lst (acc ++ [v]))) ∧ ∃ acc', upd H2 D (.lst (acc ++ [v])) D = some (.lst acc') ∧ SsAt K (upd H2 D (.lst (acc ++ [v]))) acc' (ss ++ [s]) := by
  have k : TK H2 (upd H2 D (.lst (acc ++ [v]))) := tk_acc (s2 _ _ hD)
  exact ⟨Hb.Same.acc (s1.trans s2) nD, _, upd_same, SsAt.app (SsAt.keep k (SsAt.keep (Same.tk s2) hs)) (.cons (hv.keep k) .nil)⟩
theorem range_map (f : Nat → S0) (i : Nat) : (List.range (i + 1)).map f = (List.range i).map f ++ [f i] := by
  rw [List.range_succ, List.map_append]
  rfl
theorem SsAt.more' {K : PySem.W.Frag} {H1 H H2 : Hp} {D : Addr} {acc : List V} {f : Nat → S0} {i : Nat} {v : V} (nD : H1 D = none) (s1 : Same H1 H) (hD : H D = some (.lst acc)) (hs : SsAt K H acc ((List.range i).map f)) (s2 : Same H H2) (hv : StAt K H2 v (f i)) :
    Same H1 (upd H2 D (.lst (acc ++ [v]))) ∧ ∃ acc', upd H2 D (.lst (acc ++ [v])) D = some (.lst acc') ∧ SsAt K (upd H2 D (.lst (acc ++ [v]))) acc' ((List.range (i + 1)).map f) := by
  rw [range_map]
  exact SsAt.more nD s1 hD hs s2 hv
theorem any_st (ss : List S0) (s : S0) : ((ss.map fun s => PyData.tuple s.ds).any fun z => PyData.eqv z (.tuple s.ds)) = decide (s ∈ ss) := by
  induction ss with
  | nil => simp
  | cons t ss ih =>
    rw [List.map_cons, List.any_cons, ih, eqv_st]
    by_cases h : t = s
    · subst h; simp
    · have h2 : ¬ s = t := fun q => h q.symm
      simp [h, h2]
theorem shaped_sts {ss : List S0} (h : ∀ s ∈ ss, s.ok) : SeqAt.shaped (.list (ss.map fun s => .tuple s.ds)) = true := shaped_list fun d hd => by
  obtain ⟨s, hs, rfl⟩ := List.mem_map.mp hd
  exact S0.shp (h s hs)
/-- all states of its form -/
def states (z : Zz) : List S0 := ([.up, .asl, .wok] ++ (List.range z.doze.toNat).map fun i => .doz (1 + (i : Nat))) ++ ((List.range z.stir.toNat).map fun i => .stir (1 + (i : Nat))) ++
  (z.sorts.filter fun p => decide (p.2 = ("faint" : Str))).flatMap fun p => (List.range (z.near + 1).toNat).map fun i => .kept p.1 (0 + (i : Nat))
def rowS (z : Zz) (s : S0) (ns : List Str) : S0 := ns.foldl (fun s n => hear z (sortOf z n) n s) s
end Hb
set_option Elab.async false
set_option linter.all false
set_option maxRecDepth 100000
set_option maxHeartbeats 8000000
namespace Hb
open PySem PySem.Spec PyProof.Rows L2
/-! ### looking up -/
theorem lookup_mem : ∀ {ps : List (Str × Str)} {n x : Str}, ps.lookup n = some x → (n, x) ∈ ps
  | [], _, _, h => by simp at h
  | (m, y) :: ps, n, x, h => by
    rw [List.lookup_cons] at h
    by_cases e : n = m
    · subst e
      simp at h
      subst h
      exact List.mem_cons_self
    · have e2 : (n == m) = false := beq_eq_false_iff_ne.mpr e
      rw [e2] at h
      exact List.mem_cons_of_mem _ (lookup_mem h)
theorem lookup_of : ∀ {ps : List (Str × Str)} {n x : Str}, (ps.map Prod.fst).Nodup → (n, x) ∈ ps → ps.lookup n = some x
  | (m, y) :: ps, n, x, nd, h => by
    rw [List.map_cons, List.nodup_cons] at nd
    rw [List.lookup_cons]
    rcases List.mem_cons.mp h with h | h
    · cases h
      simp
    · have e : n ≠ m := fun q => nd.1 (by rw [← q]; exact List.mem_map.mpr ⟨_, h, rfl⟩)
      rw [beq_eq_false_iff_ne.mpr e]
      exact lookup_of nd.2 h
theorem lookup_none : ∀ {ps : List (Str × Str)} {n : Str}, (∀ x, (n, x) ∉ ps) → ps.lookup n = none
  | [], _, _ => rfl
  | (m, y) :: ps, n, h => by
    have e : n ≠ m := fun q => h y (by rw [q]; exact List.mem_cons_self)
    rw [List.lookup_cons, beq_eq_false_iff_ne.mpr e]
    exact lookup_none fun x hx => h x (List.mem_cons_of_mem _ hx)
theorem lookup_perm {ps qs : List (Str × Str)} (nd : (ps.map Prod.fst).Nodup) (h : qs.Perm ps) (n : Str) : qs.lookup n = ps.lookup n := by
  cases e : ps.lookup n with
  | none =>
    refine lookup_none fun x hx => ?_
    rw [lookup_of nd (h.mem_iff.mp hx)] at e
    cases e
  | some x => exact lookup_of ((h.map Prod.fst).nodup_iff.mpr nd) (h.mem_iff.mpr (lookup_mem e))
theorem sortOf_eq {z : Zz} (nd : (z.sorts.map Prod.fst).Nodup) (n : Str) : sortOf z n = z.sorts.lookup n := lookup_perm nd (sortP_perm _) n
/-! ### a dict of pairs -/
def pkv (p : Str × Str) : Key × V := (Sum.inr p.1, V.str p.2)
theorem putK_new (kvs : List (Key × V)) (k : Key) (v : V) (h : ∀ kv ∈ kvs, kv.1 ≠ k) : putK kvs k v = kvs ++ [(k, v)] := by
  unfold putK
  rw [if_neg]
  intro q
  obtain ⟨kv, h1, h2⟩ := List.any_eq_true.mp q
  exact h kv h1 (of_decide_eq_true h2)
theorem merge_new : ∀ (ps : List (Str × Str)) (acc : List (Key × V)), (ps.map Prod.fst).Nodup → (∀ p ∈ ps, ∀ kv ∈ acc, kv.1 ≠ (Sum.inr p.1 : Key)) → mergeK acc (ps.map pkv) = acc ++ ps.map pkv
  | [], acc, _, _ => by simp [mergeK]
  | p :: ps, acc, nd, h => by
    rw [List.map_cons, List.nodup_cons] at nd
    have e : mergeK acc ((p :: ps).map pkv) = mergeK (putK acc (Sum.inr p.1) (V.str p.2)) (ps.map pkv) := rfl
    rw [e, putK_new acc _ _ (h p List.mem_cons_self), merge_new ps _ nd.2 (fun q hq kv hkv => ?_)]
    · simp [pkv]
    · rcases List.mem_append.mp hkv with hkv | hkv
      · exact h q (List.mem_cons_of_mem _ hq) kv hkv
      · rw [List.mem_singleton.mp hkv]
        intro e2
        have e3 : p.1 = q.1 := Sum.inr.inj e2
        exact nd.1 (by rw [e3]; exact List.mem_map.mpr ⟨q, hq, rfl⟩)
theorem val_pairs : ∀ (ps : List (Str × Str)) (n : Str), valV (ps.map pkv) (Sum.inr n) = (ps.lookup n).map V.str
  | [], n => rfl
  | p :: ps, n => by
    rw [List.map_cons, List.lookup_cons]
    by_cases e : n = p.1
    · rw [valV_pos (p := pkv p) (by show Sum.inr p.1 = Sum.inr n; rw [e])]
      subst e
      simp [pkv]
    · rw [valV_neg (p := pkv p) (fun q => e (Sum.inr.inj (show (Sum.inr p.1 : Key) = Sum.inr n from q)).symm), beq_eq_false_iff_ne.mpr e]
      exact val_pairs ps n
theorem val_dict {ps : List (Str × Str)} (nd : (ps.map Prod.fst).Nodup) (n : Str) : valV (mergeK [] (ps.map pkv)) (Sum.inr n) = (ps.lookup n).map V.str := by
  rw [merge_new ps [] nd (fun _ _ _ h => by cases h), List.nil_append]
  exact val_pairs ps n
theorem pairs_of {K : PySem.W.Frag} {H : Hp} : ∀ {xs : List V} {ps : List (Str × Str)}, TDs K H xs (ps.map encP) → ∃ as : List Addr, xs = as.map V.ref ∧ Paired (fun p (kv : Key × V) => SqT K H p [kV kv.1, kv.2]) as (ps.map pkv)
  | _, [], h => ⟨[], TDs.nil_inv h, .nil⟩
  | _, p :: ps, h => by
    obtain ⟨v, ws, rfl, h1, h2⟩ := TDs.cons_inv h
    obtain ⟨as, rfl, h3⟩ := pairs_of h2
    obtain ⟨a, ys, rfl, h4, h5⟩ := TD.tup_inv h1
    obtain rfl := TDs.strs_inv (xs := [p.1, p.2]) h5
    exact ⟨a :: as, rfl, .cons h4 h3⟩
/-! ### what noises do -/
theorem sorts_ne : ("loud" : Str) ≠ "soft" ∧ ("sudden" : Str) ≠ "soft" ∧ ("faint" : Str) ≠ "soft" ∧ ("sudden" : Str) ≠ "loud" ∧ ("faint" : Str) ≠ "loud" ∧ ("faint" : Str) ≠ "sudden" ∧ ("again" : Str) ≠ "wake" := by decide +kernel
/-- the five kinds of noises -/
theorem kinds (so : Option Str) : so = some ("soft" : Str) ∨ so = some ("loud" : Str) ∨ so = some ("sudden" : Str) ∨ so = some ("faint" : Str) ∨ (so ≠ some ("soft" : Str) ∧ so ≠ some ("loud" : Str) ∧ so ≠ some ("sudden" : Str) ∧ so ≠ some ("faint" : Str)) := by
  by_cases h1 : so = some ("soft" : Str)
  · exact .inl h1
  by_cases h2 : so = some ("loud" : Str)
  · exact .inr (.inl h2)
  by_cases h3 : so = some ("sudden" : Str)
  · exact .inr (.inr (.inl h3))
  by_cases h4 : so = some ("faint" : Str)
  · exact .inr (.inr (.inr (.inl h4)))
  exact .inr (.inr (.inr (.inr ⟨h1, h2, h3, h4⟩)))
theorem hear_soft {z : Zz} {n : Str} (s : S0) : hear z (some ("soft" : Str)) n s = match s with | .asl => .stir z.stir | .kept _ _ => .stir z.stir | s => s := by
  obtain ⟨h1, h2, h3, h4, h5, h6, h7⟩ := sorts_ne
  cases s <;> simp [hear, h1.symm]
theorem hear_loud {z : Zz} {n : Str} (s : S0) : hear z (some ("loud" : Str)) n s = match s with | .up => .up | .doz t => (if z.loud = ("wake" : Str) then .wok else if z.loud = ("again" : Str) then .doz z.doze else .doz t) | _ => .wok := by
  obtain ⟨h1, h2, h3, h4, h5, h6, h7⟩ := sorts_ne
  cases s <;> simp [hear, h1]
theorem hear_sudden {z : Zz} {n : Str} (s : S0) : hear z (some ("sudden" : Str)) n s = match s with | .asl => .wok | .kept _ _ => .wok | s => s := by
  obtain ⟨h1, h2, h3, h4, h5, h6, h7⟩ := sorts_ne
  cases s <;> simp [hear, h2, h4]
theorem hear_faint {z : Zz} {n : Str} (s : S0) : hear z (some ("faint" : Str)) n s = match s with | .asl => .kept n 0 | .kept m _ => (if m = n then .kept n 0 else .wok) | s => s := by
  obtain ⟨h1, h2, h3, h4, h5, h6, h7⟩ := sorts_ne
  cases s <;> simp [hear, h3, h5, h6]
theorem hear_else {z : Zz} {n : Str} {so : Option Str} (h : so ≠ some ("soft" : Str) ∧ so ≠ some ("loud" : Str) ∧ so ≠ some ("sudden" : Str) ∧ so ≠ some ("faint" : Str)) (s : S0) : hear z so n s = s := by
  obtain ⟨h1, h2, h3, h4⟩ := h
  cases s <;> simp [hear, h1, h2, h3, h4]
inductive Kd where
  | soft | loud | sudden | faint | els
  deriving DecidableEq
def act (z : Zz) (n : Str) : Kd → S0 → S0
  | .soft, .asl => .stir z.stir
  | .soft, .kept _ _ => .stir z.stir
  | .loud, .doz t => if z.loud = ("wake" : Str) then .wok else if z.loud = ("again" : Str) then .doz z.doze else .doz t
  | .loud, .asl => .wok
  | .loud, .kept _ _ => .wok
  | .loud, .stir _ => .wok
  | .sudden, .asl => .wok
  | .sudden, .kept _ _ => .wok
  | .faint, .asl => .kept n 0
  | .faint, .kept m _ => if m = n then .kept n 0 else .wok
  | _, s => s
def kd (so : Option Str) : Kd := if so = some ("soft" : Str) then .soft else if so = some ("loud" : Str) then .loud else if so = some ("sudden" : Str) then .sudden else if so = some ("faint" : Str) then .faint else .els
theorem hear_act (z : Zz) (so : Option Str) (n : Str) (s : S0) : hear z so n s = act z n (kd so) s := by
  obtain ⟨h1, h2, h3, h4, h5, h6, h7⟩ := sorts_ne
  rcases kinds so with rfl | rfl | rfl | rfl | h
  · rw [hear_soft]; cases s <;> simp [kd, act]
  · rw [hear_loud]; cases s <;> simp [kd, act, h1]
  · rw [hear_sudden]; cases s <;> simp [kd, act, h2, h4]
  · rw [hear_faint]; cases s <;> simp [kd, act, h3, h5, h6]
  · rw [hear_else h]; obtain ⟨q1, q2, q3, q4⟩ := h; cases s <;> simp [kd, act, q1, q2, q3, q4]
/-- two noises twice are as once -/
theorem twice (z : Zz) (a b : Str) (s : S0) : rowS z (rowS z s [a, b]) [a, b] = rowS z s [a, b] := by
  have key : ∀ ka kb : Kd, (a = b → ka = kb) → ∀ s, act z b kb (act z a ka (act z b kb (act z a ka s))) = act z b kb (act z a ka s) := by
    intro ka kb hab s
    have wa : ("wake" : Str) ≠ "again" := sorts_ne.2.2.2.2.2.2.symm
    by_cases e : a = b
    · subst e
      have e2 := hab rfl
      subst e2
      by_cases hw : z.loud = ("wake" : Str)
      · cases s
        case kept m t => by_cases h1 : m = a <;> cases ka <;> simp [act, hw, h1, wa]
        all_goals (cases ka <;> simp [act, hw, wa])
      · by_cases hg : z.loud = ("again" : Str)
        · cases s
          case kept m t => by_cases h1 : m = a <;> cases ka <;> simp [act, hw, hg, h1]
          all_goals (cases ka <;> simp [act, hg, wa.symm])
        · cases s
          case kept m t => by_cases h1 : m = a <;> cases ka <;> simp [act, hw, hg, h1]
          all_goals (cases ka <;> simp [act, hw, hg])
    · have e2 : ¬ b = a := fun q => e q.symm
      by_cases hw : z.loud = ("wake" : Str)
      · cases s
        case kept m t => by_cases h1 : m = a <;> by_cases h2 : m = b <;> cases ka <;> cases kb <;> simp [act, hw, h1, h2, wa, e, e2]
        all_goals (cases ka <;> cases kb <;> simp [act, hw, wa, e, e2])
      · by_cases hg : z.loud = ("again" : Str)
        · cases s
          case kept m t => by_cases h1 : m = a <;> by_cases h2 : m = b <;> cases ka <;> cases kb <;> simp [act, hg, wa.symm, h1, h2, e, e2]
          all_goals (cases ka <;> cases kb <;> simp [act, hg, wa.symm, e, e2])
        · cases s
          case kept m t => by_cases h1 : m = a <;> by_cases h2 : m = b <;> cases ka <;> cases kb <;> simp [act, hw, hg, h1, h2, e, e2]
          all_goals (cases ka <;> cases kb <;> simp [act, hw, hg, e, e2])
  have h := key (kd (sortOf z a)) (kd (sortOf z b)) (fun e => by rw [e]) s
  simp only [← hear_act] at h
  exact h
end Hb
set_option Elab.async false
set_option linter.all false
set_option maxRecDepth 100000
set_option maxHeartbeats 8000000
namespace Hb
open PySem PySem.Spec PyProof.Rows L2
def InS (z : Zz) : S0 → Prop
  | .doz t => 1 ≤ t ∧ t ≤ z.doze
  | .stir t => 1 ≤ t ∧ t ≤ z.stir
  | .kept n a => (n, ("faint" : Str)) ∈ z.sorts ∧ 0 ≤ a ∧ a ≤ z.near
  | _ => True
theorem mem_states {z : Zz} {s : S0} : s ∈ states z ↔ InS z s := by
  unfold states
  rw [List.mem_append, List.mem_append, List.mem_append]
  constructor
  · rintro (((h | h) | h) | h)
    · simp only [List.mem_cons, List.not_mem_nil, or_false] at h
      rcases h with rfl | rfl | rfl <;> exact trivial
    · obtain ⟨i, hi, rfl⟩ := List.mem_map.mp h
      have := List.mem_range.mp hi
      exact ⟨by omega, by omega⟩
    · obtain ⟨i, hi, rfl⟩ := List.mem_map.mp h
      have := List.mem_range.mp hi
      exact ⟨by omega, by omega⟩
    · obtain ⟨p, hp, h⟩ := List.mem_flatMap.mp h
      obtain ⟨i, hi, rfl⟩ := List.mem_map.mp h
      obtain ⟨h1, h2⟩ := List.mem_filter.mp hp
      have h3 : p.2 = ("faint" : Str) := of_decide_eq_true h2
      have := List.mem_range.mp hi
      refine ⟨?_, by omega, by omega⟩
      rw [← h3]
      exact h1
  · intro h
    cases s with
    | up => exact .inl (.inl (.inl (by simp)))
    | asl => exact .inl (.inl (.inl (by simp)))
    | wok => exact .inl (.inl (.inl (by simp)))
    | doz t =>
      obtain ⟨h1, h2⟩ := h
      exact .inl (.inl (.inr (List.mem_map.mpr ⟨(t - 1).toNat, List.mem_range.mpr (by omega), by rw [show (1 : Int) + ((t - 1).toNat : Nat) = t by omega]⟩)))
    | stir t =>
      obtain ⟨h1, h2⟩ := h
      exact .inl (.inr (List.mem_map.mpr ⟨(t - 1).toNat, List.mem_range.mpr (by omega), by rw [show (1 : Int) + ((t - 1).toNat : Nat) = t by omega]⟩))
    | kept n a =>
      obtain ⟨h0, h1, h2⟩ := h
      exact .inr (List.mem_flatMap.mpr ⟨_, List.mem_filter.mpr ⟨h0, decide_eq_true rfl⟩, List.mem_map.mpr ⟨a.toNat, List.mem_range.mpr (by omega), by rw [show (0 : Int) + (a.toNat : Nat) = a by omega]⟩⟩)
section
variable {z : Zz} {ws : List Str} (zk : Zok z ws)
include zk
theorem Zok.zin : z.sorts.length ≤ 100 := Nat.le_trans zk.few (by decide)
theorem sort_mem {n x : Str} (h : sortOf z n = some x) : (n, x) ∈ z.sorts := by
  rw [sortOf_eq zk.nd] at h
  exact lookup_mem h
theorem InS.sok {s : S0} (h : InS z s) : s.ok := by
  cases s
  case kept n a => exact (Zok.ok zk _ h.1).1
  all_goals trivial
theorem InS.hear {n : Str} {s : S0} (h : InS z s) : InS z (Hb.hear z (sortOf z n) n s) := by
  have f : kd (sortOf z n) = .faint → (n, ("faint" : Str)) ∈ z.sorts := by
    intro e
    unfold kd at e
    split at e
    · cases e
    · split at e
      · cases e
      · split at e
        · cases e
        · split at e
          · rename_i q
            exact sort_mem zk q
          · cases e
  rw [hear_act]
  have d1 := zk.d1
  have s1 := zk.s1
  have n1 := zk.n1
  cases s with
  | up => cases kd (sortOf z n) <;> trivial
  | wok => cases kd (sortOf z n) <;> trivial
  | asl =>
    cases q : kd (sortOf z n)
    case faint => exact ⟨f q, by omega, by omega⟩
    case soft => exact ⟨by omega, by omega⟩
    all_goals trivial
  | kept m a =>
    cases q : kd (sortOf z n)
    case faint =>
      show InS z (if m = n then .kept n 0 else .wok)
      split
      · exact ⟨f q, by omega, by omega⟩
      · trivial
    case soft => exact ⟨by omega, by omega⟩
    case els => exact h
    all_goals trivial
  | doz t =>
    cases q : kd (sortOf z n)
    case loud =>
      show InS z (if z.loud = ("wake" : Str) then .wok else if z.loud = ("again" : Str) then .doz z.doze else .doz t)
      split
      · trivial
      · split
        · exact ⟨by omega, by omega⟩
        · exact h
    all_goals exact h
  | stir t =>
    cases q : kd (sortOf z n)
    case loud => trivial
    all_goals exact h
theorem InS.row : ∀ {ns : List Str} {s : S0}, InS z s → InS z (rowS z s ns)
  | [], _, h => h
  | n :: ns, _, h => InS.row (ns := ns) (InS.hear zk h)
theorem InS.tick {s : S0} (h : InS z s) : InS z (Hb.tick z s) := by
  have n1 := zk.n1
  cases s with
  | up => trivial
  | wok => trivial
  | asl => trivial
  | doz t =>
    show InS z (if 1 < t then .doz (t - 1) else .asl)
    split
    · exact ⟨by omega, by have := h.2; omega⟩
    · trivial
  | stir t =>
    show InS z (if 1 < t then .stir (t - 1) else .wok)
    split
    · exact ⟨by omega, by have := h.2; omega⟩
    · trivial
  | kept m a =>
    obtain ⟨h0, h1, h2⟩ := h
    show InS z (if a < z.near then .kept m (a + 1) else .asl)
    split
    · exact ⟨h0, by omega, by omega⟩
    · trivial
theorem InS.hum {s : S0} {x : Str} (h : InS z s) : InS z (Hb.hum z x s) ∧ (Hb.hum z x s).word ≠ "asleep" := by
  have d1 := zk.d1
  obtain ⟨q1, q2, q3, q4, q5, q6, q7, q8, q9, q10⟩ := words_ne
  by_cases e : s = .wok
  · subst e
    exact ⟨trivial, q9⟩
  · have e2 : Hb.hum z x s = if x = "up" then .up else .doz z.doze := by cases s <;> first | exact absurd rfl e | rfl
    rw [e2]
    split
    · exact ⟨trivial, q1.symm⟩
    · exact ⟨⟨by omega, by omega⟩, q5.symm⟩
end
/-- a noise twice is as once -/
theorem once (z : Zz) (a : Str) (s : S0) : rowS z s [a, a] = rowS z s [a] := by
  show hear z (sortOf z a) a (hear z (sortOf z a) a s) = hear z (sortOf z a) a s
  rw [hear_act, hear_act]
  have wa : ("wake" : Str) ≠ "again" := sorts_ne.2.2.2.2.2.2.symm
  generalize kd (sortOf z a) = k
  by_cases hw : z.loud = ("wake" : Str)
  · cases s
    case kept m t => by_cases h1 : m = a <;> cases k <;> simp [act, hw, h1, wa]
    all_goals (cases k <;> simp [act, hw, wa])
  · by_cases hg : z.loud = ("again" : Str)
    · cases s
      case kept m t => by_cases h1 : m = a <;> cases k <;> simp [act, hg, wa.symm, h1]
      all_goals (cases k <;> simp [act, hg, wa.symm])
    · cases s
      case kept m t => by_cases h1 : m = a <;> cases k <;> simp [act, hw, hg, h1]
      all_goals (cases k <;> simp [act, hw, hg])
theorem unheard_same (z : Zz) (a : Str) (s : S0) (h : sortOf z a = none) : hear z (sortOf z a) a s = s := by
  rw [h, hear_else ⟨by simp, by simp, by simp, by simp⟩]
theorem others_same (z : Zz) (a : Str) (s : S0) (h : sortOf z a = some ("sudden" : Str) ∨ sortOf z a = some ("faint" : Str) ∨ sortOf z a = some ("soft" : Str)) (w : s.word = "stirring" ∨ s.word = "dozing" ∨ s.word = "up") :
    hear z (sortOf z a) a s = s := by
  obtain ⟨q1, q2, q3, q4, q5, q6, q7, q8, q9, q10⟩ := words_ne
  have ns : s ≠ .asl := by rintro rfl; exact w.elim (fun w => q8 w.symm) fun w => w.elim (fun w => q5 w) fun w => q1 w
  have nk : ∀ m t, s ≠ .kept m t := by rintro m t rfl; exact w.elim (fun w => q8 w.symm) fun w => w.elim (fun w => q5 w) fun w => q1 w
  rcases h with h | h | h <;> rw [h]
  · rw [hear_sudden]; cases s <;> first | exact absurd rfl ns | exact absurd rfl (nk _ _) | rfl
  · rw [hear_faint]; cases s <;> first | exact absurd rfl ns | exact absurd rfl (nk _ _) | rfl
  · rw [hear_soft]; cases s <;> first | exact absurd rfl ns | exact absurd rfl (nk _ _) | rfl
/-- a longer stirring is woken no sooner -/
theorem longer (z : Zz) (t : Int) (a : Str) (s : S0) (h : hear { z with stir := t } (sortOf { z with stir := t } a) a s = .wok) : hear z (sortOf z a) a s = .wok := by
  have e : sortOf { z with stir := t } a = sortOf z a := rfl
  rw [e, hear_act] at h
  rw [hear_act]
  revert h
  generalize kd (sortOf z a) = k
  cases k <;> cases s <;> simp [act]
end Hb
set_option Elab.async false
set_option linter.all false
set_option maxRecDepth 100000
set_option maxHeartbeats 4000000
namespace Hb
open PySem PySem.Spec PyProof.Rows L2
section
variable {K : PySem.W.Frag} {H : Hp} {x y : V} {s t : S0} {Q : VK}
theorem ne_st (hx : StAt K H x s) (hy : StAt K H y t) (os : s.ok) (ot : t.ok) (q : Q (.bl (!decide (s = t))) H) : rNeD K x y H Q :=
  ⟨_, _, TD.dp hx.td, TD.dp hy.td, (S0.shp os).shaped, (S0.shp ot).shaped, by rw [eqv_st]; exact q⟩
theorem eq_st (hx : StAt K H x s) (hy : StAt K H y t) (os : s.ok) (ot : t.ok) (q : Q (.bl (decide (s = t))) H) : rEqD K x y H Q :=
  ⟨_, _, TD.dp hx.td, TD.dp hy.td, (S0.shp os).shaped, (S0.shp ot).shaped, by rw [eqv_st]; exact q⟩
theorem notin_st {S : Addr} {us : List V} {ss : List S0} (hx : StAt K H x s) (os : s.ok) (hS : H S = some (.lst us)) (hs : SsAt K H us ss) (ok : ∀ s ∈ ss, s.ok) (q : Q (.bl (!decide (s ∈ ss))) H) : rNotInD K x (.ref S) H Q :=
  ⟨_, _, TD.dp hx.td, .lst (SqL.of hS) (TDs.dp hs.td), (S0.shp os).shaped, shaped_sts ok, by rw [any_st]; exact q⟩
end
theorem hear_ok {z : Zz} {so : Option Str} {n : Str} {s : S0} (h : s.ok) (hn : PyData.strOk n = true) : (hear z so n s).ok := by
  rw [hear_act]
  generalize kd so = k
  cases s with
  | kept m t =>
    cases k with
    | faint =>
      show (if m = n then S0.kept n 0 else S0.wok).ok
      split
      · exact hn
      · trivial
    | els => exact h
    | soft => trivial
    | loud => trivial
    | sudden => trivial
  | asl => cases k <;> first | exact hn | trivial
  | doz t =>
    cases k with
    | loud =>
      show (if z.loud = ("wake" : Str) then S0.wok else if z.loud = ("again" : Str) then S0.doz z.doze else S0.doz t).ok
      split
      · trivial
      · split <;> trivial
    | soft => trivial
    | faint => trivial
    | sudden => trivial
    | els => trivial
  | up => cases k <;> trivial
  | wok => cases k <;> trivial
  | stir t => cases k <;> trivial
theorem str_mem_map {x : Str} {xs : List Str} (h : x ∈ xs) : V.str x ∈ xs.map V.str := List.mem_map.mpr ⟨x, h, rfl⟩
end Hb
set_option Elab.async false
set_option linter.all false
set_option maxRecDepth 100000
set_option maxHeartbeats 4000000
namespace Hb
open PySem PySem.Spec PyProof.Rows L2
/-! ### houses -/
def nzD : Option Str → PyData
  | none => .none
  | some n => .str n
def nzV : Option Str → V
  | none => .non
  | some n => .str n
abbrev Dr := Int × Int × Option Str
abbrev Fl := Int × Str
structure Hz where
  rooms : Int
  doors : List Dr
  floors : List Fl
  cradles : List Int
def encD (x : Dr) : PyData := .tuple [.int x.1, .int x.2.1, nzD x.2.2]
def encF (x : Fl) : PyData := .tuple [.int x.1, .str x.2]
def encH (h : Hz) : PyData := .tuple [.int h.rooms, .tuple (h.doors.map encD), .tuple (h.floors.map encF), .tuple (h.cradles.map PyData.int)]
section
variable {K : PySem.W.Frag} {H : Hp}
theorem TD.nz_inv {v : V} {n : Option Str} (h : TD K H v (nzD n)) : v = nzV n := by
  cases n with
  | none => cases h; rfl
  | some n => cases h; rfl
theorem TD.nz (n : Option Str) : TD K H (nzV n) (nzD n) := by
  cases n with
  | none => exact .non
  | some n => exact .str n
theorem TD.door_inv {v : V} {x : Dr} (h : TD K H v (encD x)) : ∃ t, v = .ref t ∧ SqT K H t [.int x.1, .int x.2.1, nzV x.2.2] := by
  obtain ⟨t, ys, e, h1, h2⟩ := TD.tup_inv h
  obtain ⟨v1, w1, rfl, a1, h3⟩ := TDs.cons_inv h2
  obtain ⟨v2, w2, rfl, a2, h4⟩ := TDs.cons_inv h3
  obtain ⟨v3, w3, rfl, a3, h5⟩ := TDs.cons_inv h4
  obtain rfl := TDs.nil_inv h5
  rw [TD.int_inv a1, TD.int_inv a2, TD.nz_inv a3] at h1
  exact ⟨t, e, h1⟩
theorem TD.floor_inv {v : V} {x : Fl} (h : TD K H v (encF x)) : ∃ t, v = .ref t ∧ SqT K H t [.int x.1, .str x.2] := by
  obtain ⟨t, ys, e, h1, h2⟩ := TD.tup_inv h
  obtain ⟨v1, w1, rfl, a1, h3⟩ := TDs.cons_inv h2
  obtain ⟨v2, w2, rfl, a2, h4⟩ := TDs.cons_inv h3
  obtain rfl := TDs.nil_inv h4
  rw [TD.int_inv a1, TD.str_inv a2] at h1
  exact ⟨t, e, h1⟩
theorem TD.door {t : Addr} {x : Dr} (h : SqT K H t [.int x.1, .int x.2.1, nzV x.2.2]) : TD K H (.ref t) (encD x) := .tup h (.cons (.int _) (.cons (.int _) (.cons (TD.nz _) .nil)))
theorem TD.floor {t : Addr} {x : Fl} (h : SqT K H t [.int x.1, .str x.2]) : TD K H (.ref t) (encF x) := .tup h (.cons (.int _) (.cons (.str _) .nil))
theorem TDs.at_map {α : Type} {enc : α → PyData} {vs : List V} {xs : List α} {i : Nat} {v : V} (h : TDs K H vs (xs.map enc)) (e : vs[i]? = some v) : ∃ x, xs[i]? = some x ∧ TD K H v (enc x) := by
  obtain ⟨d, h1, h2⟩ := TDs.at h e
  rw [List.getElem?_map] at h1
  obtain ⟨p, h3, h4⟩ := Option.map_eq_some_iff.mp h1
  subst h4
  exact ⟨p, h3, h2⟩
end
structure HIs (K : PySem.W.Frag) (H : Hp) (p : Addr) (h : Hz) (a b c : Addr) (xs ys : List V) : Prop where
  all : SqT K H p [.int h.rooms, .ref a, .ref b, .ref c]
  da : SqT K H a xs
  dx : TDs K H xs (h.doors.map encD)
  fb : SqT K H b ys
  fx : TDs K H ys (h.floors.map encF)
  cc : SqT K H c (h.cradles.map V.int)
def HOne (K : PySem.W.Frag) (H : Hp) (p : Addr) (h : Hz) : Prop := TD K H (.ref p) (encH h)
theorem HOne.inv {K : PySem.W.Frag} {H : Hp} {p : Addr} {h : Hz} (x : HOne K H p h) : ∃ a b c xs ys, HIs K H p h a b c xs ys := by
  obtain ⟨t, ws, e, h1, h2⟩ := TD.tup_inv x
  cases e
  obtain ⟨v1, w1, rfl, a1, h3⟩ := TDs.cons_inv h2
  obtain ⟨v2, w2, rfl, a2, h4⟩ := TDs.cons_inv h3
  obtain ⟨v3, w3, rfl, a3, h5⟩ := TDs.cons_inv h4
  obtain ⟨v4, w4, rfl, a4, h6⟩ := TDs.cons_inv h5
  obtain rfl := TDs.nil_inv h6
  obtain rfl := TD.int_inv a1
  obtain ⟨a, xs, rfl, s1, s2⟩ := TD.tup_inv a2
  obtain ⟨b, ys, rfl, s3, s4⟩ := TD.tup_inv a3
  obtain ⟨c, zs, rfl, s5, s6⟩ := TD.tup_inv a4
  obtain rfl := TDs.ints_inv s6
  exact ⟨a, b, c, xs, ys, h1, s1, s2, s3, s4, s5⟩
theorem HIs.one {K : PySem.W.Frag} {H : Hp} {p : Addr} {h : Hz} {a b c : Addr} {xs ys : List V} (x : HIs K H p h a b c xs ys) : HOne K H p h :=
  .tup x.all (.cons (.int _) (.cons (.tup x.da x.dx) (.cons (.tup x.fb x.fx) (.cons (.tup x.cc (tds_ints _)) .nil))))
def inR (r v : Int) : Prop := 0 ≤ v ∧ v < r
def DrOk (r : Int) (x : Dr) : Prop := inR r x.1 ∧ inR r x.2.1 ∧ x.1 ≠ x.2.1 ∧ ∀ n, x.2.2 = some n → nameB n = true
def FlOk (r : Int) (x : Fl) : Prop := inR r x.1 ∧ nameB x.2 = true
/-- what may be handed to House -/
structure Hin (h : Hz) : Prop where
  r1 : 1 ≤ h.rooms
  d : ∀ x ∈ h.doors, DrOk h.rooms x
  f : ∀ x ∈ h.floors, FlOk h.rooms x
  fnd : (h.floors.map Prod.fst).Nodup
  c : ∀ x ∈ h.cradles, inR h.rooms x
  cnd : h.cradles.Nodup
  fewd : h.doors.length ≤ 1000
  fewf : h.floors.length ≤ 1000
  fewc : h.cradles.length ≤ 1000
def sortF (xs : List Fl) : List Fl := xs.mergeSort (PySem.W.dataLe false encF)
def sortI (xs : List Int) : List Int := xs.mergeSort (PySem.W.dataLe false PyData.int)
theorem sortF_perm (xs : List Fl) : (sortF xs).Perm xs := List.mergeSort_perm _ _
theorem sortI_perm (xs : List Int) : (sortI xs).Perm xs := List.mergeSort_perm _ _
def hFs (a b c : Addr) (h : Hz) : List (Str × V) := [("rooms", .int h.rooms), ("doors", .ref a), ("floors", .ref b), ("cradles", .ref c)]
/-- an object of House -/
def HAt (K : PySem.W.Frag) (C : Addr) (H : Hp) (p : Addr) (h : Hz) : Prop := ∃ dx a b c xs ys, H p = some (.ins C dx (hFs a b c h)) ∧ SqT K H a xs ∧ TDs K H xs (h.doors.map encD) ∧ SqT K H b ys ∧ TDs K H ys ((sortF h.floors).map encF) ∧ SqT K H c ((sortI h.cradles).map V.int)
theorem HAt.keep {K : PySem.W.Frag} {C : Addr} {H H' : Hp} {p : Addr} {h : Hz} (x : HAt K C H p h) (k : TK H H') (e : ∀ o, H p = some o → H' p = some o) : HAt K C H' p h := by
  obtain ⟨dx, a, b, c, xs, ys, h1, h2, h3, h4, h5, h6⟩ := x
  exact ⟨dx, a, b, c, xs, ys, e _ h1, SqT.keep k h2, TDs.keep k h3, SqT.keep k h4, TDs.keep k h5, SqT.keep k h6⟩
theorem HAt.same {K : PySem.W.Frag} {C : Addr} {H H' : Hp} {p : Addr} {h : Hz} (x : HAt K C H p h) (s : Same H H') : HAt K C H' p h := x.keep (Same.tk s) fun o e => s _ _ e
theorem HAt.kp {K : PySem.W.Frag} {C d g : Addr} {H H' : Hp} {p : Addr} {h : Hz} (x : HAt K C H p h) (dl : Deal d g H) (k : Kp d g H H') : HAt K C H' p h := by
  have x2 := x
  obtain ⟨dx, a, b, c, xs, ys, h1, _⟩ := x2
  exact x.keep (dl.tk k) fun o e => k _ _ (dl.ne_d h1 (by intro kvs e; cases e)) (dl.ne_g h1 (by intro xs e; cases e)) e
/-! sorting of what is held in places -/
theorem zip_tdE {K : PySem.W.Frag} {H : Hp} {α : Type} {enc : α → PyData} : ∀ {xs : List V} {ps : List α}, TDs K H xs (ps.map enc) → ∀ z ∈ xs.zip ps, TD K H z.1 (enc z.2)
  | _, [], h => by
    obtain rfl := TDs.nil_inv h
    intro z hz
    cases hz
  | _, p :: ps, h => by
    obtain ⟨v, w, rfl, h1, h2⟩ := TDs.cons_inv h
    intro z hz
    rcases List.mem_cons.mp hz with rfl | hz
    · exact h1
    · exact zip_tdE h2 z hz
theorem tdE_zip {K : PySem.W.Frag} {H : Hp} {α : Type} {enc : α → PyData} : ∀ {zs : List (V × α)}, (∀ z ∈ zs, TD K H z.1 (enc z.2)) → TDs K H (zs.map (·.1)) ((zs.map (·.2)).map enc)
  | [], _ => .nil
  | z :: zs, h => .cons (h z List.mem_cons_self) (tdE_zip fun y hy => h y (List.mem_cons_of_mem _ hy))
theorem sort_zipE {α : Type} (enc : α → PyData) (zs : List (V × α)) : (zs.mergeSort (PySem.W.dataLe false fun z => enc z.2)).map (·.2) = (zs.map (·.2)).mergeSort (PySem.W.dataLe false enc) :=
  PySem.W.sort_maps (fun z : V × α => z.2) fun _ _ _ _ => rfl
theorem alike_F (p q : Fl) : PySem.W.alike (encF p) (encF q) = true := by simp [encF, PySem.W.alike, PySem.W.alikeAll]
theorem depth_F (p : Fl) : (encF p).depth ≤ 60 := by simp [encF, PyData.depth, PyData.depthAll]
end Hb
set_option Elab.async false
set_option linter.all false
set_option maxRecDepth 100000
set_option maxHeartbeats 8000000
namespace Hb
open PySem PySem.Spec PyProof.Rows L2
/-- len(set(xs)), xs a list of unlike texts, or a list or a tuple of unlike ints -/
def tLenSet3 (K : PySem.W.Frag) (ta : TE) : TE := fun σ H Q => ta σ H fun x H1 => ∃ l : Addr, x = .ref l ∧
  ((∃ xs : List Str, SqL K H1 l (xs.map V.str) ∧ xs.Nodup ∧ xs.length ≤ 4000 ∧ Q (.int xs.length) H1) ∨ ∃ ns : List Int, (SqL K H1 l (ns.map V.int) ∨ SqT K H1 l (ns.map V.int)) ∧ ns.Nodup ∧ ns.length ≤ 4000 ∧ Q (.int ns.length) H1)
theorem pe_lenSet3 {X : Cx} {a : Expr} {ta : TE} {p p2 q pos : Pos} (hg : Gl X "len") (hm : X.mg "len" = none) (hg2 : Gl X "set") (hm2 : X.mg "set" = none) (ha : PE X a ta) (calm : X.calm = true := by rfl)
    (na : starEach [a] X.env = (false, eval a X.env) :: starEach [] X.env := by rfl) : PE X (.Call (.Name "len" p) [.Call (.Name "set" p2) [a] [] q] [] pos) (tLenSet3 X.K ta) := by
  refine ⟨fun pins s σ H Q I h => Call_ (ld_blt I hg hm boot_len (callWith_builtin1 (args_cons (Call_ (ld_blt I hg2 hm2 boot_set
    (callWith_type1 (args_cons (thn (ha.run pins s σ H _ I h) fun v z ⟨x, H1, J, r, q⟩ => args_nil ?_) na) na rfl))) rfl) rfl rfl))⟩
  obtain ⟨l, rfl, q⟩ := q
  cases r
  have fin : ∀ (n : Nat) (h' : Heap) (tk : Nat) (κ : Type) (i1 : DecidableEq κ) (i2 : BEq κ) (i3 : LawfulBEq κ) (kd : KeyKind X.prog X.w κ) (S : κ → Bool), n ≤ 4000 → h'.SetOf kd z.heap.objs.size S n → (∀ b o, z.heap.get? b = some o → h'.get? b = some o) → Q (.int n) H1 →
      wpAny (model X.prog X.w) X.A (spliced (backTo pos (starEach [] X.env))) (fun vs y => wpAny (model X.prog X.w) X.A (call (.builtin "len") (Value.ref z.heap.objs.size :: vs)) (EP X pins σ Q) X.xe y) X.xe { z with heap := h', toks := tk } := by
    intro n h' tk κ i1 i2 i3 kd S hn hS hk q
    refine args_nil ?_
    obtain ⟨o, es, ep, t, ho, hex, hd, _, _, _, hf, e⟩ := hS
    have J2 : Inv X pins σ H1 { z with heap := h', toks := tk } := J.kept hk
    exact call_len_set ho hex hd hf (by rw [e] <;> omega) ⟨.int n, H1, J2.tok _, ⟨_, by rw [e]⟩, q⟩
  rcases q with ⟨xs, hq, nd, few, q⟩ | ⟨ns, hq, nd, few, q⟩
  · obtain ⟨its, r, pl, hz⟩ := J.list hq
    exact set_texts (J.ok.hd calm) pl.isList (by simpa using strsAre_of r) nd (by unfold scanBound; omega) fun h' tk hS hk => fin _ h' tk _ inferInstance inferInstance inferInstance _ _ few hS hk q
  · rcases hq with hq | hq
    · obtain ⟨its, r, pl, hz⟩ := J.list hq
      have size : its.toArray.size = ns.length := by rw [List.size_toArray, ← r.length, List.length_map]
      refine call_set_list (J.ok.hd calm) pl.isList (by simpa using RZ.intsAre_vals r) (by rw [size]; unfold scanBound; omega) fun h' tk hS hk => ?_
      rw [size, RZ.firstMet_nodup nd ns.length (Nat.le_refl _)] at hS
      rw [List.take_length] at hS
      exact fin _ h' tk _ inferInstance inferInstance inferInstance _ _ few hS (fun b o e => hk b o (Heap.lt_size e) e) q
    · obtain ⟨its, r, pl, hz⟩ := J.tuple hq
      refine L2.call_set_tupI ns (J.ok.hd calm) (show z.heap.IsTuple l its.toArray from pl) (by simpa using RZ.intsAre_vals r) (by unfold scanBound; omega) fun h' tk c hS hc hk => ?_
      obtain ⟨o, es, ep, t, ho, hex, hd, _, kn, ks, _, hf, e, _⟩ := hS
      have pm : (es.toList.map L2.keyOf).Perm ns := (List.perm_ext_iff_of_nodup kn nd).mpr fun k => by rw [← ks k, decide_eq_true_iff]
      have n1 : es.size = ns.length := by have q := pm.length_eq; rw [List.length_map, Array.length_toList] at q; exact q
      refine args_nil ?_
      have J2 : Inv X pins σ H1 { z with heap := h', toks := tk } := J.kept hk
      exact call_len_set ho hex hd hf (by rw [n1] <;> omega) ⟨.int ns.length, H1, J2.tok _, ⟨_, by rw [n1]⟩, q⟩
end Hb
set_option Elab.async false
set_option linter.all false
set_option maxRecDepth 100000
set_option maxHeartbeats 4000000
namespace Hb
open PySem PySem.Spec PyProof.Rows L2
section
variable {P : Program} {w : World} {K : PySem.W.Frag} {mg : Str → Option Value} {base : Heap}
/-- a class whose __init__ has j + 1 defaults, every argument written -/
def Df1d (K : PySem.W.Frag) (mg : Str → Option Value) (C qual : Str) (st : Stmt) (j : Nat) : Prop := Mk K (He.ga K C) (He.ma K (He.ga K C) "__init__") ∧ mg C = some (.ref (He.ga K C)) ∧
  ∃ fd dvs, dvs.length = j + 1 ∧ FunD K "__init__" qual (defArgs st) (defBody st) (defScope st) dvs [] (He.ma K (He.ga K C) "__init__") fd
theorem mak_mkD {C qual : Str} {st : Stmt} {N ps : List Str} {k j : Nat} {sp : Sp} (D : Df1d K mg C qual st j) (S : FnScope N ps (defScope st))
    (bd : ∀ (T : Addr) (kV doc pm : Value) (an : Option Addr) (cdv ct : Value) (us its : List Value), us.length = ps.length → its.length = j + 1 →
      ∃ k, bindArgs (PySem.W.fnOf "__init__" qual (defArgs st) (defBody st) (defScope st) (.ref T) kV doc pm an cdv ct) ⟨us, []⟩ = seqItems? (.ref T) >>= k ∧ k (some its.toArray) = pure (ps.zip us))
    (len : ∀ vs H Q E, sp vs H Q E → vs.length = ps.length)
    (hbody : ∀ (f : Addr) (cdv : Value) (A : Around) (outer : List Env) (s : Shared) (H : Hp) (vs : List V) (Q : VK) (E : XK), Room k (A.deeper (envOfC qual (defScope st) s.heap.objs.size f cdv)) → sp vs H Q E →
      ∃ t, PSs (cxOf CX0 P w K mg base N qual (defScope st) f cdv A outer s H E).nox (defBody st) t ∧ t { nx := fun _ H' => Q .non H', rt := Q } (start N vs) H) : C8.Mak P w K mg base (k + 1) C (He.ga K C) sp [] := by
  obtain ⟨M, hm, fd, dvs, dl, F⟩ := D
  obtain ⟨ds, r, b⟩ := F.binds1 ps.length (j + 1) (by intro e; rw [e] at dl; cases dl) (by rw [dl, Nat.sub_self, Nat.add_zero]) fun T kV doc pm an cdv ct us its h1 h2 => by
    obtain ⟨k, e1, e2⟩ := bd T kV doc pm an cdv ct us its h1 (by rw [h2, dl])
    exact ⟨k, e1, by rw [e2, List.drop_of_length_le (by rw [h2, dl] <;> exact Nat.le_refl _), List.append_nil]⟩
  rw [List.drop_of_length_le (by rw [dl] <;> exact Nat.le_refl _)] at r
  cases r
  exact ⟨⟨_, fd, ps, [], M, F.ok S len fun cdv A outer s H vs Q E hr h => by
    obtain ⟨t, h1, h2⟩ := hbody _ cdv A outer s H vs Q E hr h
    exact ⟨t, h1.nox, h2⟩, hm, b, .nil⟩⟩
end
end Hb
namespace Hb
open PySem PySem.Spec PyProof.Rows L2
/-- all but the object at x stays -/
def KX (x : Addr) (H H' : Hp) : Prop := ∀ b o, b ≠ x → H b = some o → H' b = some o
theorem KX.refl (x : Addr) (H : Hp) : KX x H H := fun _ _ _ e => e
theorem KX.trans {x : Addr} {H H1 H2 : Hp} (a : KX x H H1) (b : KX x H1 H2) : KX x H H2 := fun c o n e => b c o n (a c o n e)
theorem Same.kx {x : Addr} {H H' : Hp} (s : Same H H') : KX x H H' := fun b o _ e => s b o e
theorem KX.put {x : Addr} {H : Hp} {o : HO} : KX x H (upd H x o) := fun b u n e => by rw [upd_ne n]; exact e
section
variable {K : PySem.W.Frag} {H H' : Hp} {x C dx a : Addr} {fs : List (Str × V)} {xs : List V}
theorem KX.tk (k : KX x H H') (e : H x = some (.ins C dx fs)) : TK H H' :=
  ⟨fun b ys h => k b _ (by rintro rfl; rw [e] at h; cases h) h, fun b o u h => k b _ (by rintro rfl; rw [e] at h; cases h) h⟩
theorem KX.seq (k : KX x H H') (e : H x = some (.ins C dx fs)) (h : SqL K H a xs) : SqL K H' a xs :=
  SqL.keep (k.tk e) h fun q => k a _ (by rintro rfl; rw [e] at q; cases q) q
end
end Hb
set_option Elab.async false
set_option linter.all false
set_option maxRecDepth 100000
set_option maxHeartbeats 4000000
namespace Hb
open PySem PySem.Spec PyProof.Rows L2
/-- a drawn house -/
structure Hok (h : Hz) (r m : Int) (ws : List Str) : Prop where
  r1 : 1 ≤ h.rooms
  r2 : h.rooms ≤ r
  d : ∀ x ∈ h.doors, inR h.rooms x.1 ∧ inR h.rooms x.2.1 ∧ x.1 ≠ x.2.1 ∧ ∀ n, x.2.2 = some n → n ∈ ws
  dm : (h.doors.length : Int) ≤ m
  f : ∀ x ∈ h.floors, inR h.rooms x.1 ∧ x.2 ∈ ws
  fs : (h.floors.map Prod.fst).Pairwise (· < ·)
  fm : (h.floors.length : Int) ≤ h.rooms
  c : ∀ x ∈ h.cradles, inR h.rooms x
  cs : h.cradles.Pairwise (· < ·)
  cm : (h.cradles.length : Int) ≤ h.rooms
theorem nodup_of_lt {xs : List Int} (h : xs.Pairwise (· < ·)) : xs.Nodup := h.imp fun {a b} q e => by subst e; exact absurd q (Int.lt_irrefl _)
theorem Hok.hin {h : Hz} {r m : Int} {ws : List Str} (x : Hok h r m ws) (hr : r ≤ 1000) (hm : m ≤ 1000) (hw : ∀ w ∈ ws, nameB w = true) : Hin h :=
  ⟨x.r1, fun y hy => by obtain ⟨a, b, c, e⟩ := x.d y hy; exact ⟨a, b, c, fun n hn => hw n (e n hn)⟩, fun y hy => ⟨(x.f y hy).1, hw _ (x.f y hy).2⟩, nodup_of_lt x.fs, x.c, nodup_of_lt x.cs,
    by have := x.dm; omega, by have := x.fm; have := x.r2; omega, by have := x.cm; have := x.r2; omega⟩
theorem perm_td {K : PySem.W.Frag} {H : Hp} {α : Type} {enc : α → PyData} {ys vs : List V} (h : ys.Perm vs) : ∀ {ds : List α}, TDs K H vs (ds.map enc) → ∃ es : List α, es.Perm ds ∧ TDs K H ys (es.map enc) := by
  induction h with
  | nil => exact fun {ds} t => ⟨ds, .refl _, t⟩
  | cons x p ih =>
    intro ds t
    cases ds with
    | nil => cases t
    | cons d ds =>
      obtain ⟨v, w, e, t1, t2⟩ := TDs.cons_inv t
      cases e
      obtain ⟨es, pe, te⟩ := ih t2
      exact ⟨d :: es, pe.cons d, .cons t1 te⟩
  | swap x y l =>
    intro ds t
    match ds, t with
    | [], t => cases t
    | [d], t =>
      obtain ⟨v, w, e, t1, t2⟩ := TDs.cons_inv t
      cases e
      cases t2
    | d :: d2 :: ds, t =>
      obtain ⟨v, w, e, t1, t2⟩ := TDs.cons_inv t
      cases e
      obtain ⟨v, w, e, t3, t4⟩ := TDs.cons_inv t2
      cases e
      exact ⟨d2 :: d :: ds, .swap _ _ _, .cons t3 (.cons t1 t4)⟩
  | trans p q ih1 ih2 =>
    intro ds t
    obtain ⟨es, pe, te⟩ := ih2 t
    obtain ⟨fs, pf, tf⟩ := ih1 te
    exact ⟨fs, pf.trans pe, tf⟩
theorem shp_door {x : Dr} (h : ∀ n, x.2.2 = some n → PyData.strOk n = true) : Shp (encD x) := by
  refine shp_tup fun d hd => ?_
  simp only [List.mem_cons, List.not_mem_nil, or_false] at hd
  rcases hd with rfl | rfl | rfl
  · exact ⟨by simp [PyData.canLay0], by simp [PyData.depth]⟩
  · exact ⟨by simp [PyData.canLay0], by simp [PyData.depth]⟩
  · cases e : x.2.2 with
    | none => exact ⟨by simp [nzD, PyData.canLay0], by simp [nzD, PyData.depth]⟩
    | some n => exact ⟨by simp only [nzD, PyData.canLay0]; exact h n e, by simp [nzD, PyData.depth]⟩
end Hb
namespace Hb
open PySem PySem.Spec PyProof.Rows L2
theorem Kp.acc {d g : Addr} {H H' : Hp} {D : Addr} {o : HO} (k : Kp d g H H') (n : H D = none) : Kp d g H (upd H' D o) := fun b u n1 n2 e => by
  rw [upd_ne (ne_of_none e n)]
  exact k b u n1 n2 e
theorem perm_two {α : Type} {ys : List α} {x y : α} (h : ys.Perm [x, y]) : ys = [x, y] ∨ ys = [y, x] := by
  have l := h.length_eq
  match ys, l with
  | [a, b], _ =>
    have m : a ∈ [x, y] := h.mem_iff.mp (by simp)
    simp only [List.mem_cons, List.not_mem_nil, or_false] at m
    rcases m with rfl | rfl
    · have q := (List.perm_cons a).mp h
      have e := List.perm_singleton.mp q
      rw [e]; exact .inl rfl
    · have h2 : [a, b].Perm [a, x] := h.trans (List.Perm.swap _ _ _)
      have q := (List.perm_cons a).mp h2
      have e := List.perm_singleton.mp q
      rw [e]; exact .inr rfl
theorem good_int {K : PySem.W.Frag} {H : Hp} (i : Int) : Good K H (.int i) := ⟨.int i, .int i, by simp [PyData.canLay0], by simp [PyData.depth]⟩
/-- a door's noise, as it is picked -/
theorem noise_of {ws : List Str} {v : V} (h : v ∈ ws.map V.str ++ [V.non]) : ∃ n : Option Str, v = nzV n ∧ ∀ w, n = some w → w ∈ ws := by
  rcases List.mem_append.mp h with h | h
  · obtain ⟨w, hw, rfl⟩ := List.mem_map.mp h
    exact ⟨some w, rfl, fun w' e => by cases e; exact hw⟩
  · rw [List.mem_singleton.mp h]
    exact ⟨none, rfl, fun w e => by cases e⟩
def DrW (r : Int) (ws : List Str) (x : Dr) : Prop := inR r x.1 ∧ inR r x.2.1 ∧ x.1 ≠ x.2.1 ∧ ∀ n, x.2.2 = some n → n ∈ ws
end Hb
namespace Hb
open PySem PySem.Spec PyProof.Rows L2
end Hb
set_option Elab.async false
set_option linter.all false
set_option maxRecDepth 100000
set_option maxHeartbeats 4000000
namespace Hb
open PySem PySem.Spec PyProof.Rows L2
theorem rg_mem {M : Int} {v : V} (h : v ∈ rgV 0 M) : ∃ A : Int, v = .int A ∧ inR M A := by
  obtain ⟨i, hi, rfl⟩ := List.mem_map.mp h
  have := List.mem_range.mp hi
  exact ⟨_, rfl, by omega, by omega⟩
theorem rg_nodup (M : Int) : (rgV 0 M).Nodup := by
  unfold rgV
  refine List.Pairwise.map _ (fun a b h e => h ?_) List.nodup_range
  injection e with e
  omega
theorem take_two {ys : List V} {M : Int} (pm : ys.Perm (rgV 0 M)) (h : 2 ≤ M) : ∃ A B : Int, ys.take 2 = [.int A, .int B] ∧ inR M A ∧ inR M B ∧ A ≠ B := by
  have l := pm.length_eq
  rw [rgV_length] at l
  have nd := pm.nodup_iff.mpr (rg_nodup M)
  match ys, l with
  | [], l => exact absurd l (by simp; omega)
  | [x], l => exact absurd l (by simp; omega)
  | x :: y :: r, _ =>
    obtain ⟨A, rfl, a⟩ := rg_mem (pm.mem_iff.mp (List.mem_cons_self (a := x)))
    obtain ⟨B, rfl, b⟩ := rg_mem (pm.mem_iff.mp (List.mem_cons_of_mem _ (List.mem_cons_self (a := y))))
    refine ⟨A, B, rfl, a, b, fun e => ?_⟩
    subst e
    exact (List.nodup_cons.mp nd).1 List.mem_cons_self
end Hb
set_option Elab.async false
set_option linter.all false
set_option maxRecDepth 100000
set_option maxHeartbeats 4000000
/-! == by a def of the class, whatever stands at its right. -/
namespace Hb
open PySem PySem.Spec PyProof.Rows L2
/-- the class at C has an __eq__ of its own -/
structure EqOf (P : Program) (w : World) (K : PySem.W.Frag) (mg : Str → Option Value) (base : Heap) (k : Nat) (C : Addr) (sp : Sp) : Prop where
  ex : ∃ (f : Addr) (fd : FuncData) (ps : List Str), PySem.W.findIn K (.ref C) "__eq__" = some (some (.ref f)) ∧ PySem.W.isFn K (.ref f) = true ∧ FnOk P w K mg base CX0 k f fd ps sp ∧ Binds K fd ps []
/-- x == y, x of the class at C, y of a type that is known and not below C -/
def rEqOwn (K : PySem.W.Frag) (C : Addr) (sp : Sp) : R2 := fun x y H Q => ∃ (a dx : Addr) (fs : List (Str × V)) (tb : Value), x = .ref a ∧ H a = some (.ins C dx fs) ∧ TyX K H y tb ∧ PySem.W.notFirst K C tb = true ∧ sp [x, y] H Q C8.E0
section
variable {X : Cx} {C : Addr} {k j : Nat} {sp : Sp}
theorem op_eqOwn (c : EqOf X.prog X.w X.K X.mg X.base k C sp) (hr : Room j X.A) (hk : k ≤ j) : OpR X (compareOp .Eq) (rEqOwn X.K C sp) := by
  intro pins s σ H x y v u Q I rx ry h
  obtain ⟨f, fd, ps, hs, hf, F, hb⟩ := c.ex
  obtain ⟨a, dx, fs, tb, rfl, ha, ty, nf, q⟩ := h
  cases (show v = Value.ref a from rx)
  obtain ⟨mA, J, _⟩ := ins_get I.hok ha
  obtain ⟨od, J, _⟩ := J.look
  obtain ⟨m, hF⟩ := I.fr
  obtain ⟨Ph, kit, hP, _⟩ := kit_of I ry ty
  have hj := hr.mono hk
  show wpAny _ _ (richCompare .Eq (.ref a) u) _ _ _
  refine PySem.W.cmp_K (op := .Eq) (tb := tb) hj.units0 hF I.ok.mod.kin J (kit.ty _ _ I.kIn hP) nf hs hf ?_
  refine wpAny_mono (L2.run_fn (dvs := []) (ds := []) F hj hb .nil C8.pass0 I (us := [.ref a, u]) (vs := [.ref a, y]) (.cons rfl (.cons ry .nil)) (by simpa using q)) (fun w s' z => ?_) fun _ _ e => e
  obtain ⟨z', H', I', rz, qz⟩ := z
  exact SlX.cmpback rz ⟨z', H', I', rz, qz⟩
end
section
variable {prog : Program} {w : World} {A : Around} {E : Value → Shared → Prop} {s : Shared} {K : PySem.W.Frag} {x C f : Addr} {b : Value} {ox : Obj} {od : Option Obj}
/-- object's != asks the class's own == -/
theorem ne_body {Q : Fin → Shared → Prop} (hu : A.units < cLine) (X : K.In s.heap) (I : PySem.W.InstAt s.heap x ox C od) (hs : PySem.W.findIn K (.ref C) "__eq__" = some (some (.ref f))) (hf : PySem.W.isFn K (.ref f) = true)
    (h : wpAny (model prog w) A (call (.ref f) [.ref x, b]) (fun v s' => ∃ c, v = .bool c ∧ Q (.done (.ret (.bool (!c)))) s') E s) : wpAny (model prog w) A (Builtin.«object.__ne__» ⟨[.ref x, b], []⟩) Q E s := by
  unfold Builtin.«object.__ne__»
  repeat (first
    | (with_reducible refine wpAny_cRoomFor hu ?_)
    | (refine wpAny_bind (m := callSpecialIfBound? (.ref x) (Str.ofString "__eq__") [b]) (PySem.W.ifBound_K X I hs hf (wpAny_mono h (fun v z hv => by
        obtain ⟨c, rfl, q⟩ := hv
        repeat (first | exact q | exact wpAny_pure q | (refine wpAny_bind (m := truthy (.bool _)) (wpAny_truthy_bool ?_)) | wp_step)) fun _ _ e => e)))
    | wp_step)
theorem ne_bound {Q : Option Value → Shared → Prop} (X : K.In s.heap) (I : PySem.W.InstAt s.heap x ox C od) (hn : PySem.W.findIn K (.ref C) "__ne__" = some (some (.builtin "object.__ne__")))
    (h : wpAny (model prog w) A (call (.builtin "object.__ne__") [.ref x, b]) (fun v => Q (some v)) E s) : wpAny (model prog w) A (callSpecialIfBound? (.ref x) "__ne__" [b]) Q E s := by
  have last : wpAny (model prog w) A (call (.builtin "object.__ne__") ([.ref x] ++ [b]) >>= fun v => pure (some v)) Q E s := wpAny_bind (wpAny_mono h (fun _ _ q => wpAny_pure q) fun _ _ e => e)
  simp only [callSpecialIfBound?, bindSpecialIfBound?]
  refine wpAny_holding (wpAny_bind (wpAny_bind (wpAny_bind (I.type.here ((PySem.W.looks_findIn X hn).here (wpAny_bind (wpAny_askSetting (wpAny_ite ?_))))))))
  split
  · exact wpAny_bind (wpAny_of_eq (F.cmp_object.ne.bind _) (wpAny_pure last))
  · exact wpAny_tryCatch (wpAny_bind (wpAny_of_eq (F.cmp_object.ne.bind _) (wpAny_pure last)))
end
/-- x != y likewise -/
def rNeOwn (K : PySem.W.Frag) (C : Addr) (sp : Sp) : R2 := fun x y H Q => ∃ (a dx : Addr) (fs : List (Str × V)) (tb : Value), x = .ref a ∧ H a = some (.ins C dx fs) ∧ TyX K H y tb ∧ PySem.W.notFirst K C tb = true ∧ sp [x, y] H (fun v H' => ∃ b, v = .bl b ∧ Q (.bl (!b)) H') C8.E0
section
variable {X : Cx} {C : Addr} {k j : Nat} {sp : Sp}
theorem op_neOwn (c : EqOf X.prog X.w X.K X.mg X.base k C sp) (hn : PySem.W.findIn X.K (.ref C) "__ne__" = some (some (.builtin "object.__ne__"))) (hm : PySem.W.mroIn X.K C (.type "object") = some true) (hr : Room j X.A) (hk : k + 1 ≤ j) :
    OpR X (compareOp .NotEq) (rNeOwn X.K C sp) := by
  intro pins s σ H x y v u Q I rx ry h
  obtain ⟨f, fd, ps, hs, hf, FO, hb⟩ := c.ex
  obtain ⟨a, dx, fs, tb, rfl, ha, ty, nf, q⟩ := h
  cases (show v = Value.ref a from rx)
  obtain ⟨mA, J, _⟩ := ins_get I.hok ha
  obtain ⟨od, J, _⟩ := J.look
  obtain ⟨Ph, kit, hP, _⟩ := kit_of I ry ty
  have hj : Room (k + 1) X.A := hr.mono hk
  have X0 := I.kIn
  have tyb := kit.ty (model X.prog X.w) _ X0 hP
  have r2 : Vals [V.ref a, y] [Value.ref a, u] := .cons rfl (.cons ry .nil)
  have go : wpAny (model X.prog X.w) X.A.in1 (call (.ref f) [.ref a, u]) (fun v s' => ∃ b, v = .bool b ∧ EP X pins σ Q (.bool (!b)) s') X.xe s := by
    refine wpAny_call (codeAny_mono (FO.run X.A.in1 X.stack s H ⟨[.ref a, u], []⟩ [.ref a, u] [.ref a, y] _ C8.E0 hj.in1 I.env0.in1 (by
      have l := FO.len _ _ _ _ q
      have z := hb s [.ref a, u] X0 (by simpa using l)
      simpa using z) r2 q) fun r s' hq => ?_)
    cases r with
    | error e => exact (C8.pass0 (E := C8.E0) pins σ H s e s' I hq)
    | ok fl =>
      cases fl with
      | ret w2 =>
        obtain ⟨z, H', I', rz, b, ez, qz⟩ := I.after hq
        subst ez
        cases (show w2 = Value.bool b from rz)
        exact ⟨b, rfl, .bl (!b), H', I', rfl, qz⟩
      | next => exact False.elim hq
      | brk => exact False.elim hq
      | cont => exact False.elim hq
  have one : wpAny (model X.prog X.w) X.A (tryCompare (.ref a) "__ne__" u) (fun r s' => ∃ v, r = some v ∧ EP X pins σ Q v s') X.xe s := by
    unfold tryCompare
    refine wpAny_bind (ne_bound X0 J hn (wpAny_call (codeAny_call_builtin F.cmp_object.ne.plain F.cmpEntry_ne (PySem.W.check_slot F.cmpKind_ne F.cmpSplit_ne (J.type.andThen (PySem.W.looks_mroIn X0 hm)) (F.cmpArgs_ne _ _)
      (ne_body hj.in1.units0 X0 J hs hf (wpAny_mono go (fun v s' hv => ?_) fun _ _ e => e))))))
    obtain ⟨b, rfl, hq⟩ := hv
    exact ⟨b, rfl, wpAny_pure ⟨_, rfl, hq⟩⟩
  show wpAny _ _ (richCompare .NotEq (.ref a) u) _ _ _
  unfold richCompare
  simp only [cmpInfo, oneThing_ref]
  refine wpAny_holding (wpAny_bind (wpAny_cRoomFor hj.units0 (wpAny_bind (J.type.here (wpAny_bind (tyb.here ?_))))))
  split
  · rename_i ne
    have e : PySem.W.subIn X.K tb (.ref C) = some false := by
      have z := nf
      unfold PySem.W.notFirst at z
      rcases Bool.or_eq_true_iff.mp z with z | z
      · exfalso
        have z2 := eq_of_beq z
        subst z2
        simp at ne
      · exact eq_of_beq z
    refine wpAny_bind ((PySem.W.looks_subIn X0 e).here ?_)
    simp only [Bool.false_eq_true, if_false]
    refine wpAny_bind (wpAny_mono one (fun r s1 z => ?_) fun _ _ e => e)
    obtain ⟨v, rfl, z⟩ := z
    exact wpAny_pure z
  · refine wpAny_bind (wpAny_pure ?_)
    simp only [Bool.false_eq_true, if_false]
    refine wpAny_bind (wpAny_mono one (fun r s1 z => ?_) fun _ _ e => e)
    obtain ⟨v, rfl, z⟩ := z
    exact wpAny_pure z
end
end Hb
set_option Elab.async false
set_option linter.all false
set_option maxRecDepth 100000
set_option maxHeartbeats 4000000
/-! str(x) by a def of the class. -/
namespace Hb
open PySem PySem.Spec PyProof.Rows
section
variable {prog : Program} {w : World} {A : Around} {E : Value → Shared → Prop} {s : Shared} {K : PySem.W.Frag} {x C f : Addr} {ox : Obj} {od : Option Obj}
theorem strOf_own {Q : Value → Shared → Prop} (hu : A.units < cLine) (X : K.In s.heap) (I : PySem.W.InstAt s.heap x ox C od) (hs : PySem.W.findIn K (.ref C) "__str__" = some (some (.ref f))) (hf : PySem.W.isFn K (.ref f) = true)
    (h : wpAny (model prog w) A (call (.ref f) [.ref x]) (fun r z => ∃ y t, r = Value.str y t ∧ Q r z) E s) : wpAny (model prog w) A (Builtin.Str.strOf (.ref x)) Q E s := by
  unfold Builtin.Str.strOf
  refine PySem.W.KFB.if_not rfl (wpAny_bind (m := cRoomFor _ _) (wpAny_cRoomFor hu (wpAny_bind (m := callSpecial? (.ref x) (Str.ofString "__str__")) (PySem.W.special_fn X I hs (beq_iff_eq.mp hf) (wpAny_mono h (fun r z hr => ?_) fun _ _ e => e)))))
  obtain ⟨y, t, rfl, q⟩ := hr
  exact wpAny_pure q
theorem call_str_own {Q : Value → Shared → Prop} (hu : A.in1.in1.units < cLine) (X : K.In s.heap) (I : PySem.W.InstAt s.heap x ox C od) (hs : PySem.W.findIn K (.ref C) "__str__" = some (some (.ref f))) (hf : PySem.W.isFn K (.ref f) = true)
    (h : wpAny (model prog w) A.in1.in1 (call (.ref f) [.ref x]) (fun r z => ∃ y t, r = Value.str y t ∧ Q r z) E s) : wpAny (model prog w) A (call (.type "str") [.ref x]) Q E s := by
  refine callType_codes (T := "str") (Bi := Builtin.«object.__init__») (Q₁ := fun r z => ∃ y t, r = Value.str y t ∧ Q r z) PySem.F.called_str (PySem.F.typeCall_str_1 _) PySem.F.entry_object_init ?_ ?_
  · refine codeAny_of_tree ?_
    show wpAny _ A.in1.in1 (do checkBuiltinCall "str.__new__" ⟨[.type "str", .ref x], []⟩; again (.builtin "str.__new__" ⟨[.type "str", .ref x], []⟩)) _ _ s
    refine wpAny_bind (wpAny_of_eq (PySem.F.newCall_str_1 _) (wpAny_pure ⟨plainId_quiet (by decide +kernel) _, codeAny_builtin PySem.F.entry_str_new ?_⟩))
    rw [Around.under_plainId (by decide +kernel) _, str_new_tree (.ref x)]
    refine wpAny_bind (wpAny_pure (wpAny_bind (wpAny_of_eq isSubtype_str_str (wpAny_bind (wpAny_mono (strOf_own hu X I hs hf (wpAny_mono h (fun r z hr => ?_) fun _ _ e => e)) (fun r z q => wpAny_pure q) fun _ _ e => e)))))
    obtain ⟨y, t, rfl, q⟩ := hr
    exact ⟨y, t, rfl, y, t, rfl, q⟩
  · rintro obj z ⟨y, t, rfl, q⟩
    exact ⟨typeIs_str _ _ _, PySem.F.args_object_init_2 _ _, object_init_meets PySem.F.called_str.init.lookup PySem.F.called_str.made (by decide) prog w A.in1 _ z ⟨typeIs_str _ _ _, rfl, q⟩⟩
end
end Hb
namespace Hb
open PySem PySem.Spec PyProof.Rows L2
/-- the class at C has a __str__ of its own -/
structure StrOf (P : Program) (w : World) (K : PySem.W.Frag) (mg : Str → Option Value) (base : Heap) (k : Nat) (C : Addr) (sp : Sp) : Prop where
  ex : ∃ (f : Addr) (fd : FuncData) (ps : List Str), PySem.W.findIn K (.ref C) "__str__" = some (some (.ref f)) ∧ PySem.W.isFn K (.ref f) = true ∧ FnOk P w K mg base CX0 k f fd ps sp ∧ Binds K fd ps []
def rStrOwn (C : Addr) (sp : Sp) : List V → Hp → VK → Prop := fun xs H Q => ∃ (a dx : Addr) (fs : List (Str × V)), xs = [.ref a] ∧ H a = some (.ins C dx fs) ∧ sp [.ref a] H (fun v H' => ∃ y, v = .str y ∧ Q v H') C8.E0
section
variable {X : Cx} {C : Addr} {k j : Nat} {sp : Sp}
theorem call_strOwn (c : StrOf X.prog X.w X.K X.mg X.base k C sp) (hr : Room j X.A) (hk : k + 2 ≤ j) : CallR X (.type "str") (rStrOwn C sp) := by
  intro pins s σ H xs us Q I r h
  obtain ⟨f, fd, ps, hs, hf, FO, hb⟩ := c.ex
  obtain ⟨a, dx, fs, rfl, ha, q⟩ := h
  rw [Vals.ref1 r]
  obtain ⟨mA, J, _⟩ := ins_get I.hok ha
  obtain ⟨od, J, _⟩ := J.look
  have X0 := I.kIn
  have hj : Room (k + 2) X.A := hr.mono hk
  have h2 : Room k X.A.in1.in1 := (show Room (k + 1) X.A.in1 from hj.in1).in1
  have r2 : Vals [V.ref a] [Value.ref a] := .cons rfl .nil
  refine call_str_own h2.units0 X0 J hs hf (wpAny_call (codeAny_mono (FO.run X.A.in1.in1 X.stack s H ⟨[.ref a], []⟩ [.ref a] [.ref a] _ C8.E0 h2 I.env0.in1.in1 (by
      have l := FO.len _ _ _ _ q
      have z := hb s [.ref a] X0 (by simpa using l)
      simpa using z) r2 q) fun r s' hq => ?_))
  cases r with
  | error e => exact (C8.pass0 (E := C8.E0) pins σ H s e s' I hq)
  | ok fl =>
    cases fl with
    | ret w2 =>
      obtain ⟨z, H', I', rz, y, ez, qz⟩ := I.after hq
      subst ez
      obtain ⟨t, e⟩ := (show ∃ t, w2 = Value.str y t from rz)
      subst e
      exact ⟨y, t, rfl, .str y, H', I', ⟨t, rfl⟩, qz⟩
    | next => exact False.elim hq
    | brk => exact False.elim hq
    | cont => exact False.elim hq
end
end Hb
set_option Elab.async false
set_option linter.all false
set_option maxRecDepth 100000
set_option maxHeartbeats 4000000
namespace Hb
open PySem PySem.Spec PyProof.Rows L2
/-! ### any values: data whose lists are not the deal's -/
mutual
inductive VD (K : PySem.W.Frag) (N : Addr → Prop) (H : Hp) : V → PyData → Prop
  | non : VD K N H .non .none
  | bl (b : Bool) : VD K N H (.bl b) (.bool b)
  | int (i : Int) : VD K N H (.int i) (.int i)
  | str (x : Str) : VD K N H (.str x) (.str x)
  | lst {a : Addr} {xs : List V} {ds : List PyData} : H a = some (.lst xs) → N a → VDs K N H xs ds → VD K N H (.ref a) (.list ds)
  | tup {a : Addr} {xs : List V} {ds : List PyData} : SqT K H a xs → VDs K N H xs ds → VD K N H (.ref a) (.tuple ds)
inductive VDs (K : PySem.W.Frag) (N : Addr → Prop) (H : Hp) : List V → List PyData → Prop
  | nil : VDs K N H [] []
  | cons {v : V} {vs : List V} {e : PyData} {ds : List PyData} : VD K N H v e → VDs K N H vs ds → VDs K N H (v :: vs) (e :: ds)
end
section
variable {K : PySem.W.Frag} {N M : Addr → Prop} {H H' : Hp}
/-- the lists stay -/
def LK (N : Addr → Prop) (H H' : Hp) : Prop := ∀ a xs, N a → H a = some (.lst xs) → H' a = some (.lst xs)
mutual
theorem VD.keep (t : TK H H') (k : LK N H H') (m : ∀ a o, H a = some o → N a → M a) : ∀ {v : V} {e : PyData}, VD K N H v e → VD K M H' v e
  | _, _, .non => .non
  | _, _, .bl b => .bl b
  | _, _, .int i => .int i
  | _, _, .str x => .str x
  | _, _, .lst h n hs => .lst (k _ _ n h) (m _ _ h n) (VDs.keep t k m hs)
  | _, _, .tup h hs => .tup (SqT.keep t h) (VDs.keep t k m hs)
theorem VDs.keep (t : TK H H') (k : LK N H H') (m : ∀ a o, H a = some o → N a → M a) : ∀ {vs : List V} {ds : List PyData}, VDs K N H vs ds → VDs K M H' vs ds
  | _, _, .nil => .nil
  | _, _, .cons h hs => .cons (VD.keep t k m h) (VDs.keep t k m hs)
end
mutual
theorem VD.dp : ∀ {v : V} {e : PyData}, VD K N H v e → Dp K H v e
  | _, _, .non => .non
  | _, _, .bl b => .bl b
  | _, _, .int i => .int i
  | _, _, .str x => .str x
  | _, _, .lst h _ hs => .lst (SqL.of h) (VDs.dp hs)
  | _, _, .tup h hs => .tup h (VDs.dp hs)
theorem VDs.dp : ∀ {vs : List V} {ds : List PyData}, VDs K N H vs ds → DpAll K H vs ds
  | _, _, .nil => .nil
  | _, _, .cons h hs => .cons (VD.dp h) (VDs.dp hs)
end
theorem VDs.app : ∀ {vs ws : List V} {ds es : List PyData}, VDs K N H vs ds → VDs K N H ws es → VDs K N H (vs ++ ws) (ds ++ es)
  | _, _, _, _, .nil, h => h
  | _, _, _, _, .cons h hs, h2 => .cons h (VDs.app hs h2)
theorem VDs.length : ∀ {vs : List V} {ds : List PyData}, VDs K N H vs ds → vs.length = ds.length
  | _, _, .nil => rfl
  | _, _, .cons _ hs => congrArg Nat.succ (VDs.length hs)
theorem depthAll_le {n : Nat} : ∀ {ds : List PyData}, (∀ e ∈ ds, e.depth ≤ n) → PyData.depthAll ds ≤ n
  | [], _ => by simp [PyData.depthAll]
  | d :: ds, h => by
    have h1 := h d List.mem_cons_self
    have h2 := depthAll_le (ds := ds) fun e he => h e (List.mem_cons_of_mem _ he)
    simp only [PyData.depthAll]
    omega
/-- the types that any values have -/
def anyTy : List String := ["NoneType", "bool", "int", "str", "list", "tuple"]
theorem VD.ty {v : V} {e : PyData} (h : VD K N H v e) : ∃ t ∈ anyTy, TyX K H v (.type t) := by
  cases h with
  | non => exact ⟨"NoneType", by decide, .base .non⟩
  | bl b => exact ⟨"bool", by decide, .base (.bl b)⟩
  | int i => exact ⟨"int", by decide, .base (.int i)⟩
  | str x => exact ⟨"str", by decide, .base (.str x)⟩
  | lst h => exact ⟨"list", by decide, ty_lst (SqL.of h)⟩
  | tup h => exact ⟨"tuple", by decide, ty_tup h⟩
end
theorem sub_any {K : PySem.W.Frag} {C : Addr} : ∀ t ∈ anyTy, PySem.W.notFirst K C (.type t) = true := by
  have one : ∀ (t : String) (ts : List Value), fastBuiltinMro t = some ts → ts.contains (Value.ref C) = false → PySem.W.notFirst K C (.type t) = true := fun t ts e n => by
    have q : PySem.W.subIn K (.type t) (.ref C) = some false := by
      show (fastBuiltinMro t).map (·.contains (.ref C)) = some false
      rw [e]
      exact congrArg some n
    unfold PySem.W.notFirst
    rw [q]
    simp
  intro t h
  simp only [anyTy, List.mem_cons, List.not_mem_nil, or_false] at h
  rcases h with rfl | rfl | rfl | rfl | rfl | rfl
  · exact one "NoneType" [.type "NoneType", .type "object"] (by decide +kernel) (by first | rfl | simp)
  · exact one "bool" [.type "bool", .type "int", .type "object"] (by decide +kernel) (by first | rfl | simp)
  · exact one "int" [.type "int", .type "object"] (by decide +kernel) (by first | rfl | simp)
  · exact one "str" [.type "str", .type "object"] (by decide +kernel) (by first | rfl | simp)
  · exact one "list" [.type "list", .type "object"] (by decide +kernel) (by first | rfl | simp)
  · exact one "tuple" [.type "tuple", .type "object"] (by decide +kernel) (by first | rfl | simp)
end Hb
set_option Elab.async false
set_option linter.all false
set_option maxRecDepth 100000
set_option maxHeartbeats 4000000
/-! A class that a local name holds, called. -/
namespace Hb
open PySem PySem.Spec PyProof.Rows L2
/-- c(..), the i-th place holds the class at C -/
def tMakeL (i : Nat) (C : Addr) (sp : Sp) (t : TA) : TE := fun σ H Q => σ[i]? = some (some (.ref C)) ∧ tMake C sp [] C8.E0 t σ H Q
section
variable {X : Cx} {k j i : Nat} {C : Addr} {sp : Sp} {x y : Str} {p pos : Pos} {e : Expr} {es : List Expr} {t : TA}
theorem pe_mkL (c : C8.Mak X.prog X.w X.K X.mg X.base k y C sp []) (hr : Room j X.A) (hk : k + 1 ≤ j) (hN : X.N[i]? = some x) (hv : Vis X.env.scope x) (ha : PA X (e :: es) t) (d1 : (x == ("__debug__" : Str)) = false := by decide) (d2 : (x == ("__classdict__" : Str)) = false := by decide)
    (n1 : starEach (e :: es) X.env = (false, eval e X.env) :: starEach es X.env := by rfl) (n2 : (backTo pos (starEach es X.env)).any (·.1) = false := by rfl) : PE X (.Call (.Name x p) (e :: es) [] pos) (tMakeL i C sp t) := by
  obtain ⟨f, fd, ps, ds, M, F, _, b, d⟩ := c.ex
  refine ⟨fun pins s σ H Q I ⟨at_, q⟩ => wpAny_Call_Name_kw (thn ((pe_var (pos := p) hN hv d1 d2).run pins s σ H (fun v G => v = .ref C ∧ G = H) I ⟨_, at_, rfl, rfl⟩) ?_)⟩
  rintro u s1 ⟨v, G, J, r, rfl, rfl⟩
  obtain rfl : u = Value.ref C := r
  exact PySem.W.callWith_K (h₀ := X.base) J.ok.mod.kin M.kp (thn (ha.run pos pins s1 σ _ _ J q) fun us s2 ⟨vs, H2, J2, r2, q2⟩ => ⟨J2.kIn, run_make M F (hr.mono hk) b d C8.pass0 J2 r2 q2⟩) n1 n2
end
end Hb
set_option Elab.async false
set_option linter.all false
set_option maxRecDepth 100000
set_option maxHeartbeats 4000000
/-! xs[a:b:c] of a list. -/
namespace Hb
open PySem PySem.Spec PyProof.Rows L2
/-- what such a slice picks -/
def pickV {α : Type} (xs : List α) (lo hi st : Option Int) : List α := (sliceRange (sliceBounds lo hi st xs.length).1 (sliceBounds lo hi st xs.length).2.1 (sliceBounds lo hi st xs.length).2.2).filterMap (xs[·]?)
theorem vals_pick {xs : List V} {us : List Value} (r : Vals xs us) : ∀ is : List Nat, Vals (is.filterMap (xs[·]?)) (is.filterMap (us[·]?))
  | [] => .nil
  | i :: is => by
    have ih := vals_pick r is
    cases h : xs[i]? with
    | none =>
      have l := r.length
      have h2 : us[i]? = none := List.getElem?_eq_none_iff.mpr (by have := List.getElem?_eq_none_iff.mp h; omega)
      rw [List.filterMap_cons, List.filterMap_cons]
      simp only [h, h2]
      exact ih
    | some x =>
      obtain ⟨u, hu, ru⟩ := r.get h
      rw [List.filterMap_cons, List.filterMap_cons]
      simp only [h, hu]
      exact .cons ru ih
def tSl3 (K : PySem.W.Frag) (te : TE) (tl th tc : TO) : TE := fun σ H Q => te σ H fun x H1 => tl σ H1 fun lo H2 => th σ H2 fun hi H3 => tc σ H3 fun st H4 => ∃ (a : Addr) (xs : List V), x = .ref a ∧ SqL K H4 a xs ∧ st ≠ some 0 ∧ (pickV xs lo hi st).length ≤ sizeLine ∧
  ∀ p, H4 p = none → Q (.ref p) (upd H4 p (.lst (pickV xs lo hi st)))
section
variable {X : Cx} {e c : Expr} {lo hi : Option Expr} {te : TE} {tl th tc : TO} {p2 pos : Pos}
theorem pe_slice3 (he : PE X e te) (hl : PO X lo tl) (hu : PO X hi th) (hc : PO X (some c) tc) : PE X (.Subscript e (.Slice lo hi (some c) p2) pos) (tSl3 X.K te tl th tc) := by
  refine ⟨fun pins s σ H Q I h => Subscript_ (thn (he.run pins s σ H _ I h) fun v s1 ⟨x, H1, I1, r1, q1⟩ => wpAny_Slice (thn (hl.run pins s1 σ H1 _ I1 q1) fun vl s2 ⟨l, H2, I2, pl, q2⟩ => thn (hu.run pins s2 σ H2 _ I2 q2) fun vu s3 ⟨u, H3, I3, pu, q3⟩ => thn (hc.run pins s3 σ H3 _ I3 q3) fun vt s4 ⟨st, H4, I4, pt, q4⟩ => ?_))⟩
  obtain ⟨a, xs, rfl, hx, n0, few, q⟩ := q4
  obtain rfl : v = Value.ref a := r1
  have J : Inv X pins σ H4 { s4 with heap := s4.heap.push { cls := .type "slice", data := .fields #[vl, vu, vt] } } := I4.kept (t' := s4.toks) fun b ob z => Heap.get?_push_of_some _ z
  obtain ⟨its, r, ht, hz⟩ := J.list hx
  have len := r.length
  show wpAny (model X.prog X.w) X.A (subscriptTail e (.Slice lo hi (some c) p2) (.ref a) (.ref s4.heap.objs.size)) (EP X pins σ Q) X.xe { s4 with heap := s4.heap.push { cls := .type "slice", data := .fields #[vl, vu, vt] } }
  refine tail_any (T := "list") (ops := [.ref a, .ref s4.heap.objs.size]) ht.isList.typeIs slot_list_getitem.lookup (wpAny_getItem_list_slice ht.isList (Heap.IsSliceOf.new ..) pl pu pt n0 ?_ (by rw [List.size_toArray] <;> omega)) (by first | rfl | (unfold subscripted; rfl) | simp [subscripted])
  have e1 : slicePick its.toArray l u st = (pickV its l u st).toArray := by
    unfold slicePick pickV
    simp only [List.size_toArray, List.getElem?_toArray]
  have vp : Vals (pickV xs l u st) (pickV its l u st) := by
    unfold pickV
    rw [len]
    exact vals_pick r _
  rw [e1]
  refine ⟨.ref _, _, J.laid (t' := s4.toks) (o := .lst (pickV xs l u st)) (fun b ob z => Heap.get?_push_of_some _ z) (Nat.le_refl _) ?_, rfl, q _ (J.hok.fresh (Nat.le_refl _))⟩
  exact ⟨few, _, 0, vp, Heap.get?_push_size _ rfl⟩
end
end Hb
set_option Elab.async false
set_option linter.all false
set_option maxRecDepth 100000
set_option maxHeartbeats 8000000
/-! Sets of texts, with the order of their table. -/
namespace Hb
open PySem PySem.Spec PyProof.Rows L2
def keyS (e : Int × Value) : Str := match e.2 with | .str k _ => k | _ => Str.empty
def GoodS (P : Program) (w : World) (e : Int × Value) : Prop := ∃ k tk, e.2 = Value.str k tk ∧ e.1 = (PySem.strKind P w).hash k
/-- the set of texts at a: its members are l, unlike ones -/
structure SetTx (P : Program) (w : World) (h : Heap) (a : Addr) (l : List Str) (o : Obj) (es : Array (Int × Value)) (ep : Nat) (t : SetTable) : Prop where
  ho : h.get? a = some o
  ex : o.ExactSet
  hd : o.data = .set es ep t
  good : ∀ e ∈ es.toList, GoodS P w e
  mem : (es.toList.map keyS).Perm l
  few : es.size < scanBound
  fits : t.fits es.size = true
  ris : Ris t.place.toList
  led : w.params.followText "set-order" = true ∨ t.led = true
def SetT (P : Program) (w : World) (h : Heap) (a : Addr) (l : List Str) : Prop := ∃ o es ep t, SetTx P w h a l o es ep t
section
variable {P : Program} {w : World} {A : Around} {E : Value → Shared → Prop} {s : Shared} {h h' : Heap} {a : Addr} {l m : List Str}
theorem SetT.at (R : SetT P w h a l) (k : ∀ o, h.get? a = some o → h'.get? a = some o) : SetT P w h' a l := by
  obtain ⟨o, es, ep, t, x⟩ := R
  exact ⟨o, es, ep, t, k o x.ho, x.ex, x.hd, x.good, x.mem, x.few, x.fits, x.ris, x.led⟩
theorem SetT.perm (R : SetT P w h a l) (p : l.Perm m) : SetT P w h a m := by
  obtain ⟨o, es, ep, t, x⟩ := R
  exact ⟨o, es, ep, t, x.ho, x.ex, x.hd, x.good, x.mem.trans p, x.few, x.fits, x.ris, x.led⟩
theorem goodS_is {e : Int × Value} (g : GoodS P w e) (k : Str) : (PySem.strKind P w).is k e.2 = true ↔ keyS e = k := by
  obtain ⟨j, tk, e1, _⟩ := g
  have z := strKind_is P w j tk
  unfold keyS
  rw [e1]
  constructor
  · intro q
    exact (PySem.strKind P w).inj _ _ _ z q
  · rintro rfl
    exact z
theorem elemsS {l : List (Int × Value)} (g : ∀ e ∈ l, GoodS P w e) : ElemsOf (PySem.strKind P w) l := fun e he => by
  obtain ⟨k, tk, e1, e2⟩ := g e he
  exact ⟨⟨k, by rw [e1]; exact strKind_is P w k tk, e2⟩, by rw [e1] <;> rfl⟩
/-- what is laid into the table, and the table laid anew where it is too full -/
theorem add_text_tail {g : Bool → Sem Unit} (hg : ∀ (b : Bool) (z : Shared) (Q' : Unit → Shared → Prop), Q' () z → wpAny (model P w) A (g b) Q' E z) {o : Obj} {es : Array (Int × Value)} {ep : Nat} {t : SetTable} (ho : s.heap.get? a = some o) (hex : o.ExactSet) (hd : o.data = .set es ep t)
    {es1 : Array (Int × Value)} {t2 : SetTable} (g1 : ∀ e ∈ es1.toList, GoodS P w e) (m1 : (es1.toList.map keyS).Perm l) (b1 : es1.size < scanBound) (f2 : t2.fits es1.size = true) (r2 : Ris t2.place.toList) (l2 : w.params.followText "set-order" = true ∨ t2.led = true) {dummy : Bool} {R : Option Bool → Shared → Prop}
    (hR : ∀ h', Heap.SameBut a s.heap h' → SetT P w h' a l → R (some true) { s with heap := h' }) :
    wpAny (model P w) A (do
        storeSet a es1 t2
        if (!dummy && t2.tooFull) = true then do
            g (relayAll t2 es1 (SetTable.grown es1.size)).2.2
            storeSet a (relayAll t2 es1 (SetTable.grown es1.size)).1 (relayAll t2 es1 (SetTable.grown es1.size)).2.1
            pure (some true)
          else pure (some true)) R E s := by
  have o1 := store_at (es' := es1) (t' := t2) ho hd
  have same1 := Heap.SameBut.update s.heap a (Obj.putSet es1 t2)
  refine wpAny_bind (wpAny_storeSet_of ho hd (?_ : wpAny _ _ _ _ _ _) (fits_of_scanBound b1))
  split
  · have z1 := relayAll_perm t2 es1 (SetTable.grown es1.size)
    have z2 := relayAll_fits t2 es1 (SetTable.grown es1.size)
    have z3 := relayAll_ris t2 es1 (SetTable.grown es1.size)
    have z4 := relayAll_led t2 es1 (SetTable.grown es1.size)
    generalize relayAll t2 es1 (SetTable.grown es1.size) = Y at z1 z2 z3 z4 ⊢
    obtain ⟨es2, t3, gave⟩ := Y
    simp only at z1 z2 z3 z4 ⊢
    have sz : es2.size = es1.size := by rw [← Array.length_toList, z1.length_eq, Array.length_toList]
    have b2 : es2.size < scanBound := sz ▸ b1
    refine wpAny_bind (hg _ _ _ (wpAny_bind (wpAny_storeSet_of o1 rfl (wpAny_pure (hR _ (same1.trans (Heap.SameBut.update _ a _)) ?_)) (fits_of_scanBound b2))))
    exact ⟨_, es2, _, t3, store_at (es' := es2) (t' := t3) o1 rfl, hex, rfl, fun e he => g1 e (z1.mem_iff.mp he), (z1.map keyS).trans m1, b2, z2, z3, l2.imp id fun z => by rw [z4]; exact z⟩
  · exact wpAny_pure (hR _ same1 ⟨_, es1, _, t2, o1, hex, rfl, g1, m1, b1, f2, r2, l2⟩)
theorem add_text {k : Str} {tk : Tok} {Q : Bool → Shared → Prop} (R : SetT P w s.heap a l) (nd : l.Nodup) (room : l.length + 1 < scanBound) (hQ : ∀ h' b, Heap.SameBut a s.heap h' → SetT P w h' a (if k ∈ l then l else k :: l) → Q b { s with heap := h' }) :
    wpAny (model P w) A (setAddHashed a (.str k tk) ((PySem.strKind P w).hash k)) Q E s := by
  obtain ⟨o, es, ep, t, ho, hex, hd, g, pm, hb, hf, hr, hl⟩ := R
  have key : (PySem.strKind P w).is k (.str k tk) = true := strKind_is P w k tk
  have hsc : (Value.str k tk).scannable = true := rfl
  have hel := elemsS g
  unfold setAddHashed setAddHashedIn
  refine wpAny_holding (wpAny_bind (wpAny_setState_of ho hd hf (?_ : wpAny _ _ _ _ _ _)))
  dsimp only
  rw [byScan_of hsc hb hel]
  simp only [↓reduceIte]
  unfold setAddByScan
  refine wpAny_bind (wpAny_bind (wpAny_rule (wpAny_bind (wpAny_setScan_of key ho hd hf hel ?_))))
  cases fi : List.findIdx? (fun e => (PySem.strKind P w).is k e.2) es.toList with
  | some j =>
    dsimp only
    obtain ⟨hj, pj, _⟩ := List.findIdx?_eq_some_iff_getElem.mp fi
    have inl : k ∈ l := pm.mem_iff.mp (List.mem_map.mpr ⟨_, List.getElem_mem hj, (goodS_is (g _ (List.getElem_mem hj)) k).mp pj⟩)
    refine wpAny_pure (wpAny_pure (hQ s.heap _ (Heap.SameBut.refl a s.heap) ?_))
    rw [if_pos inl]
    exact ⟨o, es, ep, t, ho, hex, hd, g, pm, hb, hf, hr, hl⟩
  | none =>
    dsimp only
    have notl : k ∉ l := fun z => by
      obtain ⟨e, he, q⟩ := List.mem_map.mp (pm.mem_iff.mpr z)
      have c := List.findIdx?_eq_none_iff.mp fi e he
      rw [(goodS_is (g e he) k).mpr q] at c
      cases c
    have gw : ∀ (b : Bool) {z : Shared} {Q' : Unit → Shared → Prop}, Q' () z → wpAny (model P w) A (match b with | true => rule "set.scan.the-table-gave-way" | false => pure ()) Q' E z := fun b z Q' q => by
      cases b
      · exact wpAny_pure q
      · exact wpAny_rule q
    have y1 := layNew_perm t es ((PySem.strKind P w).hash k) (.str k tk)
    have y2 := layNew_fits t es ((PySem.strKind P w).hash k) (.str k tk)
    have y3 := layNew_ris t es ((PySem.strKind P w).hash k) (.str k tk) hr
    have y4 := layNew_led t es ((PySem.strKind P w).hash k) (.str k tk)
    generalize layNew t es ((PySem.strKind P w).hash k) (.str k tk) = Y at y1 y2 y3 y4 ⊢
    obtain ⟨es1, t1, dummy, gave⟩ := Y
    simp only at y1 y2 y3 y4 ⊢
    rw [Array.toList_push] at y1
    have pc : es1.toList.Perm (((PySem.strKind P w).hash k, Value.str k tk) :: es.toList) := y1.trans (List.perm_append_singleton _ _)
    have g1 : ∀ e ∈ es1.toList, GoodS P w e := fun e he => (List.mem_cons.mp (pc.mem_iff.mp he)).elim (fun z => by rw [z]; exact ⟨k, tk, rfl, rfl⟩) (g e)
    have m1 : (es1.toList.map keyS).Perm (k :: l) := (pc.map keyS).trans (pm.cons k)
    have lenl : es.size = l.length := by rw [← pm.length_eq, List.length_map, Array.length_toList]
    have b1 : es1.size < scanBound := by rw [← Array.length_toList, pc.length_eq, List.length_cons, Array.length_toList, lenl]; exact room
    have l1 : w.params.followText "set-order" = true ∨ t1.led = true := hl.imp id fun z => by rw [y4]; exact z
    have fin : ∀ h', Heap.SameBut a s.heap h' → SetT P w h' a (k :: l) → Q true { s with heap := h' } := fun h' sb r => hQ h' true sb (by rw [if_neg notl]; exact r)
    refine wpAny_bind (gw _ ?_)
    split
    · refine wpAny_bind ?_
      rw [hashByValue_scannable 8 hsc]
      refine wpAny_pure (add_text_tail (fun b z Q' q => gw b q) ho hex hd g1 m1 b1 ?_ ?_ ?_ fun h' sb r => ?_)
      · first | (split <;> first | exact y2 | exact SetTable.fits_plain_off y2) | exact y2
      · first | (split <;> exact y3) | exact y3
      · first | (split <;> exact l1) | exact l1
      · dsimp only
        exact wpAny_pure (fin h' sb r)
    · refine wpAny_bind (wpAny_pure ?_)
      simp only [↓reduceIte]
      refine add_text_tail (fun b z Q' q => gw b q) ho hex hd g1 m1 b1 y2 y3 l1 fun h' sb r => ?_
      dsimp only
      exact wpAny_pure (fin h' sb r)
end
end Hb
set_option Elab.async false
set_option linter.all false
set_option maxRecDepth 100000
set_option maxHeartbeats 8000000
/-! set(texts) with repeats; sorted of such a set. -/
namespace Hb
open PySem PySem.Spec PyProof.Rows
/-- the unlike ones -/
def Uniq (l xs : List Str) : Prop := l.Nodup ∧ l.length ≤ xs.length ∧ ∀ k, k ∈ l ↔ k ∈ xs
theorem Uniq.more {l xs : List Str} {k : Str} (u : Uniq l xs) : Uniq (if k ∈ l then l else k :: l) (xs ++ [k]) := by
  obtain ⟨a, b, c⟩ := u
  by_cases h : k ∈ l
  · rw [if_pos h]
    refine ⟨a, by rw [List.length_append]; exact Nat.le_trans b (Nat.le_add_right _ _), fun j => ?_⟩
    rw [List.mem_append, List.mem_singleton, c j]
    exact ⟨.inl, fun z => z.elim id fun e => by rw [e]; exact (c k).mp h⟩
  · rw [if_neg h]
    refine ⟨List.nodup_cons.mpr ⟨h, a⟩, by rw [List.length_append]; exact Nat.succ_le_succ b, fun j => ?_⟩
    rw [List.mem_append, List.mem_singleton, List.mem_cons, c j]
    exact Or.comm
section
variable {prog : Program} {w : World} {A : Around} {R : Result → Shared → Prop} {I : Addr} {fp wr : List Addr} {G : Array GenState → Array GenState → Prop} {n : Nat} {P : Nat → Value → Prop} {Z : Nat → Shared → Prop}
theorem turns_any (W : WalksS prog w A.in1 I fp wr G n P Z) (S : Addr) (apart : S ∉ fp) (xs : List Str) (len : xs.length = n) (few : n + 1 < scanBound)
    (told : ∀ i v, P i v → ∃ t, v = .str (xs.getD i Str.empty) t) : ∀ (left i : Nat) (s : Shared), n - i = left → i ≤ n → Z i s →
      (∃ l, SetT prog w s.heap S l ∧ Uniq l (xs.take i)) →
      (∀ s' l, Moved (S :: wr) G s s' → SetT prog w s'.heap S l → Uniq l xs → R (.ok (.ret .none)) s') →
      codeAny (model prog w) A (.builtin "set.update.loop" ⟨[.ref S, .ref I], []⟩) R s := by
  have nwr : S ∉ wr := fun h => apart (W.sub _ h)
  have up : ∀ b ∈ wr, b ∈ S :: wr := fun b hb => List.mem_cons_of_mem _ hb
  intro left
  induction left with
  | zero =>
    intro i s hk hi hst ⟨l, hS, u⟩ hR
    obtain rfl : i = n := by omega
    refine codeAny_builtin PyProof.Rows.F.entry_set_update_loop (by
      rw [Around.under_plainId PyProof.Rows.F.plain_set_update_loop _]; show wpAny _ A.in1 (pyNext (.ref I) >>= _) _ _ s
      refine wpAny_bind (W.done s _ _ hst fun s' hm => ?_); show wpAny _ A.in1 (ret Value.none) _ _ s'
      refine wpAny_pure (hR s' l (hm.mono up) (hS.at fun o e => hm.heap S o nwr e) ?_)
      rw [← len, List.take_length] at u
      exact u)
  | succ left ih =>
    intro i s hk hi hst ⟨l, hS, u⟩ hR
    have lt : i < n := by omega
    have lt2 : i < xs.length := by omega
    refine codeAny_builtin PyProof.Rows.F.entry_set_update_loop (by
      rw [Around.under_plainId PyProof.Rows.F.plain_set_update_loop _]; show wpAny _ A.in1 (pyNext (.ref I) >>= _) _ _ s
      refine wpAny_bind (W.item i s _ _ lt hst fun v s' hP hst' hm => ?_)
      obtain ⟨t, rfl⟩ := told i v hP
      have hS' : SetT prog w s'.heap S l := hS.at fun o e => hm.heap S o nwr e
      have ll := u.2.1
      rw [List.length_take] at ll
      show wpAny _ A.in1 (holding [Value.str (xs.getD i Str.empty) t] (setAdd S (.str (xs.getD i Str.empty) t)) >>= _) _ _ s'
      refine wpAny_bind (wpAny_holding ?_); unfold setAdd
      refine wpAny_holding (wpAny_bind ((PySem.strKind prog w).pyHash (k := xs.getD i Str.empty) (strKind_is _ _ _ _) ?_))
      refine add_text (s := { s' with toks := s'.toks + 1 }) (l := l) hS' u.1 (by omega) fun h' b same hS2 => ?_
      have u2 : Uniq (if xs.getD i Str.empty ∈ l then l else xs.getD i Str.empty :: l) (xs.take (i + 1)) := by
        rw [more_text xs lt2]
        exact u.more
      refine wpAny_pure ⟨plainId_quiet PyProof.Rows.F.plain_set_update_loop _, ih (i + 1) _ (by omega) lt (W.frame _ s' _ _ hst' (Nat.le_succ _) fun b hb o e => ?_) ⟨_, hS2, u2⟩ fun s'' l2 hm2 hS4 u4 => ?_⟩
      · rw [same.2 b (fun h : b = S => apart (h ▸ hb))]; exact e
      · refine hR s'' l2 (Moved.trans W.gtrans ((hm.mono up).then_heap (Nat.le_succ _) fun b o hb e => ?_) hm2) hS4 u4
        rw [same.2 b (fun h : b = S => hb (by rw [h]; exact List.mem_cons_self))]; exact e)
end
section
variable {prog : Program} {w : World} {A : Around} {E : Value → Shared → Prop} {s : Shared}
abbrev newSet (w : World) : Obj := { cls := .type "set", dict := none, data := .set #[] 0 (.fresh 0 0 (!w.params.followText "set-order")) }
theorem setT_new {h : Heap} {a : Addr} (ho : h.get? a = some (newSet w)) : SetT prog w h a [] :=
  ⟨_, #[], 0, _, ho, ⟨rfl, rfl, rfl⟩, rfl, (fun e he => by simp at he), List.Perm.refl _, (by decide), (by rfl), List.Pairwise.nil, by
    show _ ∨ (!w.params.followText "set-order") = true
    cases w.params.followText "set-order" <;> simp⟩
/-- set(xs) of a list of texts -/
theorem set_textsR {l : Addr} {its : Array Value} {xs : List Str} {Q : Value → Shared → Prop} (calm : A.handled = none) (at_ : s.heap.IsList l its) (are : StrsAre its.toList xs) (few : xs.length + 1 < scanBound)
    (k : ∀ (h' : Heap) (tk : Nat) (us : List Str), SetT prog w h' s.heap.objs.size us → Uniq us xs → (∀ b o, s.heap.get? b = some o → h'.get? b = some o) → Q (.ref s.heap.objs.size) { s with heap := h', toks := tk }) :
    wpAny (model prog w) A (call (.type "set") [.ref l]) Q E s := by
  have size : its.size = xs.length := by have q := are.length; rw [Array.length_toList] at q; exact q
  obtain ⟨c, tl, mro⟩ := F.called_set.mro
  have f1 := F.called_set.made; have f2 := F.called_set.sub; have f3 := F.called_set.notType; have f4 := F.called_set.canCreate; have f5 := F.typeCall_set_1 (.ref l)
  refine wpAny_call (codeAny_of_tree (by
    show wpAny _ _ (callAny (.type "set") _) _ _ _
    refine wpAny_pure ⟨Code.quiet_builtin _ (by decide +kernel), codeAny_builtin F.entry_type_call ?_⟩
    rw [Around.under_plain (weight_type_call_type "set" [.ref l] []) rfl]
    repeat (any_goals (first | assumption | wp_step))
    refine codeAny_mono (L2.code_set_led1 (.ref l) (E := E) (Q₁ := fun v z => v = .ref s.heap.objs.size ∧ z = { s with heap := s.heap.push (newSet w) }) ⟨rfl, rfl⟩) fun r z hr => ?_
    match r, hr with
    | .error e, hr => exact hr
    | .ok .next, hr => exact hr.elim
    | .ok .brk, hr => exact hr.elim
    | .ok .cont, hr => exact hr.elim
    | .ok (.ret v), ⟨e1, e2⟩ =>
      subst e1 e2
      have mine : (s.heap.push (newSet w)).get? s.heap.objs.size = some (newSet w) := Heap.get?_push_size _ rfl
      have kind : Shared.TypeIs { s with heap := s.heap.push (newSet w) } (.ref s.heap.objs.size) "set" := ⟨_, mine, rfl⟩
      have f6 := F.called_set.init.lookup; have f7 := F.called_set.init.bind (.ref s.heap.objs.size)
      repeat (any_goals (first | assumption | wp_step))
      refine codeAny_mono (codeAny_call_builtin (R := wants (fun r z => r = .none ∧ ∃ h' tk us, z = { s with heap := h', toks := tk } ∧
        SetT prog w h' s.heap.objs.size us ∧ Uniq us xs ∧ ∀ b o, s.heap.get? b = some o → h'.get? b = some o) E) F.called_set.init.plain F.entry_set_init (check_set_init_1 kind ?_)) fun r2 z2 hr2 => ?_
      · obtain ⟨⟨ocls, odict, odata, oslots⟩, ho, hc, nl, hd⟩ := at_
        simp only at hc hd; subst hc hd
        have ho2 : (s.heap.push (newSet w)).get? l = some { cls := .type "list", dict := odict, data := .seq its nl, slots := oslots } := Heap.get?_push_of_some _ ho
        have g1 := F.sub_list_set; have g2 := F.sub_list_frozenset; have g3 : (Value.type "list" == Value.type "dict") = false := by decide
        have ml : (s.heap.push (newSet w)).IsList l its := ⟨_, ho2, rfl, nl, rfl⟩
        unfold Builtin.«set.__init__» noKeywords Builtin.Frozenset.updateFrom
        generalize hI : pyIter = It
        wp_walk
        subst hI
        have lo : l < s.heap.objs.size := Heap.lt_size ho
        have far : l ≠ (s.heap.push (newSet w)).objs.size := by rw [Heap.size_push]; exact Nat.ne_of_lt (Nat.lt_succ_of_lt lo)
        refine wpAny_pyIter_list ml (wpAny_bind (wpAny_runValue (turns_any ((Walks.list (by simp [calm]) _ l far its).toS) s.heap.objs.size (by
            rw [Heap.size_push]; simp only [List.mem_cons, List.not_mem_nil, or_false, not_or]
            exact ⟨Nat.ne_of_lt (Nat.lt_succ_self _), Nat.ne_of_gt lo⟩) xs size.symm (by omega) (fun i v hv => SS.strs_at are i v (by rw [Array.getElem?_toList]; exact hv)) (its.size - 0) 0 _ (by omega) (Nat.zero_le _)
          ⟨⟨_, Heap.get?_push_size _ rfl, rfl, rfl⟩, (ml.push _)⟩ ?zer ?fin1)))
        case zer =>
          have e0 : ((s.heap.push (newSet w)).push { cls := .type "list_iterator", data := .fields #[.ref l, .int 0 0] }).get? s.heap.objs.size = some (newSet w) := Heap.get?_push_of_some _ mine
          exact ⟨[], setT_new e0, List.nodup_nil, Nat.zero_le _, fun k => by simp⟩
        case fin1 =>
          rintro ⟨h', g', d', tk', os'⟩ us hm hS hu
          obtain rfl : g' = s.gens := hm.gens
          obtain rfl : d' = s.drawn := hm.drawn
          obtain rfl : os' = s.os := hm.os
          show wpAny _ _ _ _ _ _
          refine wpAny_pure (by
            show wpAny _ _ (ret Value.none) _ _ _
            refine wpAny_pure ⟨rfl, h', tk', us, rfl, hS, hu, fun b o e => hm.heap b o ?_ (Heap.get?_push_of_some _ (Heap.get?_push_of_some _ e))⟩
            have lb := Heap.lt_size e
            rw [Heap.size_push]; simp only [List.mem_cons, List.not_mem_nil, or_false, not_or]
            exact ⟨Nat.ne_of_lt lb, Nat.ne_of_lt (Nat.lt_succ_of_lt lb)⟩)
      · match r2, hr2 with
        | .error e, h => exact h
        | .ok .next, h => exact h.elim
        | .ok .brk, h => exact h.elim
        | .ok .cont, h => exact h.elim
        | .ok (.ret v), ⟨e1, h', tk, us, e2, hS, hu, hk⟩ =>
          subst e1 e2
          repeat (any_goals (first | assumption | wp_step))
          exact k _ _ _ hS hu hk))
end
end Hb
set_option Elab.async false
set_option linter.all false
set_option maxRecDepth 100000
set_option maxHeartbeats 8000000
/-! sorted(set(texts)). -/
namespace Hb
open PySem PySem.Spec PyProof.Rows
section
variable {P : Program} {w : World} {A : Around} {E : Value → Shared → Prop} {s : Shared} {a : Addr} {l : List Str}
theorem strs_of : ∀ vs : List Value, (∀ v ∈ vs, ∃ k tk, v = Value.str k tk) → ∃ ss, StrsAre vs ss ∧ vs.map (fun v => match v with | .str k _ => k | _ => Str.empty) = ss
  | [], _ => ⟨[], .nil, rfl⟩
  | v :: vs, h => by
    obtain ⟨k, tk, rfl⟩ := h v List.mem_cons_self
    obtain ⟨ss, h1, h2⟩ := strs_of vs fun u hu => h u (List.mem_cons_of_mem _ hu)
    exact ⟨k :: ss, .cons k tk h1, by rw [List.map_cons, h2]⟩
theorem sorted_setT {Q : Value → Shared → Prop} (R : SetT P w s.heap a l) (calm : A.handled = none) (few : l.length < 64)
    (hQ : ∀ s' p (out : Array Value) (c : Nat) (ns : List Str), (∀ b o, s.heap.get? b = some o → s'.heap.get? b = some o) → s'.gens = s.gens → s'.os = s.os → s.heap.objs.size ≤ p →
      s'.heap.get? p = some (seqObj "list" out c) → StrsAre out.toList ns → sortedS ns = true → ns.Perm l → Q (.ref p) s') : wpAny (model P w) A (call (.builtin "sorted") [.ref a]) Q E s := by
  obtain ⟨o, es, ep, t, x⟩ := R
  have lenl : es.size = l.length := by rw [← x.mem.length_eq, List.length_map, Array.length_toList]
  refine Calls.call_function_entry kind_sorted plain_sorted entry_sorted (args_sorted1 _) ?_
  unfold Builtin.«sorted»
  refine wpAny_bind (m := checkCount "sorted" 1 1 _) (wpAny_pure (wpAny_bind (L2.collect_set (A := A.in1) calm ⟨o, x.ho, x.ex.1, x.hd⟩ x.fits x.few x.ris x.led fun s1 vs k1 hz g1 o1 pm => ?_)))
  have hvl : vs.length = l.length := by rw [pm.length_eq, List.length_map, Array.length_toList]; exact lenl
  obtain ⟨ss, hS, e⟩ := strs_of vs fun v hv => by
    obtain ⟨e, he, q⟩ := List.mem_map.mp (pm.mem_iff.mp hv)
    obtain ⟨k, tk, h1, _⟩ := x.good e he
    exact ⟨k, tk, by rw [← q]; exact h1⟩
  have ps : ss.Perm l := by
    have q := pm.map (fun v => match v with | Value.str k _ => k | _ => Str.empty)
    rw [e, List.map_map] at q
    exact q.trans x.mem
  have v64 : vs.length < 64 := by rw [hvl]; exact few
  refine wpAny_bind (wpAny_newList ?_ (by rw [hvl, sizeLine_eq]; omega))
  have hoL : (s1.heap.push (seqObj "list" vs.toArray 0)).get? s1.heap.objs.size = some (seqObj "list" vs.toArray 0) := Heap.get?_push_size _ rfl
  refine wpAny_bind (wpAny_holding (wpAny_call_entry slot_list_sort ⟨_, hoL, rfl⟩ entry_list_sort (list_sort_treeK strKind_oneLt hoL hS.keysOf (fun v₁ v₂ rest e => keyKind_strs (by rw [← e]; exact hS)) v64 fun st' a1 a2 => ⟨_, rfl, ?_⟩) (args_list_sort _)))
  obtain ⟨ss', b1, b2, b3⟩ := sorted_out_str hS a1 a2
  obtain ⟨c, hc⟩ := sortedHeap_at (vs := vs) (out := (arrOf st').map (·.2)) hoL
  refine wpAny_pure ⟨_, rfl, hQ _ s1.heap.objs.size _ c ss' (fun b u e => ?_) g1 o1 hz hc b1 b3 (b2.trans ps)⟩
  have q := k1 b u e
  have lt := Heap.lt_size q
  show (sortedHeap (s1.heap.push (seqObj "list" vs.toArray 0)) s1.heap.objs.size vs _).get? b = some u
  rw [sortedHeap_old (Nat.ne_of_lt lt) (by rw [size_push']; exact Nat.lt_succ_of_lt lt)]
  exact Heap.get?_push_of_some _ q
end
end Hb
namespace Hb
open PySem PySem.Spec PyProof.Rows L2
/-- sorted(set(xs)), xs a list of texts -/
def tSortSet (K : PySem.W.Frag) (ta : TE) : TE := fun σ H Q => ta σ H fun x H1 => ∃ (l : Addr) (xs : List Str), x = .ref l ∧ SqL K H1 l (xs.map V.str) ∧ xs.length < 64 ∧
  ∀ (ns : List Str) (p : Addr), ns.Nodup → (∀ k, k ∈ ns ↔ k ∈ xs) → sortedS ns = true → H1 p = none → Q (.ref p) (upd H1 p (.lst (ns.map V.str)))
theorem pe_sortSet {X : Cx} {a : Expr} {ta : TE} {p p2 q pos : Pos} (hg : Gl X "sorted") (hm : X.mg "sorted" = none) (hg2 : Gl X "set") (hm2 : X.mg "set" = none) (ha : PE X a ta) (calm : X.calm = true := by rfl)
    (na : starEach [a] X.env = (false, eval a X.env) :: starEach [] X.env := by rfl) : PE X (.Call (.Name "sorted" p) [.Call (.Name "set" p2) [a] [] q] [] pos) (tSortSet X.K ta) := by
  refine ⟨fun pins s σ H Q I h => Call_ (ld_blt I hg hm boot_sorted (callWith_builtin1 (args_cons (Call_ (ld_blt I hg2 hm2 boot_set
    (callWith_type1 (args_cons (thn (ha.run pins s σ H _ I h) fun v z ⟨x, H1, J, r, q⟩ => args_nil ?_) na) na rfl))) rfl) rfl rfl))⟩
  obtain ⟨l, xs, rfl, hq, few, q⟩ := q
  cases r
  obtain ⟨its, rv, pl, hz⟩ := J.list hq
  refine set_textsR (J.ok.hd calm) pl.isList (by simpa using strsAre_of rv) (by unfold scanBound; omega) fun h' tk us hS hu hk => args_nil ?_
  have J2 : Inv X pins σ H1 { z with heap := h', toks := tk } := J.kept hk
  refine sorted_setT hS (J.ok.hd calm) (Nat.lt_of_le_of_lt hu.2.1 few) fun s' p out c ns k1 g1 o1 lt at_ hs so pm => ?_
  have nl : (ns.map V.str).length ≤ sizeLine := by rw [List.length_map, pm.length_eq, sizeLine_eq]; have := hu.2.1; omega
  have free : H1 p = none := J2.hok.fresh lt
  have J3 : Inv X pins σ (upd H1 p (.lst (ns.map V.str))) { { z with heap := h', toks := tk } with heap := s'.heap, gens := s'.gens, drawn := s'.drawn, toks := s'.toks } :=
    J2.call (ch := []) (Un.laid k1 lt free) (J2.hok.laid k1 lt ⟨nl, out.toList, c, vals_of_strs hs, at_⟩) (by rw [g1]; exact J2.bare) fun _ y => nomatch y
  have e : s' = { { z with heap := h', toks := tk } with heap := s'.heap, gens := s'.gens, drawn := s'.drawn, toks := s'.toks } := by
    cases s'
    cases z
    cases o1
    rfl
  rw [e]
  exact ⟨.ref p, _, J3, rfl, q ns p (pm.nodup_iff.mpr hu.1) (fun k => pm.mem_iff.trans (hu.2.2 k)) so free⟩
end Hb
set_option Elab.async false
set_option linter.all false
set_option maxRecDepth 100000
set_option maxHeartbeats 4000000
/-! len(x) by a def of the class. -/
namespace Hb
open PySem PySem.Spec PyProof.Rows
section
variable {prog : Program} {w : World} {A : Around} {E : Value → Shared → Prop} {s : Shared} {K : PySem.W.Frag} {x C f : Addr} {ox : Obj} {od : Option Obj}
theorem lenBody_own {Q : Value → Shared → Prop} (X : K.In s.heap) (I : PySem.W.InstAt s.heap x ox C od) (hs : PySem.W.findIn K (.ref C) "__len__" = some (some (.ref f))) (hf : PySem.W.isFn K (.ref f) = true)
    (h : wpAny (model prog w) A (call (.ref f) [.ref x]) (fun r z => ∃ (n : Int) (t : Tok), r = Value.int n t ∧ 0 ≤ n ∧ n < 2 ^ 63 ∧ ∀ t' tk, Q (.int n t') { z with toks := tk }) E s) : wpAny (model prog w) A (Builtin.«len» ⟨[.ref x], []⟩) (fun fin s' => ∃ r, fin = .done (.ret r) ∧ Q r s') E s := by
  unfold Builtin.«len»
  refine wpAny_bind (m := oneArg "len" _) (wpAny_pure ?_)
  refine wpAny_bind (m := callSpecial? (.ref x) (Str.ofString "__len__")) (PySem.W.special_fn X I hs (beq_iff_eq.mp hf) (wpAny_mono h (fun r z hr => ?_) fun _ _ e => e))
  obtain ⟨n, t, rfl, h0, h1, q⟩ := hr
  refine wpAny_bind (wpAny_holding (wpAny_pure ?_))
  refine wpAny_bind (wpAny_letGo ?_)
  show wpAny _ _ (if n < 0 then _ else _) _ _ _
  rw [if_neg (by omega)]
  show wpAny _ _ (if n ≥ 2 ^ 63 then _ else _) _ _ _
  rw [if_neg (by omega)]
  exact wpAny_bind (wpAny_mkInt (wpAny_pure ⟨_, rfl, q _ _⟩))
end
end Hb
namespace Hb
open PySem PySem.Spec PyProof.Rows L2
/-- the class at C has a __len__ of its own -/
structure LenOf (P : Program) (w : World) (K : PySem.W.Frag) (mg : Str → Option Value) (base : Heap) (k : Nat) (C : Addr) (sp : Sp) : Prop where
  ex : ∃ (f : Addr) (fd : FuncData) (ps : List Str), PySem.W.findIn K (.ref C) "__len__" = some (some (.ref f)) ∧ PySem.W.isFn K (.ref f) = true ∧ FnOk P w K mg base CX0 k f fd ps sp ∧ Binds K fd ps []
def rLenOwn (C : Addr) (sp : Sp) : List V → Hp → VK → Prop := fun xs H Q => ∃ (a dx : Addr) (fs : List (Str × V)), xs = [.ref a] ∧ H a = some (.ins C dx fs) ∧ sp [.ref a] H (fun v H' => ∃ n : Int, v = .int n ∧ 0 ≤ n ∧ n < 2 ^ 63 ∧ Q v H') C8.E0
section
variable {X : Cx} {C : Addr} {k j : Nat} {sp : Sp}
theorem call_lenOwn (c : LenOf X.prog X.w X.K X.mg X.base k C sp) (hr : Room j X.A) (hk : k + 1 ≤ j) : CallR X (.builtin "len") (rLenOwn C sp) := by
  intro pins s σ H xs us Q I r h
  obtain ⟨f, fd, ps, hs, hf, FO, hb⟩ := c.ex
  obtain ⟨a, dx, fs, rfl, ha, q⟩ := h
  rw [Vals.ref1 r]
  obtain ⟨mA, J, _⟩ := ins_get I.hok ha
  obtain ⟨od, J, _⟩ := J.look
  have X0 := I.kIn
  have hj : Room (k + 1) X.A := hr.mono hk
  have h2 : Room k X.A.in1 := hj.in1
  have r2 : Vals [V.ref a] [Value.ref a] := .cons rfl .nil
  refine Calls.call_function_entry kind_len plain_len entry_len (args_len1 _) ?_
  refine lenBody_own X0 J hs hf (wpAny_call (codeAny_mono (FO.run X.A.in1 X.stack s H ⟨[.ref a], []⟩ [.ref a] [.ref a] _ C8.E0 h2 I.env0.in1 (by
      have l := FO.len _ _ _ _ q
      have z := hb s [.ref a] X0 (by simpa using l)
      simpa using z) r2 q) fun r s' hq => ?_))
  cases r with
  | error e => exact (C8.pass0 (E := C8.E0) pins σ H s e s' I hq)
  | ok fl =>
    cases fl with
    | ret w2 =>
      obtain ⟨z, H', I', rz, n, ez, n0, n1, qz⟩ := I.after hq
      subst ez
      obtain ⟨t, e⟩ := (show ∃ t, w2 = Value.int n t from rz)
      subst e
      exact ⟨n, t, rfl, n0, n1, fun t' tk => ⟨.int n, H', I'.tok tk, ⟨t', rfl⟩, qz⟩⟩
    | next => exact False.elim hq
    | brk => exact False.elim hq
    | cont => exact False.elim hq
end
end Hb
set_option Elab.async false
set_option linter.all false
set_option maxRecDepth 100000
set_option maxHeartbeats 4000000
/-! Defs that stand behind a record of a class (a property's getter, a classmethod's def), in a head's facts. -/
namespace He
open PySem PySem.Spec PyProof.Rows L2
def fnP (K : PySem.W.Frag) (a : Addr) : FnW := match K.lookup a with
  | some ⟨_, _, .func fd, _⟩ => some (fd.name, fd.qualname, fd.params, fd.body, fd.scope, fd.globals, fd.closure, fd.builtins)
  | _ => none
/-- the first thing of the record of the class T at C.m -/
def rp (K : PySem.W.Frag) (T : String) (C : Addr) (m : Str) : Addr := match PySem.W.recIn K (ma K C m) T with
  | some (.ref g :: _) => g
  | _ => 0
def okP (K : PySem.W.Frag) (a : Addr) (d : DefD) : Bool := PySem.W.keepIn K (.ref a) && (match K.lookup a with
  | some ⟨_, _, .func fd, _⟩ => PySem.W.codeIn K fd.code d.qual && (dflB K fd.defaults (d.dvs K) && kwdB K fd.kwdefaults (d.kws K))
  | _ => false)
theorem funP {K : PySem.W.Frag} {a : Addr} {d : DefD} (e : fnP K a = d.val) (c : okP K a d = true) : ∃ fd, FunD K d.name d.qual d.params d.body d.scope (d.dvs K) (d.kws K) a fd := by
  obtain ⟨kp, c2⟩ := ba c
  unfold fnP at e
  cases q : K.lookup a with
  | none =>
    rw [q] at c2
    cases c2
  | some o =>
    obtain ⟨oc, od, dt, osl⟩ := o
    rw [q] at c2 e
    cases dt with
    | func fd =>
      obtain ⟨n1, n2, n3, n4, n5, n6, n7, n8, n9, n10, n11, n12, n13, n14, n15⟩ := fd
      have e2 : (some (n1, n2, n3, n4, n5, n6, n7, n15) : FnW) = some (d.name, d.qual, d.params, .stmts d.body, d.scope, mainGlobals, [], builtinsNs) := e
      simp only [Option.some.injEq, Prod.mk.injEq] at e2
      obtain ⟨h1, h2, h3, h4, h5, h6, h7, h8⟩ := e2
      subst h1 h2 h3 h4 h5 h6 h7 h8
      have c3 : (PySem.W.codeIn K n13 d.qual && (dflB K n8 (d.dvs K) && kwdB K n9 (d.kws K))) = true := c2
      obtain ⟨k1, k2⟩ := ba c3
      obtain ⟨k3, k4⟩ := ba k2
      exact ⟨_, ⟨oc, od, n8, n9, n10, n11, n12, n13, n14, osl, rfl, q, k1, dflB_ok k3, kwdB_ok k4⟩, kp⟩
    | _ => cases e
abbrev Dp := (PySem.W.Frag → Addr) × DefD
abbrev AlY : Type := AlX × List FnW
def obsY (n : Nat) (fa : List Fa) (fn : List DefD) (ex : PySem.W.Frag → Bool) (fp : List Dp) (g : Addr → Option Obj) : AlY := (obsX n fa fn [] [] ex g, fp.map fun p => fnP (frT g (asD g n)) (p.1 (frT g (asD g n))))
def valY (fn : List DefD) (fp : List Dp) (w : World) : AlY := (valX fn [] w, fp.map fun p => p.2.val)
structure SaysY (fa : List Fa) (fn : List DefD) (ex : PySem.W.Frag → Bool) (fp : List Dp) (w : World) (h : Heap) (K : PySem.W.Frag) : Prop where
  x : SaysX fa fn [] [] ex w h K
  p : fp.map (fun p => fnP K (p.1 K)) = fp.map fun p => p.2.val
def hookY (n : Nat) (fa : List Fa) (fn : List DefD) (ex : PySem.W.Frag → Bool) (fp : List Dp) : PySem.W.Hook where
  α := AlY
  obs := fun s => obsY n fa fn ex fp s.heap.get?
  val := fun w => valY fn fp w
  says := fun w h => ∃ K : PySem.W.Frag, K.In h ∧ SaysY fa fn ex fp w h K
  of := fun _ _ e => ⟨_, frT_in, saysX_of (congrArg (fun z : AlY => z.1) e), congrArg (fun z : AlY => z.2) e⟩
  keeps := fun _ _ _ ⟨K, hK, c⟩ k => ⟨K, PySem.W.Frag.In.keeps hK k, ⟨⟨c.x.t, c.x.more, c.x.hd, c.x.out, fun p hp => k _ _ (c.x.empty p hp)⟩, c.p⟩⟩
theorem obsY_eq {n : Nat} {fa : List Fa} {fn : List DefD} {ex : PySem.W.Frag → Bool} {fp : List Dp} {g : Addr → Option Obj} {s : Shared} (h : ∀ a, g a = s.heap.get? a) : obsY n fa fn ex fp g = (hookY n fa fn ex fp).obs s := by
  have e : g = s.heap.get? := funext h
  rw [e] <;> rfl
/-- the i-th of them -/
theorem def_p {K : PySem.W.Frag} {fp : List Dp} (c : fp.map (fun p => fnP K (p.1 K)) = fp.map fun p => p.2.val) (i : Nat) {p : Dp} (h : fp[i]? = some p) (ok : okP K (p.1 K) p.2 = true) :
    ∃ fd, FunD K p.2.name p.2.qual p.2.params p.2.body p.2.scope (p.2.dvs K) (p.2.kws K) (p.1 K) fd := by
  have e2 : (fp.map fun p => fnP K (p.1 K))[i]? = (fp.map fun p => p.2.val)[i]? := by rw [c]
  rw [List.getElem?_map, List.getElem?_map, h] at e2
  exact funP (Option.some.inj e2) ok
/-! what the class must have -/
def propB (K : PySem.W.Frag) (C : Addr) (f : Str) : Bool := eqO (PySem.W.findIn K (.ref C) f) (some (some (.ref (ma K C f)))) && (eqO (PySem.W.specialIn K (.ref (ma K C f)) "__get__") (some (some (.builtin "property.__get__"))) && (decide (PySem.W.takesIn K (.ref (ma K C f)) = some true) &&
  (match PySem.W.recIn K (ma K C f) "property" with
  | some (.ref g :: _) => true
  | _ => false)))
theorem prop_ok {K : PySem.W.Frag} {C : Addr} {f : Str} (h : propB K C f = true) : PropOf K C f (ma K C f) (rp K "property" C f) := by
  obtain ⟨h1, h⟩ := ba h
  obtain ⟨h2, h⟩ := ba h
  obtain ⟨h3, h4⟩ := ba h
  refine ⟨eqO_ok h1, eqO_ok h2, of_decide_eq_true h3, ?_⟩
  unfold rp
  split at h4
  · rename_i g rest e
    rw [e]
    exact ⟨_, rfl⟩
  · cases h4
end He
set_option Elab.async false
set_option linter.all false
set_option maxRecDepth 100000
set_option maxHeartbeats 4000000
/-! Mathematics of houses: sorted things, shown things, mended houses. -/
namespace Hb
open PySem PySem.Spec PyProof.Rows L2
abbrev leS (a b : Str) : Prop := ltCps b.cps.toList a.cps.toList = false
theorem ltS_iff (a b : Str) : ltCps a.cps.toList b.cps.toList = true ↔ a.cps.toList < b.cps.toList := by rw [ltCps_eq]; exact decide_eq_true_iff
theorem leS_iff (a b : Str) : leS a b ↔ ¬ b.cps.toList < a.cps.toList := by unfold leS; rw [ltCps_eq]; exact decide_eq_false_iff_not
theorem leS_trans {a b c : Str} (h1 : leS a b) (h2 : leS b c) : leS a c := by
  rw [leS_iff] at *
  rw [List.not_lt] at *
  exact List.le_trans h1 h2
theorem leS_antisymm {a b : Str} (h1 : leS a b) (h2 : leS b a) : a = b := by
  rw [leS_iff] at *
  rw [List.not_lt] at *
  have e := List.le_antisymm h1 h2
  obtain ⟨⟨x⟩⟩ := a
  obtain ⟨⟨y⟩⟩ := b
  simp only at e
  subst e
  rfl
theorem leS_total (a b : Str) : leS a b ∨ leS b a := by
  rw [leS_iff, leS_iff, List.not_lt, List.not_lt]
  exact List.le_total _ _
theorem risingS_pw : ∀ (p : Str) (l : List Str), risingS p l = true → (p :: l).Pairwise leS
  | p, [], _ => List.pairwise_singleton _ _
  | p, x :: r, h => by
    have h2 : (!ltCps x.cps.toList p.cps.toList && risingS x r) = true := h
    obtain ⟨h3, h4⟩ := Bool.and_eq_true_iff.mp h2
    have h5 : leS p x := by simpa using h3
    have ih := risingS_pw x r h4
    refine List.pairwise_cons.mpr ⟨fun y hy => ?_, ih⟩
    rcases List.mem_cons.mp hy with rfl | hy
    · exact h5
    · exact leS_trans h5 (List.rel_of_pairwise_cons ih hy)
theorem sortedS_pw : ∀ {l : List Str}, sortedS l = true → l.Pairwise leS
  | [], _ => .nil
  | x :: r, h => risingS_pw x r h
theorem pw_unique {α : Type} {r : α → α → Prop} (anti : ∀ a b, r a b → r b a → a = b) : ∀ {l m : List α}, l.Pairwise r → m.Pairwise r → l.Nodup → m.Nodup → (∀ k, k ∈ l ↔ k ∈ m) → l = m
  | [], m, _, _, _, _, h => by
    cases m with
    | nil => rfl
    | cons y m => exact absurd ((h y).mpr List.mem_cons_self) (by simp)
  | x :: l, [], _, _, _, _, h => absurd ((h x).mp List.mem_cons_self) (by simp)
  | x :: l, y :: m, p1, p2, n1, n2, h => by
    obtain ⟨a1, b1⟩ := List.pairwise_cons.mp p1
    obtain ⟨a2, b2⟩ := List.pairwise_cons.mp p2
    obtain ⟨c1, d1⟩ := List.nodup_cons.mp n1
    obtain ⟨c2, d2⟩ := List.nodup_cons.mp n2
    have e : x = y := by
      rcases List.mem_cons.mp ((h x).mp List.mem_cons_self) with e | hx
      · exact e
      · rcases List.mem_cons.mp ((h y).mpr List.mem_cons_self) with e | hy
        · exact e.symm
        · exact anti x y (a1 y hy) (a2 x hx)
    subst e
    have ih := pw_unique anti b1 b2 d1 d2 fun k => by
      have hk := h k
      simp only [List.mem_cons] at hk
      by_cases e : k = x
      · subst e; exact ⟨fun q => absurd q c1, fun q => absurd q c2⟩
      · exact ⟨fun q => (hk.mp (.inr q)).resolve_left e, fun q => (hk.mpr (.inr q)).resolve_left e⟩
    rw [ih]
theorem sorted_unique {l m : List Str} (h1 : sortedS l = true) (h2 : sortedS m = true) (n1 : l.Nodup) (n2 : m.Nodup) (h : ∀ k, k ∈ l ↔ k ∈ m) : l = m :=
  pw_unique (fun _ _ => leS_antisymm) (sortedS_pw h1) (sortedS_pw h2) n1 n2 h
/-! what is sorted stays -/
theorem sort_id {α : Type} {le : α → α → Bool} {l : List α} (h : l.Pairwise fun a b => le a b = true) : l.mergeSort le = l := List.mergeSort_of_pairwise h
theorem leF {a b : Fl} (h : a.1 < b.1) : PySem.W.dataLe false encF a b = true := by
  have n : ¬ b.1 < a.1 := by omega
  simp [PySem.W.dataLe, PySem.W.sortLe, encF, PySem.W.keyToks, PySem.W.keyToksAll, PyProof.Rows.listOrd, PyProof.Rows.lexLt, PyProof.Rows.itemOrd, PyProof.Rows.itemLt, n, h]
theorem leI {a b : Int} (h : a < b) : PySem.W.dataLe false PyData.int a b = true := by
  have n : ¬ b < a := by omega
  simp [PySem.W.dataLe, PySem.W.sortLe, PySem.W.keyToks, PyProof.Rows.listOrd, PyProof.Rows.lexLt, PyProof.Rows.itemOrd, PyProof.Rows.itemLt, n, h]
theorem sortF_id {l : List Fl} (h : (l.map Prod.fst).Pairwise (· < ·)) : sortF l = l := sort_id ((List.pairwise_map.mp h).imp fun q => leF q)
theorem sortI_id {l : List Int} (h : l.Pairwise (· < ·)) : sortI l = l := sort_id (h.imp fun q => leI q)
theorem sortF_sortF (l : List Fl) : sortF (sortF l) = sortF l := sort_id (List.pairwise_mergeSort (PySem.W.sortLe_total _ _ _).trans (fun a b => Bool.or_eq_true_iff.mpr ((PySem.W.sortLe_total _ _ _).total a b)) l)
/-! what is shown is short -/
theorem piled_le {n : Nat} : ∀ {ts : List Str}, (∀ t ∈ ts, t.length ≤ n) → piled ts ≤ (n + 2) * ts.length
  | [], _ => by simp [piled]
  | t :: ts, h => by
    have h1 := h t List.mem_cons_self
    have h2 := piled_le (ts := ts) fun x hx => h x (List.mem_cons_of_mem _ hx)
    rw [piled_cons, List.length_cons, Nat.mul_add]
    omega
theorem tupleText_le (ts : List Str) : (tupleText ts).length ≤ piled ts + 3 := by
  unfold tupleText
  rw [Str.length_append, Str.length_append]
  have a : (("(" : Str)).length = 1 := rfl
  have b : ((if ts.length == 1 then ",)" else ")" : String) : Str).length ≤ 2 := by split <;> decide
  cases ts with
  | nil => rw [a]; simp only [piled_nil]; have : (Str.join ", " ([] : List Str)).length = 0 := rfl; omega
  | cons t r =>
    have := join_length_add (t :: r) (by simp)
    rw [a]
    omega
theorem shownAll_len : ∀ ds : List PyData, (PyData.shownAll ds).length = ds.length
  | [] => rfl
  | d :: ds => by simp only [PyData.shownAll, List.length_cons, shownAll_len ds]
theorem shownAll_le {n : Nat} : ∀ {ds : List PyData}, (∀ d ∈ ds, d.shown.length ≤ n) → ∀ t ∈ PyData.shownAll ds, t.length ≤ n
  | [], _, t, h => by simp [PyData.shownAll] at h
  | d :: ds, h0, t, h => by
    simp only [PyData.shownAll, List.mem_cons] at h
    rcases h with rfl | h
    · exact h0 d List.mem_cons_self
    · exact shownAll_le (fun e he => h0 e (List.mem_cons_of_mem _ he)) t h
theorem tup_le {n m : Nat} {ds : List PyData} (h : ∀ d ∈ ds, d.shown.length ≤ n) (hm : ds.length ≤ m) : (PyData.tuple ds).shown.length ≤ (n + 2) * m + 3 := by
  simp only [PyData.shown]
  have a := tupleText_le (PyData.shownAll ds)
  have b := piled_le (shownAll_le h)
  rw [shownAll_len] at b
  have c := Nat.mul_le_mul_left (n + 2) hm
  omega
end Hb
set_option Elab.async false
set_option linter.all false
set_option maxRecDepth 100000
set_option maxHeartbeats 4000000
/-! Methods, comparisons, properties of a class, from the head's facts. -/
namespace Hb
open PySem PySem.Spec PyProof.Rows L2
section
variable {P : Program} {w : World} {K : PySem.W.Frag} {mg : Str → Option Value} {base : Heap}
/-- a method without defaults -/
def Dm (K : PySem.W.Frag) (C m qual : Str) (st : Stmt) : Prop := Meth K (He.ga K C) m (He.ma K (He.ga K C) m) ∧ ∃ fd, FunD K m qual (defArgs st) (defBody st) (defScope st) [] [] (He.ma K (He.ga K C) m) fd
/-- a property -/
def Dprop (K : PySem.W.Frag) (C m qual : Str) (st : Stmt) : Prop := PropOf K (He.ga K C) m (He.ma K (He.ga K C) m) (He.rp K "property" (He.ga K C) m) ∧ ∃ fd, FunD K m qual (defArgs st) (defBody st) (defScope st) [] [] (He.rp K "property" (He.ga K C) m) fd
variable {C m qual : Str} {st : Stmt} {ps : List Str} {k : Nat} {sp : Sp}
abbrev BdN (m qual : Str) (st : Stmt) (ps : List Str) : Prop := ∀ (kV doc pm : Value) (an : Option Addr) (cdv ct : Value) (us : List Value), us.length = ps.length → bindArgs (PySem.W.fnOf m qual (defArgs st) (defBody st) (defScope st) .none kV doc pm an cdv ct) ⟨us, []⟩ = pure (ps.zip us)
theorem met_ (D : Dm K C m qual st) (c : Cls K (He.ga K C)) (bd : BdN m qual st ps) (ok : ∀ {f : Addr} {fd : FuncData}, FunD K m qual (defArgs st) (defBody st) (defScope st) [] [] f fd → FnOk P w K mg base CX0 k f fd ps sp) : C8.Met P w K mg base k (He.ga K C) m sp [] := by
  obtain ⟨hm, fd, F⟩ := D
  exact ⟨⟨_, fd, ps, [], c, hm, ok F, F.bindsN bd, .nil⟩⟩
theorem eqOf_ (D : Dm K C "__eq__" qual st) (bd : BdN "__eq__" qual st ps) (ok : ∀ {f : Addr} {fd : FuncData}, FunD K "__eq__" qual (defArgs st) (defBody st) (defScope st) [] [] f fd → FnOk P w K mg base CX0 k f fd ps sp) : EqOf P w K mg base k (He.ga K C) sp := by
  obtain ⟨hm, fd, F⟩ := D
  exact ⟨⟨_, fd, ps, hm.at_, hm.fn, ok F, F.bindsN bd⟩⟩
theorem lenOf_ (D : Dm K C "__len__" qual st) (bd : BdN "__len__" qual st ps) (ok : ∀ {f : Addr} {fd : FuncData}, FunD K "__len__" qual (defArgs st) (defBody st) (defScope st) [] [] f fd → FnOk P w K mg base CX0 k f fd ps sp) : LenOf P w K mg base k (He.ga K C) sp := by
  obtain ⟨hm, fd, F⟩ := D
  exact ⟨⟨_, fd, ps, hm.at_, hm.fn, ok F, F.bindsN bd⟩⟩
theorem strOf_ (D : Dm K C "__str__" qual st) (bd : BdN "__str__" qual st ps) (ok : ∀ {f : Addr} {fd : FuncData}, FunD K "__str__" qual (defArgs st) (defBody st) (defScope st) [] [] f fd → FnOk P w K mg base CX0 k f fd ps sp) : StrOf P w K mg base k (He.ga K C) sp := by
  obtain ⟨hm, fd, F⟩ := D
  exact ⟨⟨_, fd, ps, hm.at_, hm.fn, ok F, F.bindsN bd⟩⟩
/-- the class at C has a property -/
structure GetOf (P : Program) (w : World) (K : PySem.W.Frag) (mg : Str → Option Value) (base : Heap) (k : Nat) (C : Addr) (m : Str) (sp : Sp) : Prop where
  ex : ∃ (p g : Addr) (fd : FuncData) (ps : List Str), PropOf K C m p g ∧ FnOk P w K mg base CX0 k g fd ps sp ∧ Binds K fd ps []
theorem getOf_ (D : Dprop K C m qual st) (bd : BdN m qual st ps) (ok : ∀ {f : Addr} {fd : FuncData}, FunD K m qual (defArgs st) (defBody st) (defScope st) [] [] f fd → FnOk P w K mg base CX0 k f fd ps sp) : GetOf P w K mg base k (He.ga K C) m sp := by
  obtain ⟨hp, fd, F⟩ := D
  exact ⟨⟨_, _, fd, ps, hp, ok F, F.bindsN bd⟩⟩
end
theorem pe_get {X : Cx} {C : Addr} {m : Str} {k j : Nat} {sp : Sp} (c : GetOf X.prog X.w X.K X.mg X.base k C m sp) (cl : Cls X.K C) (hr : Room j X.A) (hk : k + 1 ≤ j) {e : Expr} {ta : TE} {pos : Pos} (he : PE X e ta)
    (hab : attributeBase e m X.env (eval e X.env) = eval e X.env := by rfl) : PE X (.Attribute e m pos) (tProp C sp [] C8.E0 ta) := by
  obtain ⟨p, g, fd, ps, hp, F, b⟩ := c.ex
  exact pe_prop he cl hp F (hr.mono hk) b .nil C8.pass0 hab
end Hb
set_option Elab.async false
set_option linter.all false
set_option maxRecDepth 100000
set_option maxHeartbeats 4000000
/-! A class whose __init__ has defaults, called with all arguments and with none of these; sorted permutations. -/
namespace He
open PySem PySem.Spec PyProof.Rows L2
def nilB (K : PySem.W.Frag) (a : Addr) : Bool := match K.lookup a with
  | some ⟨.type c, _, .seq its _, _⟩ => decide (c = "tuple") && its.isEmpty
  | _ => false
theorem nilB_ok {K : PySem.W.Frag} {a : Addr} (h : nilB K a = true) (H : Hp) : SqT K H a [] := by
  unfold nilB at h
  split at h
  · rename_i c d its n sl e
    obtain ⟨h1, h2⟩ := ba h
    have e1 : c = "tuple" := of_decide_eq_true h1
    have e2 : its = #[] := Array.isEmpty_iff.mp h2
    subst e1 e2
    exact .inr ⟨_, #[], n, e, rfl, rfl, Nat.zero_le _, .nil⟩
  · cases h
end He
namespace Hb
open PySem PySem.Spec PyProof.Rows L2
section
variable {P : Program} {w : World} {K : PySem.W.Frag} {mg : Str → Option Value} {base : Heap}
def Df1v (K : PySem.W.Frag) (mg : Str → Option Value) (C qual : Str) (st : Stmt) (dvs : List V) : Prop := Mk K (He.ga K C) (He.ma K (He.ga K C) "__init__") ∧ mg C = some (.ref (He.ga K C)) ∧
  ∃ fd, FunD K "__init__" qual (defArgs st) (defBody st) (defScope st) dvs [] (He.ma K (He.ga K C) "__init__") fd
theorem mak_mkD2 {C qual : Str} {st : Stmt} {N ps : List Str} {k n : Nat} {sp : Sp} {dvs : List V} (hd : dvs ≠ []) (hn : n + dvs.length = ps.length) (D : Df1v K mg C qual st dvs) (S : FnScope N ps (defScope st))
    (bd : ∀ (T : Addr) (kV doc pm : Value) (an : Option Addr) (cdv ct : Value) (us its : List Value), us.length = ps.length → its.length = dvs.length →
      ∃ k, bindArgs (PySem.W.fnOf "__init__" qual (defArgs st) (defBody st) (defScope st) (.ref T) kV doc pm an cdv ct) ⟨us, []⟩ = seqItems? (.ref T) >>= k ∧ k (some its.toArray) = pure (ps.zip us))
    (bp : ∀ (T : Addr) (kV doc pm : Value) (an : Option Addr) (cdv ct : Value) (us its : List Value), us.length = n → its.length = dvs.length →
      ∃ k, bindArgs (PySem.W.fnOf "__init__" qual (defArgs st) (defBody st) (defScope st) (.ref T) kV doc pm an cdv ct) ⟨us, []⟩ = seqItems? (.ref T) >>= k ∧ k (some its.toArray) = pure (ps.zip (us ++ its)))
    (len : ∀ vs H Q E, sp vs H Q E → vs.length = ps.length)
    (hbody : ∀ (f : Addr) (cdv : Value) (A : Around) (outer : List Env) (s : Shared) (H : Hp) (vs : List V) (Q : VK) (E : XK), Room k (A.deeper (envOfC qual (defScope st) s.heap.objs.size f cdv)) → sp vs H Q E →
      ∃ t, PSs (cxOf CX0 P w K mg base N qual (defScope st) f cdv A outer s H E).nox (defBody st) t ∧ t { nx := fun _ H' => Q .non H', rt := Q } (start N vs) H) :
    C8.Mak P w K mg base (k + 1) C (He.ga K C) sp [] ∧ C8.Mak P w K mg base (k + 1) C (He.ga K C) sp dvs := by
  obtain ⟨M, hm, fd, F⟩ := D
  have ok : FnOk P w K mg base CX0 (k + 1) (He.ma K (He.ga K C) "__init__") fd ps sp := F.ok S len fun cdv A outer s H vs Q E hr h => by
    obtain ⟨t, h1, h2⟩ := hbody _ cdv A outer s H vs Q E hr h
    exact ⟨t, h1.nox, h2⟩
  constructor
  · obtain ⟨ds, r, b⟩ := F.binds1 ps.length dvs.length hd (by rw [Nat.sub_self, Nat.add_zero]) fun T kV doc pm an cdv ct us its h1 h2 => by
      obtain ⟨k, e1, e2⟩ := bd T kV doc pm an cdv ct us its h1 h2
      exact ⟨k, e1, by rw [e2, List.drop_of_length_le (by rw [h2] <;> exact Nat.le_refl _), List.append_nil]⟩
    rw [List.drop_of_length_le (Nat.le_refl _)] at r
    cases r
    exact ⟨⟨_, fd, ps, [], M, ok, hm, b, .nil⟩⟩
  · obtain ⟨ds, r, b⟩ := F.binds1 n 0 hd (by rw [Nat.sub_zero]; exact hn) fun T kV doc pm an cdv ct us its h1 h2 => by
      obtain ⟨k, e1, e2⟩ := bp T kV doc pm an cdv ct us its h1 h2
      exact ⟨k, e1, by rw [e2, List.drop_zero]⟩
    rw [List.drop_zero] at r
    exact ⟨⟨_, fd, ps, ds, M, ok, hm, b, r⟩⟩
end
/-! sorted permutations -/
theorem data_total {a b : PyData} (h1 : (listOrd itemOrd).blt (PySem.W.keyToks b) (PySem.W.keyToks a) = false) (h2 : (listOrd itemOrd).blt (PySem.W.keyToks a) (PySem.W.keyToks b) = false) : PySem.W.keyToks a = PySem.W.keyToks b := (listOrd itemOrd).total _ _ h2 h1
theorem le_blt {α : Type} {enc : α → PyData} {a b : α} (h : PySem.W.dataLe false enc a b = true) : (listOrd itemOrd).blt (PySem.W.keyToks (enc b)) (PySem.W.keyToks (enc a)) = false := by
  have z : (!(listOrd itemOrd).blt (PySem.W.keyToks (enc b)) (PySem.W.keyToks (enc a))) = true := h
  simpa using z
theorem sort_pw {α : Type} (enc : α → PyData) (l : List α) : (l.mergeSort (PySem.W.dataLe false enc)).Pairwise fun a b => PySem.W.dataLe false enc a b = true :=
  List.pairwise_mergeSort (PySem.W.sortLe_total _ _ _).trans (fun a b => Bool.or_eq_true_iff.mpr ((PySem.W.sortLe_total _ _ _).total a b)) l
theorem encF_toks {a b : Fl} (e : PySem.W.keyToks (encF a) = PySem.W.keyToks (encF b)) : a = b := by
  obtain ⟨a1, ⟨⟨a2⟩⟩⟩ := a
  obtain ⟨b1, ⟨⟨b2⟩⟩⟩ := b
  simp [encF, PySem.W.keyToks, PySem.W.keyToksAll] at e
  rw [e.1, e.2]
theorem sortF_perm_eq {es fs : List Fl} (p : es.Perm fs) (a : (fs.map Prod.fst).Pairwise (· < ·)) : sortF es = fs := by
  have nd : fs.Nodup := (List.pairwise_map.mp a).imp fun {x y} q e => by subst e; exact absurd q (Int.lt_irrefl _)
  have ps := (sortF_perm es).trans p
  exact pw_unique (r := fun x y => PySem.W.dataLe false encF x y = true) (fun x y h1 h2 => encF_toks (data_total (le_blt h1) (le_blt h2))) (sort_pw encF es) ((List.pairwise_map.mp a).imp fun q => leF q) (ps.nodup_iff.mpr nd) nd fun k => ps.mem_iff
theorem sortI_perm_eq {es fs : List Int} (p : es.Perm fs) (a : fs.Pairwise (· < ·)) : sortI es = fs := by
  have nd : fs.Nodup := a.imp fun {x y} q e => by subst e; exact absurd q (Int.lt_irrefl _)
  have ps := (sortI_perm es).trans p
  refine pw_unique (r := fun x y => PySem.W.dataLe false PyData.int x y = true) (fun x y h1 h2 => ?_) (sort_pw PyData.int es) (a.imp fun q => leI q) (ps.nodup_iff.mpr nd) nd fun k => ps.mem_iff
  have e := data_total (le_blt h1) (le_blt h2)
  simp [PySem.W.keyToks] at e
  exact e
end Hb
set_option Elab.async false
set_option linter.all false
set_option maxRecDepth 100000
set_option maxHeartbeats 4000000
/-! Calls without arguments; data that equals itself. -/
namespace Hb
open PySem PySem.Spec PyProof.Rows L2
theorem pe_c0 {X : Cx} {k j : Nat} {x : Str} {sp : Sp} {dvs : List V} {p pos : Pos} (c : C8.Cal X.prog X.w X.K X.mg X.base k x sp dvs) (hr : Room j X.A) (hk : k ≤ j) (hg : Gl X x) (hdb : (x == ("__debug__" : Str)) = false := by decide) :
    PE X (.Call (.Name x p) [] [] pos) (tCall sp dvs C8.E0 tNil) := by
  obtain ⟨f, fd, ps, ds, F, hm, kp, b, d⟩ := c.ex
  exact pe_call0 F (hr.mono hk) hg hm kp b d C8.pass0 hdb
mutual
theorem alike_self : ∀ d : PyData, d.canLay0 = true → PySem.W.alike d d = true
  | .none, _ => rfl
  | .bool _, _ => rfl
  | .int _, _ => rfl
  | .str _, _ => rfl
  | .list xs, h => by
    simp only [PyData.canLay0] at h
    simp only [PySem.W.alike]
    exact alikeAll_self xs h
  | .tuple xs, h => by
    simp only [PyData.canLay0] at h
    simp only [PySem.W.alike]
    exact alikeAll_self xs h
  | .dict _, h => by simp [PyData.canLay0] at h
theorem alikeAll_self : ∀ ds : List PyData, PyData.canLayAll0 ds = true → PySem.W.alikeAll ds ds = true
  | [], _ => rfl
  | d :: ds, h => by
    simp only [PyData.canLayAll0, Bool.and_eq_true] at h
    simp only [PySem.W.alikeAll, alike_self d h.1, alikeAll_self ds h.2, Bool.and_self]
end
theorem eqv_self {d : PyData} (h : SeqAt.shaped d = true) : PyData.eqv d d = true := PySem.W.eqv_refl_alike d (alike_self d (SeqAt.canLay_of_shaped h))
section
variable {K : PySem.W.Frag} {H : Hp} {Q : VK} {x y : V} {d : PyData}
theorem ne_data (hx : Dp K H x d) (hy : Dp K H y d) (s : SeqAt.shaped d = true) (q : Q (.bl false) H) : rNeD K x y H Q := ⟨d, d, hx, hy, s, s, by rw [eqv_self s]; exact q⟩
theorem eq_data (hx : Dp K H x d) (hy : Dp K H y d) (s : SeqAt.shaped d = true) (q : Q (.bl true) H) : rEqD K x y H Q := ⟨d, d, hx, hy, s, s, by rw [eqv_self s]; exact q⟩
end
theorem shaped_of {d : PyData} (h : Shp d) : SeqAt.shaped d = true := h.shaped
/-- tuples and lists of such -/
theorem Shp.tup {n : Nat} {ds : List PyData} (h : ∀ d ∈ ds, d.canLay0 = true ∧ d.depth ≤ n) (hn : n + 1 ≤ 60) : (PyData.tuple ds).canLay0 = true ∧ (PyData.tuple ds).depth ≤ n + 1 := by
  have g : PyData.canLayAll0 ds = true ∧ PyData.depthAll ds ≤ n := by
    induction ds with
    | nil => exact ⟨by simp [PyData.canLayAll0], by simp [PyData.depthAll]⟩
    | cons d ds ih =>
      obtain ⟨h1, h2⟩ := ih fun e he => h e (List.mem_cons_of_mem _ he)
      obtain ⟨h3, h4⟩ := h d List.mem_cons_self
      exact ⟨by simp [PyData.canLayAll0, h1, h3], by simp only [PyData.depthAll]; omega⟩
  exact ⟨by simp only [PyData.canLay0]; exact g.1, by simp only [PyData.depth]; have := g.2; omega⟩
theorem Shp.lst {n : Nat} {ds : List PyData} (h : ∀ d ∈ ds, d.canLay0 = true ∧ d.depth ≤ n) (hn : n + 1 ≤ 60) : (PyData.list ds).canLay0 = true ∧ (PyData.list ds).depth ≤ n + 1 := by
  obtain ⟨a, b⟩ := Shp.tup h hn
  simp only [PyData.canLay0, PyData.depth] at a b ⊢
  exact ⟨a, b⟩
end Hb
set_option Elab.async false
set_option linter.all false
set_option maxRecDepth 100000
set_option maxHeartbeats 4000000
/-! A head with a table of texts, properties and classmethods. -/
namespace He
open PySem PySem.Spec PyProof.Rows L2
abbrev AlZ : Type := AlX × List FnW
/-- what the names reach, and the table of the interpreter's own statics -/
def frZ (n : Nat) (g : Addr → Option Obj) : PySem.W.Frag := frT g (asD g n ++ [cStatics])
def obsZ (n : Nat) (fa : List Fa) (fn : List DefD) (ts : List Tab) (ex : PySem.W.Frag → Bool) (fp : List Dp) (g : Addr → Option Obj) : AlZ := ((obsT fa fn ts (frZ n g), ex (frZ n g)), fp.map fun p => fnP (frZ n g) (p.1 (frZ n g)))
def valZ (fn : List DefD) (ts : List Tab) (fp : List Dp) (w : World) : AlZ := (valX fn ts w, fp.map fun p => p.2.val)
structure SaysZ (fa : List Fa) (fn : List DefD) (ts : List Tab) (ex : PySem.W.Frag → Bool) (fp : List Dp) (w : World) (h : Heap) (K : PySem.W.Frag) : Prop where
  x : SaysX fa fn ts [] ex w h K
  p : fp.map (fun p => fnP K (p.1 K)) = fp.map fun p => p.2.val
def hookZ (n : Nat) (fa : List Fa) (fn : List DefD) (ts : List Tab) (ex : PySem.W.Frag → Bool) (fp : List Dp) : PySem.W.Hook where
  α := AlZ
  obs := fun s => obsZ n fa fn ts ex fp s.heap.get?
  val := fun w => valZ fn ts fp w
  says := fun w h => ∃ K : PySem.W.Frag, K.In h ∧ SaysZ fa fn ts ex fp w h K
  of := fun _ _ e => ⟨_, frT_in, ⟨congrArg (fun z : AlZ => z.1.1) e, congrArg (fun z : AlZ => z.1.2) e, fun _ h => (nomatch h), fun _ h => (nomatch h), fun _ h => (nomatch h)⟩, congrArg (fun z : AlZ => z.2) e⟩
  keeps := fun _ _ _ ⟨K, hK, c⟩ k => ⟨K, PySem.W.Frag.In.keeps hK k, ⟨⟨c.x.t, c.x.more, c.x.hd, c.x.out, fun p hp => k _ _ (c.x.empty p hp)⟩, c.p⟩⟩
theorem obsZ_eq {n : Nat} {fa : List Fa} {fn : List DefD} {ts : List Tab} {ex : PySem.W.Frag → Bool} {fp : List Dp} {g : Addr → Option Obj} {s : Shared} (h : ∀ a, g a = s.heap.get? a) : obsZ n fa fn ts ex fp g = (hookZ n fa fn ts ex fp).obs s := by
  have e : g = s.heap.get? := funext h
  rw [e] <;> rfl
/-! the tuples that a table holds -/
def tabAt (x k : Str) (K : PySem.W.Frag) : Addr := match PySem.W.nsIn K (ga K x) k with
  | some (some (.ref a)) => a
  | _ => 0
def tupA (K : PySem.W.Frag) (a : Addr) (vs : List V) : Bool := match K.lookup a with
  | some ⟨.type c, _, .seq its _, _⟩ => decide (c = "tuple") && (decide (its.size ≤ sizeLine) && relAll vs its.toList)
  | _ => false
theorem tupA_ok {K : PySem.W.Frag} {a : Addr} {vs : List V} (h : tupA K a vs = true) (H : Hp) : SqT K H a vs := by
  unfold tupA at h
  split at h
  · rename_i c d its n sl e
    obtain ⟨h1, h2⟩ := ba h
    obtain ⟨h3, h4⟩ := ba h2
    have e1 : c = "tuple" := of_decide_eq_true h1
    subst e1
    exact .inr ⟨_, its, n, e, rfl, rfl, of_decide_eq_true h3, relAll_ok h4⟩
  · cases h
/-- a table of tuples of texts: each key's tuple -/
def tabB (K : PySem.W.Frag) (x : Str) (L : List (Str × List Str)) : Bool := L.all fun q => eqO (PySem.W.nsIn K (ga K x) q.1) (some (some (.ref (tabAt x q.1 K)))) && tupA K (tabAt x q.1 K) (q.2.map V.str)
theorem tabB_ok {K : PySem.W.Frag} {w : World} {x : Str} {L : List (Str × List Str)} (h : tabB K x L = true) {es : Array DictEntry} {n : Nat} (D : KDict K w (ga K x) es n) {q : Str × List Str} (hq : q ∈ L) :
    KDct K w (ga K x) q.1 (.ref (tabAt x q.1 K)) ∧ ∀ H, SqT K H (tabAt x q.1 K) (q.2.map V.str) := by
  obtain ⟨h1, h2⟩ := ba (List.all_eq_true.mp h q hq)
  exact ⟨⟨es, n, _, D.at_, D.lit, eqO_ok h1, rfl⟩, tupA_ok h2⟩
/-! a classmethod -/
def cmB (K : PySem.W.Frag) (C : Addr) (m : Str) : Bool := PySem.W.readsIn K C (.type "type") && (eqO (PySem.W.specialIn K (.ref C) "__getattribute__") (some (some (.builtin "type.__getattribute__"))) &&
  ((match PySem.W.findCls K (.ref C) (.type "type") m with
  | some (.get (.builtin b) (.ref p) .none (.ref C')) => decide (b = "classmethod.__get__") && (decide (p = ma K C m) && decide (C' = C))
  | _ => false) && ((match PySem.W.recIn K (ma K C m) "classmethod" with
  | some (.ref g :: _) => true
  | _ => false) && PySem.W.fnIn K (rp K "classmethod" C m))))
theorem cm_ok {K : PySem.W.Frag} {C : Addr} {m : Str} (h : cmB K C m = true) : ClX.CRead K C (.type "type") ∧ ClX.CMet K C (.type "type") m (ma K C m) (rp K "classmethod" C m) := by
  obtain ⟨h1, h⟩ := ba h
  obtain ⟨h2, h⟩ := ba h
  obtain ⟨h3, h⟩ := ba h
  obtain ⟨h4, h5⟩ := ba h
  refine ⟨⟨h1, eqO_ok h2⟩, ?_, ?_, h5⟩
  · split at h3
    · rename_i b p C' e
      obtain ⟨x1, x2⟩ := ba h3
      obtain ⟨x3, x4⟩ := ba x2
      rw [e, of_decide_eq_true x1, of_decide_eq_true x3, of_decide_eq_true x4]
    · cases h3
  · unfold rp
    split at h4
    · rename_i g rest e
      rw [e]
      exact ⟨_, rfl⟩
    · cases h4
end He
namespace Hb
open PySem PySem.Spec PyProof.Rows L2
/-- with all arguments, and with but the first n (the defaults from the j-th on fill up) -/
theorem mak_mkDj {P : Program} {w : World} {K : PySem.W.Frag} {mg : Str → Option Value} {base : Heap} {C qual : Str} {st : Stmt} {N ps : List Str} {k n j : Nat} {sp : Sp} {dvs : List V} (hd : dvs ≠ []) (hn : n + (dvs.length - j) = ps.length) (D : Df1v K mg C qual st dvs) (S : FnScope N ps (defScope st))
    (bd : ∀ (T : Addr) (kV doc pm : Value) (an : Option Addr) (cdv ct : Value) (us its : List Value), us.length = ps.length → its.length = dvs.length →
      ∃ k, bindArgs (PySem.W.fnOf "__init__" qual (defArgs st) (defBody st) (defScope st) (.ref T) kV doc pm an cdv ct) ⟨us, []⟩ = seqItems? (.ref T) >>= k ∧ k (some its.toArray) = pure (ps.zip us))
    (bp : ∀ (T : Addr) (kV doc pm : Value) (an : Option Addr) (cdv ct : Value) (us its : List Value), us.length = n → its.length = dvs.length →
      ∃ k, bindArgs (PySem.W.fnOf "__init__" qual (defArgs st) (defBody st) (defScope st) (.ref T) kV doc pm an cdv ct) ⟨us, []⟩ = seqItems? (.ref T) >>= k ∧ k (some its.toArray) = pure (ps.zip (us ++ its.drop j)))
    (len : ∀ vs H Q E, sp vs H Q E → vs.length = ps.length)
    (hbody : ∀ (f : Addr) (cdv : Value) (A : Around) (outer : List Env) (s : Shared) (H : Hp) (vs : List V) (Q : VK) (E : XK), Room k (A.deeper (envOfC qual (defScope st) s.heap.objs.size f cdv)) → sp vs H Q E →
      ∃ t, PSs (cxOf CX0 P w K mg base N qual (defScope st) f cdv A outer s H E).nox (defBody st) t ∧ t { nx := fun _ H' => Q .non H', rt := Q } (start N vs) H) :
    C8.Mak P w K mg base (k + 1) C (He.ga K C) sp [] ∧ C8.Mak P w K mg base (k + 1) C (He.ga K C) sp (dvs.drop j) := by
  obtain ⟨M, hm, fd, F⟩ := D
  have ok : FnOk P w K mg base CX0 (k + 1) (He.ma K (He.ga K C) "__init__") fd ps sp := F.ok S len fun cdv A outer s H vs Q E hr h => by
    obtain ⟨t, h1, h2⟩ := hbody _ cdv A outer s H vs Q E hr h
    exact ⟨t, h1.nox, h2⟩
  constructor
  · obtain ⟨ds, r, b⟩ := F.binds1 ps.length dvs.length hd (by rw [Nat.sub_self, Nat.add_zero]) fun T kV doc pm an cdv ct us its h1 h2 => by
      obtain ⟨k, e1, e2⟩ := bd T kV doc pm an cdv ct us its h1 h2
      exact ⟨k, e1, by rw [e2, List.drop_of_length_le (by rw [h2] <;> exact Nat.le_refl _), List.append_nil]⟩
    rw [List.drop_of_length_le (Nat.le_refl _)] at r
    cases r
    exact ⟨⟨_, fd, ps, [], M, ok, hm, b, .nil⟩⟩
  · obtain ⟨ds, r, b⟩ := F.binds1 n j hd hn bp
    exact ⟨⟨_, fd, ps, ds, M, ok, hm, b, r⟩⟩
/-- a classmethod of the class C, without defaults -/
def Dcm (K : PySem.W.Frag) (C m qual : Str) (st : Stmt) : Prop := (ClX.CRead K (He.ga K C) (.type "type") ∧ ClX.CMet K (He.ga K C) (.type "type") m (He.ma K (He.ga K C) m) (He.rp K "classmethod" (He.ga K C) m)) ∧
  ∃ fd, FunD K m qual (defArgs st) (defBody st) (defScope st) [] [] (He.rp K "classmethod" (He.ga K C) m) fd
structure CmOf (P : Program) (w : World) (K : PySem.W.Frag) (mg : Str → Option Value) (base : Heap) (k : Nat) (C : Addr) (m : Str) (sp : Sp) : Prop where
  ex : ∃ p g, ClX.CRead K C (.type "type") ∧ ClX.CMet K C (.type "type") m p g ∧ FnR P w K mg base CX0 k g sp
theorem cmOf_ {P : Program} {w : World} {K : PySem.W.Frag} {mg : Str → Option Value} {base : Heap} {C m qual : Str} {st : Stmt} {ps : List Str} {k : Nat} {sp : Sp} (D : Dcm K C m qual st) (bd : BdN m qual st ps)
    (ok : ∀ {f : Addr} {fd : FuncData}, FunD K m qual (defArgs st) (defBody st) (defScope st) [] [] f fd → FnOk P w K mg base CX0 k f fd ps sp) : CmOf P w K mg base k (He.ga K C) m sp := by
  obtain ⟨⟨h1, h2⟩, fd, F⟩ := D
  refine ⟨⟨_, _, h1, h2, ?_⟩⟩
  have z := FnOk.raw (ok F) (F.bindsN bd) .nil
  exact z.imp fun vs H Q E q => by simpa using q
theorem pe_cm {X : Cx} {C : Addr} {m : Str} {k j : Nat} {sp : Sp} {o e : Expr} {es : List Expr} {pos apos : Pos} {ta : TE} {t : TA} {pl : Sem Bool} (c : CmOf X.prog X.w X.K X.mg X.base k C m sp) (hr : Room j X.A) (hk : k ≤ j) (he : PE X o ta) (ha : PA X (e :: es) t)
    (hst : starEach (e :: es) X.env = (false, eval e X.env) :: starEach es X.env := by rfl) (hpl : (backTo pos (starEach es X.env)).any (·.1) = false := by rfl)
    (ht : eval (.Call (.Attribute o m apos) (e :: es) [] pos) X.env = (do
      let ov ← eval o X.env
      standAt apos.atName
      let (f, first) ← holding [ov] (getMethod ov m pl)
      callWith pos f first (backTo pos (starEach (e :: es) X.env)) (backToKw pos (keywordEach [] X.env))) := by rfl) :
    PE X (.Call (.Attribute o m apos) (e :: es) [] pos) (ClX.tCMeth C sp C8.E0 ta t) := by
  obtain ⟨p, g, h1, h2, F⟩ := c.ex
  exact ClX.pe_cmeth he h1 h2 F (hr.mono hk) C8.pass0 ha hst hpl ht
end Hb
set_option Elab.async false
set_option linter.all false
set_option maxRecDepth 100000
set_option maxHeartbeats 4000000
/-! enumerate of a list or a tuple. -/
namespace Hb
open PySem PySem.Spec PyProof.Rows L2
theorem meets_enum1 {v : Value} {o : Obj} {B0 : Heap → Prop} (B : Begins v o B0) :
    Meets (Builtin.«enumerate.__new__» ⟨[.type "enumerate", v], []⟩) (fun _ R s => B0 s.heap ∧
      R (.ok (.ret (.ref (s.heap.push o).objs.size))) { s with heap := (s.heap.push o).push { cls := .type "enumerate", data := .fields #[.none, .bool false, .ref s.heap.objs.size, rawInt 0, .none, .none] } }) :=
  .of_wp fun prog w A R s h => by
    obtain ⟨hp, g, d, tk, os⟩ := s; obtain ⟨h1, h⟩ := h
    have hsub := sub_enumerate
    have q1 : ∀ {A' : Around} {E : Value → Shared → Prop} {Q : Value → Shared → Prop}, Q (.ref hp.objs.size) ⟨hp.push o, g, d, tk, os⟩ → wpAny (model prog w) A' (pyIter v) Q E ⟨hp, g, d, tk, os⟩ :=
      fun q => B.iter prog w _ _ ⟨hp, g, d, tk, os⟩ _ h1 q
    wp_walk using q1
    refine wpAny_stack_any fun st => wpAny_pure ?_
    split
    · rename_i c _ _ _ _ _
      cases (c == Value.type "enumerate")
      · wp_walk using q1
        exact ⟨_, rfl, h⟩
      · wp_walk using q1
        exact ⟨_, rfl, h⟩
    · wp_walk using q1
      exact ⟨_, rfl, h⟩
section
variable {prog : Program} {w : World} {A : Around} {E : Value → Shared → Prop} {s : Shared}
theorem call_enum1 {v : Value} {o : Obj} {B0 : Heap → Prop} {Q : Value → Shared → Prop} (B : Begins v o B0) (h1 : B0 s.heap)
    (h : ∀ h', IsEnum h' (s.heap.objs.size + 1) s.heap.objs.size 0 .none → h'.get? s.heap.objs.size = some o → h'.objs.size = s.heap.objs.size + 2 →
      (∀ b o, s.heap.get? b = some o → h'.get? b = some o) → Q (.ref (s.heap.objs.size + 1)) { s with heap := h' }) :
    wpAny (model prog w) A (call (.type "enumerate") [v]) Q E s := by
  refine callType_new F.called_enumerate (by decide) (F.typeCall_enumerate_1 _) (F.newCall_enumerate_1 _) (fun obj => F.args_object_init_2 obj _) F.entry_enumerate_new
    (meets_enum1 B) ⟨h1, ?_⟩
  have hz : (s.heap.push o).objs.size = s.heap.objs.size + 1 := Heap.size_push ..
  show _ ∧ _
  rw [hz]
  have he : IsEnum ((s.heap.push o).push { cls := .type "enumerate", data := .fields #[.none, .bool false, .ref s.heap.objs.size, rawInt 0, .none, .none] }) (s.heap.objs.size + 1) s.heap.objs.size 0 .none := by
    have := Heap.get?_push_size (s.heap.push o) (o := { cls := .type "enumerate", data := .fields #[.none, .bool false, .ref s.heap.objs.size, rawInt 0, .none, .none] }) rfl
    rw [hz] at this; exact this
  refine ⟨⟨_, he, rfl⟩, h _ he (Heap.get?_push_of_some _ (Heap.get?_push_size _ B.free)) (by rw [Heap.size_push, hz]) fun b o x => Heap.get?_push_of_some _ (Heap.get?_push_of_some _ x)⟩
end
/-- the tuple at a, each item in a new pair -/
def Itet (K : PySem.W.Frag) (a : Addr) (xs : List V) : It :=
  ⟨fun i H => SqT K H a xs ∧ ∃ x, xs[i]? = some x, fun i H v H' => ∃ T x, v = .ref T ∧ H T = none ∧ H' = upd H T (.tup [.int (i : Nat), x]) ∧ xs[i]? = some x, fun i H => SqT K H a xs ∧ xs.length ≤ i⟩
theorem turn_enumT {P : Program} {w : World} {K : PySem.W.Frag} {elts : List Expr} {kk : Nat} {tpos : Pos} (a e it : Addr) (xs : List V) (ha : a ≠ it) (hea : e ≠ a) :
    L2.Turn P w K (.Tuple elts kk tpos) (Itet K a xs) [e, it] e (fun i h => (∃ old, IsEnum h e it ((i : Nat) : Int) old) ∧ h.IsTupleIter it a i ∧ e ≠ it) where
  mem := by simp
  obj := fun i h st b hb => by
    obtain ⟨⟨old, he⟩, ⟨o, ho, hc, hd⟩, _⟩ := st
    have e' : b = e ∨ b = it := by simpa using hb
    rcases e' with z | z
    · rw [z]; exact ⟨_, he, fun v q => nomatch q⟩
    · rw [z]; exact ⟨o, ho, fun v q => by rw [hd] at q; cases q⟩
  keep := fun i h h' st k => let ⟨⟨old, he⟩, hi, hne⟩ := st; ⟨⟨old, k e (by simp) _ he⟩, hi.at fun o q => k it (by simp) o q, hne⟩
  item := by
    intro X hP hw hK hc i pins s σ H E I hf st hg
    subst hP hw hK
    obtain ⟨⟨old, he⟩, hit, hne⟩ := st
    obtain ⟨hq, x, hx⟩ := hg
    obtain ⟨its, rv, p, hz⟩ := I.tuple hq
    obtain ⟨u, hu, ru⟩ := rv.get hx
    have hel : e < s.heap.objs.size := Heap.lt_size he
    have hil : it < s.heap.objs.size := by obtain ⟨_, q, _⟩ := hit; exact Heap.lt_size q
    have hlen : its.toArray.size = xs.length := by rw [List.size_toArray]; exact rv.length.symm
    have hix : i < its.toArray.size := by rw [hlen]; exact (List.getElem?_eq_some_iff.mp hx).1
    refine wpAny_pyNext_enum_itemD (Draws.tuple (A := X.A.in1) (I.ok.hd hc) it a ha its.toArray) he ⟨hit, p⟩ hix hne (by simp [hea, hne]) fun u2 h' tk hu2 ho st' hT hsz hk => ?_
    have eu : u2 = u := by
      have e1 : its.toArray[i]? = some u := by simpa using hu
      exact Option.some.inj (hu2.symm.trans e1)
    subst eu
    refine ⟨_, rfl, wpAny_letOwnedTupleGo_enum (s := { s with heap := h', toks := tk + 1 }) ho fun h'' he' sb => ?_⟩
    have hT2 : h''.get? s.heap.objs.size = some { cls := .type "tuple", data := .seq #[.int i tk, u2] } := (sb.2 _ (Nat.ne_of_gt hel)).trans hT
    have new : ObjOk X.prog X.w (upd H s.heap.objs.size (.tup [.int (i : Nat), x])) h'' s.heap.objs.size (.tup [.int (i : Nat), x]) :=
      ⟨by show 2 ≤ sizeLine; decide, [.int i tk, u2], .cons ⟨_, rfl⟩ (.cons ru .nil), ⟨_, hT2, rfl, _, rfl⟩⟩
    have I1 : Inv X pins σ (upd H s.heap.objs.size (.tup [.int (i : Nat), x])) { s with heap := h'', toks := tk + 1 } :=
      I.turnedNew (ch := [e, it]) (fun b ob hb q => (sb.2 b (fun z => hb (by simp [z]))).trans (hk b ob (fun z => hb (by simp [z])) (fun z => hb (by simp [z])) q)) hf (Nat.le_refl _) new
    refine ⟨.ref s.heap.objs.size, _, I1, rfl, ⟨_, x, rfl, I.hok.fresh (Nat.le_refl _), rfl, hx⟩, ⟨⟨u2, ?_⟩, st'.1.at fun o q => (sb.2 it (Ne.symm hne)).trans q, hne⟩, fun b hb => ?_⟩
    · have e1 : ((i + 1 : Nat) : Int) = (i : Int) + 1 := by omega
      rw [e1]; exact he'
    · have hb' : b < s.heap.objs.size := by
        have e' : b = e ∨ b = it := by simpa using hb
        rcases e' with z | z
        · rw [z]; exact hel
        · rw [z]; exact hil
      rw [upd_ne (Nat.ne_of_lt hb')]
      exact (hf b hb).1
  done := by
    intro X hP hw hK hc i pins s σ H E I hf st hg
    subst hP hw hK
    obtain ⟨⟨old, he⟩, hit, hne⟩ := st
    obtain ⟨hq, hx⟩ := hg
    obtain ⟨its, rv, p, hz⟩ := I.tuple hq
    obtain ⟨f0, f1, f2, f3, f4, f5⟩ := hf it (by simp)
    have hlen : its.toArray.size = xs.length := by rw [List.size_toArray]; exact rv.length.symm
    have T : s.TypeIs (.ref e) "enumerate" := ⟨_, he, rfl⟩
    unfold pyNext
    refine wpAny_bind (wpAny_attempt (wpAny_callSpecial?_slot (name := Str.ofString "__next__") T F.slot_enumerate_next
      (wpAny_call_entry F.slot_enumerate_next T F.entry_enumerate_next ?_ (F.args_enumerate_next_1 _))))
    show wpAny _ _ (field (.ref e) 2 >>= _) _ _ _
    refine wpAny_bind (wpAny_field he rfl (x := .ref it) rfl ?_)
    refine wpAny_bind (wpAny_nextOf_tuple_end (I.ok.hd hc) hit p (Array.getElem?_eq_none (by omega)) fun h' x eb hx' => ?_)
    obtain ⟨o, ho, hcl⟩ := hx'
    refine wpAny_bind (wpAny_isInstance (T := "StopIteration") (b := true) ⟨o, ho, hcl⟩ isSubtype_stop ?_)
    exact wpAny_pure ⟨rfl, I.turned (t' := s.toks) (fun b o hb q => eb b o hb q) f0 f1 f3 f4 f5⟩
  self := fun A i s Q E st h => let ⟨⟨_, he⟩, _⟩ := st; wpAny_pyIter_enum he h
theorem walk_enumT {K : PySem.W.Frag} {a : Addr} {xs : List V} : Walk (Itet K a xs) xs.length (fun H => SqT K H a xs) (YPair (fun i => some (.int (i : Nat))) (fun i => xs[i]?)) := by
  refine ⟨fun i _ hi q => ⟨q, xs[i], by simp [hi]⟩, fun _ q => ⟨q, Nat.le_refl _⟩, fun i H v H' _ q y => ?_⟩
  obtain ⟨T, x, h1, h2, h3, h4⟩ := y
  exact ⟨T, .int (i : Nat), x, h1, h2, h3, rfl, h4⟩
/-- a list or a tuple, with numbers -/
def iEnumS (K : PySem.W.Frag) (ta : TA) : TI := fun σ H R => ta σ H fun vs H1 => ∃ a xs, vs = [.ref a] ∧ (SqL K H1 a xs ∨ SqT K H1 a xs) ∧
  ∀ (J : It) (G : Hp → Prop), (∀ H', Same H1 H' → G H') → Walk J xs.length G (YPair (fun i => some (.int (i : Nat))) (fun i => xs[i]?)) → R J H1
theorem pi_enumS {X : Cx} {e : Expr} {ta : TA} {p pos tpos : Pos} {elts : List Expr} {kk : Nat} (hg : Gl X "enumerate") (hm : X.mg "enumerate" = none) (ha : PA X [e] ta) (hs : starEach [e] X.env = [(false, eval e X.env)] := by rfl) :
    PI X (.Tuple elts kk tpos) (.Call (.Name "enumerate" p) [e] [] pos) (iEnumS X.K ta) := by
  refine ⟨fun pins s σ H R I h => ?_⟩
  refine Call_ (ld_blt I hg hm boot_enumerate (PyProof.Rows.callWith_type1 (thn (ha.run pos pins s σ H _ I h) fun us s1 ⟨vs, H1, I1, r1, q1⟩ => ?_) hs rfl))
  obtain ⟨a, xs, ex, hq, q⟩ := q1
  subst ex
  cases r1 with
  | cons r rr =>
    cases rr
    cases r
    have far : ∀ b ∈ [s1.heap.objs.size + 1, s1.heap.objs.size], FpOk X pins H1 b := fun b hb => by
      have e' : b = s1.heap.objs.size + 1 ∨ b = s1.heap.objs.size := by simpa using hb
      have hle : s1.heap.objs.size ≤ b := by
        rcases e' with z | z
        · rw [z]; exact Nat.le_add_right _ _
        · rw [z]; exact Nat.le_refl _
      exact I1.fpOk hle (I1.hok.fresh hle)
    rcases hq with hq | hq
    · obtain ⟨its, rv, p', hz⟩ := I1.list hq
      refine call_enumerate_list p'.isList fun h' he hit hsz hk => wpAny_pyIter_enum he ?_
      exact ⟨s1.heap.objs.size + 1, [s1.heap.objs.size + 1, s1.heap.objs.size], _, _, H1, rfl, I1.kept (t' := s1.toks) hk, turn_enum a (s1.heap.objs.size + 1) s1.heap.objs.size, ⟨⟨.none, he⟩, hit, Nat.succ_ne_self _⟩, far, q _ _ (fun H' s => Same.seq s hq) walk_enum⟩
    · obtain ⟨its, rv, p', hz⟩ := I1.tuple hq
      have hal : a < s1.heap.objs.size := by obtain ⟨o, ho, _⟩ := id p'; exact Heap.lt_size ho
      refine call_enum1 (begins_tuple a its.toArray) p' fun h' he hit hsz hk => wpAny_pyIter_enum he ?_
      exact ⟨s1.heap.objs.size + 1, [s1.heap.objs.size + 1, s1.heap.objs.size], _, _, H1, rfl, I1.kept (t' := s1.toks) hk, turn_enumT a (s1.heap.objs.size + 1) s1.heap.objs.size xs (Nat.ne_of_lt hal) (Nat.ne_of_gt (Nat.lt_succ_of_lt hal)), ⟨⟨.none, he⟩, ⟨_, hit, rfl, rfl⟩, Nat.succ_ne_self _⟩, far, q _ _ (fun H' s => SqT.keep (Same.tk s) hq) walk_enumT⟩
end Hb
set_option Elab.async false
set_option linter.all false
set_option maxRecDepth 100000
set_option maxHeartbeats 4000000
/-! A law's def run where it is called from: nothing is being shown there, so that what repr gives is known. -/
namespace Hb
open PySem PySem.Spec PyProof.Rows L2
/-- a law's body, where the law is called from -/
def BodyG (P : Program) (w : World) (K : PySem.W.Frag) (mg : Str → Option Value) (N : List Str) (sc : Scope) (body : List Stmt) (k n : Nat) : Prop :=
  ∀ (base : Heap) (f a : Addr) (cdv : Value) (s : Shared) (H : Hp) (ns : List Int), ns.length ≤ n → SqL K H a (ns.map V.int) → Room k (callerA.deeper (envOfC "law" sc s.heap.objs.size f cdv)) →
    ∃ t, PSs (cxOf CX0 P w K mg base N "law" sc f cdv callerA [] s H E0).nox body t ∧ t { nx := fun _ _ => False, rt := fun v _ => v = .bl true } (start N [.ref a]) H
section
variable {P : Program} {w : World} {K : PySem.W.Frag} {mg mb : Str → Option Value} {k n : Nat} {fa a : Addr} {fd : FuncData} {x : Str} {N : List Str} {sc : Scope} {body : List Stmt} {params : Arguments} {s1 : Shared} {vs : List Value} {ns : List Int}
/-- from the heap in which the script alone may be tracked -/
theorem run_law {H : Hp} {base : Heap} (F : FunD K "law" "law" params body sc [] [] fa fd) (S : FnScope N [x] sc) (hr : Room (k + 1) callerA) (hbind : ∀ (s : Shared) (u : Value), BindsTo s fd ⟨[u], []⟩ [(x, u)])
    (B : BodyG P w K mg N sc body k n) (e0 : Env0 P w K mg base callerA [] s1 H) (hq : SqL K H a (ns.map V.int)) (hn : ns.length ≤ n) (only : Only H) :
    codeAny (model P w) callerA (.call (.ref fa) ⟨[.ref a], []⟩) (fun r s' => r = .ok (.ret (.bool true)) ∧ OldK s1.heap s'.heap ∧ s'.os = s1.os ∧ AllBare s'.gens) s1 := by
  obtain ⟨oc, od, dV, kV, doc, pm, an, cdv, ct, osl, rfl, lk, hcd, _, _⟩ := F.ex
  have KX : K.In s1.heap := e0.mod.kin.keeps fun b o e => (e0.bs b o e).1
  have lim : s1.heap.NoLimit := e0.mod.nolimit.keeps fun b o e => (e0.bs b o e).1
  have kinds : ∀ y ∈ ([x] : List Str).zip [Value.ref a], sc.names.lookup y.1 = some .local ∨ (sc.names.lookup y.1 = some .cell ∧ ((cellsFrom (s1.heap.objs.size + 1) sc.names []).lookup y.1).isSome = true) := by
    rintro ⟨m, v⟩ hy
    exact (S.par m (List.of_mem_zip hy).1).imp id fun q => ⟨q, PySem.W.cellsFrom_some _ _ _ (.inl q)⟩
  refine codeAny_call_function hr.depth (KX _ _ lk) rfl S.co S.gen rfl (PySem.W.codeRec_of KX hcd) (hbind s1 (.ref a) _ _ _ _ ?_)
  refine wpAny_newFunctionEnv_cells S.kind kinds fun env he z y => ?_
  subst he
  obtain ⟨t, ht, hb⟩ := B base fa a cdv s1 H ns hn hq (hr.deeper _)
  have I : Inv (cxOf CX0 P w K mg base N "law" sc fa cdv callerA [] s1 H E0) [] (start N [.ref a]) H z := inv_start S hr.hd e0 rfl (.cons rfl .nil) y
  refine ⟨lim.keeps y.toInCall.keep, codeAny_func (wpAny_mono (ht.run [] z (start N [.ref a]) H _ (I.wish _) hb) (fun fl s' hs0 => ?_) fun e s' hs => False.elim hs)⟩
  have hs := hs0.unwish
  cases fl with
  | brk => obtain ⟨_, _, _, q⟩ := hs; exact False.elim q
  | cont => obtain ⟨_, _, _, q⟩ := hs; exact False.elim q
  | next => obtain ⟨_, _, _, q⟩ := hs; exact False.elim q
  | ret u =>
    obtain ⟨v, σ', H', J, rv, q⟩ := hs
    have q2 : v = V.bl true := q
    subst q2
    obtain rfl : u = Value.bool true := rv
    refine ⟨rfl, OldK.of_keep fun b o e => ?_, J.os, J.bare⟩
    cases r : H b with
    | none => exact J.base.keep b o e r (by intro z; cases z) (by intro z; cases z)
    | some u =>
      rcases only b with z | ⟨ob, xs, z⟩
      · rw [r] at z; cases z
      · have z2 := J.base.frzs b ob _ z
        obtain ⟨e1, _⟩ := e0.hok b _ z
        obtain ⟨e2, _⟩ := J.hok b _ z2
        rw [e] at e1; cases e1
        exact e2
/-- from the heap behind the top: the script's list alone is tracked, where the written part has it not -/
theorem run_top (F : FunD K "law" "law" params body sc [] [] fa fd) (S : FnScope N [x] sc) (hr : Room (k + 1) callerA) (hbind : ∀ (s : Shared) (u : Value), BindsTo s fd ⟨[u], []⟩ [(x, u)])
    (B : BodyG P w K mg N sc body k n) (KX : K.In s1.heap) (hns : s1.heap.Ns mainGlobals mg) (hb : s1.heap.Ns builtinsNs mb) (hbb : ∀ x : Str, x ≠ "__name__" → mb x = bootBuiltins x) (hlim : s1.heap.NoLimit) (hg : s1.gens = #[])
    (ha : s1.heap.get? a = some { cls := .type "list", data := .seq vs.toArray }) (hi : IntsAre vs ns) (hn : ns.length ≤ n) (hl : n ≤ sizeLine) :
    codeAny (model P w) callerA (.call (.ref fa) ⟨[.ref a], []⟩) (fun r s' => r = .ok (.ret (.bool true)) ∧ OldK s1.heap s'.heap ∧ s'.os = s1.os ∧ AllBare s'.gens) s1 := by
  have rv := vals_ints hi
  have len := hi.length
  have few : ns.length ≤ sizeLine := Nat.le_trans hn hl
  have go : ∀ H : Hp, Only H → SqL K H a (ns.map V.int) → HOk P w H s1.heap → (∀ b, H b ≠ none → b = a ∧ K.lookup a = none) → codeAny (model P w) callerA (.call (.ref fa) ⟨[.ref a], []⟩) (fun r s' => r = .ok (.ret (.bool true)) ∧ OldK s1.heap s'.heap ∧ s'.os = s1.os ∧ AllBare s'.gens) s1 := by
    intro H only hq hok hA
    have none_of : ∀ b : Addr, b ≠ a → H b = none := fun b ne => by
      cases q : H b with
      | none => rfl
      | some u => exact absurd (hA b (by rw [q]; intro z; cases z)).1 ne
    have low : ∀ {b : Addr} {o : Obj}, s1.heap.get? b = some o → H b = none → (hidT s1.heap H).get? b = some o := fun e q => hidT_get e q
    have dct : ∀ {b : Addr} {m : Str → Option Value}, s1.heap.Ns b m → (hidT s1.heap H).Ns b m := by
      rintro b m ⟨o, es, ep, e, d, r⟩
      refine ⟨o, es, ep, low e (none_of b fun q => ?_), d, r⟩
      subst q
      rw [ha] at e
      cases e
      cases d
    have kin : K.In (hidT s1.heap H) := fun b o e => by
      refine low (KX b o e) ?_
      cases q : H b with
      | none => rfl
      | some u =>
        obtain ⟨rfl, z⟩ := hA b (by rw [q]; intro z; cases z)
        rw [z] at e; cases e
    obtain ⟨mc, l1, l2⟩ := hlim
    exact run_law (H := H) (base := hidT s1.heap H) F S hr hbind B ⟨rfl, ⟨kin, dct hns, ⟨mb, dct hb, hbb⟩, ⟨mc, dct l1, l2⟩⟩, fun b o e => of_hidT e, Nat.le_of_eq (hidT_size _ _), trivial, fun b z => (nomatch z), hok, .of_eq hg⟩ hq hn only
  cases lk : K.lookup a with
  | some o =>
    obtain rfl : o = { cls := .type "list", data := .seq vs.toArray } := by
      have e := KX a o lk
      rw [ha] at e
      exact (Option.some.inj e).symm
    exact go (fun _ => none) (fun _ => Or.inl rfl) (Or.inr ⟨_, vs.toArray, _, lk, rfl, rfl, rfl, by rw [List.size_toArray, len]; exact few, by simpa using rv⟩) (fun b u z => nomatch (show (none : Option HO) = some u from z)) fun b z => absurd rfl z
  | none =>
    let u : HO := .frz { cls := .type "list", data := .seq vs.toArray } (.lst (ns.map V.int))
    have at_ : ∀ b, (upd (fun _ => none) a u) b = if b = a then some u else none := fun b => by
      by_cases e : b = a
      · subst e; rw [if_pos rfl]; exact upd_same
      · rw [if_neg e]; exact upd_ne e
    refine go (upd (fun _ => none) a u) (fun b => ?_) (Or.inl (Or.inr ⟨_, upd_same⟩)) (fun b v z => ?_) fun b z => ⟨?_, lk⟩
    · rw [at_]; split
      · exact Or.inr ⟨_, _, rfl⟩
      · exact Or.inl rfl
    · rw [at_] at z
      by_cases e : b = a
      · rw [if_pos e] at z
        cases z
        subst e
        exact ⟨ha, by rw [List.length_map]; exact few, vs, _, rv, ha⟩
      · rw [if_neg e] at z; cases z
    · apply Classical.byContradiction
      intro e
      rw [at_, if_neg e] at z
      exact z rfl
end
open PySem PySem.Spec PyProof.Rows
/-- the walk behind the top, from the body of the law's def -/
theorem walk_ofG {l : PySem.W.OpenLaw} {n k : Nat} {q : Program} {loose : List Str} {XP : (Str → Option Value) → Heap → Prop} {YP : World → Heap → Prop} {d : DefRec} {x : Str}
    (hn : l.most = some n) (hl : n ≤ sizeLine) (hdf : d.params.defaults = []) (hr : Room (k + 1) callerA)
    (F : ∀ (w : World) (mg : Str → Option Value) (fa : Addr) (h : Heap), YP w h → h.Ns mainGlobals mg → mg d.name = some (.ref fa) →
      ∃ (K : PySem.W.Frag) (fd : FuncData) (N : List Str) (sc : Scope) (body : List Stmt) (params : Arguments), K.In h ∧ FunD K "law" "law" params body sc [] [] fa fd ∧ FnScope N [x] sc ∧
        (∀ (s : Shared) (u : Value), BindsTo s fd ⟨[u], []⟩ [(x, u)]) ∧ BodyG l.prog w K mg N sc body k n) :
    PySem.W.WalkO q loose XP YP l.row.toRowW d [] (fun f vs => PySem.call f vs) := by
  refine Att.attach_call hn hdf fun w s0 s1 mg mb fa o pm cd doc a vs ns G Y ho hd hcd hmg hobj hi hlen hg => ?_
  obtain ⟨K, fd, N, sc, body, params, KX, f, S, hb, B⟩ := F w mg fa _ Y G.T.g hmg
  exact run_top f S hr hb B KX G.T.g G.T.b G.T.builtins G.T.nolimit hg hobj hi hlen hl
end Hb
set_option Elab.async false
set_option linter.all false
set_option maxRecDepth 100000
set_option maxHeartbeats 8000000
namespace Hb
open PySem PySem.Spec PyProof.Rows L2
section
variable {X : Cx}
/-- repr of an object that is data -/
def rReprD (K : PySem.W.Frag) : List V → Hp → VK → Prop := fun vs H Q => ∃ (a : Addr) (d : PyData), vs = [.ref a] ∧ Dp K H (.ref a) d ∧ d.showable = true ∧ d.hasDict = false ∧ d.depth ≤ 60 ∧ d.shown.length ≤ sizeLine ∧ Q (.str d.shown) H
theorem cr_reprD (hg : X.A.guards = some []) (hu : X.A.units + 64 < cLine) : CallR X (.builtin "repr") (rReprD X.K) := by
  intro pins s σ H vs us Q I r h
  obtain ⟨a, d, rfl, hd, hs, hk, hz, hl, q⟩ := h
  rw [Vals.ref1 r]
  obtain ⟨as, rd⟩ := L2.Dp.reads I d _ (.ref a) hd rfl
  refine repr_of_reads' rd hs (fun e => by rw [hk] at e; cases e) hg (by omega) (fun _ _ e => e) (fun h' u tk k => ?_) hl
  exact ⟨.str d.shown, H, I.kept k, ⟨u, rfl⟩, q⟩
end
end Hb
set_option Elab.async false
set_option linter.all false
set_option maxRecDepth 100000
set_option maxHeartbeats 4000000
/-! d.update(e) of dicts with int and text keys; a target o[k] of such a dict; str of a text or an int; a def called where nothing is being shown. -/
namespace Hb
open PySem PySem.Spec PyProof.Rows L2
section
variable {X : Cx}
def rDUpd : V → List V → Hp → VK → Prop := fun x vs H Q => ∃ (a b : Addr) (kvs more : List (Key × V)), x = .ref a ∧ vs = [.ref b] ∧ a ≠ b ∧ H a = some (.dK kvs) ∧ H b = some (.dK more) ∧ kvs.length + more.length ≤ sizeLine ∧ Q .non (upd H a (.dK (mergeK kvs more)))
theorem mtd_upd : MtR X "dict.update" rDUpd := by
  intro pins s σ H x vs v us Q I rx rv h
  obtain ⟨a, b, kvs, more, rfl, rfl, ne, ha, hb, hz, q⟩ := h
  obtain rfl : v = Value.ref a := rx
  obtain ⟨u, rfl, ru⟩ := rv.one
  obtain rfl : u = Value.ref b := ru
  obtain ⟨z1, g1, vs1, rel1, dd1⟩ := dk_of I.hok ha
  obtain ⟨z2, g2, vs2, rel2, dd2⟩ := dk_of I.hok hb
  refine call_meetsIn PySem.F.slot_dict_update dd1.typeIs PySem.F.entry_dict_update (PySem.F.args_dict_update_2 _ _) (meets_dict_update (mixKind X.prog X.w) a b ne g2)
    ⟨vs1, vs2, dd1, dd2, by rw [← rel1.length, ← rel2.length]; exact hz, fun h' d1 _ hs => ⟨.non, _, ?_, rfl, q⟩⟩
  have he : ∃ q, h'.get? a = some q := let ⟨q, _, _, hq, _⟩ := d1; ⟨q, hq⟩
  exact d_write (t' := s.toks) I (by rw [ha]; exact True.intro) hs he (dk_new (Nat.le_trans (length_mergeK more kvs) hz) g1 (KV.merge rel2 rel1) d1)
/-- o[k] as a target, o a dict -/
theorem set_dK (hu : X.A.units + 1 < cLine) : PSet X (fun o i v H K => ∃ a H', o = .ref a ∧ DPut H a i v H' ∧ K H') := by
  intro pins s σ H o i v ov iv u K I ro ri rv h
  obtain ⟨a, H', rfl, g, q⟩ := h
  obtain rfl : ov = Value.ref a := ro
  exact d_setItem hu I g ri rv fun s' I' => ⟨H', I', q⟩
/-- str of a text or an int -/
theorem call_strV : CallR X (.type "str") (fun xs H Q => (∃ x, xs = [.str x] ∧ Q (.str x) H) ∨ ∃ i, xs = [.int i] ∧ i.natAbs.log2 < 1920 ∧ Q (.str (toString i)) H) := by
  intro pins s σ H xs us Q I r h
  rcases h with h | h
  · exact SkE.call_str_str pins s σ H xs us Q I r h
  · exact L2.call_str_int pins s σ H xs us Q I r h
end
/-- what a def promises where nothing is being shown -/
structure GOk (P : Program) (w : World) (K : PySem.W.Frag) (mg : Str → Option Value) (base : Heap) (k : Nat) (f : Addr) (fd : FuncData) (ps : List Str) (sp : Sp) : Prop where
  len : ∀ vs H Q E, sp vs H Q E → vs.length = ps.length
  go : ∀ (B : Around) (out : List Env) (s0 : Shared) (G : Hp) (ar : Args) (ws : List Value) (ys : List V) (R : VK) (Z : XK), B.guards = some [] → Room k B → Env0 P w K mg base B out s0 G → BindsTo s0 fd ar (ps.zip ws) → Vals ys ws → sp ys G R Z →
    codeAny (model P w) B (.call (.ref f) ar) (CR CX0 out P w G s0 R Z) s0
section
variable {P : Program} {w : World} {K : PySem.W.Frag} {mg : Str → Option Value} {base : Heap} {k : Nat} {x qual : Str} {f : Addr} {fd : FuncData} {N ps : List Str} {sp : Sp} {params : Arguments} {sc : Scope} {body : List Stmt}
theorem gOk_of (F : FunD K x qual params body sc [] [] f fd) (S : FnScope N ps sc) (len : ∀ vs H Q E, sp vs H Q E → vs.length = ps.length)
    (bodyG : ∀ (cdv : Value) (B : Around) (out : List Env) (s0 : Shared) (G : Hp) (ys : List V) (R : VK) (Z : XK), B.guards = some [] → Room k (B.deeper (envOfC qual sc s0.heap.objs.size f cdv)) → sp ys G R Z →
      ∃ t, PSs (cxOf CX0 P w K mg base N qual sc f cdv B out s0 G Z).nox body t ∧ t { nx := fun _ G' => R .non G', rt := R } (start N ys) G) : GOk P w K mg base (k + 1) f fd ps sp := by
  obtain ⟨oc, od, dV, kV, doc, pm, an, cdv, ct, osl, rfl, lk, hcd, _, _⟩ := F.ex
  refine ⟨len, fun B out s0 G ar ws ys R Z hg hr e0 hb r hsp => ?_⟩
  have KX : K.In s0.heap := e0.mod.kin.keeps fun b o e => (e0.bs b o e).1
  have lim : s0.heap.NoLimit := e0.mod.nolimit.keeps fun b o e => (e0.bs b o e).1
  have kinds : ∀ y ∈ ps.zip ws, sc.names.lookup y.1 = some .local ∨ (sc.names.lookup y.1 = some .cell ∧ ((cellsFrom (s0.heap.objs.size + 1) sc.names []).lookup y.1).isSome = true) := by
    rintro ⟨m, v⟩ hy
    exact (S.par m (List.of_mem_zip hy).1).imp id fun q => ⟨q, PySem.W.cellsFrom_some _ _ _ (.inl q)⟩
  refine codeAny_call_function hr.depth (KX _ _ lk) rfl S.co S.gen rfl (PySem.W.codeRec_of KX hcd) (hb _ _ _ _ ?_)
  refine wpAny_newFunctionEnv_cells S.kind kinds fun env he z y => ?_
  subst he
  obtain ⟨t, ht, hq⟩ := bodyG cdv B out s0 G ys R Z hg (hr.deeper _) hsp
  have I : Inv (cxOf CX0 P w K mg base N qual sc f cdv B out s0 G Z) [] (start N ys) G z := inv_start S hr.hd e0 (len _ _ _ _ hsp) r y
  refine ⟨lim.keeps y.toInCall.keep, codeAny_func (wpAny_mono (ht.run [] z (start N ys) G _ (I.wish _) hq) (fun fl s' hs0 => ?_) fun e s' hs => False.elim hs)⟩
  have hs := hs0.unwish
  cases fl with
  | brk => obtain ⟨_, _, _, q⟩ := hs; exact False.elim q
  | cont => obtain ⟨_, _, _, q⟩ := hs; exact False.elim q
  | next => obtain ⟨_, G', J, q⟩ := hs; exact ⟨.non, G', J.os, J.bare, J.base, J.hok, rfl, q⟩
  | ret u => obtain ⟨v, _, G', J, rv, q⟩ := hs; exact ⟨v, G', J.os, J.bare, J.base, J.hok, rv, q⟩
end
structure CalG (P : Program) (w : World) (K : PySem.W.Frag) (mg : Str → Option Value) (base : Heap) (k : Nat) (x : Str) (sp : Sp) : Prop where
  ex : ∃ (f : Addr) (fd : FuncData) (ps : List Str), GOk P w K mg base k f fd ps sp ∧ mg x = some (.ref f) ∧ PySem.W.keepIn K (.ref f) = true ∧ Binds K fd ps []
theorem calG_mk {P : Program} {w : World} {K : PySem.W.Frag} {mg : Str → Option Value} {base : Heap} {x : Str} {st : Stmt} {N ps : List Str} {k : Nat} {sp : Sp} (D : Df K mg x st) (S : FnScope N ps (defScope st))
    (bd : BdN x x st ps) (len : ∀ vs H Q E, sp vs H Q E → vs.length = ps.length)
    (bodyG : ∀ (f : Addr) (cdv : Value) (B : Around) (out : List Env) (s0 : Shared) (G : Hp) (ys : List V) (R : VK) (Z : XK), B.guards = some [] → Room k (B.deeper (envOfC x (defScope st) s0.heap.objs.size f cdv)) → sp ys G R Z →
      ∃ t, PSs (cxOf CX0 P w K mg base N x (defScope st) f cdv B out s0 G Z).nox (defBody st) t ∧ t { nx := fun _ G' => R .non G', rt := R } (start N ys) G) : CalG P w K mg base (k + 1) x sp := by
  obtain ⟨fd, F, hm⟩ := D
  exact ⟨_, fd, ps, gOk_of F S len fun cdv B out s0 G ys R Z => bodyG _ cdv B out s0 G ys R Z, hm, F.kp, F.bindsN bd⟩
theorem pe_cG {X : Cx} {k j : Nat} {x : Str} {sp : Sp} {e : Expr} {es : List Expr} {t : TA} {p pos : Pos} (hG : X.A.guards = some []) (c : CalG X.prog X.w X.K X.mg X.base k x sp) (hr : Room j X.A) (hk : k ≤ j) (hg : Gl X x) (ha : PA X (e :: es) t)
    (hdb : (x == ("__debug__" : Str)) = false := by decide) (he : starEach (e :: es) X.env = (false, eval e X.env) :: starEach es X.env := by rfl) (hpl : (backTo pos (starEach es X.env)).any (·.1) = false := by rfl) :
    PE X (.Call (.Name x p) (e :: es) [] pos) (tCall sp [] C8.E0 t) := by
  obtain ⟨f, fd, ps, F, hm, kp, b⟩ := c.ex
  refine ⟨fun pins s σ H Q I h => wpAny_Call_Name_kw (ld_glob I hg hm ?_ hdb)⟩
  refine PySem.W.callWith_K (h₀ := X.base) I.ok.mod.kin kp (thn (ha.run pos pins s σ H _ I h) fun us s1 ⟨vs, H1, I1, r, q⟩ => ⟨I1.kIn, ?_⟩) he hpl
  change sp (vs ++ []) H1 Q C8.E0 at q
  rw [List.append_nil] at q
  have hl : us.length = ps.length := by rw [← r.length]; exact F.len _ _ _ _ q
  have bb := b s1 us I1.kIn (by rw [List.append_nil]; exact hl)
  rw [List.append_nil] at bb
  refine wpAny_call (codeAny_mono (F.go X.A X.stack s1 H1 ⟨us, []⟩ us vs Q C8.E0 hG (hr.mono hk) I1.env0 bb r q) fun r s' hq => ?_)
  cases r with
  | error e => exact C8.pass0 (E := C8.E0) pins σ H1 s1 e s' I1 hq
  | ok fl =>
    cases fl with
    | ret u => exact I1.after hq
    | next => exact False.elim hq
    | brk => exact False.elim hq
    | cont => exact False.elim hq
/-- a tuple with numbers, while tuples stay -/
def iEnumT (K : PySem.W.Frag) (ta : TA) : TI := fun σ H R => ta σ H fun vs H1 => ∃ a xs, vs = [.ref a] ∧ SqT K H1 a xs ∧ R (Itet K a xs) H1
theorem pi_enumT {X : Cx} {e : Expr} {ta : TA} {p pos tpos : Pos} {elts : List Expr} {kk : Nat} (hg : Gl X "enumerate") (hm : X.mg "enumerate" = none) (ha : PA X [e] ta) (hs : starEach [e] X.env = [(false, eval e X.env)] := by rfl) :
    PI X (.Tuple elts kk tpos) (.Call (.Name "enumerate" p) [e] [] pos) (iEnumT X.K ta) := by
  refine ⟨fun pins s σ H R I h => ?_⟩
  refine Call_ (ld_blt I hg hm boot_enumerate (PyProof.Rows.callWith_type1 (thn (ha.run pos pins s σ H _ I h) fun us s1 ⟨vs, H1, I1, r1, a, xs, ex, hq, q⟩ => ?_) hs rfl))
  subst ex
  cases r1 with
  | cons r rr =>
    cases rr
    cases r
    obtain ⟨its, rv, p', hz⟩ := I1.tuple hq
    have hal : a < s1.heap.objs.size := by obtain ⟨o, ho, _⟩ := id p'; exact Heap.lt_size ho
    refine call_enum1 (begins_tuple a its.toArray) p' fun h' he hit hsz hk => wpAny_pyIter_enum he ?_
    refine ⟨s1.heap.objs.size + 1, [s1.heap.objs.size + 1, s1.heap.objs.size], _, _, H1, rfl, I1.kept (t' := s1.toks) hk, turn_enumT a (s1.heap.objs.size + 1) s1.heap.objs.size xs (Nat.ne_of_lt hal) (Nat.ne_of_gt (Nat.lt_succ_of_lt hal)), ⟨⟨.none, he⟩, ⟨_, hit, rfl, rfl⟩, Nat.succ_ne_self _⟩, fun b hb => ?_, q⟩
    have e' : b = s1.heap.objs.size + 1 ∨ b = s1.heap.objs.size := by simpa using hb
    have hle : s1.heap.objs.size ≤ b := by
      rcases e' with z | z
      · rw [z]; exact Nat.le_add_right _ _
      · rw [z]; exact Nat.le_refl _
    exact I1.fpOk hle (I1.hok.fresh hle)
end Hb
set_option Elab.async false
set_option linter.all false
set_option maxRecDepth 100000
set_option maxHeartbeats 8000000
namespace Hb
open PySem PySem.Spec PyProof.Rows L2
theorem tuple_mul_one (l : Addr) (items : Array Value) (n : Nat) (dd : Option Addr) (sl : Array (Option Value)) (u : Tok) :
    Meets (Builtin.«tuple.__mul__» ⟨[.ref l, .int 1 u], []⟩) (fun _ R s => s.heap.get? l = some { cls := .type "tuple", dict := dd, data := .seq items n, slots := sl } ∧ R (.ok (.ret (Value.ref l))) s) :=
  .of_wp fun prog w A R s h => by
    obtain ⟨hp, g, d, tk, os⟩ := s
    obtain ⟨hl, h⟩ := h
    have f1 := AutoSeq1.idx_int
    have c0 : (decide ((1 : Int) < -(2 ^ 63)) || decide ((1 : Int) ≥ 2 ^ 63)) = false := by decide
    have c1 : (items.isEmpty || (1 : Int) == 1) = true := by simp
    wp_walk using wpAny_loadPart' hl
    repeat (first
      | (refine wpAny_ite_false (decide_eq_false (by rw [c0]; exact Bool.false_ne_true)) ?_; wp_walk using wpAny_loadPart' hl)
      | (refine wpAny_ite_true (decide_eq_true (by rw [c1])) ?_; wp_walk using wpAny_loadPart' hl))
    exact ⟨_, rfl, h⟩
theorem tuple_mul_nil (l : Addr) (items : Array Value) (n : Nat) (dd : Option Addr) (sl : Array (Option Value)) (u : Tok) (ne : items.isEmpty = false) :
    Meets (Builtin.«tuple.__mul__» ⟨[.ref l, .int 0 u], []⟩) (fun _ R s => s.heap.get? l = some { cls := .type "tuple", dict := dd, data := .seq items n, slots := sl } ∧
      R (.ok (.ret (Value.ref s.heap.objs.size))) { s with heap := s.heap.push { cls := Value.type "tuple", data := Data.seq #[] }, toks := s.toks }) :=
  .of_wp fun prog w A R s h => by
    obtain ⟨hp, g, d, tk, os⟩ := s
    obtain ⟨hl, h⟩ := h
    have f1 := AutoSeq1.idx_int
    have c0 : (decide ((0 : Int) < -(2 ^ 63)) || decide ((0 : Int) ≥ 2 ^ 63)) = false := by decide
    have c1 : (items.isEmpty || (0 : Int) == 1) = false := by rw [ne]; rfl
    have c2 : (decide ((0 : Int) ≤ 0) || items.isEmpty) = true := by simp
    wp_walk using wpAny_loadPart' hl
    repeat (first
      | (refine wpAny_ite_false (decide_eq_false (by rw [c0]; exact Bool.false_ne_true)) ?_; wp_walk using wpAny_loadPart' hl)
      | (refine wpAny_ite_false (decide_eq_false (by rw [c1]; exact Bool.false_ne_true)) ?_; wp_walk using wpAny_loadPart' hl)
      | (refine wpAny_ite_true (decide_eq_true (by rw [c2])) ?_; wp_walk using wpAny_loadPart' hl))
    exact ⟨_, rfl, h⟩
/-- tuple * int, the int not below 0 -/
def rRepTA (K : PySem.W.Frag) : R2 := fun x y H Q => ∃ l k xs, x = .ref l ∧ y = .int k ∧ SqT K H l xs ∧ xs ≠ [] ∧ 0 ≤ k ∧ k ≤ 1000 ∧ xs.length ≤ 1000 ∧ ∀ p H', Same H H' → SqT K H' p (List.replicate k.toNat xs).flatten → Q (.ref p) H'
section
variable {X : Cx}
theorem op_repTA : OpR X (binaryOp .Mult) (rRepTA X.K) := by
  intro pins s σ H x y v u Q I rx ry h
  obtain ⟨l, k, xs, rfl, rfl, hT, hne, h0, h2, hz, q⟩ := h
  by_cases big : 2 ≤ k
  · exact op_repT pins s σ H _ _ v u Q I rx ry ⟨l, k, xs, rfl, rfl, hT, hne, big, h2, hz, fun p np => q p _ (Same.new np) (SqT.of upd_same)⟩
  · cases rx
    obtain ⟨t, rfl⟩ := ry
    obtain ⟨its, r, ⟨⟨cls, dd, data, sl⟩, ho, hc, n, hd⟩, hs⟩ := I.tuple hT
    simp only at hc hd
    subst hc hd
    have hle : its.length = xs.length := r.length.symm
    have hn : its ≠ [] := fun e => hne (by
      rw [e] at hle
      exact List.eq_nil_of_length_eq_zero hle.symm)
    have hi : its.toArray.isEmpty = false := by
      cases its with
      | nil => exact absurd rfl hn
      | cons a b => rfl
    by_cases k1 : k = 1
    · subst k1
      refine wpAny_binaryOp_repeat_ref (T := "tuple") (U := "int") (by decide) ⟨_, ho, rfl⟩ (fun s' => typeIs_int s' 1 t) noFill_tuple_mul F.fills_int_mul F.slot_int_rmul repeat_tuple F.slot_int_index.lookup
        (call_meets F.slot_int_rmul (typeIs_int s 1 t) F.entry_int_rmul (F.args_int_rmul_2 _ _) (int_rmul_tuple 1 t l its.toArray n dd sl)
          ⟨ho, rfl, ⟨_, ho, rfl⟩, call_meets F.slot_tuple_mul ⟨_, ho, rfl⟩ F.entry_tuple_mul (F.args_tuple_mul_2 _ _) (tuple_mul_one l its.toArray n dd sl t) ⟨ho, ?_⟩⟩)
      refine ⟨.ref l, _, I, rfl, q l H (Same.refl _) ?_⟩
      rw [show (List.replicate (1 : Int).toNat xs).flatten = xs by show (List.replicate 1 xs).flatten = xs; simp]
      exact hT
    · have k0 : k = 0 := by omega
      subst k0
      refine wpAny_binaryOp_repeat_ref (T := "tuple") (U := "int") (by decide) ⟨_, ho, rfl⟩ (fun s' => typeIs_int s' 0 t) noFill_tuple_mul F.fills_int_mul F.slot_int_rmul repeat_tuple F.slot_int_index.lookup
        (call_meets F.slot_int_rmul (typeIs_int s 0 t) F.entry_int_rmul (F.args_int_rmul_2 _ _) (int_rmul_tuple 0 t l its.toArray n dd sl)
          ⟨ho, rfl, ⟨_, ho, rfl⟩, call_meets F.slot_tuple_mul ⟨_, ho, rfl⟩ F.entry_tuple_mul (F.args_tuple_mul_2 _ _) (tuple_mul_nil l its.toArray n dd sl t hi) ⟨ho, ?_⟩⟩)
      have np : H s.heap.objs.size = none := I.hok.fresh (Nat.le_refl _)
      refine ⟨.ref s.heap.objs.size, _, I.laid (t' := s.toks) (o := .tup (List.replicate (0 : Int).toNat xs).flatten) (fun b ob q => Heap.get?_push_of_some _ q) (Nat.le_refl _) ?_, rfl, q _ _ (Same.new np) (SqT.of upd_same)⟩
      exact ⟨Nat.zero_le _, _, .nil, IsTup.new _ _⟩
end
end Hb
set_option Elab.async false
set_option linter.all false
set_option maxRecDepth 100000
set_option maxHeartbeats 8000000
namespace He
open PySem PySem.Spec PyProof.Rows L2
/-! A hook that looks at a part of the heap reached without a comparison of addresses: what was seen stands in a number's bits. -/
def withN {α : Type} (n : Nat) (k : Nat → α) : α := match n with
  | 0 => k 0
  | m + 1 => k (m + 1)
def withL {α β : Type} : List α → (List α → β) → β
  | [], k => k []
  | a :: r, k => withL r fun r' => k (a :: r')
theorem withL_eq {α β : Type} : ∀ (l : List α) (k : List α → β), withL l k = k l
  | [], _ => rfl
  | a :: r, k => withL_eq r fun r' => k (a :: r')
def newA {α : Type} : List Addr → Nat → List Addr → (List Addr → Nat → α) → α
  | [], vis, new, k => k new vis
  | a :: r, vis, new, k => match Nat.beq (Nat.land (Nat.shiftRight vis a) 1) 1 with
    | true => newA r vis new k
    | false => withN (Nat.lor vis (Nat.shiftLeft 1 a)) fun v => withN a fun a => newA r v (a :: new) k
def stepA (g : Addr → Option Obj) (front : List Addr) : List Addr := front.flatMap fun a => match g a with
  | some o => refsD o
  | none => []
def growA (g : Addr → Option Obj) : Nat → List Addr → Nat → List Addr → List Addr
  | 0, _, _, acc => acc
  | n + 1, front, vis, acc => newA (stepA g front) vis [] fun new v => growA g n new v (acc ++ new)
def asA (n : Nat) (g : Addr → Option Obj) : List Addr := withN mainGlobals fun m => growA g n [m] (Nat.shiftLeft 1 m) [m]
def obsA (n : Nat) (fa : List Fa) (fn : List DefD) (ex : PySem.W.Frag → Bool) (g : Addr → Option Obj) : AlX := withL (asA n g) fun as => withL (frT g as) fun K => (obsT fa fn [] K, ex K)
theorem obsA_is {n : Nat} {fa : List Fa} {fn : List DefD} {ex : PySem.W.Frag → Bool} {g : Addr → Option Obj} : obsA n fa fn ex g = (obsT fa fn [] (frT g (asA n g)), ex (frT g (asA n g))) := by
  unfold obsA
  rw [withL_eq, withL_eq]
theorem saysA_of {n : Nat} {fa : List Fa} {fn : List DefD} {ex : PySem.W.Frag → Bool} {w : World} {h : Heap} (e : obsA n fa fn ex h.get? = valX fn [] w) : SaysX fa fn [] [] ex w h (frT h.get? (asA n h.get?)) := by
  rw [obsA_is] at e
  have e1 : obsT fa fn [] (frT h.get? (asA n h.get?)) = valT fn [] w := congrArg (fun z : AlX => z.1) e
  have e2 : ex (frT h.get? (asA n h.get?)) = true := congrArg (fun z : AlX => z.2) e
  exact ⟨e1, e2, (fun _ hp => nomatch hp), (fun _ hp => nomatch hp), fun _ hp => nomatch hp⟩
def hookA (n : Nat) (fa : List Fa) (fn : List DefD) (ex : PySem.W.Frag → Bool) : PySem.W.Hook where
  α := AlX
  obs := fun s => obsA n fa fn ex s.heap.get?
  val := fun w => valX fn [] w
  says := fun w h => ∃ K : PySem.W.Frag, K.In h ∧ SaysX fa fn [] [] ex w h K
  of := fun _ _ e => ⟨_, frT_in, saysA_of e⟩
  keeps := fun _ _ _ ⟨K, hK, c⟩ k => ⟨K, PySem.W.Frag.In.keeps hK k, ⟨c.t, c.more, c.hd, c.out, fun p hp => k _ _ (c.empty p hp)⟩⟩
theorem obsA_eq {n : Nat} {fa : List Fa} {fn : List DefD} {ex : PySem.W.Frag → Bool} {g : Addr → Option Obj} {s : Shared} (h : ∀ a, g a = s.heap.get? a) : obsA n fa fn ex g = (hookA n fa fn ex).obs s := by
  have e : g = s.heap.get? := funext h
  rw [e] <;> rfl
end He
set_option Elab.async false
set_option linter.all false
set_option maxRecDepth 100000
set_option maxHeartbeats 4000000
/-! A body read in parts: blocks within blocks. -/
namespace Hb
open PySem PySem.Spec PyProof.Rows L2
/-- the block within a for, a while, an if -/
def inB : Stmt → List Stmt
  | .For _ _ b _ _ => b
  | .While _ b _ _ => b
  | .If _ b _ _ => b
  | _ => []
def nthB (ss : List Stmt) (i : Nat) : List Stmt := match ss[i]? with
  | some s => inB s
  | none => []
/-- a block's reading, whatever follows: with what holds ahead -/
def Part (X : Cx) (ss : List Stmt) (R : Ends → L2.St → Hp → Prop) : Prop := ∃ t, PSs X ss t ∧ ∀ D σ H, R D σ H → t D σ H
end Hb
set_option Elab.async false
set_option linter.all false
set_option maxRecDepth 100000
set_option maxHeartbeats 8000000
/-! The head with tables, properties and classmethods, its heap looked through by bits (HC3), what was seen computed once. -/
namespace He
open PySem PySem.Spec PyProof.Rows L2
def frB (n : Nat) (g : Addr → Option Obj) : PySem.W.Frag := frT g (asA n g ++ [cStatics])
def obsB (n : Nat) (fa : List Fa) (fn : List DefD) (ts : List Tab) (ex : PySem.W.Frag → Bool) (fp : List Dp) (g : Addr → Option Obj) : AlZ :=
  withL (asA n g) fun as => withL (frT g (as ++ [cStatics])) fun K => ((obsT fa fn ts K, ex K), fp.map fun p => fnP K (p.1 K))
theorem obsB_is {n : Nat} {fa : List Fa} {fn : List DefD} {ts : List Tab} {ex : PySem.W.Frag → Bool} {fp : List Dp} {g : Addr → Option Obj} :
    obsB n fa fn ts ex fp g = ((obsT fa fn ts (frB n g), ex (frB n g)), fp.map fun p => fnP (frB n g) (p.1 (frB n g))) := by
  unfold obsB frB
  rw [withL_eq, withL_eq]
def hookB (n : Nat) (fa : List Fa) (fn : List DefD) (ts : List Tab) (ex : PySem.W.Frag → Bool) (fp : List Dp) : PySem.W.Hook where
  α := AlZ
  obs := fun s => obsB n fa fn ts ex fp s.heap.get?
  val := fun w => valZ fn ts fp w
  says := fun w h => ∃ K : PySem.W.Frag, K.In h ∧ SaysZ fa fn ts ex fp w h K
  of := fun s _ e => by
    have e := obsB_is.symm.trans e
    exact ⟨_, frT_in, ⟨congrArg (fun z : AlZ => z.1.1) e, congrArg (fun z : AlZ => z.1.2) e, fun _ h => (nomatch h), fun _ h => (nomatch h), fun _ h => (nomatch h)⟩, congrArg (fun z : AlZ => z.2) e⟩
  keeps := fun _ _ _ ⟨K, hK, c⟩ k => ⟨K, PySem.W.Frag.In.keeps hK k, ⟨⟨c.x.t, c.x.more, c.x.hd, c.x.out, fun p hp => k _ _ (c.x.empty p hp)⟩, c.p⟩⟩
theorem obsB_eq {n : Nat} {fa : List Fa} {fn : List DefD} {ts : List Tab} {ex : PySem.W.Frag → Bool} {fp : List Dp} {g : Addr → Option Obj} {s : Shared} (h : ∀ a, g a = s.heap.get? a) : obsB n fa fn ts ex fp g = (hookB n fa fn ts ex fp).obs s := by
  have e : g = s.heap.get? := funext h
  rw [e] <;> rfl
end He
set_option Elab.async false
set_option linter.all false
set_option maxRecDepth 100000
set_option maxHeartbeats 4000000
/-! Errors of the program: a class over ValueError (through other classes of the program) whose __init__ keeps one argument; raised, caught, looked at. -/
namespace Hb
open PySem PySem.Spec PyProof.Rows L2
def oexB (K : PySem.W.Frag) (C : Addr) : Bool := match K.lookup C with
  | some ⟨.type "type", _, .cls cd, sl⟩ => (match cd.mro, sl.toList with
    | .ref C' :: bm, [_, _, _, _, some (.builtin n), _] => decide (C' = C) && (decide (n = "ValueError.__new__") && (!cd.hasDel && (cd.hasDict && PySem.HandSPX.refsVE bm)))
    | _, _ => false)
  | _ => false
theorem oexB_ok {K : PySem.W.Frag} {C : Addr} (q : oexB K C = true) : ∃ nm qn N bs bm sn sub ab col dd k0 k1 k2 k3 k5, K.lookup C = some (excClassObj nm qn C N bs bm true sn sub ab col dd k0 k1 k2 k3 k5 "ValueError.__new__") ∧ PySem.HandSPX.refsVE bm = true := by
  unfold oexB at q
  split at q
  · rename_i dd cd sl ho
    split at q
    · rename_i C' bm k0 k1 k2 k3 n k5 hm hs
      rw [Bool.and_eq_true, Bool.and_eq_true, Bool.and_eq_true, Bool.and_eq_true] at q
      obtain ⟨e1, e2, e3, e4, e5⟩ := q
      obtain rfl := of_decide_eq_true e1
      obtain rfl := of_decide_eq_true e2
      obtain ⟨nm, bs, mro, ns, qn, hd, sn, sub, ab, col, del⟩ := cd
      dsimp only at hm e3 e4
      subst hm e4
      have e3' : del = false := by
        cases del
        · rfl
        · cases e3
      subst e3'
      have hl : sl = #[k0, k1, k2, k3, some (.builtin "ValueError.__new__"), k5] := by
        obtain ⟨l⟩ := sl
        exact congrArg Array.mk hs
      subst hl
      exact ⟨nm, qn, ns, bs, bm, sn, sub, ab, col, dd, k0, k1, k2, k3, k5, ho, e5⟩
    · cases q
  · cases q
/-- what the written part says of an error's class with one attribute f -/
structure ErrC (K : PySem.W.Frag) (C : Addr) (f : Str) : Prop where
  T : OexC K C
  xf : XfC K C
  ha : PySem.W.findIn K (.ref C) "__class__" = some (some (.builtin "object.__class__"))
  hm : PySem.W.mroIn K C (.type "object") = some true
  iC : PySem.W.findIn K (.ref C) "__init__" = some (some (.ref (He.ma K C "__init__")))
  tI : PySem.W.typeIn K (.ref (He.ma K C "__init__")) = some (.type "function")
  noF : PySem.W.findIn K (.ref C) f = some none
  cl : (PySem.W.clsIn K C).isSome = true
  sub : PySem.W.subIn K (.ref C) (.ref C) = some true
def errB (K : PySem.W.Frag) (C : Addr) (f : Str) : Bool :=
  oexB K C && (decide (PySem.W.findIn K (.ref C) "__setattr__" = some (some (.builtin "object.__setattr__"))) && (decide (PySem.W.subIn K (.ref C) (.type "BaseException") = some true) && (decide (PySem.W.typeIn K (.ref C) = some (.type "type")) && (PySem.W.keepIn K (.ref C) && (xfB K C &&
  (decide (PySem.W.findIn K (.ref C) "__class__" = some (some (.builtin "object.__class__"))) && (decide (PySem.W.mroIn K C (.type "object") = some true) && (decide (PySem.W.findIn K (.ref C) "__init__" = some (some (.ref (He.ma K C "__init__")))) &&
  (decide (PySem.W.typeIn K (.ref (He.ma K C "__init__")) = some (.type "function")) && (decide (PySem.W.findIn K (.ref C) f = some none) && ((PySem.W.clsIn K C).isSome && decide (PySem.W.subIn K (.ref C) (.ref C) = some true))))))))))))
theorem errB_ok {K : PySem.W.Frag} {C : Addr} {f : Str} (q : errB K C f = true) : ErrC K C f := by
  unfold errB at q
  simp only [Bool.and_eq_true, decide_eq_true_eq] at q
  obtain ⟨a, b, c, d, e, g, h, i, j, k, l, m, n⟩ := q
  exact ⟨⟨oexB_ok a, b, c, d, e⟩, xfB_ok g, h, i, j, k, l, m, n⟩
/-- what its __init__ does: self.f = v -/
def spErr (f : Str) (C : Addr) : Sp := fun vs H Q _ => ∃ (a : Addr) (v : V), vs = [.ref a, v] ∧ H a = some (exo a C none) ∧ ∀ dx, H dx = none → dx ≠ a → Q .non (upd (upd H dx (exd dx [(f, v)])) a (exo a C (some dx)))
/-- an error that can be made -/
structure ErrOk (P : Program) (w : World) (K : PySem.W.Frag) (mg : Str → Option Value) (base : Heap) (x f : Str) : Prop where
  c : ErrC K (He.ga K x) f
  m : mg x = some (.ref (He.ga K x))
  i : ∃ fd ps, FnOk P w K mg base CX0 1 (He.ma K (He.ga K x) "__init__") fd ps (spErr f (He.ga K x)) ∧ Binds K fd ps []
theorem err_heap {H : Hp} {a d C : Addr} {fs : List (Str × V)} (ha : H a = none) (hd : H d = none) (ne : d ≠ a) : upd (del (upd (upd H d (exd d fs)) a (exo a C (some d))) a) d (.xd fs) = upd H d (.xd fs) := by
  funext b
  by_cases e : b = d
  · rw [e, upd_same, upd_same]
  · rw [upd_ne e, upd_ne e]
    by_cases q : b = a
    · rw [q, del_same, ha]
    · rw [del_ne q, upd_ne q, upd_ne e]
/-- x(v): a new error whose own dict keeps v -/
theorem err_go {C : Addr} {f : Str} {v : V} {H : Hp} {Q : XK} {E : XK} (k : ∀ d, H d = none → Q (.ref C) (some d) (upd H d (.xd [(f, v)]))) : ([v] : List V).length ≤ 1000 ∧ ∀ a, H a = none → spErr f C (.ref a :: ([v] ++ [])) (upd H a (exo a C none))
    (fun v H2 => v = .non ∧ ∃ (d : Addr) (fs : List (Str × V)), H2 a = some (exo a C (some d)) ∧ H2 d = some (exd d fs) ∧ H d = none ∧ Q (.ref C) (some d) (upd (del H2 a) d (.xd fs))) E := by
  refine ⟨by show 1 ≤ 1000; omega, fun a na => ⟨a, v, rfl, upd_same, fun dx nd ne => ⟨rfl, dx, [(f, v)], upd_same, ?_, ?_, ?_⟩⟩⟩
  · rw [upd_ne ne, upd_same]
  · rw [upd_ne ne] at nd
    exact nd
  · rw [upd_ne ne] at nd
    have e : upd (upd (upd H a (exo a C none)) dx (exd dx [(f, v)])) a (exo a C (some dx)) = upd (upd H dx (exd dx [(f, v)])) a (exo a C (some dx)) := by
      funext b
      by_cases q : b = a
      · rw [q, upd_same, upd_same]
      · rw [upd_ne q, upd_ne q]
        by_cases q2 : b = dx
        · rw [q2, upd_same, upd_same]
        · rw [upd_ne q2, upd_ne q2, upd_ne q]
    rw [e, err_heap na nd ne]
    exact k dx nd
section
variable {X : Cx} {j : Nat} {x f : Str} {e : Expr} {ta : TA} {p pos pos2 : Pos}
theorem pmk_err (c : ErrOk X.prog X.w X.K X.mg X.base x f) (hr : Room j X.A) (hk : 2 ≤ j) (hg : Gl X x) (ha : PA X [e] ta)
    (hdb : (x == ("__debug__" : Str)) = false := by decide) (he : starEach [e] X.env = (false, eval e X.env) :: starEach [] X.env := by rfl) (hpl : (backTo pos (starEach [] X.env)).any (·.1) = false := by rfl) :
    PMk X (.Call (.Name x p) [e] [] pos) (tMkO (He.ga X.K x) (spErr f (He.ga X.K x)) [] ta) := by
  obtain ⟨cc, hm, fd, ps, F, b⟩ := c
  exact pmk_oex (CX := CX0) cc.T cc.iC cc.tI F (hr.mono hk) b .nil (fun _ _ _ _ _ _ _ z => z.elim) hg hm ha hdb he hpl
/-- raise x(e) where nothing is handled -/
theorem ps_err {W : WX} (hc : X.calm = true) (tk : Takes X W) (c : ErrOk X.prog X.w X.K X.mg X.base x f) (hr : Room j X.A) (hk : 2 ≤ j) (hg : Gl X x) (ha : PA X [e] ta)
    (hdb : (x == ("__debug__" : Str)) = false := by decide) (he : starEach [e] X.env = (false, eval e X.env) :: starEach [] X.env := by rfl) (hpl : (backTo pos (starEach [] X.env)).any (·.1) = false := by rfl) :
    PS X (.Raise (some (.Call (.Name x p) [e] [] pos)) none pos2) (fun _ σ H => tMkO (He.ga X.K x) (spErr f (He.ga X.K x)) [] ta σ H fun cls d H' => W cls d σ H') := ps_raise hc tk (pmk_err c hr hk hg ha hdb he hpl)
end
/-! ### defs that may raise -/
section
variable {P : Program} {w : World} {K : PySem.W.Frag} {mg : Str → Option Value} {base : Heap}
structure CalX (P : Program) (w : World) (K : PySem.W.Frag) (mg : Str → Option Value) (base : Heap) (k : Nat) (x : Str) (sp : Sp) : Prop where
  ex : ∃ (f : Addr) (fd : FuncData) (ps : List Str), FnOk P w K mg base (L2.CX P w) k f fd ps sp ∧ mg x = some (.ref f) ∧ PySem.W.keepIn K (.ref f) = true ∧ Binds K fd ps []
structure MakX (P : Program) (w : World) (K : PySem.W.Frag) (mg : Str → Option Value) (base : Heap) (k : Nat) (x : Str) (C : Addr) (sp : Sp) (dvs : List V) : Prop where
  ex : ∃ (f : Addr) (fd : FuncData) (ps : List Str) (ds : List Value), Mk K C f ∧ FnOk P w K mg base (L2.CX P w) k f fd ps sp ∧ mg x = some (.ref C) ∧ Binds K fd ps ds ∧ Vals dvs ds
structure MetX (P : Program) (w : World) (K : PySem.W.Frag) (mg : Str → Option Value) (base : Heap) (k : Nat) (C : Addr) (m : Str) (sp : Sp) : Prop where
  ex : ∃ (f : Addr) (fd : FuncData) (ps : List Str), Cls K C ∧ Meth K C m f ∧ FnOk P w K mg base (L2.CX P w) k f fd ps sp ∧ Binds K fd ps []
/-- by its body: the text at a context whose exceptions are wished for -/
theorem calX_mk {x : Str} {st : Stmt} {N ps : List Str} {k : Nat} {sp : Sp} (D : Df K mg x st) (S : FnScope N ps (defScope st)) (bd : BdN x x st ps) (len : ∀ vs H Q E, sp vs H Q E → vs.length = ps.length)
    (hbody : ∀ (f : Addr) (cdv : Value) (A : Around) (outer : List Env) (s : Shared) (H : Hp) (vs : List V) (Q : VK) (E : XK), Room k (A.deeper (envOfC x (defScope st) s.heap.objs.size f cdv)) → sp vs H Q E →
      ∃ t, PSs (cxOf (L2.CX P w) P w K mg base N x (defScope st) f cdv A outer s H E) (defBody st) t ∧ t { nx := fun _ H' => Q .non H', rt := Q } (start N vs) H) : CalX P w K mg base (k + 1) x sp := by
  obtain ⟨fd, F, hm⟩ := D
  exact ⟨_, fd, ps, F.ok (CX := L2.CX P w) S len fun cdv A outer s H vs Q E hr h => hbody _ cdv A outer s H vs Q E hr h, hm, F.kp, F.bindsN bd⟩
theorem metX_mk {C m qual : Str} {st : Stmt} {N ps : List Str} {k : Nat} {sp : Sp} (D : Dm K C m qual st) (c : Cls K (He.ga K C)) (S : FnScope N ps (defScope st)) (bd : BdN m qual st ps) (len : ∀ vs H Q E, sp vs H Q E → vs.length = ps.length)
    (hbody : ∀ (f : Addr) (cdv : Value) (A : Around) (outer : List Env) (s : Shared) (H : Hp) (vs : List V) (Q : VK) (E : XK), Room k (A.deeper (envOfC qual (defScope st) s.heap.objs.size f cdv)) → sp vs H Q E →
      ∃ t, PSs (cxOf (L2.CX P w) P w K mg base N qual (defScope st) f cdv A outer s H E) (defBody st) t ∧ t { nx := fun _ H' => Q .non H', rt := Q } (start N vs) H) : MetX P w K mg base (k + 1) (He.ga K C) m sp := by
  obtain ⟨hm, fd, F⟩ := D
  exact ⟨_, fd, ps, c, hm, F.ok (CX := L2.CX P w) S len fun cdv A outer s H vs Q E hr h => hbody _ cdv A outer s H vs Q E hr h, F.bindsN bd⟩
/-- a def that raises nothing on some way, there -/
theorem CalX.cal {k : Nat} {x : Str} {sp sp' : Sp} (c : CalX P w K mg base k x sp) (h : ∀ vs H Q E, sp' vs H Q E → sp vs H Q C8.E0) : C8.Cal P w K mg base k x sp' [] := by
  obtain ⟨f, fd, ps, F, hm, kp, b⟩ := c.ex
  exact ⟨f, fd, ps, [], ⟨fun vs H Q E q => F.len _ _ _ _ (h _ _ _ _ q), fun A outer s H args us vs Q E hr he hb hv hs => codeAny_mono (F.run A outer s H args us vs Q C8.E0 hr he hb hv (h _ _ _ _ hs)) fun r s' q => by
    cases r with
    | error e =>
      obtain ⟨_, _, _, _, _, _, _, _, _, _, _, _, z⟩ := q
      exact z.elim
    | ok fl => cases fl <;> exact q⟩, hm, kp, b, .nil⟩
end
section
variable {X : Cx} {j k : Nat} {x f : Str} {sp : Sp} {W : WX} {e : Expr} {es : List Expr} {t : TA} {p pos : Pos}
/-- a call in the body of a try -/
theorem pe_try (c : CalX X.prog X.w X.K X.mg X.base k x sp) (tk : Takes X W) (hr : Room j X.A) (hk : k ≤ j) (hg : Gl X x) (ha : PA X (e :: es) t)
    (hdb : (x == ("__debug__" : Str)) = false := by decide) (he : starEach (e :: es) X.env = (false, eval e X.env) :: starEach es X.env := by rfl) (hpl : (backTo pos (starEach es X.env)).any (·.1) = false := by rfl) :
    PE X (.Call (.Name x p) (e :: es) [] pos) (tCallS sp (WE W) t) := by
  obtain ⟨f, fd, ps, F, hm, kp, b⟩ := c.ex
  exact pe_callS F (hr.mono hk) hg hm kp b (fun σ => passAt tk σ) ha hdb he hpl
/-- isinstance(e, T) in an except suite, e its error -/
def rIsE2 (K : PySem.W.Frag) (a : Addr) (cls : Value) (d : Option Addr) (f : Str) : List V → Hp → VK → Prop := fun xs H Q => ∃ (D dd : Addr) (fs : List (Str × V)) (c : V) (cv : Value) (b : Bool), xs = [.ref a, c] ∧ cls = .ref D ∧ d = some dd ∧ H dd = some (.xd fs) ∧ ErrC K D f ∧ (∀ u, RelV c u → u = cv) ∧ PySem.W.kitOne K (.ref D) cv = some b ∧ Q (.bl b) H
theorem call_isE2 {a : Addr} {cls : Value} {d : Option Addr} {oe : Obj} {pn : List (Addr × Obj)} (hn : PySem.W.specialIn X.K (.builtin "object.__class__") "__get__" = some (some (.builtin "getset_descriptor.__get__"))) (ht : PySem.W.takesIn X.K (.builtin "object.__class__") = some true)
    (hz : Zc cls d oe) (hf : ∃ vs, oe.data = .fields vs) : CallR (X.suite a ((a, oe) :: pn)) (.builtin "isinstance") (rIsE2 X.K a cls d f) := by
  intro pins s σ H xs us Q I r h
  obtain ⟨D, dd, fs, c, cv, b, rfl, ec, ed, hx, C, hcv, ek, q⟩ := h
  subst ec ed
  obtain ⟨u1, u2, rfl, r1, r2⟩ := vals2 r
  cases r1
  have e2 := hcv _ r2
  subst e2
  have pin := (I.pin (a, oe) (List.mem_append.mpr (.inl List.mem_cons_self))).1
  obtain ⟨vs, hv⟩ := hf
  have ox : ObjOk X.prog X.w H s.heap dd (.xd fs) := I.hok dd _ hx
  obtain ⟨mA, hns, _⟩ := ox
  obtain ⟨od, ho, _⟩ := lookIn_ns hns
  have J : PySem.W.InstAt s.heap a oe D (some od) := ⟨pin, hz.1, by unfold PySem.W.notCls; rw [hv] <;> rfl, by
    rw [hz.2]
    exact ho⟩
  exact PySem.W.kia_one (PySem.W.kitx_exc C.cl C.xf.ga C.xf.gg C.xf.exC C.ha hn ht C.hm) I.kIn J ek (fun z => nomatch z) fun tk => ⟨.bl b, H, I.kept (t' := tk) fun _ _ z => z, rfl, q⟩
end
end Hb
set_option Elab.async false
set_option linter.all false
set_option maxRecDepth 100000
set_option maxHeartbeats 8000000
/-! repr of a number or None. -/
namespace Hb
open PySem PySem.Spec PyProof.Rows L2
section
variable {X : Cx}
/-- a number, None or a text, shown -/
def rtext : V → Str
  | .non => "None"
  | .int i => (toString i : String)
  | .str x => reprText x
  | _ => Str.empty
def okR : V → Prop
  | .non => True
  | .int i => i.natAbs.log2 < 1920
  | .str x => (reprText x).length ≤ sizeLine
  | _ => False
def rReprO : List V → Hp → VK → Prop := fun vs H Q => ∃ v : V, vs = [v] ∧ okR v ∧ Q (.str (rtext v)) H
theorem cr_reprO : CallR X (.builtin "repr") rReprO := by
  intro pins s σ H vs us Q I r h
  obtain ⟨v, rfl, hv, q⟩ := h
  obtain ⟨u, rfl, ru⟩ := r.one
  cases v with
  | int i =>
    obtain ⟨t, rfl⟩ := ru
    exact PySem.P.repr_of_int hv ⟨.str (rtext (.int i)), H, I.tok _, ⟨_, rfl⟩, q⟩
  | non =>
    obtain rfl : u = Value.none := ru
    exact PySem.P.repr_of_none ⟨.str (rtext .non), H, I.tok _, ⟨_, rfl⟩, q⟩
  | str x =>
    obtain ⟨t, rfl⟩ := ru
    exact PySem.P.repr_of_str ⟨.str (rtext (.str x)), H, I.tok _, ⟨_, rfl⟩, q⟩ hv
  | _ => exact hv.elim
end
end Hb
set_option Elab.async false
set_option linter.all false
set_option maxRecDepth 100000
set_option maxHeartbeats 4000000
/-! The text, by places. -/
namespace Lw
open PySem PySem.Spec PyProof.Rows L2 Hb
def top (i : Nat) : Stmt := PySem.Challenge.pw_hushsteps_k66_whole_deeds_taken_back.main.body.getD i (.Pass ⟨0, 0, 0, 0⟩)
abbrev s_is_whole : Stmt := (top 12)
abbrev N_is_whole : List Str := ["value"]
theorem sc_is_whole : FnScope N_is_whole ["value"] (defScope s_is_whole) := C8.fnScope_by (by decide +kernel)
theorem bd_is_whole : ∀ (kV doc pm : Value) (an : Option Addr) (cdv ct : Value) (us : List Value), us.length = (["value"] : List Str).length → bindArgs (PySem.W.fnOf "is_whole" "is_whole" (defArgs s_is_whole) (defBody s_is_whole) (defScope s_is_whole) .none kV doc pm an cdv ct) ⟨us, []⟩ = pure ((["value"] : List Str).zip us) :=
  fun _ _ _ _ _ _ us hl => match us, hl with | [_], _ => rfl
abbrev s_is_number : Stmt := (top 13)
abbrev N_is_number : List Str := ["value"]
theorem sc_is_number : FnScope N_is_number ["value"] (defScope s_is_number) := C8.fnScope_by (by decide +kernel)
theorem bd_is_number : ∀ (kV doc pm : Value) (an : Option Addr) (cdv ct : Value) (us : List Value), us.length = (["value"] : List Str).length → bindArgs (PySem.W.fnOf "is_number" "is_number" (defArgs s_is_number) (defBody s_is_number) (defScope s_is_number) .none kV doc pm an cdv ct) ⟨us, []⟩ = pure ((["value"] : List Str).zip us) :=
  fun _ _ _ _ _ _ us hl => match us, hl with | [_], _ => rfl
abbrev s_is_positive : Stmt := (top 14)
abbrev N_is_positive : List Str := ["value"]
theorem sc_is_positive : FnScope N_is_positive ["value"] (defScope s_is_positive) := C8.fnScope_by (by decide +kernel)
theorem bd_is_positive : ∀ (kV doc pm : Value) (an : Option Addr) (cdv ct : Value) (us : List Value), us.length = (["value"] : List Str).length → bindArgs (PySem.W.fnOf "is_positive" "is_positive" (defArgs s_is_positive) (defBody s_is_positive) (defScope s_is_positive) .none kV doc pm an cdv ct) ⟨us, []⟩ = pure ((["value"] : List Str).zip us) :=
  fun _ _ _ _ _ _ us hl => match us, hl with | [_], _ => rfl
abbrev s_is_name : Stmt := (top 15)
abbrev N_is_name : List Str := ["value", "letter"]
theorem sc_is_name : FnScope N_is_name ["value"] (defScope s_is_name) := C8.fnScope_by (by decide +kernel)
theorem bd_is_name : ∀ (kV doc pm : Value) (an : Option Addr) (cdv ct : Value) (us : List Value), us.length = (["value"] : List Str).length → bindArgs (PySem.W.fnOf "is_name" "is_name" (defArgs s_is_name) (defBody s_is_name) (defScope s_is_name) .none kV doc pm an cdv ct) ⟨us, []⟩ = pure ((["value"] : List Str).zip us) :=
  fun _ _ _ _ _ _ us hl => match us, hl with | [_], _ => rfl
abbrev s_is_row : Stmt := (top 16)
abbrev N_is_row : List Str := ["value"]
theorem sc_is_row : FnScope N_is_row ["value"] (defScope s_is_row) := C8.fnScope_by (by decide +kernel)
theorem bd_is_row : ∀ (kV doc pm : Value) (an : Option Addr) (cdv ct : Value) (us : List Value), us.length = (["value"] : List Str).length → bindArgs (PySem.W.fnOf "is_row" "is_row" (defArgs s_is_row) (defBody s_is_row) (defScope s_is_row) .none kV doc pm an cdv ct) ⟨us, []⟩ = pure ((["value"] : List Str).zip us) :=
  fun _ _ _ _ _ _ us hl => match us, hl with | [_], _ => rfl
abbrev s_is_tuple_of : Stmt := (top 17)
abbrev N_is_tuple_of : List Str := ["value", "many"]
theorem sc_is_tuple_of : FnScope N_is_tuple_of ["value", "many"] (defScope s_is_tuple_of) := C8.fnScope_by (by decide +kernel)
theorem bd_is_tuple_of : ∀ (kV doc pm : Value) (an : Option Addr) (cdv ct : Value) (us : List Value), us.length = (["value", "many"] : List Str).length → bindArgs (PySem.W.fnOf "is_tuple_of" "is_tuple_of" (defArgs s_is_tuple_of) (defBody s_is_tuple_of) (defScope s_is_tuple_of) .none kV doc pm an cdv ct) ⟨us, []⟩ = pure ((["value", "many"] : List Str).zip us) :=
  fun _ _ _ _ _ _ us hl => match us, hl with | [_, _], _ => rfl
abbrev s_are_unlike : Stmt := (top 18)
abbrev N_are_unlike : List Str := ["things"]
theorem sc_are_unlike : FnScope N_are_unlike ["things"] (defScope s_are_unlike) := C8.fnScope_by (by decide +kernel)
theorem bd_are_unlike : ∀ (kV doc pm : Value) (an : Option Addr) (cdv ct : Value) (us : List Value), us.length = (["things"] : List Str).length → bindArgs (PySem.W.fnOf "are_unlike" "are_unlike" (defArgs s_are_unlike) (defBody s_are_unlike) (defScope s_are_unlike) .none kV doc pm an cdv ct) ⟨us, []⟩ = pure ((["things"] : List Str).zip us) :=
  fun _ _ _ _ _ _ us hl => match us, hl with | [_], _ => rfl
abbrev s_is_numeral : Stmt := (top 19)
abbrev N_is_numeral : List Str := ["word", "digit"]
theorem sc_is_numeral : FnScope N_is_numeral ["word"] (defScope s_is_numeral) := C8.fnScope_by (by decide +kernel)
theorem bd_is_numeral : ∀ (kV doc pm : Value) (an : Option Addr) (cdv ct : Value) (us : List Value), us.length = (["word"] : List Str).length → bindArgs (PySem.W.fnOf "is_numeral" "is_numeral" (defArgs s_is_numeral) (defBody s_is_numeral) (defScope s_is_numeral) .none kV doc pm an cdv ct) ⟨us, []⟩ = pure ((["word"] : List Str).zip us) :=
  fun _ _ _ _ _ _ us hl => match us, hl with | [_], _ => rfl
abbrev s_is_room : Stmt := (top 59)
abbrev N_is_room : List Str := ["rooms", "value"]
theorem sc_is_room : FnScope N_is_room ["rooms", "value"] (defScope s_is_room) := C8.fnScope_by (by decide +kernel)
theorem bd_is_room : ∀ (kV doc pm : Value) (an : Option Addr) (cdv ct : Value) (us : List Value), us.length = (["rooms", "value"] : List Str).length → bindArgs (PySem.W.fnOf "is_room" "is_room" (defArgs s_is_room) (defBody s_is_room) (defScope s_is_room) .none kV doc pm an cdv ct) ⟨us, []⟩ = pure ((["rooms", "value"] : List Str).zip us) :=
  fun _ _ _ _ _ _ us hl => match us, hl with | [_, _], _ => rfl
abbrev s_is_door : Stmt := (top 60)
abbrev N_is_door : List Str := ["rooms", "value", "one", "other", "noise"]
theorem sc_is_door : FnScope N_is_door ["rooms", "value"] (defScope s_is_door) := C8.fnScope_by (by decide +kernel)
theorem bd_is_door : ∀ (kV doc pm : Value) (an : Option Addr) (cdv ct : Value) (us : List Value), us.length = (["rooms", "value"] : List Str).length → bindArgs (PySem.W.fnOf "is_door" "is_door" (defArgs s_is_door) (defBody s_is_door) (defScope s_is_door) .none kV doc pm an cdv ct) ⟨us, []⟩ = pure ((["rooms", "value"] : List Str).zip us) :=
  fun _ _ _ _ _ _ us hl => match us, hl with | [_, _], _ => rfl
abbrev s_is_floor : Stmt := (top 61)
abbrev N_is_floor : List Str := ["rooms", "value"]
theorem sc_is_floor : FnScope N_is_floor ["rooms", "value"] (defScope s_is_floor) := C8.fnScope_by (by decide +kernel)
theorem bd_is_floor : ∀ (kV doc pm : Value) (an : Option Addr) (cdv ct : Value) (us : List Value), us.length = (["rooms", "value"] : List Str).length → bindArgs (PySem.W.fnOf "is_floor" "is_floor" (defArgs s_is_floor) (defBody s_is_floor) (defScope s_is_floor) .none kV doc pm an cdv ct) ⟨us, []⟩ = pure ((["rooms", "value"] : List Str).zip us) :=
  fun _ _ _ _ _ _ us hl => match us, hl with | [_, _], _ => rfl
abbrev s_are_doors : Stmt := (top 62)
abbrev N_are_doors : List Str := ["rooms", "value", "door"]
theorem sc_are_doors : FnScope N_are_doors ["rooms", "value"] (defScope s_are_doors) := C8.fnScope_by (by decide +kernel)
theorem bd_are_doors : ∀ (kV doc pm : Value) (an : Option Addr) (cdv ct : Value) (us : List Value), us.length = (["rooms", "value"] : List Str).length → bindArgs (PySem.W.fnOf "are_doors" "are_doors" (defArgs s_are_doors) (defBody s_are_doors) (defScope s_are_doors) .none kV doc pm an cdv ct) ⟨us, []⟩ = pure ((["rooms", "value"] : List Str).zip us) :=
  fun _ _ _ _ _ _ us hl => match us, hl with | [_, _], _ => rfl
abbrev s_are_floors : Stmt := (top 63)
abbrev N_are_floors : List Str := ["rooms", "value", "floor"]
theorem sc_are_floors : FnScope N_are_floors ["rooms", "value"] (defScope s_are_floors) := C8.fnScope_by (by decide +kernel)
theorem bd_are_floors : ∀ (kV doc pm : Value) (an : Option Addr) (cdv ct : Value) (us : List Value), us.length = (["rooms", "value"] : List Str).length → bindArgs (PySem.W.fnOf "are_floors" "are_floors" (defArgs s_are_floors) (defBody s_are_floors) (defScope s_are_floors) .none kV doc pm an cdv ct) ⟨us, []⟩ = pure ((["rooms", "value"] : List Str).zip us) :=
  fun _ _ _ _ _ _ us hl => match us, hl with | [_, _], _ => rfl
abbrev s_are_cradles : Stmt := (top 64)
abbrev N_are_cradles : List Str := ["rooms", "value", "room"]
theorem sc_are_cradles : FnScope N_are_cradles ["rooms", "value"] (defScope s_are_cradles) := C8.fnScope_by (by decide +kernel)
theorem bd_are_cradles : ∀ (kV doc pm : Value) (an : Option Addr) (cdv ct : Value) (us : List Value), us.length = (["rooms", "value"] : List Str).length → bindArgs (PySem.W.fnOf "are_cradles" "are_cradles" (defArgs s_are_cradles) (defBody s_are_cradles) (defScope s_are_cradles) .none kV doc pm an cdv ct) ⟨us, []⟩ = pure ((["rooms", "value"] : List Str).zip us) :=
  fun _ _ _ _ _ _ us hl => match us, hl with | [_, _], _ => rfl
abbrev s_door_line : Stmt := (top 65)
abbrev N_door_line : List Str := ["door", "one", "other", "noise", "word"]
theorem sc_door_line : FnScope N_door_line ["door"] (defScope s_door_line) := C8.fnScope_by (by decide +kernel)
theorem bd_door_line : ∀ (kV doc pm : Value) (an : Option Addr) (cdv ct : Value) (us : List Value), us.length = (["door"] : List Str).length → bindArgs (PySem.W.fnOf "door_line" "door_line" (defArgs s_door_line) (defBody s_door_line) (defScope s_door_line) .none kV doc pm an cdv ct) ⟨us, []⟩ = pure ((["door"] : List Str).zip us) :=
  fun _ _ _ _ _ _ us hl => match us, hl with | [_], _ => rfl
abbrev s_House_init : Stmt := (inClass (top 72) 0)
abbrev N_House_init : List Str := ["self", "rooms", "doors", "floors", "cradles"]
theorem sc_House_init : FnScope N_House_init ["self", "rooms", "doors", "floors", "cradles"] (defScope s_House_init) := C8.fnScope_by (by decide +kernel)
theorem bd_House_init : ∀ (kV doc pm : Value) (an : Option Addr) (cdv ct : Value) (us : List Value), us.length = (["self", "rooms", "doors", "floors", "cradles"] : List Str).length → bindArgs (PySem.W.fnOf "__init__" "House.__init__" (defArgs s_House_init) (defBody s_House_init) (defScope s_House_init) .none kV doc pm an cdv ct) ⟨us, []⟩ = pure ((["self", "rooms", "doors", "floors", "cradles"] : List Str).zip us) :=
  fun _ _ _ _ _ _ us hl => match us, hl with | [_, _, _, _, _], _ => rfl
theorem bk_House_init : ∀ (T : Addr) (kV doc pm : Value) (an : Option Addr) (cdv ct : Value) (us its : List Value), us.length = (["self", "rooms", "doors", "floors", "cradles"] : List Str).length → its.length = 2 → ∃ k, bindArgs (PySem.W.fnOf "__init__" "House.__init__" (defArgs s_House_init) (defBody s_House_init) (defScope s_House_init) (.ref T) kV doc pm an cdv ct) ⟨us, []⟩ = seqItems? (.ref T) >>= k ∧ k (some its.toArray) = pure ((["self", "rooms", "doors", "floors", "cradles"] : List Str).zip us) :=
  fun _ _ _ _ _ _ _ us its h1 h2 => match us, its, h1, h2 with | [_, _, _, _, _], [_, _], _, _ => ⟨_, rfl, rfl⟩
theorem bkp_House_init : ∀ (T : Addr) (kV doc pm : Value) (an : Option Addr) (cdv ct : Value) (us its : List Value), us.length = 3 → its.length = 2 → ∃ k, bindArgs (PySem.W.fnOf "__init__" "House.__init__" (defArgs s_House_init) (defBody s_House_init) (defScope s_House_init) (.ref T) kV doc pm an cdv ct) ⟨us, []⟩ = seqItems? (.ref T) >>= k ∧ k (some its.toArray) = pure ((["self", "rooms", "doors", "floors", "cradles"] : List Str).zip (us ++ its)) :=
  fun _ _ _ _ _ _ _ us its h1 h2 => match us, its, h1, h2 with | [_, _, _], [_, _], _, _ => ⟨_, rfl, rfl⟩
theorem bkp1_House_init : ∀ (T : Addr) (kV doc pm : Value) (an : Option Addr) (cdv ct : Value) (us its : List Value), us.length = 4 → its.length = 2 → ∃ k, bindArgs (PySem.W.fnOf "__init__" "House.__init__" (defArgs s_House_init) (defBody s_House_init) (defScope s_House_init) (.ref T) kV doc pm an cdv ct) ⟨us, []⟩ = seqItems? (.ref T) >>= k ∧ k (some its.toArray) = pure ((["self", "rooms", "doors", "floors", "cradles"] : List Str).zip (us ++ its.drop 1)) :=
  fun _ _ _ _ _ _ _ us its h1 h2 => match us, its, h1, h2 with | [_, _, _, _], [_, _], _, _ => ⟨_, rfl, rfl⟩
abbrev s_House_str : Stmt := (inClass (top 72) 6)
abbrev N_House_str : List Str := ["self", "doors", "door", "floors", "room", "noise", "cradles"]
theorem sc_House_str : FnScope N_House_str ["self"] (defScope s_House_str) := C8.fnScope_by (by decide +kernel)
theorem bd_House_str : ∀ (kV doc pm : Value) (an : Option Addr) (cdv ct : Value) (us : List Value), us.length = (["self"] : List Str).length → bindArgs (PySem.W.fnOf "__str__" "House.__str__" (defArgs s_House_str) (defBody s_House_str) (defScope s_House_str) .none kV doc pm an cdv ct) ⟨us, []⟩ = pure ((["self"] : List Str).zip us) :=
  fun _ _ _ _ _ _ us hl => match us, hl with | [_], _ => rfl
abbrev s_is_sorted_name : Stmt := (top 32)
abbrev N_is_sorted_name : List Str := ["value"]
theorem sc_is_sorted_name : FnScope N_is_sorted_name ["value"] (defScope s_is_sorted_name) := C8.fnScope_by (by decide +kernel)
theorem bd_is_sorted_name : ∀ (kV doc pm : Value) (an : Option Addr) (cdv ct : Value) (us : List Value), us.length = (["value"] : List Str).length → bindArgs (PySem.W.fnOf "is_sorted_name" "is_sorted_name" (defArgs s_is_sorted_name) (defBody s_is_sorted_name) (defScope s_is_sorted_name) .none kV doc pm an cdv ct) ⟨us, []⟩ = pure ((["value"] : List Str).zip us) :=
  fun _ _ _ _ _ _ us hl => match us, hl with | [_], _ => rfl
abbrev s_are_sorts : Stmt := (top 33)
abbrev N_are_sorts : List Str := ["value", "pair"]
theorem sc_are_sorts : FnScope N_are_sorts ["value"] (defScope s_are_sorts) := C8.fnScope_by (by decide +kernel)
theorem bd_are_sorts : ∀ (kV doc pm : Value) (an : Option Addr) (cdv ct : Value) (us : List Value), us.length = (["value"] : List Str).length → bindArgs (PySem.W.fnOf "are_sorts" "are_sorts" (defArgs s_are_sorts) (defBody s_are_sorts) (defScope s_are_sorts) .none kV doc pm an cdv ct) ⟨us, []⟩ = pure ((["value"] : List Str).zip us) :=
  fun _ _ _ _ _ _ us hl => match us, hl with | [_], _ => rfl
abbrev s_Sleeper_init : Stmt := (inClass (top 37) 0)
abbrev N_Sleeper_init : List Str := ["self", "sorts", "stir", "doze", "near", "loud"]
theorem sc_Sleeper_init : FnScope N_Sleeper_init ["self", "sorts", "stir", "doze", "near", "loud"] (defScope s_Sleeper_init) := C8.fnScope_by (by decide +kernel)
theorem bd_Sleeper_init : ∀ (kV doc pm : Value) (an : Option Addr) (cdv ct : Value) (us : List Value), us.length = (["self", "sorts", "stir", "doze", "near", "loud"] : List Str).length → bindArgs (PySem.W.fnOf "__init__" "Sleeper.__init__" (defArgs s_Sleeper_init) (defBody s_Sleeper_init) (defScope s_Sleeper_init) .none kV doc pm an cdv ct) ⟨us, []⟩ = pure ((["self", "sorts", "stir", "doze", "near", "loud"] : List Str).zip us) :=
  fun _ _ _ _ _ _ us hl => match us, hl with | [_, _, _, _, _, _], _ => rfl
abbrev s_Sleeper_str : Stmt := (inClass (top 37) 3)
abbrev N_Sleeper_str : List Str := ["self", "head", "name", "sort"]
theorem sc_Sleeper_str : FnScope N_Sleeper_str ["self"] (defScope s_Sleeper_str) := C8.fnScope_by (by decide +kernel)
theorem bd_Sleeper_str : ∀ (kV doc pm : Value) (an : Option Addr) (cdv ct : Value) (us : List Value), us.length = (["self"] : List Str).length → bindArgs (PySem.W.fnOf "__str__" "Sleeper.__str__" (defArgs s_Sleeper_str) (defBody s_Sleeper_str) (defScope s_Sleeper_str) .none kV doc pm an cdv ct) ⟨us, []⟩ = pure ((["self"] : List Str).zip us) :=
  fun _ _ _ _ _ _ us hl => match us, hl with | [_], _ => rfl
abbrev s_first_state : Stmt := (top 38)
abbrev N_first_state : List Str := ["sleeper", "first"]
theorem sc_first_state : FnScope N_first_state ["sleeper", "first"] (defScope s_first_state) := C8.fnScope_by (by decide +kernel)
theorem bd_first_state : ∀ (kV doc pm : Value) (an : Option Addr) (cdv ct : Value) (us : List Value), us.length = (["sleeper", "first"] : List Str).length → bindArgs (PySem.W.fnOf "first_state" "first_state" (defArgs s_first_state) (defBody s_first_state) (defScope s_first_state) .none kV doc pm an cdv ct) ⟨us, []⟩ = pure ((["sleeper", "first"] : List Str).zip us) :=
  fun _ _ _ _ _ _ us hl => match us, hl with | [_, _], _ => rfl
abbrev s_heard : Stmt := (top 39)
abbrev N_heard : List Str := ["sleeper", "state", "noise", "sort"]
theorem sc_heard : FnScope N_heard ["sleeper", "state", "noise"] (defScope s_heard) := C8.fnScope_by (by decide +kernel)
theorem bd_heard : ∀ (kV doc pm : Value) (an : Option Addr) (cdv ct : Value) (us : List Value), us.length = (["sleeper", "state", "noise"] : List Str).length → bindArgs (PySem.W.fnOf "heard" "heard" (defArgs s_heard) (defBody s_heard) (defScope s_heard) .none kV doc pm an cdv ct) ⟨us, []⟩ = pure ((["sleeper", "state", "noise"] : List Str).zip us) :=
  fun _ _ _ _ _ _ us hl => match us, hl with | [_, _, _], _ => rfl
abbrev s_heard_all : Stmt := (top 40)
abbrev N_heard_all : List Str := ["sleeper", "state", "noises", "behind", "noise"]
theorem sc_heard_all : FnScope N_heard_all ["sleeper", "state", "noises"] (defScope s_heard_all) := C8.fnScope_by (by decide +kernel)
theorem bd_heard_all : ∀ (kV doc pm : Value) (an : Option Addr) (cdv ct : Value) (us : List Value), us.length = (["sleeper", "state", "noises"] : List Str).length → bindArgs (PySem.W.fnOf "heard_all" "heard_all" (defArgs s_heard_all) (defBody s_heard_all) (defScope s_heard_all) .none kV doc pm an cdv ct) ⟨us, []⟩ = pure ((["sleeper", "state", "noises"] : List Str).zip us) :=
  fun _ _ _ _ _ _ us hl => match us, hl with | [_, _, _], _ => rfl
abbrev s_ticked : Stmt := (top 41)
abbrev N_ticked : List Str := ["sleeper", "state"]
theorem sc_ticked : FnScope N_ticked ["sleeper", "state"] (defScope s_ticked) := C8.fnScope_by (by decide +kernel)
theorem bd_ticked : ∀ (kV doc pm : Value) (an : Option Addr) (cdv ct : Value) (us : List Value), us.length = (["sleeper", "state"] : List Str).length → bindArgs (PySem.W.fnOf "ticked" "ticked" (defArgs s_ticked) (defBody s_ticked) (defScope s_ticked) .none kV doc pm an cdv ct) ⟨us, []⟩ = pure ((["sleeper", "state"] : List Str).zip us) :=
  fun _ _ _ _ _ _ us hl => match us, hl with | [_, _], _ => rfl
abbrev s_hummed : Stmt := (top 42)
abbrev N_hummed : List Str := ["sleeper", "state", "word"]
theorem sc_hummed : FnScope N_hummed ["sleeper", "state", "word"] (defScope s_hummed) := C8.fnScope_by (by decide +kernel)
theorem bd_hummed : ∀ (kV doc pm : Value) (an : Option Addr) (cdv ct : Value) (us : List Value), us.length = (["sleeper", "state", "word"] : List Str).length → bindArgs (PySem.W.fnOf "hummed" "hummed" (defArgs s_hummed) (defBody s_hummed) (defScope s_hummed) .none kV doc pm an cdv ct) ⟨us, []⟩ = pure ((["sleeper", "state", "word"] : List Str).zip us) :=
  fun _ _ _ _ _ _ us hl => match us, hl with | [_, _, _], _ => rfl
abbrev s_dozing_anew : Stmt := (top 43)
abbrev N_dozing_anew : List Str := ["sleeper"]
theorem sc_dozing_anew : FnScope N_dozing_anew ["sleeper"] (defScope s_dozing_anew) := C8.fnScope_by (by decide +kernel)
theorem bd_dozing_anew : ∀ (kV doc pm : Value) (an : Option Addr) (cdv ct : Value) (us : List Value), us.length = (["sleeper"] : List Str).length → bindArgs (PySem.W.fnOf "dozing_anew" "dozing_anew" (defArgs s_dozing_anew) (defBody s_dozing_anew) (defScope s_dozing_anew) .none kV doc pm an cdv ct) ⟨us, []⟩ = pure ((["sleeper"] : List Str).zip us) :=
  fun _ _ _ _ _ _ us hl => match us, hl with | [_], _ => rfl
abbrev s_sort_of : Stmt := (top 44)
abbrev N_sort_of : List Str := ["sleeper", "noise", "name", "sort"]
theorem sc_sort_of : FnScope N_sort_of ["sleeper", "noise"] (defScope s_sort_of) := C8.fnScope_by (by decide +kernel)
theorem bd_sort_of : ∀ (kV doc pm : Value) (an : Option Addr) (cdv ct : Value) (us : List Value), us.length = (["sleeper", "noise"] : List Str).length → bindArgs (PySem.W.fnOf "sort_of" "sort_of" (defArgs s_sort_of) (defBody s_sort_of) (defScope s_sort_of) .none kV doc pm an cdv ct) ⟨us, []⟩ = pure ((["sleeper", "noise"] : List Str).zip us) :=
  fun _ _ _ _ _ _ us hl => match us, hl with | [_, _], _ => rfl
abbrev s_heard_asleep : Stmt := (top 45)
abbrev N_heard_asleep : List Str := ["sleeper", "state", "noise", "sort"]
theorem sc_heard_asleep : FnScope N_heard_asleep ["sleeper", "state", "noise", "sort"] (defScope s_heard_asleep) := C8.fnScope_by (by decide +kernel)
theorem bd_heard_asleep : ∀ (kV doc pm : Value) (an : Option Addr) (cdv ct : Value) (us : List Value), us.length = (["sleeper", "state", "noise", "sort"] : List Str).length → bindArgs (PySem.W.fnOf "heard_asleep" "heard_asleep" (defArgs s_heard_asleep) (defBody s_heard_asleep) (defScope s_heard_asleep) .none kV doc pm an cdv ct) ⟨us, []⟩ = pure ((["sleeper", "state", "noise", "sort"] : List Str).zip us) :=
  fun _ _ _ _ _ _ us hl => match us, hl with | [_, _, _, _], _ => rfl
abbrev s_heard_loud_dozing : Stmt := (top 46)
abbrev N_heard_loud_dozing : List Str := ["sleeper", "state"]
theorem sc_heard_loud_dozing : FnScope N_heard_loud_dozing ["sleeper", "state"] (defScope s_heard_loud_dozing) := C8.fnScope_by (by decide +kernel)
theorem bd_heard_loud_dozing : ∀ (kV doc pm : Value) (an : Option Addr) (cdv ct : Value) (us : List Value), us.length = (["sleeper", "state"] : List Str).length → bindArgs (PySem.W.fnOf "heard_loud_dozing" "heard_loud_dozing" (defArgs s_heard_loud_dozing) (defBody s_heard_loud_dozing) (defScope s_heard_loud_dozing) .none kV doc pm an cdv ct) ⟨us, []⟩ = pure ((["sleeper", "state"] : List Str).zip us) :=
  fun _ _ _ _ _ _ us hl => match us, hl with | [_, _], _ => rfl
abbrev s_is_person : Stmt := (top 48)
abbrev N_is_person : List Str := ["people", "word"]
theorem sc_is_person : FnScope N_is_person ["people", "word"] (defScope s_is_person) := C8.fnScope_by (by decide +kernel)
theorem bd_is_person : ∀ (kV doc pm : Value) (an : Option Addr) (cdv ct : Value) (us : List Value), us.length = (["people", "word"] : List Str).length → bindArgs (PySem.W.fnOf "is_person" "is_person" (defArgs s_is_person) (defBody s_is_person) (defScope s_is_person) .none kV doc pm an cdv ct) ⟨us, []⟩ = pure ((["people", "word"] : List Str).zip us) :=
  fun _ _ _ _ _ _ us hl => match us, hl with | [_, _], _ => rfl
abbrev s_is_event : Stmt := (top 49)
abbrev N_is_event : List Str := ["people", "value", "words"]
theorem sc_is_event : FnScope N_is_event ["people", "value"] (defScope s_is_event) := C8.fnScope_by (by decide +kernel)
theorem bd_is_event : ∀ (kV doc pm : Value) (an : Option Addr) (cdv ct : Value) (us : List Value), us.length = (["people", "value"] : List Str).length → bindArgs (PySem.W.fnOf "is_event" "is_event" (defArgs s_is_event) (defBody s_is_event) (defScope s_is_event) .none kV doc pm an cdv ct) ⟨us, []⟩ = pure ((["people", "value"] : List Str).zip us) :=
  fun _ _ _ _ _ _ us hl => match us, hl with | [_, _], _ => rfl
abbrev s_Walk_init : Stmt := (inClass (top 50) 0)
abbrev N_Walk_init : List Str := ["self", "guests", "nurses", "first", "events", "at", "event"]
theorem sc_Walk_init : FnScope N_Walk_init ["self", "guests", "nurses", "first", "events"] (defScope s_Walk_init) := C8.fnScope_by (by decide +kernel)
theorem bd_Walk_init : ∀ (kV doc pm : Value) (an : Option Addr) (cdv ct : Value) (us : List Value), us.length = (["self", "guests", "nurses", "first", "events"] : List Str).length → bindArgs (PySem.W.fnOf "__init__" "Walk.__init__" (defArgs s_Walk_init) (defBody s_Walk_init) (defScope s_Walk_init) .none kV doc pm an cdv ct) ⟨us, []⟩ = pure ((["self", "guests", "nurses", "first", "events"] : List Str).zip us) :=
  fun _ _ _ _ _ _ us hl => match us, hl with | [_, _, _, _, _], _ => rfl
theorem bk_Walk_init : ∀ (T : Addr) (kV doc pm : Value) (an : Option Addr) (cdv ct : Value) (us its : List Value), us.length = (["self", "guests", "nurses", "first", "events"] : List Str).length → its.length = 1 → ∃ k, bindArgs (PySem.W.fnOf "__init__" "Walk.__init__" (defArgs s_Walk_init) (defBody s_Walk_init) (defScope s_Walk_init) (.ref T) kV doc pm an cdv ct) ⟨us, []⟩ = seqItems? (.ref T) >>= k ∧ k (some its.toArray) = pure ((["self", "guests", "nurses", "first", "events"] : List Str).zip us) :=
  fun _ _ _ _ _ _ _ us its h1 h2 => match us, its, h1, h2 with | [_, _, _, _, _], [_], _, _ => ⟨_, rfl, rfl⟩
theorem bkp_Walk_init : ∀ (T : Addr) (kV doc pm : Value) (an : Option Addr) (cdv ct : Value) (us its : List Value), us.length = 4 → its.length = 1 → ∃ k, bindArgs (PySem.W.fnOf "__init__" "Walk.__init__" (defArgs s_Walk_init) (defBody s_Walk_init) (defScope s_Walk_init) (.ref T) kV doc pm an cdv ct) ⟨us, []⟩ = seqItems? (.ref T) >>= k ∧ k (some its.toArray) = pure ((["self", "guests", "nurses", "first", "events"] : List Str).zip (us ++ its)) :=
  fun _ _ _ _ _ _ _ us its h1 h2 => match us, its, h1, h2 with | [_, _, _, _], [_], _, _ => ⟨_, rfl, rfl⟩
abbrev s_Walk_further : Stmt := (inClass (top 50) 2)
abbrev N_Walk_further : List Str := ["self", "events"]
theorem sc_Walk_further : FnScope N_Walk_further ["self", "events"] (defScope s_Walk_further) := C8.fnScope_by (by decide +kernel)
theorem bd_Walk_further : ∀ (kV doc pm : Value) (an : Option Addr) (cdv ct : Value) (us : List Value), us.length = (["self", "events"] : List Str).length → bindArgs (PySem.W.fnOf "further" "Walk.further" (defArgs s_Walk_further) (defBody s_Walk_further) (defScope s_Walk_further) .none kV doc pm an cdv ct) ⟨us, []⟩ = pure ((["self", "events"] : List Str).zip us) :=
  fun _ _ _ _ _ _ us hl => match us, hl with | [_, _], _ => rfl
abbrev s_Walk_len : Stmt := (inClass (top 50) 3)
abbrev N_Walk_len : List Str := ["self"]
theorem sc_Walk_len : FnScope N_Walk_len ["self"] (defScope s_Walk_len) := C8.fnScope_by (by decide +kernel)
theorem bd_Walk_len : ∀ (kV doc pm : Value) (an : Option Addr) (cdv ct : Value) (us : List Value), us.length = (["self"] : List Str).length → bindArgs (PySem.W.fnOf "__len__" "Walk.__len__" (defArgs s_Walk_len) (defBody s_Walk_len) (defScope s_Walk_len) .none kV doc pm an cdv ct) ⟨us, []⟩ = pure ((["self"] : List Str).zip us) :=
  fun _ _ _ _ _ _ us hl => match us, hl with | [_], _ => rfl
abbrev s_beyond : Stmt := (top 21)
abbrev N_beyond : List Str := ["house", "number", "room", "one", "other", "noise"]
theorem sc_beyond : FnScope N_beyond ["house", "number", "room"] (defScope s_beyond) := C8.fnScope_by (by decide +kernel)
theorem bd_beyond : ∀ (kV doc pm : Value) (an : Option Addr) (cdv ct : Value) (us : List Value), us.length = (["house", "number", "room"] : List Str).length → bindArgs (PySem.W.fnOf "beyond" "beyond" (defArgs s_beyond) (defBody s_beyond) (defScope s_beyond) .none kV doc pm an cdv ct) ⟨us, []⟩ = pure ((["house", "number", "room"] : List Str).zip us) :=
  fun _ _ _ _ _ _ us hl => match us, hl with | [_, _, _], _ => rfl
abbrev s_floor_noise : Stmt := (top 22)
abbrev N_floor_noise : List Str := ["house", "room", "place", "noise"]
theorem sc_floor_noise : FnScope N_floor_noise ["house", "room"] (defScope s_floor_noise) := C8.fnScope_by (by decide +kernel)
theorem bd_floor_noise : ∀ (kV doc pm : Value) (an : Option Addr) (cdv ct : Value) (us : List Value), us.length = (["house", "room"] : List Str).length → bindArgs (PySem.W.fnOf "floor_noise" "floor_noise" (defArgs s_floor_noise) (defBody s_floor_noise) (defScope s_floor_noise) .none kV doc pm an cdv ct) ⟨us, []⟩ = pure ((["house", "room"] : List Str).zip us) :=
  fun _ _ _ _ _ _ us hl => match us, hl with | [_, _], _ => rfl
abbrev s_noises_of_step : Stmt := (top 23)
abbrev N_noises_of_step : List Str := ["house", "number", "room", "one", "other", "noise", "made"]
theorem sc_noises_of_step : FnScope N_noises_of_step ["house", "number", "room"] (defScope s_noises_of_step) := C8.fnScope_by (by decide +kernel)
theorem bd_noises_of_step : ∀ (kV doc pm : Value) (an : Option Addr) (cdv ct : Value) (us : List Value), us.length = (["house", "number", "room"] : List Str).length → bindArgs (PySem.W.fnOf "noises_of_step" "noises_of_step" (defArgs s_noises_of_step) (defBody s_noises_of_step) (defScope s_noises_of_step) .none kV doc pm an cdv ct) ⟨us, []⟩ = pure ((["house", "number", "room"] : List Str).zip us) :=
  fun _ _ _ _ _ _ us hl => match us, hl with | [_, _, _], _ => rfl
abbrev s_Night_init : Stmt := (inClass (top 52) 0)
abbrev N_Night_init : List Str := ["self", "house", "sleeper", "walk"]
theorem sc_Night_init : FnScope N_Night_init ["self", "house", "sleeper", "walk"] (defScope s_Night_init) := C8.fnScope_by (by decide +kernel)
theorem bd_Night_init : ∀ (kV doc pm : Value) (an : Option Addr) (cdv ct : Value) (us : List Value), us.length = (["self", "house", "sleeper", "walk"] : List Str).length → bindArgs (PySem.W.fnOf "__init__" "Night.__init__" (defArgs s_Night_init) (defBody s_Night_init) (defScope s_Night_init) .none kV doc pm an cdv ct) ⟨us, []⟩ = pure ((["self", "house", "sleeper", "walk"] : List Str).zip us) :=
  fun _ _ _ _ _ _ us hl => match us, hl with | [_, _, _, _], _ => rfl
abbrev s_Night_allows : Stmt := (inClass (top 52) 1)
abbrev N_Night_allows : List Str := ["self", "words", "person"]
theorem sc_Night_allows : FnScope N_Night_allows ["self", "words"] (defScope s_Night_allows) := C8.fnScope_by (by decide +kernel)
theorem bd_Night_allows : ∀ (kV doc pm : Value) (an : Option Addr) (cdv ct : Value) (us : List Value), us.length = (["self", "words"] : List Str).length → bindArgs (PySem.W.fnOf "allows" "Night.allows" (defArgs s_Night_allows) (defBody s_Night_allows) (defScope s_Night_allows) .none kV doc pm an cdv ct) ⟨us, []⟩ = pure ((["self", "words"] : List Str).zip us) :=
  fun _ _ _ _ _ _ us hl => match us, hl with | [_, _], _ => rfl
abbrev s_Night_follow : Stmt := (inClass (top 52) 2)
abbrev N_Night_follow : List Str := ["self", "words"]
theorem sc_Night_follow : FnScope N_Night_follow ["self", "words"] (defScope s_Night_follow) := C8.fnScope_by (by decide +kernel)
theorem bd_Night_follow : ∀ (kV doc pm : Value) (an : Option Addr) (cdv ct : Value) (us : List Value), us.length = (["self", "words"] : List Str).length → bindArgs (PySem.W.fnOf "follow" "Night.follow" (defArgs s_Night_follow) (defBody s_Night_follow) (defScope s_Night_follow) .none kV doc pm an cdv ct) ⟨us, []⟩ = pure ((["self", "words"] : List Str).zip us) :=
  fun _ _ _ _ _ _ us hl => match us, hl with | [_, _], _ => rfl
abbrev s_Night_tick : Stmt := (inClass (top 52) 3)
abbrev N_Night_tick : List Str := ["self"]
theorem sc_Night_tick : FnScope N_Night_tick ["self"] (defScope s_Night_tick) := C8.fnScope_by (by decide +kernel)
theorem bd_Night_tick : ∀ (kV doc pm : Value) (an : Option Addr) (cdv ct : Value) (us : List Value), us.length = (["self"] : List Str).length → bindArgs (PySem.W.fnOf "tick" "Night.tick" (defArgs s_Night_tick) (defBody s_Night_tick) (defScope s_Night_tick) .none kV doc pm an cdv ct) ⟨us, []⟩ = pure ((["self"] : List Str).zip us) :=
  fun _ _ _ _ _ _ us hl => match us, hl with | [_], _ => rfl
abbrev s_Night_step : Stmt := (inClass (top 52) 4)
abbrev N_Night_step : List Str := ["self", "person", "number", "room", "noises", "noise"]
theorem sc_Night_step : FnScope N_Night_step ["self", "person", "number"] (defScope s_Night_step) := C8.fnScope_by (by decide +kernel)
theorem bd_Night_step : ∀ (kV doc pm : Value) (an : Option Addr) (cdv ct : Value) (us : List Value), us.length = (["self", "person", "number"] : List Str).length → bindArgs (PySem.W.fnOf "step" "Night.step" (defArgs s_Night_step) (defBody s_Night_step) (defScope s_Night_step) .none kV doc pm an cdv ct) ⟨us, []⟩ = pure ((["self", "person", "number"] : List Str).zip us) :=
  fun _ _ _ _ _ _ us hl => match us, hl with | [_, _, _], _ => rfl
abbrev s_Played_init : Stmt := (inClass (top 51) 0)
abbrev N_Played_init : List Str := ["self", "state", "places", "ticks", "made", "woke"]
theorem sc_Played_init : FnScope N_Played_init ["self", "state", "places", "ticks", "made", "woke"] (defScope s_Played_init) := C8.fnScope_by (by decide +kernel)
theorem bd_Played_init : ∀ (kV doc pm : Value) (an : Option Addr) (cdv ct : Value) (us : List Value), us.length = (["self", "state", "places", "ticks", "made", "woke"] : List Str).length → bindArgs (PySem.W.fnOf "__init__" "Played.__init__" (defArgs s_Played_init) (defBody s_Played_init) (defScope s_Played_init) .none kV doc pm an cdv ct) ⟨us, []⟩ = pure ((["self", "state", "places", "ticks", "made", "woke"] : List Str).zip us) :=
  fun _ _ _ _ _ _ us hl => match us, hl with | [_, _, _, _, _, _], _ => rfl
abbrev s_play : Stmt := (top 53)
abbrev N_play : List Str := ["house", "sleeper", "walk", "night", "woke", "at", "event", "words"]
theorem sc_play : FnScope N_play ["house", "sleeper", "walk"] (defScope s_play) := C8.fnScope_by (by decide +kernel)
theorem bd_play : ∀ (kV doc pm : Value) (an : Option Addr) (cdv ct : Value) (us : List Value), us.length = (["house", "sleeper", "walk"] : List Str).length → bindArgs (PySem.W.fnOf "play" "play" (defArgs s_play) (defBody s_play) (defScope s_play) .none kV doc pm an cdv ct) ⟨us, []⟩ = pure ((["house", "sleeper", "walk"] : List Str).zip us) :=
  fun _ _ _ _ _ _ us hl => match us, hl with | [_, _, _], _ => rfl
abbrev s_led_on : Stmt := (top 55)
abbrev N_led_on : List Str := ["house", "scene", "event", "sleeper", "walk", "played", "longer"]
theorem sc_led_on : FnScope N_led_on ["house", "scene", "event"] (defScope s_led_on) := C8.fnScope_by (by decide +kernel)
theorem bd_led_on : ∀ (kV doc pm : Value) (an : Option Addr) (cdv ct : Value) (us : List Value), us.length = (["house", "scene", "event"] : List Str).length → bindArgs (PySem.W.fnOf "led_on" "led_on" (defArgs s_led_on) (defBody s_led_on) (defScope s_led_on) .none kV doc pm an cdv ct) ⟨us, []⟩ = pure ((["house", "scene", "event"] : List Str).zip us) :=
  fun _ _ _ _ _ _ us hl => match us, hl with | [_, _, _], _ => rfl
abbrev s_Live_init : Stmt := (inClass (top 56) 0)
abbrev N_Live_init : List Str := ["self", "house", "sleeper", "guests", "nurses", "first", "walk"]
theorem sc_Live_init : FnScope N_Live_init ["self", "house", "sleeper", "guests", "nurses", "first"] (defScope s_Live_init) := C8.fnScope_by (by decide +kernel)
theorem bd_Live_init : ∀ (kV doc pm : Value) (an : Option Addr) (cdv ct : Value) (us : List Value), us.length = (["self", "house", "sleeper", "guests", "nurses", "first"] : List Str).length → bindArgs (PySem.W.fnOf "__init__" "Live.__init__" (defArgs s_Live_init) (defBody s_Live_init) (defScope s_Live_init) .none kV doc pm an cdv ct) ⟨us, []⟩ = pure ((["self", "house", "sleeper", "guests", "nurses", "first"] : List Str).zip us) :=
  fun _ _ _ _ _ _ us hl => match us, hl with | [_, _, _, _, _, _], _ => rfl
abbrev s_Live_house : Stmt := (inClass (top 56) 1)
abbrev N_Live_house : List Str := ["self"]
theorem sc_Live_house : FnScope N_Live_house ["self"] (defScope s_Live_house) := C8.fnScope_by (by decide +kernel)
theorem bd_Live_house : ∀ (kV doc pm : Value) (an : Option Addr) (cdv ct : Value) (us : List Value), us.length = (["self"] : List Str).length → bindArgs (PySem.W.fnOf "house" "Live.house" (defArgs s_Live_house) (defBody s_Live_house) (defScope s_Live_house) .none kV doc pm an cdv ct) ⟨us, []⟩ = pure ((["self"] : List Str).zip us) :=
  fun _ _ _ _ _ _ us hl => match us, hl with | [_], _ => rfl
abbrev s_Live_sleeper : Stmt := (inClass (top 56) 2)
abbrev N_Live_sleeper : List Str := ["self"]
theorem sc_Live_sleeper : FnScope N_Live_sleeper ["self"] (defScope s_Live_sleeper) := C8.fnScope_by (by decide +kernel)
theorem bd_Live_sleeper : ∀ (kV doc pm : Value) (an : Option Addr) (cdv ct : Value) (us : List Value), us.length = (["self"] : List Str).length → bindArgs (PySem.W.fnOf "sleeper" "Live.sleeper" (defArgs s_Live_sleeper) (defBody s_Live_sleeper) (defScope s_Live_sleeper) .none kV doc pm an cdv ct) ⟨us, []⟩ = pure ((["self"] : List Str).zip us) :=
  fun _ _ _ _ _ _ us hl => match us, hl with | [_], _ => rfl
abbrev s_Live_walk : Stmt := (inClass (top 56) 3)
abbrev N_Live_walk : List Str := ["self"]
theorem sc_Live_walk : FnScope N_Live_walk ["self"] (defScope s_Live_walk) := C8.fnScope_by (by decide +kernel)
theorem bd_Live_walk : ∀ (kV doc pm : Value) (an : Option Addr) (cdv ct : Value) (us : List Value), us.length = (["self"] : List Str).length → bindArgs (PySem.W.fnOf "walk" "Live.walk" (defArgs s_Live_walk) (defBody s_Live_walk) (defScope s_Live_walk) .none kV doc pm an cdv ct) ⟨us, []⟩ = pure ((["self"] : List Str).zip us) :=
  fun _ _ _ _ _ _ us hl => match us, hl with | [_], _ => rfl
abbrev s_Live_played : Stmt := (inClass (top 56) 4)
abbrev N_Live_played : List Str := ["self"]
theorem sc_Live_played : FnScope N_Live_played ["self"] (defScope s_Live_played) := C8.fnScope_by (by decide +kernel)
theorem bd_Live_played : ∀ (kV doc pm : Value) (an : Option Addr) (cdv ct : Value) (us : List Value), us.length = (["self"] : List Str).length → bindArgs (PySem.W.fnOf "played" "Live.played" (defArgs s_Live_played) (defBody s_Live_played) (defScope s_Live_played) .none kV doc pm an cdv ct) ⟨us, []⟩ = pure ((["self"] : List Str).zip us) :=
  fun _ _ _ _ _ _ us hl => match us, hl with | [_], _ => rfl
abbrev s_Live_do : Stmt := (inClass (top 56) 5)
abbrev N_Live_do : List Str := ["self", "event", "scene"]
theorem sc_Live_do : FnScope N_Live_do ["self", "event"] (defScope s_Live_do) := C8.fnScope_by (by decide +kernel)
theorem bd_Live_do : ∀ (kV doc pm : Value) (an : Option Addr) (cdv ct : Value) (us : List Value), us.length = (["self", "event"] : List Str).length → bindArgs (PySem.W.fnOf "do" "Live.do" (defArgs s_Live_do) (defBody s_Live_do) (defScope s_Live_do) .none kV doc pm an cdv ct) ⟨us, []⟩ = pure ((["self", "event"] : List Str).zip us) :=
  fun _ _ _ _ _ _ us hl => match us, hl with | [_, _], _ => rfl
abbrev s_Live_become : Stmt := (inClass (top 56) 10)
abbrev N_Live_become : List Str := ["self", "scene"]
theorem sc_Live_become : FnScope N_Live_become ["self", "scene"] (defScope s_Live_become) := C8.fnScope_by (by decide +kernel)
theorem bd_Live_become : ∀ (kV doc pm : Value) (an : Option Addr) (cdv ct : Value) (us : List Value), us.length = (["self", "scene"] : List Str).length → bindArgs (PySem.W.fnOf "become" "Live.become" (defArgs s_Live_become) (defBody s_Live_become) (defScope s_Live_become) .none kV doc pm an cdv ct) ⟨us, []⟩ = pure ((["self", "scene"] : List Str).zip us) :=
  fun _ _ _ _ _ _ us hl => match us, hl with | [_, _], _ => rfl
abbrev s_Live_len : Stmt := (inClass (top 56) 11)
abbrev N_Live_len : List Str := ["self"]
theorem sc_Live_len : FnScope N_Live_len ["self"] (defScope s_Live_len) := C8.fnScope_by (by decide +kernel)
theorem bd_Live_len : ∀ (kV doc pm : Value) (an : Option Addr) (cdv ct : Value) (us : List Value), us.length = (["self"] : List Str).length → bindArgs (PySem.W.fnOf "__len__" "Live.__len__" (defArgs s_Live_len) (defBody s_Live_len) (defScope s_Live_len) .none kV doc pm an cdv ct) ⟨us, []⟩ = pure ((["self"] : List Str).zip us) :=
  fun _ _ _ _ _ _ us hl => match us, hl with | [_], _ => rfl
abbrev s_Live_several : Stmt := (inClass (top 56) 6)
abbrev N_Live_several : List Str := ["self", "events", "scene", "states", "at", "event", "error"]
theorem sc_Live_several : FnScope N_Live_several ["self", "events"] (defScope s_Live_several) := C8.fnScope_by (by decide +kernel)
theorem bd_Live_several : ∀ (kV doc pm : Value) (an : Option Addr) (cdv ct : Value) (us : List Value), us.length = (["self", "events"] : List Str).length → bindArgs (PySem.W.fnOf "several" "Live.several" (defArgs s_Live_several) (defBody s_Live_several) (defScope s_Live_several) .none kV doc pm an cdv ct) ⟨us, []⟩ = pure ((["self", "events"] : List Str).zip us) :=
  fun _ _ _ _ _ _ us hl => match us, hl with | [_, _], _ => rfl
abbrev s_Live_change : Stmt := (inClass (top 56) 7)
abbrev N_Live_change : List Str := ["self", "sleeper"]
theorem sc_Live_change : FnScope N_Live_change ["self", "sleeper"] (defScope s_Live_change) := C8.fnScope_by (by decide +kernel)
theorem bd_Live_change : ∀ (kV doc pm : Value) (an : Option Addr) (cdv ct : Value) (us : List Value), us.length = (["self", "sleeper"] : List Str).length → bindArgs (PySem.W.fnOf "change" "Live.change" (defArgs s_Live_change) (defBody s_Live_change) (defScope s_Live_change) .none kV doc pm an cdv ct) ⟨us, []⟩ = pure ((["self", "sleeper"] : List Str).zip us) :=
  fun _ _ _ _ _ _ us hl => match us, hl with | [_, _], _ => rfl
abbrev s_Live_undo : Stmt := (inClass (top 56) 8)
abbrev N_Live_undo : List Str := ["self"]
theorem sc_Live_undo : FnScope N_Live_undo ["self"] (defScope s_Live_undo) := C8.fnScope_by (by decide +kernel)
theorem bd_Live_undo : ∀ (kV doc pm : Value) (an : Option Addr) (cdv ct : Value) (us : List Value), us.length = (["self"] : List Str).length → bindArgs (PySem.W.fnOf "undo" "Live.undo" (defArgs s_Live_undo) (defBody s_Live_undo) (defScope s_Live_undo) .none kV doc pm an cdv ct) ⟨us, []⟩ = pure ((["self"] : List Str).zip us) :=
  fun _ _ _ _ _ _ us hl => match us, hl with | [_], _ => rfl
abbrev s_deal : Stmt := (top 74)
abbrev N_deal : List Str := ["_law_script", "_law_base", "_law_cells", "_law_cell", "_law_mixed_here", "_law_great"]
theorem sc_deal : FnScope N_deal ["_law_script", "_law_base"] (defScope s_deal) := C8.fnScope_by (by decide +kernel)
theorem bd_deal : ∀ (kV doc pm : Value) (an : Option Addr) (cdv ct : Value) (us : List Value), us.length = (["_law_script", "_law_base"] : List Str).length → bindArgs (PySem.W.fnOf "_law_deal" "_law_deal" (defArgs s_deal) (defBody s_deal) (defScope s_deal) .none kV doc pm an cdv ct) ⟨us, []⟩ = pure ((["_law_script", "_law_base"] : List Str).zip us) :=
  fun _ _ _ _ _ _ us hl => match us, hl with | [_, _], _ => rfl
abbrev s_draw : Stmt := (top 75)
abbrev N_draw : List Str := ["_law_deal_here", "_law_many", "_law_digit", "_law_first", "_law_second"]
theorem sc_draw : FnScope N_draw ["_law_deal_here", "_law_many"] (defScope s_draw) := C8.fnScope_by (by decide +kernel)
theorem bd_draw : ∀ (kV doc pm : Value) (an : Option Addr) (cdv ct : Value) (us : List Value), us.length = (["_law_deal_here", "_law_many"] : List Str).length → bindArgs (PySem.W.fnOf "_law_draw" "_law_draw" (defArgs s_draw) (defBody s_draw) (defScope s_draw) .none kV doc pm an cdv ct) ⟨us, []⟩ = pure ((["_law_deal_here", "_law_many"] : List Str).zip us) :=
  fun _ _ _ _ _ _ us hl => match us, hl with | [_, _], _ => rfl
abbrev s_pick : Stmt := (top 76)
abbrev N_pick : List Str := ["_law_deal_here", "_law_some"]
theorem sc_pick : FnScope N_pick ["_law_deal_here", "_law_some"] (defScope s_pick) := C8.fnScope_by (by decide +kernel)
theorem bd_pick : ∀ (kV doc pm : Value) (an : Option Addr) (cdv ct : Value) (us : List Value), us.length = (["_law_deal_here", "_law_some"] : List Str).length → bindArgs (PySem.W.fnOf "_law_pick" "_law_pick" (defArgs s_pick) (defBody s_pick) (defScope s_pick) .none kV doc pm an cdv ct) ⟨us, []⟩ = pure ((["_law_deal_here", "_law_some"] : List Str).zip us) :=
  fun _ _ _ _ _ _ us hl => match us, hl with | [_, _], _ => rfl
abbrev s_mixed : Stmt := (top 77)
abbrev N_mixed : List Str := ["_law_deal_here", "_law_some", "_law_left", "_law_found"]
theorem sc_mixed : FnScope N_mixed ["_law_deal_here", "_law_some"] (defScope s_mixed) := C8.fnScope_by (by decide +kernel)
theorem bd_mixed : ∀ (kV doc pm : Value) (an : Option Addr) (cdv ct : Value) (us : List Value), us.length = (["_law_deal_here", "_law_some"] : List Str).length → bindArgs (PySem.W.fnOf "_law_mixed" "_law_mixed" (defArgs s_mixed) (defBody s_mixed) (defScope s_mixed) .none kV doc pm an cdv ct) ⟨us, []⟩ = pure ((["_law_deal_here", "_law_some"] : List Str).zip us) :=
  fun _ _ _ _ _ _ us hl => match us, hl with | [_, _], _ => rfl
abbrev s_words : Stmt := (top 78)
abbrev N_words : List Str := ["_law_deal_here", "_law_many"]
theorem sc_words : FnScope N_words ["_law_deal_here", "_law_many"] (defScope s_words) := C8.fnScope_by (by decide +kernel)
theorem bd_words : ∀ (kV doc pm : Value) (an : Option Addr) (cdv ct : Value) (us : List Value), us.length = (["_law_deal_here", "_law_many"] : List Str).length → bindArgs (PySem.W.fnOf "_law_words" "_law_words" (defArgs s_words) (defBody s_words) (defScope s_words) .none kV doc pm an cdv ct) ⟨us, []⟩ = pure ((["_law_deal_here", "_law_many"] : List Str).zip us) :=
  fun _ _ _ _ _ _ us hl => match us, hl with | [_, _], _ => rfl
abbrev s_drawn_house : Stmt := (top 79)
abbrev N_drawn_house : List Str := ["_law_deal_here", "_law_rooms", "_law_doors", "_law_words_here", "_law_many", "_law_found", "_law_other", "_law_pair", "_law_more", "_law_floors", "_law_room", "_law_cradles"]
theorem sc_drawn_house : FnScope N_drawn_house ["_law_deal_here", "_law_rooms", "_law_doors", "_law_words_here"] (defScope s_drawn_house) := C8.fnScope_by (by decide +kernel)
theorem bd_drawn_house : ∀ (kV doc pm : Value) (an : Option Addr) (cdv ct : Value) (us : List Value), us.length = (["_law_deal_here", "_law_rooms", "_law_doors", "_law_words_here"] : List Str).length → bindArgs (PySem.W.fnOf "_law_drawn_house" "_law_drawn_house" (defArgs s_drawn_house) (defBody s_drawn_house) (defScope s_drawn_house) .none kV doc pm an cdv ct) ⟨us, []⟩ = pure ((["_law_deal_here", "_law_rooms", "_law_doors", "_law_words_here"] : List Str).zip us) :=
  fun _ _ _ _ _ _ us hl => match us, hl with | [_, _, _, _], _ => rfl
abbrev s_house_of : Stmt := (top 80)
abbrev N_house_of : List Str := ["_law_one"]
theorem sc_house_of : FnScope N_house_of ["_law_one"] (defScope s_house_of) := C8.fnScope_by (by decide +kernel)
theorem bd_house_of : ∀ (kV doc pm : Value) (an : Option Addr) (cdv ct : Value) (us : List Value), us.length = (["_law_one"] : List Str).length → bindArgs (PySem.W.fnOf "_law_house_of" "_law_house_of" (defArgs s_house_of) (defBody s_house_of) (defScope s_house_of) .none kV doc pm an cdv ct) ⟨us, []⟩ = pure ((["_law_one"] : List Str).zip us) :=
  fun _ _ _ _ _ _ us hl => match us, hl with | [_], _ => rfl
abbrev s_drawn_sleeper : Stmt := (top 81)
abbrev N_drawn_sleeper : List Str := ["_law_deal_here", "_law_words_here", "_law_sorts", "_law_word", "_law_sort", "_law_loud"]
theorem sc_drawn_sleeper : FnScope N_drawn_sleeper ["_law_deal_here", "_law_words_here"] (defScope s_drawn_sleeper) := C8.fnScope_by (by decide +kernel)
theorem bd_drawn_sleeper : ∀ (kV doc pm : Value) (an : Option Addr) (cdv ct : Value) (us : List Value), us.length = (["_law_deal_here", "_law_words_here"] : List Str).length → bindArgs (PySem.W.fnOf "_law_drawn_sleeper" "_law_drawn_sleeper" (defArgs s_drawn_sleeper) (defBody s_drawn_sleeper) (defScope s_drawn_sleeper) .none kV doc pm an cdv ct) ⟨us, []⟩ = pure ((["_law_deal_here", "_law_words_here"] : List Str).zip us) :=
  fun _ _ _ _ _ _ us hl => match us, hl with | [_, _], _ => rfl
abbrev s_sleeper_of : Stmt := (top 82)
abbrev N_sleeper_of : List Str := ["_law_one"]
theorem sc_sleeper_of : FnScope N_sleeper_of ["_law_one"] (defScope s_sleeper_of) := C8.fnScope_by (by decide +kernel)
theorem bd_sleeper_of : ∀ (kV doc pm : Value) (an : Option Addr) (cdv ct : Value) (us : List Value), us.length = (["_law_one"] : List Str).length → bindArgs (PySem.W.fnOf "_law_sleeper_of" "_law_sleeper_of" (defArgs s_sleeper_of) (defBody s_sleeper_of) (defScope s_sleeper_of) .none kV doc pm an cdv ct) ⟨us, []⟩ = pure ((["_law_one"] : List Str).zip us) :=
  fun _ _ _ _ _ _ us hl => match us, hl with | [_], _ => rfl
abbrev s_look : Stmt := (top 83)
abbrev N_look : List Str := ["_law_live", "_law_told", "_law_walk", "_law_seen"]
theorem sc_look : FnScope N_look ["_law_live"] (defScope s_look) := C8.fnScope_by (by decide +kernel)
theorem bd_look : ∀ (kV doc pm : Value) (an : Option Addr) (cdv ct : Value) (us : List Value), us.length = (["_law_live"] : List Str).length → bindArgs (PySem.W.fnOf "_law_look" "_law_look" (defArgs s_look) (defBody s_look) (defScope s_look) .none kV doc pm an cdv ct) ⟨us, []⟩ = pure ((["_law_live"] : List Str).zip us) :=
  fun _ _ _ _ _ _ us hl => match us, hl with | [_], _ => rfl
abbrev s_step : Stmt := (top 84)
abbrev N_step : List Str := ["_law_deal_here", "_law_live", "_law_home", "_law_sleepers", "_law_form", "_law_room", "_law_some", "_law_door"]
theorem sc_step : FnScope N_step ["_law_deal_here", "_law_live", "_law_home", "_law_sleepers"] (defScope s_step) := C8.fnScope_by (by decide +kernel)
theorem bd_step : ∀ (kV doc pm : Value) (an : Option Addr) (cdv ct : Value) (us : List Value), us.length = (["_law_deal_here", "_law_live", "_law_home", "_law_sleepers"] : List Str).length → bindArgs (PySem.W.fnOf "_law_step" "_law_step" (defArgs s_step) (defBody s_step) (defScope s_step) .none kV doc pm an cdv ct) ⟨us, []⟩ = pure ((["_law_deal_here", "_law_live", "_law_home", "_law_sleepers"] : List Str).zip us) :=
  fun _ _ _ _ _ _ us hl => match us, hl with | [_, _, _, _], _ => rfl
abbrev s_is_played : Stmt := (top 85)
abbrev N_is_played : List Str := ["_law_live", "_law_told", "_law_due"]
theorem sc_is_played : FnScope N_is_played ["_law_live"] (defScope s_is_played) := C8.fnScope_by (by decide +kernel)
theorem bd_is_played : ∀ (kV doc pm : Value) (an : Option Addr) (cdv ct : Value) (us : List Value), us.length = (["_law_live"] : List Str).length → bindArgs (PySem.W.fnOf "_law_is_played" "_law_is_played" (defArgs s_is_played) (defBody s_is_played) (defScope s_is_played) .none kV doc pm an cdv ct) ⟨us, []⟩ = pure ((["_law_live"] : List Str).zip us) :=
  fun _ _ _ _ _ _ us hl => match us, hl with | [_], _ => rfl
abbrev s_law : Stmt := (top 86)
abbrev N_law : List Str := ["_law_script", "_law_deal_here", "_law_turn", "_law_words_here", "_law_home", "_law_sleepers", "_law_k", "_law_live", "_law_past", "_law_more", "_law_seen", "_law_told", "_law_ahead"]
theorem sc_law : FnScope N_law ["_law_script"] (defScope s_law) := C8.fnScope_by (by decide +kernel)
theorem bd_law : ∀ (kV doc pm : Value) (an : Option Addr) (cdv ct : Value) (us : List Value), us.length = (["_law_script"] : List Str).length → bindArgs (PySem.W.fnOf "law" "law" (defArgs s_law) (defBody s_law) (defScope s_law) .none kV doc pm an cdv ct) ⟨us, []⟩ = pure ((["_law_script"] : List Str).zip us) :=
  fun _ _ _ _ _ _ us hl => match us, hl with | [_], _ => rfl
/-- what the module's names stand for -/
structure Tx (K : PySem.W.Frag) (mg : Str → Option Value) : Prop where
  n_len : mg "len" = none
  n_set : mg "set" = none
  n_abs : mg "abs" = none
  n_min : mg "min" = none
  n_int : mg "int" = none
  n_str : mg "str" = none
  n_bool : mg "bool" = none
  n_list : mg "list" = none
  n_tuple : mg "tuple" = none
  n_dict : mg "dict" = none
  n_isinstance : mg "isinstance" = none
  n_all : mg "all" = none
  n_sorted : mg "sorted" = none
  n_range : mg "range" = none
  n_repr : mg "repr" = none
  n_enumerate : mg "enumerate" = none
  s_DIGITS : ∃ t, mg "DIGITS" = some (.str "0123456789" t)
  s_LETTERS : ∃ t, mg "LETTERS" = some (.str "abcdefghijklmnopqrstuvwxyz" t)
  g_SORTS : mg "SORTS" = some (.ref (He.ga K "SORTS"))
  t_SORTS : ∀ H, SqT K H (He.ga K "SORTS") [.str "faint", .str "loud", .str "soft", .str "sudden"]
  g_LOUD_RULES : mg "LOUD_RULES" = some (.ref (He.ga K "LOUD_RULES"))
  t_LOUD_RULES : ∀ H, SqT K H (He.ga K "LOUD_RULES") [.str "again", .str "nothing", .str "wake"]
  g_UP : mg "UP" = some (.ref (He.ga K "UP"))
  t_UP : ∀ H, SqT K H (He.ga K "UP") [.str "up"]
  g_ASLEEP : mg "ASLEEP" = some (.ref (He.ga K "ASLEEP"))
  t_ASLEEP : ∀ H, SqT K H (He.ga K "ASLEEP") [.str "asleep"]
  g_WOKEN : mg "WOKEN" = some (.ref (He.ga K "WOKEN"))
  t_WOKEN : ∀ H, SqT K H (He.ga K "WOKEN") [.str "woken"]
  g_FIRSTS : mg "FIRSTS" = some (.ref (He.ga K "FIRSTS"))
  t_FIRSTS : ∀ H, SqT K H (He.ga K "FIRSTS") [.str "asleep", .str "dozing", .str "up"]
  g_HUMMED : mg "HUMMED" = some (.ref (He.ga K "HUMMED"))
  t_HUMMED : ∀ H, SqT K H (He.ga K "HUMMED") [.str "doze", .str "up"]
  d_0 : ∀ H, SqT K H (He.dflAt ("Walk", some "__init__") 0 K) []
  g_House : mg "House" = some (.ref (He.ga K "House"))
  i_anyH : ∀ t ∈ anyTy, PySem.W.kitOne K (.type t) (.ref (He.ga K "House")) = some false
  k_classH : PySem.W.findIn K (.ref (He.ga K "House")) "__class__" = some (some (.builtin "object.__class__"))
  k_objH : PySem.W.mroIn K (He.ga K "House") (.type "object") = some true
  k_neH : PySem.W.findIn K (.ref (He.ga K "House")) "__ne__" = some (some (.builtin "object.__ne__"))
  g_Sleeper : mg "Sleeper" = some (.ref (He.ga K "Sleeper"))
  i_anyS : ∀ t ∈ anyTy, PySem.W.kitOne K (.type t) (.ref (He.ga K "Sleeper")) = some false
  k_classS : PySem.W.findIn K (.ref (He.ga K "Sleeper")) "__class__" = some (some (.builtin "object.__class__"))
  k_objS : PySem.W.mroIn K (He.ga K "Sleeper") (.type "object") = some true
  k_neS : PySem.W.findIn K (.ref (He.ga K "Sleeper")) "__ne__" = some (some (.builtin "object.__ne__"))
  k_get : PySem.W.specialIn K (.builtin "object.__class__") "__get__" = some (some (.builtin "getset_descriptor.__get__"))
  k_takes : PySem.W.takesIn K (.builtin "object.__class__") = some true
  cls_House : Cls K (He.ga K "House")
  a_rooms : NoAttr K (He.ga K "House") "rooms"
  a_doors : NoAttr K (He.ga K "House") "doors"
  a_floors : NoAttr K (He.ga K "House") "floors"
  a_cradles : NoAttr K (He.ga K "House") "cradles"
  cls_Sleeper : Cls K (He.ga K "Sleeper")
  a_sorts : NoAttr K (He.ga K "Sleeper") "sorts"
  a_stir : NoAttr K (He.ga K "Sleeper") "stir"
  a_doze : NoAttr K (He.ga K "Sleeper") "doze"
  a_near : NoAttr K (He.ga K "Sleeper") "near"
  a_loud : NoAttr K (He.ga K "Sleeper") "loud"
  cls_Walk : Cls K (He.ga K "Walk")
  a_guests : NoAttr K (He.ga K "Walk") "guests"
  a_nurses : NoAttr K (He.ga K "Walk") "nurses"
  a_first : NoAttr K (He.ga K "Walk") "first"
  a_events : NoAttr K (He.ga K "Walk") "events"
  cls_Night : Cls K (He.ga K "Night")
  b_own_house : NoAttr K (He.ga K "Night") "own_house"
  b_own_sleeper : NoAttr K (He.ga K "Night") "own_sleeper"
  b_guests : NoAttr K (He.ga K "Night") "guests"
  b_state : NoAttr K (He.ga K "Night") "state"
  b_places : NoAttr K (He.ga K "Night") "places"
  b_moved : NoAttr K (He.ga K "Night") "moved"
  b_ticks : NoAttr K (He.ga K "Night") "ticks"
  b_made : NoAttr K (He.ga K "Night") "made"
  cls_Played : Cls K (He.ga K "Played")
  p_state : NoAttr K (He.ga K "Played") "state"
  p_places : NoAttr K (He.ga K "Played") "places"
  p_ticks : NoAttr K (He.ga K "Played") "ticks"
  p_made : NoAttr K (He.ga K "Played") "made"
  p_woke : NoAttr K (He.ga K "Played") "woke"
  cls_Live : Cls K (He.ga K "Live")
  l_own_house : NoAttr K (He.ga K "Live") "own_house"
  l_scene : NoAttr K (He.ga K "Live") "scene"
  l_past : NoAttr K (He.ga K "Live") "past"
end Lw
set_option Elab.async false
set_option linter.all false
set_option maxRecDepth 100000
set_option maxHeartbeats 0
namespace Lw
open PySem PySem.Spec PyProof.Rows L2 Hb
/-! ### the head: facts by names, the run -/
def d_is_whole : He.DefD := ⟨("is_whole", none), "is_whole", "is_whole", defArgs s_is_whole, defBody s_is_whole, defScope s_is_whole, [], []⟩
def d_is_number : He.DefD := ⟨("is_number", none), "is_number", "is_number", defArgs s_is_number, defBody s_is_number, defScope s_is_number, [], []⟩
def d_is_positive : He.DefD := ⟨("is_positive", none), "is_positive", "is_positive", defArgs s_is_positive, defBody s_is_positive, defScope s_is_positive, [], []⟩
def d_is_name : He.DefD := ⟨("is_name", none), "is_name", "is_name", defArgs s_is_name, defBody s_is_name, defScope s_is_name, [], []⟩
def d_is_row : He.DefD := ⟨("is_row", none), "is_row", "is_row", defArgs s_is_row, defBody s_is_row, defScope s_is_row, [], []⟩
def d_is_tuple_of : He.DefD := ⟨("is_tuple_of", none), "is_tuple_of", "is_tuple_of", defArgs s_is_tuple_of, defBody s_is_tuple_of, defScope s_is_tuple_of, [], []⟩
def d_are_unlike : He.DefD := ⟨("are_unlike", none), "are_unlike", "are_unlike", defArgs s_are_unlike, defBody s_are_unlike, defScope s_are_unlike, [], []⟩
def d_is_numeral : He.DefD := ⟨("is_numeral", none), "is_numeral", "is_numeral", defArgs s_is_numeral, defBody s_is_numeral, defScope s_is_numeral, [], []⟩
def d_is_room : He.DefD := ⟨("is_room", none), "is_room", "is_room", defArgs s_is_room, defBody s_is_room, defScope s_is_room, [], []⟩
def d_is_door : He.DefD := ⟨("is_door", none), "is_door", "is_door", defArgs s_is_door, defBody s_is_door, defScope s_is_door, [], []⟩
def d_is_floor : He.DefD := ⟨("is_floor", none), "is_floor", "is_floor", defArgs s_is_floor, defBody s_is_floor, defScope s_is_floor, [], []⟩
def d_are_doors : He.DefD := ⟨("are_doors", none), "are_doors", "are_doors", defArgs s_are_doors, defBody s_are_doors, defScope s_are_doors, [], []⟩
def d_are_floors : He.DefD := ⟨("are_floors", none), "are_floors", "are_floors", defArgs s_are_floors, defBody s_are_floors, defScope s_are_floors, [], []⟩
def d_are_cradles : He.DefD := ⟨("are_cradles", none), "are_cradles", "are_cradles", defArgs s_are_cradles, defBody s_are_cradles, defScope s_are_cradles, [], []⟩
def d_door_line : He.DefD := ⟨("door_line", none), "door_line", "door_line", defArgs s_door_line, defBody s_door_line, defScope s_door_line, [], []⟩
def d_House_init : He.DefD := ⟨("House", some "__init__"), "__init__", "House.__init__", defArgs s_House_init, defBody s_House_init, defScope s_House_init, [.adr (He.dflAt ("House", some "__init__") 0), .adr (He.dflAt ("House", some "__init__") 1)], []⟩
def d_House_str : He.DefD := ⟨("House", some "__str__"), "__str__", "House.__str__", defArgs s_House_str, defBody s_House_str, defScope s_House_str, [], []⟩
def d_is_sorted_name : He.DefD := ⟨("is_sorted_name", none), "is_sorted_name", "is_sorted_name", defArgs s_is_sorted_name, defBody s_is_sorted_name, defScope s_is_sorted_name, [], []⟩
def d_are_sorts : He.DefD := ⟨("are_sorts", none), "are_sorts", "are_sorts", defArgs s_are_sorts, defBody s_are_sorts, defScope s_are_sorts, [], []⟩
def d_Sleeper_init : He.DefD := ⟨("Sleeper", some "__init__"), "__init__", "Sleeper.__init__", defArgs s_Sleeper_init, defBody s_Sleeper_init, defScope s_Sleeper_init, [], []⟩
def d_Sleeper_str : He.DefD := ⟨("Sleeper", some "__str__"), "__str__", "Sleeper.__str__", defArgs s_Sleeper_str, defBody s_Sleeper_str, defScope s_Sleeper_str, [], []⟩
def d_first_state : He.DefD := ⟨("first_state", none), "first_state", "first_state", defArgs s_first_state, defBody s_first_state, defScope s_first_state, [], []⟩
def d_heard : He.DefD := ⟨("heard", none), "heard", "heard", defArgs s_heard, defBody s_heard, defScope s_heard, [], []⟩
def d_heard_all : He.DefD := ⟨("heard_all", none), "heard_all", "heard_all", defArgs s_heard_all, defBody s_heard_all, defScope s_heard_all, [], []⟩
def d_ticked : He.DefD := ⟨("ticked", none), "ticked", "ticked", defArgs s_ticked, defBody s_ticked, defScope s_ticked, [], []⟩
def d_hummed : He.DefD := ⟨("hummed", none), "hummed", "hummed", defArgs s_hummed, defBody s_hummed, defScope s_hummed, [], []⟩
def d_dozing_anew : He.DefD := ⟨("dozing_anew", none), "dozing_anew", "dozing_anew", defArgs s_dozing_anew, defBody s_dozing_anew, defScope s_dozing_anew, [], []⟩
def d_sort_of : He.DefD := ⟨("sort_of", none), "sort_of", "sort_of", defArgs s_sort_of, defBody s_sort_of, defScope s_sort_of, [], []⟩
def d_heard_asleep : He.DefD := ⟨("heard_asleep", none), "heard_asleep", "heard_asleep", defArgs s_heard_asleep, defBody s_heard_asleep, defScope s_heard_asleep, [], []⟩
def d_heard_loud_dozing : He.DefD := ⟨("heard_loud_dozing", none), "heard_loud_dozing", "heard_loud_dozing", defArgs s_heard_loud_dozing, defBody s_heard_loud_dozing, defScope s_heard_loud_dozing, [], []⟩
def d_is_person : He.DefD := ⟨("is_person", none), "is_person", "is_person", defArgs s_is_person, defBody s_is_person, defScope s_is_person, [], []⟩
def d_is_event : He.DefD := ⟨("is_event", none), "is_event", "is_event", defArgs s_is_event, defBody s_is_event, defScope s_is_event, [], []⟩
def d_Walk_init : He.DefD := ⟨("Walk", some "__init__"), "__init__", "Walk.__init__", defArgs s_Walk_init, defBody s_Walk_init, defScope s_Walk_init, [.adr (He.dflAt ("Walk", some "__init__") 0)], []⟩
def d_Walk_further : He.DefD := ⟨("Walk", some "further"), "further", "Walk.further", defArgs s_Walk_further, defBody s_Walk_further, defScope s_Walk_further, [], []⟩
def d_Walk_len : He.DefD := ⟨("Walk", some "__len__"), "__len__", "Walk.__len__", defArgs s_Walk_len, defBody s_Walk_len, defScope s_Walk_len, [], []⟩
def d_beyond : He.DefD := ⟨("beyond", none), "beyond", "beyond", defArgs s_beyond, defBody s_beyond, defScope s_beyond, [], []⟩
def d_floor_noise : He.DefD := ⟨("floor_noise", none), "floor_noise", "floor_noise", defArgs s_floor_noise, defBody s_floor_noise, defScope s_floor_noise, [], []⟩
def d_noises_of_step : He.DefD := ⟨("noises_of_step", none), "noises_of_step", "noises_of_step", defArgs s_noises_of_step, defBody s_noises_of_step, defScope s_noises_of_step, [], []⟩
def d_Night_init : He.DefD := ⟨("Night", some "__init__"), "__init__", "Night.__init__", defArgs s_Night_init, defBody s_Night_init, defScope s_Night_init, [], []⟩
def d_Night_allows : He.DefD := ⟨("Night", some "allows"), "allows", "Night.allows", defArgs s_Night_allows, defBody s_Night_allows, defScope s_Night_allows, [], []⟩
def d_Night_follow : He.DefD := ⟨("Night", some "follow"), "follow", "Night.follow", defArgs s_Night_follow, defBody s_Night_follow, defScope s_Night_follow, [], []⟩
def d_Night_tick : He.DefD := ⟨("Night", some "tick"), "tick", "Night.tick", defArgs s_Night_tick, defBody s_Night_tick, defScope s_Night_tick, [], []⟩
def d_Night_step : He.DefD := ⟨("Night", some "step"), "step", "Night.step", defArgs s_Night_step, defBody s_Night_step, defScope s_Night_step, [], []⟩
def d_Played_init : He.DefD := ⟨("Played", some "__init__"), "__init__", "Played.__init__", defArgs s_Played_init, defBody s_Played_init, defScope s_Played_init, [], []⟩
def d_play : He.DefD := ⟨("play", none), "play", "play", defArgs s_play, defBody s_play, defScope s_play, [], []⟩
def d_led_on : He.DefD := ⟨("led_on", none), "led_on", "led_on", defArgs s_led_on, defBody s_led_on, defScope s_led_on, [], []⟩
def d_Live_init : He.DefD := ⟨("Live", some "__init__"), "__init__", "Live.__init__", defArgs s_Live_init, defBody s_Live_init, defScope s_Live_init, [], []⟩
def d_Live_house : He.DefD := ⟨("Live", some "house"), "house", "Live.house", defArgs s_Live_house, defBody s_Live_house, defScope s_Live_house, [], []⟩
def d_Live_sleeper : He.DefD := ⟨("Live", some "sleeper"), "sleeper", "Live.sleeper", defArgs s_Live_sleeper, defBody s_Live_sleeper, defScope s_Live_sleeper, [], []⟩
def d_Live_walk : He.DefD := ⟨("Live", some "walk"), "walk", "Live.walk", defArgs s_Live_walk, defBody s_Live_walk, defScope s_Live_walk, [], []⟩
def d_Live_played : He.DefD := ⟨("Live", some "played"), "played", "Live.played", defArgs s_Live_played, defBody s_Live_played, defScope s_Live_played, [], []⟩
def d_Live_do : He.DefD := ⟨("Live", some "do"), "do", "Live.do", defArgs s_Live_do, defBody s_Live_do, defScope s_Live_do, [], []⟩
def d_Live_become : He.DefD := ⟨("Live", some "become"), "become", "Live.become", defArgs s_Live_become, defBody s_Live_become, defScope s_Live_become, [], []⟩
def d_Live_len : He.DefD := ⟨("Live", some "__len__"), "__len__", "Live.__len__", defArgs s_Live_len, defBody s_Live_len, defScope s_Live_len, [], []⟩
def d_Live_several : He.DefD := ⟨("Live", some "several"), "several", "Live.several", defArgs s_Live_several, defBody s_Live_several, defScope s_Live_several, [], []⟩
def d_Live_change : He.DefD := ⟨("Live", some "change"), "change", "Live.change", defArgs s_Live_change, defBody s_Live_change, defScope s_Live_change, [], []⟩
def d_Live_undo : He.DefD := ⟨("Live", some "undo"), "undo", "Live.undo", defArgs s_Live_undo, defBody s_Live_undo, defScope s_Live_undo, [], []⟩
def d_deal : He.DefD := ⟨("_law_deal", none), "_law_deal", "_law_deal", defArgs s_deal, defBody s_deal, defScope s_deal, [], []⟩
def d_draw : He.DefD := ⟨("_law_draw", none), "_law_draw", "_law_draw", defArgs s_draw, defBody s_draw, defScope s_draw, [], []⟩
def d_pick : He.DefD := ⟨("_law_pick", none), "_law_pick", "_law_pick", defArgs s_pick, defBody s_pick, defScope s_pick, [], []⟩
def d_mixed : He.DefD := ⟨("_law_mixed", none), "_law_mixed", "_law_mixed", defArgs s_mixed, defBody s_mixed, defScope s_mixed, [], []⟩
def d_words : He.DefD := ⟨("_law_words", none), "_law_words", "_law_words", defArgs s_words, defBody s_words, defScope s_words, [], []⟩
def d_drawn_house : He.DefD := ⟨("_law_drawn_house", none), "_law_drawn_house", "_law_drawn_house", defArgs s_drawn_house, defBody s_drawn_house, defScope s_drawn_house, [], []⟩
def d_house_of : He.DefD := ⟨("_law_house_of", none), "_law_house_of", "_law_house_of", defArgs s_house_of, defBody s_house_of, defScope s_house_of, [], []⟩
def d_drawn_sleeper : He.DefD := ⟨("_law_drawn_sleeper", none), "_law_drawn_sleeper", "_law_drawn_sleeper", defArgs s_drawn_sleeper, defBody s_drawn_sleeper, defScope s_drawn_sleeper, [], []⟩
def d_sleeper_of : He.DefD := ⟨("_law_sleeper_of", none), "_law_sleeper_of", "_law_sleeper_of", defArgs s_sleeper_of, defBody s_sleeper_of, defScope s_sleeper_of, [], []⟩
def d_look : He.DefD := ⟨("_law_look", none), "_law_look", "_law_look", defArgs s_look, defBody s_look, defScope s_look, [], []⟩
def d_step : He.DefD := ⟨("_law_step", none), "_law_step", "_law_step", defArgs s_step, defBody s_step, defScope s_step, [], []⟩
def d_is_played : He.DefD := ⟨("_law_is_played", none), "_law_is_played", "_law_is_played", defArgs s_is_played, defBody s_is_played, defScope s_is_played, [], []⟩
def d_law : He.DefD := ⟨("law", none), "law", "law", defArgs s_law, defBody s_law, defScope s_law, [], []⟩
def fn : List He.DefD := [d_is_whole, d_is_number, d_is_positive, d_is_name, d_is_row, d_is_tuple_of, d_are_unlike, d_is_numeral, d_is_room, d_is_door, d_is_floor, d_are_doors, d_are_floors, d_are_cradles, d_door_line, d_House_init, d_House_str, d_is_sorted_name, d_are_sorts, d_Sleeper_init, d_Sleeper_str, d_first_state, d_heard, d_heard_all, d_ticked, d_hummed, d_dozing_anew, d_sort_of, d_heard_asleep, d_heard_loud_dozing, d_is_person, d_is_event, d_Walk_init, d_Walk_further, d_Walk_len, d_beyond, d_floor_noise, d_noises_of_step, d_Night_init, d_Night_allows, d_Night_follow, d_Night_tick, d_Night_step, d_Played_init, d_play, d_led_on, d_Live_init, d_Live_do, d_Live_become, d_Live_len, d_Live_several, d_Live_change, d_Live_undo, d_deal, d_draw, d_pick, d_mixed, d_words, d_drawn_house, d_house_of, d_drawn_sleeper, d_sleeper_of, d_look, d_step, d_is_played, d_law]
def fa : List He.Fa := [.meth "House" "__str__", .meth "Sleeper" "__str__", .meth "Walk" "further", .meth "Walk" "__len__", .meth "Night" "allows", .meth "Night" "follow", .meth "Night" "tick", .meth "Night" "step", .meth "Live" "do", .meth "Live" "become", .meth "Live" "__len__", .meth "Live" "several", .meth "Live" "change", .meth "Live" "undo", .glo "is_whole", .glo "is_number", .glo "is_positive", .glo "is_name", .glo "is_row", .glo "is_tuple_of", .glo "are_unlike", .glo "is_numeral", .glo "is_room", .glo "is_door", .glo "is_floor", .glo "are_doors", .glo "are_floors", .glo "are_cradles", .glo "door_line", .glo "is_sorted_name", .glo "are_sorts", .glo "first_state", .glo "heard", .glo "heard_all", .glo "ticked", .glo "hummed", .glo "dozing_anew", .glo "sort_of", .glo "heard_asleep", .glo "heard_loud_dozing", .glo "is_person", .glo "is_event", .glo "beyond", .glo "floor_noise", .glo "noises_of_step", .glo "play", .glo "led_on", .glo "_law_deal", .glo "_law_draw", .glo "_law_pick", .glo "_law_mixed", .glo "_law_words", .glo "_law_drawn_house", .glo "_law_house_of", .glo "_law_drawn_sleeper", .glo "_law_sleeper_of", .glo "_law_look", .glo "_law_step", .glo "_law_is_played", .glo "law", .free "len", .free "set", .free "abs", .free "min", .free "int", .free "str", .free "bool", .free "list", .free "tuple", .free "dict", .free "isinstance", .free "all", .free "sorted", .free "range", .free "repr", .free "enumerate", .str "DIGITS" "0123456789", .str "LETTERS" "abcdefghijklmnopqrstuvwxyz", .glo "SORTS", .glo "LOUD_RULES", .glo "UP", .glo "ASLEEP", .glo "WOKEN", .glo "FIRSTS", .glo "HUMMED", .glo "House", .glo "Sleeper", .cls "House", .noat "House" "rooms", .noat "House" "doors", .noat "House" "floors", .noat "House" "cradles", .cls "Sleeper", .noat "Sleeper" "sorts", .noat "Sleeper" "stir", .noat "Sleeper" "doze", .noat "Sleeper" "near", .noat "Sleeper" "loud", .cls "Walk", .noat "Walk" "guests", .noat "Walk" "nurses", .noat "Walk" "first", .noat "Walk" "events", .cls "Night", .noat "Night" "own_house", .noat "Night" "own_sleeper", .noat "Night" "guests", .noat "Night" "state", .noat "Night" "places", .noat "Night" "moved", .noat "Night" "ticks", .noat "Night" "made", .cls "Played", .noat "Played" "state", .noat "Played" "places", .noat "Played" "ticks", .noat "Played" "made", .noat "Played" "woke", .cls "Live", .noat "Live" "own_house", .noat "Live" "scene", .noat "Live" "past", .mkr "House", .mkr "Sleeper", .mkr "Walk", .glo "Walk", .mkr "Night", .glo "Night", .mkr "Played", .glo "Played", .mkr "Live", .glo "Live"]
def ex (K : PySem.W.Frag) : Bool := (He.tupB K "SORTS" [.str "faint", .str "loud", .str "soft", .str "sudden"] && (He.tupB K "LOUD_RULES" [.str "again", .str "nothing", .str "wake"] && (He.tupB K "UP" [.str "up"] && (He.tupB K "ASLEEP" [.str "asleep"] && (He.tupB K "WOKEN" [.str "woken"] && (He.tupB K "FIRSTS" [.str "asleep", .str "dozing", .str "up"] && (He.tupB K "HUMMED" [.str "doze", .str "up"] && (He.nilB K (He.dflAt ("Walk", some "__init__") 0 K) && ((Hb.anyTy.all fun t => decide (PySem.W.kitOne K (.type t) (.ref (He.ga K "House")) = some false)) && (He.eqO (PySem.W.findIn K (.ref (He.ga K "House")) "__class__") (some (some (.builtin "object.__class__"))) && (decide (PySem.W.mroIn K (He.ga K "House") (.type "object") = some true) && (He.eqO (PySem.W.findIn K (.ref (He.ga K "House")) "__ne__") (some (some (.builtin "object.__ne__"))) && ((Hb.anyTy.all fun t => decide (PySem.W.kitOne K (.type t) (.ref (He.ga K "Sleeper")) = some false)) && (He.eqO (PySem.W.findIn K (.ref (He.ga K "Sleeper")) "__class__") (some (some (.builtin "object.__class__"))) && (decide (PySem.W.mroIn K (He.ga K "Sleeper") (.type "object") = some true) && (He.eqO (PySem.W.findIn K (.ref (He.ga K "Sleeper")) "__ne__") (some (some (.builtin "object.__ne__"))) && (He.eqO (PySem.W.specialIn K (.builtin "object.__class__") "__get__") (some (some (.builtin "getset_descriptor.__get__"))) && (decide (PySem.W.takesIn K (.builtin "object.__class__") = some true) && (He.propB K (He.ga K "Live") "house" && (He.okP K (He.rp K "property" (He.ga K "Live") "house") d_Live_house && (He.propB K (He.ga K "Live") "sleeper" && (He.okP K (He.rp K "property" (He.ga K "Live") "sleeper") d_Live_sleeper && (He.propB K (He.ga K "Live") "walk" && (He.okP K (He.rp K "property" (He.ga K "Live") "walk") d_Live_walk && (He.propB K (He.ga K "Live") "played" && (He.okP K (He.rp K "property" (He.ga K "Live") "played") d_Live_played && true))))))))))))))))))))))))))
theorem EX0 {K : PySem.W.Frag} (h : ex K = true) : He.tupB K "SORTS" [.str "faint", .str "loud", .str "soft", .str "sudden"] = true := (He.ba h).1
theorem EX1 {K : PySem.W.Frag} (h : ex K = true) : He.tupB K "LOUD_RULES" [.str "again", .str "nothing", .str "wake"] = true := (He.ba (He.ba h).2).1
theorem EX2 {K : PySem.W.Frag} (h : ex K = true) : He.tupB K "UP" [.str "up"] = true := (He.ba (He.ba (He.ba h).2).2).1
theorem EX3 {K : PySem.W.Frag} (h : ex K = true) : He.tupB K "ASLEEP" [.str "asleep"] = true := (He.ba (He.ba (He.ba (He.ba h).2).2).2).1
theorem EX4 {K : PySem.W.Frag} (h : ex K = true) : He.tupB K "WOKEN" [.str "woken"] = true := (He.ba (He.ba (He.ba (He.ba (He.ba h).2).2).2).2).1
theorem EX5 {K : PySem.W.Frag} (h : ex K = true) : He.tupB K "FIRSTS" [.str "asleep", .str "dozing", .str "up"] = true := (He.ba (He.ba (He.ba (He.ba (He.ba (He.ba h).2).2).2).2).2).1
theorem EX6 {K : PySem.W.Frag} (h : ex K = true) : He.tupB K "HUMMED" [.str "doze", .str "up"] = true := (He.ba (He.ba (He.ba (He.ba (He.ba (He.ba (He.ba h).2).2).2).2).2).2).1
theorem EX7 {K : PySem.W.Frag} (h : ex K = true) : He.nilB K (He.dflAt ("Walk", some "__init__") 0 K) = true := (He.ba (He.ba (He.ba (He.ba (He.ba (He.ba (He.ba (He.ba h).2).2).2).2).2).2).2).1
theorem EX8 {K : PySem.W.Frag} (h : ex K = true) : (Hb.anyTy.all fun t => decide (PySem.W.kitOne K (.type t) (.ref (He.ga K "House")) = some false)) = true := (He.ba (He.ba (He.ba (He.ba (He.ba (He.ba (He.ba (He.ba (He.ba h).2).2).2).2).2).2).2).2).1
theorem EX9 {K : PySem.W.Frag} (h : ex K = true) : He.eqO (PySem.W.findIn K (.ref (He.ga K "House")) "__class__") (some (some (.builtin "object.__class__"))) = true := (He.ba (He.ba (He.ba (He.ba (He.ba (He.ba (He.ba (He.ba (He.ba (He.ba h).2).2).2).2).2).2).2).2).2).1
theorem EX10 {K : PySem.W.Frag} (h : ex K = true) : decide (PySem.W.mroIn K (He.ga K "House") (.type "object") = some true) = true := (He.ba (He.ba (He.ba (He.ba (He.ba (He.ba (He.ba (He.ba (He.ba (He.ba (He.ba h).2).2).2).2).2).2).2).2).2).2).1
theorem EX11 {K : PySem.W.Frag} (h : ex K = true) : He.eqO (PySem.W.findIn K (.ref (He.ga K "House")) "__ne__") (some (some (.builtin "object.__ne__"))) = true := (He.ba (He.ba (He.ba (He.ba (He.ba (He.ba (He.ba (He.ba (He.ba (He.ba (He.ba (He.ba h).2).2).2).2).2).2).2).2).2).2).2).1
theorem EX12 {K : PySem.W.Frag} (h : ex K = true) : (Hb.anyTy.all fun t => decide (PySem.W.kitOne K (.type t) (.ref (He.ga K "Sleeper")) = some false)) = true := (He.ba (He.ba (He.ba (He.ba (He.ba (He.ba (He.ba (He.ba (He.ba (He.ba (He.ba (He.ba (He.ba h).2).2).2).2).2).2).2).2).2).2).2).2).1
theorem EX13 {K : PySem.W.Frag} (h : ex K = true) : He.eqO (PySem.W.findIn K (.ref (He.ga K "Sleeper")) "__class__") (some (some (.builtin "object.__class__"))) = true := (He.ba (He.ba (He.ba (He.ba (He.ba (He.ba (He.ba (He.ba (He.ba (He.ba (He.ba (He.ba (He.ba (He.ba h).2).2).2).2).2).2).2).2).2).2).2).2).2).1
theorem EX14 {K : PySem.W.Frag} (h : ex K = true) : decide (PySem.W.mroIn K (He.ga K "Sleeper") (.type "object") = some true) = true := (He.ba (He.ba (He.ba (He.ba (He.ba (He.ba (He.ba (He.ba (He.ba (He.ba (He.ba (He.ba (He.ba (He.ba (He.ba h).2).2).2).2).2).2).2).2).2).2).2).2).2).2).1
theorem EX15 {K : PySem.W.Frag} (h : ex K = true) : He.eqO (PySem.W.findIn K (.ref (He.ga K "Sleeper")) "__ne__") (some (some (.builtin "object.__ne__"))) = true := (He.ba (He.ba (He.ba (He.ba (He.ba (He.ba (He.ba (He.ba (He.ba (He.ba (He.ba (He.ba (He.ba (He.ba (He.ba (He.ba h).2).2).2).2).2).2).2).2).2).2).2).2).2).2).2).1
theorem EX16 {K : PySem.W.Frag} (h : ex K = true) : He.eqO (PySem.W.specialIn K (.builtin "object.__class__") "__get__") (some (some (.builtin "getset_descriptor.__get__"))) = true := (He.ba (He.ba (He.ba (He.ba (He.ba (He.ba (He.ba (He.ba (He.ba (He.ba (He.ba (He.ba (He.ba (He.ba (He.ba (He.ba (He.ba h).2).2).2).2).2).2).2).2).2).2).2).2).2).2).2).2).1
theorem EX17 {K : PySem.W.Frag} (h : ex K = true) : decide (PySem.W.takesIn K (.builtin "object.__class__") = some true) = true := (He.ba (He.ba (He.ba (He.ba (He.ba (He.ba (He.ba (He.ba (He.ba (He.ba (He.ba (He.ba (He.ba (He.ba (He.ba (He.ba (He.ba (He.ba h).2).2).2).2).2).2).2).2).2).2).2).2).2).2).2).2).2).1
theorem EX18 {K : PySem.W.Frag} (h : ex K = true) : He.propB K (He.ga K "Live") "house" = true := (He.ba (He.ba (He.ba (He.ba (He.ba (He.ba (He.ba (He.ba (He.ba (He.ba (He.ba (He.ba (He.ba (He.ba (He.ba (He.ba (He.ba (He.ba (He.ba h).2).2).2).2).2).2).2).2).2).2).2).2).2).2).2).2).2).2).1
theorem EX19 {K : PySem.W.Frag} (h : ex K = true) : He.okP K (He.rp K "property" (He.ga K "Live") "house") d_Live_house = true := (He.ba (He.ba (He.ba (He.ba (He.ba (He.ba (He.ba (He.ba (He.ba (He.ba (He.ba (He.ba (He.ba (He.ba (He.ba (He.ba (He.ba (He.ba (He.ba (He.ba h).2).2).2).2).2).2).2).2).2).2).2).2).2).2).2).2).2).2).2).1
theorem EX20 {K : PySem.W.Frag} (h : ex K = true) : He.propB K (He.ga K "Live") "sleeper" = true := (He.ba (He.ba (He.ba (He.ba (He.ba (He.ba (He.ba (He.ba (He.ba (He.ba (He.ba (He.ba (He.ba (He.ba (He.ba (He.ba (He.ba (He.ba (He.ba (He.ba (He.ba h).2).2).2).2).2).2).2).2).2).2).2).2).2).2).2).2).2).2).2).2).1
theorem EX21 {K : PySem.W.Frag} (h : ex K = true) : He.okP K (He.rp K "property" (He.ga K "Live") "sleeper") d_Live_sleeper = true := (He.ba (He.ba (He.ba (He.ba (He.ba (He.ba (He.ba (He.ba (He.ba (He.ba (He.ba (He.ba (He.ba (He.ba (He.ba (He.ba (He.ba (He.ba (He.ba (He.ba (He.ba (He.ba h).2).2).2).2).2).2).2).2).2).2).2).2).2).2).2).2).2).2).2).2).2).1
theorem EX22 {K : PySem.W.Frag} (h : ex K = true) : He.propB K (He.ga K "Live") "walk" = true := (He.ba (He.ba (He.ba (He.ba (He.ba (He.ba (He.ba (He.ba (He.ba (He.ba (He.ba (He.ba (He.ba (He.ba (He.ba (He.ba (He.ba (He.ba (He.ba (He.ba (He.ba (He.ba (He.ba h).2).2).2).2).2).2).2).2).2).2).2).2).2).2).2).2).2).2).2).2).2).2).1
theorem EX23 {K : PySem.W.Frag} (h : ex K = true) : He.okP K (He.rp K "property" (He.ga K "Live") "walk") d_Live_walk = true := (He.ba (He.ba (He.ba (He.ba (He.ba (He.ba (He.ba (He.ba (He.ba (He.ba (He.ba (He.ba (He.ba (He.ba (He.ba (He.ba (He.ba (He.ba (He.ba (He.ba (He.ba (He.ba (He.ba (He.ba h).2).2).2).2).2).2).2).2).2).2).2).2).2).2).2).2).2).2).2).2).2).2).2).1
theorem EX24 {K : PySem.W.Frag} (h : ex K = true) : He.propB K (He.ga K "Live") "played" = true := (He.ba (He.ba (He.ba (He.ba (He.ba (He.ba (He.ba (He.ba (He.ba (He.ba (He.ba (He.ba (He.ba (He.ba (He.ba (He.ba (He.ba (He.ba (He.ba (He.ba (He.ba (He.ba (He.ba (He.ba (He.ba h).2).2).2).2).2).2).2).2).2).2).2).2).2).2).2).2).2).2).2).2).2).2).2).2).1
theorem EX25 {K : PySem.W.Frag} (h : ex K = true) : He.okP K (He.rp K "property" (He.ga K "Live") "played") d_Live_played = true := (He.ba (He.ba (He.ba (He.ba (He.ba (He.ba (He.ba (He.ba (He.ba (He.ba (He.ba (He.ba (He.ba (He.ba (He.ba (He.ba (He.ba (He.ba (He.ba (He.ba (He.ba (He.ba (He.ba (He.ba (He.ba (He.ba h).2).2).2).2).2).2).2).2).2).2).2).2).2).2).2).2).2).2).2).2).2).2).2).2).2).1
abbrev R : PySem.W.OpenRow := PySem.W.OpenLaw.row PySem.Challenge.rw_hushsteps_k66_whole_deeds_taken_back
def fp : List He.Dp := [(fun K => He.rp K "property" (He.ga K "Live") "house", d_Live_house), (fun K => He.rp K "property" (He.ga K "Live") "sleeper", d_Live_sleeper), (fun K => He.rp K "property" (He.ga K "Live") "walk", d_Live_walk), (fun K => He.rp K "property" (He.ga K "Live") "played", d_Live_played)]
def ts : List He.Tab := []
abbrev hk : PySem.W.Hook := He.hookB 7 fa fn ts ex fp
def ob (s : PySem.W.SharedT) : He.AlZ := He.obsB 7 fa fn ts ex fp (HandSHeadRun.getT s)
theorem ob_eq (s : PySem.W.SharedT) : ob s = hk.obs s.abs := He.obsB_eq (HandSHeadRun.getT_eq s)
def names : List PySem.Str := (["_wall", "HushError", "InvalidHouse", "InvalidSleeper", "InvalidWalk", "InvalidEvent", "InvalidText", "Refused", "DIGITS", "LETTERS", "is_whole", "is_number"] : List PySem.Str) ++ (["is_positive", "is_name", "is_row", "is_tuple_of", "are_unlike", "is_numeral", "beyond", "floor_noise", "noises_of_step", "SORTS", "LOUD_RULES", "FIRSTS"] : List PySem.Str) ++ (["HUMMED", "UP", "ASLEEP", "WOKEN", "is_sorted_name", "are_sorts", "has_form", "has_form_sleepers", "are_all_sorted_names", "Sleeper", "first_state", "heard"] : List PySem.Str) ++ (["heard_all", "ticked", "hummed", "dozing_anew", "sort_of", "heard_asleep", "heard_loud_dozing", "is_person", "is_event", "Walk", "Played", "Night"] : List PySem.Str) ++ (["play", "led_on", "Live", "FOLLOWING", "is_room", "is_door", "is_floor", "are_doors", "are_floors", "are_cradles", "door_line", "read_door"] : List PySem.Str) ++ (["read_floor", "are_numerals", "has_form_houses", "wrong_line", "House", "_law_deal", "_law_draw", "_law_pick", "_law_mixed", "_law_words", "_law_drawn_house", "_law_house_of"] : List PySem.Str) ++ (["_law_drawn_sleeper", "_law_sleeper_of", "_law_look", "_law_step", "_law_is_played"] : List PySem.Str)
theorem run_f (w : World) : HandSHeadRun.RunEq R (PySem.W.view R.prog [86]) hk ob 12000 names (w.withFollow "special-get-raises" false) := by
  intro os
  kernel_rfl
theorem run_t (w : World) : HandSHeadRun.RunEq R (PySem.W.view R.prog [86]) hk ob 12000 names (w.withFollow "special-get-raises" true) := by
  intro os
  kernel_rfl
theorem run (w : World) : HandSHeadRun.RunEq R (PySem.W.view R.prog [86]) hk ob 12000 names w := PySem.W.byRow2 "special-get-raises" (P := fun w => HandSHeadRun.RunEq R (PySem.W.view R.prog [86]) hk ob 12000 names w) run_f run_t w
end Lw
set_option Elab.async false
set_option linter.all false
set_option maxRecDepth 100000
set_option maxHeartbeats 4000000
namespace Lw
open PySem PySem.Spec PyProof.Rows L2 Hb
def spDraw : Sp := fun vs H Q _ => ∃ (d g : Addr) (many : Int), vs = [.ref d, .int many] ∧ Deal d g H ∧ 0 < many ∧ many < 1000000 ∧
  ∀ (H' : Hp) (r : Int), Deal d g H' → Kp d g H H' → 0 ≤ r → r < many → Q (.int r) H'
def lenAt (g : Addr) (H : Hp) : Nat := match H g with
  | some (.lst xs) => xs.length
  | _ => 0
theorem lenAt_of {g : Addr} {H : Hp} {xs : List V} (h : H g = some (.lst xs)) : lenAt g H = xs.length := by unfold lenAt; rw [h]
section
variable {P : Program} {w : World} {K : PySem.W.Frag} {mg : Str → Option Value} {base : Heap}
theorem c_draw (D : Df K mg "_law_draw" s_draw) (T : Tx K mg) : C8.Cal P w K mg base 1 "_law_draw" spDraw [] := by
  refine cal_mk D sc_draw bd_draw (fun vs H Q E h => ?_) fun f cdv A outer s H vs Q E hr h => ?_
  · obtain ⟨d, g, many, rfl, _⟩ := h
    rfl
  · obtain ⟨d, g, many, rfl, ⟨ns, now, mixed, turn, x⟩, m0, m1, k⟩ := h
    have hu := hu_of hr
    refine ⟨_, (pss_cons (ps_while PassesOwn.never (PW.pt (pw_and (pt_cmpR op_eq (pe_dget hu (pv 0) pe_str (fun _ _ => rfl)) pe_int (by first | exact nomark _ | rfl)) (pw_and1 (pt_cmpR op_gt (pe_callB call_len (by rfl) T.n_len (by decide +kernel) (pa_cons (pe_dget hu (pv 0) pe_str (fun _ _ => rfl)) pa_nil)) pe_int (by first | exact nomark _ | rfl)))))
 (pss_one (ps_dput hu (pv 0) pe_str (pe_bm0 PySem.F.plainAttrs_list PySem.F.slot_list_pop PySem.F.type_list_pop mt_pop (pe_dget hu (pv 0) pe_str (fun _ _ => rfl))) rfl)))
 (pss_cons (ps_if (pt_cmpR op_gt (pe_dget hu (pv 0) pe_str (fun _ _ => rfl)) pe_int (by first | exact nomark _ | rfl))
 (pss_cons (ps_set (i := 2) sc_draw.nd rfl (Or.inl rfl) (pe_op op_mod (pe_callTy call_int1 (by rfl) T.n_int (by decide +kernel) (pa_cons (pe_dget hu (pv 0) pe_str (fun _ _ => rfl)) pa_nil)) (pv 1)))
 (pss_cons (ps_dput hu (pv 0) pe_str (pe_op op_fdiv (pe_dget hu (pv 0) pe_str (fun _ _ => rfl)) (pv 1)) rfl)
 (pss_one (ps_ret (pv 2)))))
 pss_nil)
 (pss_cons (ps_dput hu (pv 0) pe_str (pe_op op_add (pe_dget hu (pv 0) pe_str (fun _ _ => rfl)) pe_int) rfl)
 (pss_cons (ps_set (i := 3) sc_draw.nd rfl (Or.inl rfl) (pe_op op_mod (pe_callTy call_int1 (by rfl) T.n_int (by decide +kernel) (pa_cons (pe_op op_add (pe_op op_mul (pe_dget hu (pv 0) pe_str (fun _ _ => rfl)) pe_int) (pe_op op_mul (pe_dget hu (pv 0) pe_str (fun _ _ => rfl)) pe_int)) pa_nil)) pe_int))
 (pss_cons (ps_set (i := 4) sc_draw.nd rfl (Or.inl rfl) (pe_op op_mod (pe_callTy call_int1 (by rfl) T.n_int (by decide +kernel) (pa_cons (pe_op op_add (pe_op op_mul (pv 3) (pv 3)) (pe_op op_mul (pe_dget hu (pv 0) pe_str (fun _ _ => rfl)) pe_int)) pa_nil)) pe_int))
 (pss_cons (ps_dput hu (pv 0) pe_str (pe_op op_add (pe_op op_mod (pe_callTy call_int1 (by rfl) T.n_int (by decide +kernel) (pa_cons (pe_op op_add (pe_op op_mul (pv 4) pe_int) (pv 3)) pa_nil)) pe_int) pe_int) rfl)
 (pss_one (ps_ret (pe_op op_mod (pe_callTy call_int1 (by rfl) T.n_int (by decide +kernel) (pa_cons (pe_op op_add (pe_op op_fdiv (pv 4) pe_int) (pv 3)) pa_nil)) (pv 1)))))))))), ?_⟩
    refine cut_seq (fun σ' H' => σ' = start N_draw [.ref d, .int many] ∧ Deal d g H' ∧ Kp d g H H') ?rest fun rest => while_by (fun σ H' => σ = start N_draw [.ref d, .int many] ∧ Deal d g H' ∧ Kp d g H H') (fun _ H' => lenAt g H') ⟨rfl, ⟨ns, now, mixed, turn, x⟩, Kp.refl _ _ _⟩ ?_ ?_
    case rest =>
      rintro σ H1 ⟨rfl, ⟨ns, now, mixed, turn, x⟩, kp⟩
      refine ⟨_, rfl, d, _, rfl, DGet.k (k := Sum.inr "now") x.d, _, _, rfl, rfl, _, rfl, ?_⟩
      refine ite2 (fun h0 => ?_) (fun h0 => ?_)
      · have h1 : 0 < now := of_decide_eq_true h0
        refine ⟨_, rfl, d, _, rfl, DGet.k (k := Sum.inr "now") x.d, .inl ⟨_, rfl, _, rfl, _, _, rfl, rfl, m0, ?_⟩⟩
        refine ⟨_, rfl, d, _, rfl, DGet.k (k := Sum.inr "now") x.d, _, rfl, _, _, rfl, rfl, ⟨m0, by omega⟩, ?_⟩
        refine ⟨_, rfl, d, _, rfl, DPut.k (k := Sum.inr "now") x.d (by show 4 < sizeLine; decide), _, rfl, ?_⟩
        rw [show putK (dealKV g now mixed turn) (Sum.inr "now") (V.int (now / many)) = dealKV g (now / many) mixed turn from rfl]
        exact k _ _ ⟨ns, now / many, mixed, turn, ⟨upd_same, by rw [upd_ne x.ne.symm]; exact x.g, x.few, x.pos, Int.ediv_nonneg x.now (Int.le_of_lt m0)⟩⟩ (kp.trans Kp.put_d) (Int.emod_nonneg _ (by omega)) (Int.emod_lt_of_pos _ m0)
      · refine ⟨_, rfl, d, _, rfl, DGet.k (k := Sum.inr "turn") x.d, _, _, rfl, rfl, _, rfl, d, _, rfl, DPut.k (k := Sum.inr "turn") x.d (by show 4 < sizeLine; decide), ?_⟩
        rw [show putK (dealKV g now mixed turn) (Sum.inr "turn") (V.int (turn + 1)) = dealKV g now mixed (turn + 1) from rfl]
        have y : Dl d g (upd H1 d (.dK (dealKV g now mixed (turn + 1)))) ns now mixed (turn + 1) := ⟨upd_same, by rw [upd_ne x.ne.symm]; exact x.g, x.few, x.pos, x.now⟩
        refine ⟨_, rfl, d, _, rfl, DGet.k (k := Sum.inr "mixed") y.d, _, _, rfl, rfl, .inr (by decide), _, rfl, d, _, rfl, DGet.k (k := Sum.inr "turn") y.d, _, _, rfl, rfl, .inr (by decide), _, _, rfl, rfl, .inl ⟨_, rfl, _, _, rfl, rfl, (by show (0 : Int) < 2147483629; decide), ?_⟩⟩
        have f0 : 0 ≤ (mixed * 48271 + (turn + 1) * 69621) % 2147483629 := by omega
        have f1 : (mixed * 48271 + (turn + 1) * 69621) % 2147483629 < 2147483629 := by omega
        refine ⟨_, rfl, _, rfl, _, _, rfl, rfl, .inl ⟨by omega, by omega⟩, _, rfl, d, _, rfl, DGet.k (k := Sum.inr "turn") y.d, _, _, rfl, rfl, .inr (by decide), _, _, rfl, rfl, .inl ⟨_, rfl, _, _, rfl, rfl, (by show (0 : Int) < 2147483563; decide), ?_⟩⟩
        refine ⟨_, rfl, _, _, rfl, rfl, .inr (by decide), _, rfl, _, _, rfl, rfl, .inl ⟨_, rfl, _, _, rfl, rfl, (by show (0 : Int) < 2147483647; decide), _, _, rfl, rfl, _, rfl, d, _, rfl, DPut.k (k := Sum.inr "mixed") y.d (by show 4 < sizeLine; decide), ?_⟩⟩
        refine ⟨_, rfl, _, _, rfl, rfl, ⟨by decide, by decide⟩, _, rfl, _, _, rfl, rfl, .inl ⟨_, rfl, _, rfl, _, _, rfl, rfl, m0, ?_⟩⟩
        exact k _ _ ⟨ns, now, _, turn + 1, ⟨Eq.trans upd_same (congrArg (fun z => some (HO.dK z)) (put_mixed _ _ _ _ _)), by rw [upd_ne x.ne.symm]; exact y.g, x.few, x.pos, x.now⟩⟩ (kp.trans (Kp.trans Kp.put_d Kp.put_d)) (Int.emod_nonneg _ (by omega)) (Int.emod_lt_of_pos _ m0)
    · rintro σ H1 ⟨rfl, ⟨ns, now, mixed, turn, x⟩, kp⟩
      have nl : lenAt g H1 = ns.length := by rw [lenAt_of x.g, List.length_map]
      refine ⟨_, rfl, d, _, rfl, DGet.k (k := Sum.inr "now") x.d, rfl, _, rfl, ?_⟩
      refine ite2 (fun h0 => ?_) (fun h0 => ?_)
      · refine ⟨_, rfl, d, _, rfl, DGet.k (k := Sum.inr "great") x.d, _, _, rfl, .inl ⟨_, SqL.of x.g, rfl⟩, _, _, rfl, rfl, _, rfl, ?_⟩
        refine ite2 (fun h1 => ?_) (fun h1 => ?_)
        · have h1' := of_decide_eq_true h1
          rw [List.length_map] at h1'
          have hlt : ns.length - 1 < ns.length := by omega
          refine ⟨_, rfl, d, _, rfl, DGet.k (k := Sum.inr "great") x.d, .inl ⟨rfl, _, SqL.of x.g⟩, g, _, V.int (ns[ns.length - 1]), rfl, rfl, x.g, by rw [List.length_map, List.getElem?_map, List.getElem?_eq_getElem hlt] <;> rfl, ?_⟩
          refine ⟨_, rfl, d, _, rfl, DPut.k (k := Sum.inr "now") (Eq.trans (upd_ne x.ne) x.d) (by show 4 < sizeLine; decide), ?_⟩
          rw [show putK (dealKV g now mixed turn) (Sum.inr "now") (V.int ns[ns.length - 1]) = dealKV g (ns[ns.length - 1]) mixed turn from rfl]
          rw [show (ns.map V.int).dropLast = ns.dropLast.map V.int by rw [List.map_dropLast]]
          have y : Dl d g (upd (upd H1 g (.lst (ns.dropLast.map V.int))) d (.dK (dealKV g (ns[ns.length - 1]) mixed turn))) ns.dropLast (ns[ns.length - 1]) mixed turn :=
            ⟨upd_same, by rw [upd_ne x.ne.symm]; exact upd_same, by rw [List.length_dropLast]; have := x.few; omega, fun n hn => x.pos n ((List.dropLast_sublist _).subset hn), x.pos _ (List.getElem_mem hlt)⟩
          refine ⟨⟨rfl, ⟨_, _, _, _, y⟩, kp.trans (Kp.trans Kp.put_g Kp.put_d)⟩, ?_⟩
          rw [nl, lenAt_of y.g, List.length_map, List.length_dropLast]
          omega
        · exact rest _ _ ⟨rfl, ⟨ns, now, mixed, turn, x⟩, kp⟩
      · exact rest _ _ ⟨rfl, ⟨ns, now, mixed, turn, x⟩, kp⟩
    · intro σ H1 Q1 Q2 hq hc
      obtain ⟨v1, e1, a1, v2, e2, g1, s1, b1, eb, hc⟩ := hc
      refine ⟨v1, e1, a1, v2, e2, g1, s1, b1, eb, ?_⟩
      cases b1 with
      | false =>
        rw [if_neg Bool.false_ne_true] at hc
        exact iteF (hq _ _ hc)
      | true =>
        rw [if_pos rfl] at hc
        obtain ⟨v1, e1, a1, v2, e2, g1, v3, n3, e3, l3, i3, j3, e4, e5, b3, e6, hc⟩ := hc
        exact iteT ⟨v1, e1, a1, v2, e2, g1, v3, n3, e3, l3, i3, j3, e4, e5, b3, e6, hq _ _ hc⟩
end
end Lw
set_option Elab.async false
set_option linter.all false
set_option maxRecDepth 100000
set_option maxHeartbeats 4000000
namespace Lw
open PySem PySem.Spec PyProof.Rows L2 Hb
/-- one of them -/
def spPick (K : PySem.W.Frag) : Sp := fun vs H Q _ => ∃ (d g l : Addr) (xs : List V), vs = [.ref d, .ref l] ∧ Deal d g H ∧ ((H l = some (.lst xs) ∧ l ≠ g) ∨ SqT K H l xs) ∧ xs ≠ [] ∧ xs.length < 1000000 ∧
  ∀ (H' : Hp) (v : V), v ∈ xs → Deal d g H' → Kp d g H H' → Q v H'
/-- all of them in some order, a new list -/
def spMixed (K : PySem.W.Frag) : Sp := fun vs H Q _ => ∃ (d g l : Addr) (xs : List V), vs = [.ref d, .ref l] ∧ Deal d g H ∧ (SqL K H l xs ∨ SqT K H l xs) ∧ xs.length < 1000000 ∧ (∀ v ∈ xs, Hb.Good K H v) ∧
  ∀ (H' : Hp) (p : Addr) (ys : List V), Deal d g H' → Kp d g H H' → H p = none → H' p = some (.lst ys) → p ≠ g → ys.Perm xs → Q (.ref p) H'
section
variable {P : Program} {w : World} {K : PySem.W.Frag} {mg : Str → Option Value} {base : Heap}
theorem c_pick (D : Df K mg "_law_pick" s_pick) (T : Tx K mg) (c_draw : C8.Cal P w K mg base 1 "_law_draw" spDraw []) : C8.Cal P w K mg base 2 "_law_pick" (spPick K) [] := by
  refine cal_mk D sc_pick bd_pick (fun vs H Q E h => ?_) fun f cdv A outer s H vs Q E hr h => ?_
  · obtain ⟨d, g, l, xs, rfl, _⟩ := h
    rfl
  · obtain ⟨d, g, l, xs, rfl, dl, hl, ne, few, k⟩ := h
    have n0 : 0 < xs.length := List.length_pos_iff.mpr ne
    refine ⟨_, (pss_one (ps_ret (pe_ix ix_seq (pv 1) (C8.pe_c c_draw hr (by decide) rfl (pa_cons (pv 0) (pa_cons (pe_callB call_len (by rfl) T.n_len (by decide +kernel) (pa_cons (pv 1) pa_nil)) pa_nil))) (fun _ _ => rfl)))), ?_⟩
    refine ⟨_, rfl, _, rfl, _, rfl, .ref l, xs.length, rfl, ?_, d, g, xs.length, rfl, dl, by omega, by omega, fun H1 r d1 k1 r0 r1 => ?_⟩
    · rcases hl with ⟨h, _⟩ | h
      · exact .inl ⟨_, SqL.of h, rfl⟩
      · exact .inr ⟨_, h, rfl⟩
    · have hlt : r.toNat < xs.length := by omega
      have at_ : atI xs r = some xs[r.toNat] := by
        have q := atI_nat (xs := xs) (j := r.toNat) (List.getElem?_eq_getElem hlt)
        rw [show ((r.toNat : Nat) : Int) = r by omega] at q
        exact q
      have fin : Q xs[r.toNat] H1 := k _ _ (List.getElem_mem hlt) d1 k1
      rcases hl with ⟨h, n⟩ | h
      · exact .inl ⟨l, xs, r, _, rfl, rfl, SqL.of (k1 l _ (dl.ne_d h (by intro kvs q; cases q)) n h), at_, fin⟩
      · exact .inr (.inl ⟨l, xs, r, _, rfl, rfl, SqT.keep (dl.tk k1) h, at_, fin⟩)
theorem c_mixed (D : Df K mg "_law_mixed" s_mixed) (T : Tx K mg) (c_draw : C8.Cal P w K mg base 1 "_law_draw" spDraw []) : C8.Cal P w K mg base 2 "_law_mixed" (spMixed K) [] := by
  refine cal_mk D sc_mixed bd_mixed (fun vs H Q E h => ?_) fun f cdv A outer s H vs Q E hr h => ?_
  · obtain ⟨d, g, l, xs, rfl, _⟩ := h
    rfl
  · obtain ⟨d, g, l0, xs, rfl, dl, hl, few, good, k⟩ := h
    refine ⟨_, (pss_cons (ps_par (i := 2) (j := 3) (by rfl) sc_mixed.nd rfl rfl (by decide) rfl rfl (pa_cons (pe_callTy call_list_of (by rfl) T.n_list (by decide +kernel) (pa_cons (pv 1) pa_nil)) (pa_cons (pe_lst pa_nil) pa_nil)) (by rfl))
 (pss_cons (ps_while PassesOwn.never (pt_cmpR (op_neD hr.units) (pv 2) (pe_lst pa_nil) (by first | exact nomark _ | rfl))
 (pss_one (ps_expr (pe_bm PySem.F.plainAttrs_list PySem.F.slot_list_append PySem.F.type_list_append mt_append (pv 3) (pa_cons (pe_bm PySem.F.plainAttrs_list PySem.F.slot_list_pop PySem.F.type_list_pop mt_popAt (pv 2) (pa_cons (C8.pe_c c_draw hr (by decide) rfl (pa_cons (pv 0) (pa_cons (pe_callB call_len (by rfl) T.n_len (by decide +kernel) (pa_cons (pv 2) pa_nil)) pa_nil))) pa_nil)) pa_nil)))))
 (pss_one (ps_ret (pv 3))))), ?_⟩
    refine ⟨_, rfl, _, _, rfl, hl, fun l nl => ?_⟩
    refine ⟨Nat.zero_le _, fun q nq => ?_⟩
    have nlq : l ≠ q := ne_of_none upd_same nq
    have d1 := (dl.new nl).new nq (o := .lst [])
    have k0 : Same H (upd (upd H l (.lst xs)) q (.lst [])) := (Same.new nl).trans (Same.new nq)
    have nq2 := nq
    rw [upd_ne nlq.symm] at nq2
    refine ⟨_, _, rfl, ?_⟩
    refine while_by (fun σ H' => σ = [some (.ref d), some (.ref l0), some (.ref l), some (.ref q)] ∧ Deal d g H' ∧ Kp d g H H' ∧ ∃ ls fs, H' l = some (.lst ls) ∧ H' q = some (.lst fs) ∧ (fs ++ ls).Perm xs) (fun _ H' => lenAt l H')
      ⟨rfl, d1, Hb.Same.kp k0, xs, [], by rw [upd_ne nlq, upd_same], upd_same, List.Perm.refl _⟩ ?_ ?_
    · rintro σ H1 ⟨rfl, d1, k1, ls, fs, hL, hF, pm⟩
      have gl : ∀ v ∈ ls, Hb.Good K H1 v := fun v hv => (good v (pm.mem_iff.mp (List.mem_append_right _ hv))).keep (dl.tk k1)
      obtain ⟨ds, td, shp⟩ := goods gl
      refine ⟨_, rfl, Nat.zero_le _, fun p np => ?_⟩
      have s1 : Same H1 (upd H1 p (.lst [])) := Same.new np
      refine ⟨.list ds, .list [], .lst (SqL.of (s1 _ _ hL)) (TDs.dp (TDs.keep (Same.tk s1) td)), .lst (SqL.of upd_same) .nil, shaped_list shp, shaped_list (fun d h => by cases h), _, rfl, ?_⟩
      rw [eqv_nil]
      have d2 : Deal d g (upd H1 p (.lst [])) := d1.same s1
      cases ls with
      | nil =>
        cases td
        refine iteF ⟨_, rfl, ?_⟩
        refine k _ q fs d2 (k1.trans (Hb.Same.kp s1)) ?_ (s1 _ _ hF) ((dl.new nl).free nq).2 (by simpa using pm)
        exact nq2
      | cons y0 ls =>
        cases td with
        | cons t1 t2 =>
          refine iteT ?_
          have len : (y0 :: ls).length = ls.length + 1 := rfl
          have pl := pm.length_eq
          rw [List.length_append] at pl
          refine ⟨_, rfl, .inl ⟨rfl, _, SqL.of (s1 _ _ hF)⟩, _, rfl, .inl ⟨rfl, _, SqL.of (s1 _ _ hL)⟩, _, rfl, _, rfl, .ref l, _, rfl, .inl ⟨_, SqL.of (s1 _ _ hL), rfl⟩, d, g, _, rfl, d2, by omega, by omega, fun H2 r d3 k3 r0 r1 => ?_⟩
          have nld : l ≠ d := d2.ne_d (s1 _ _ hL) (by intro kvs e; cases e)
          have nlg : l ≠ g := (dl.free nl).2
          have nqg : q ≠ g := ((dl.new nl).free nq).2
          have nqd : q ≠ d := d2.ne_d (s1 _ _ hF) (by intro kvs e; cases e)
          have hL2 := k3 l _ nld nlg (s1 _ _ hL)
          have hF2 := k3 q _ nqd nqg (s1 _ _ hF)
          have hlt : r.toNat < (y0 :: ls).length := by omega
          refine ⟨l, _, r, r.toNat, _, rfl, rfl, hL2, by omega, by omega, seqIx r0 r1, List.getElem?_eq_getElem hlt, ?_⟩
          refine ⟨q, _, _, rfl, rfl, Eq.trans (upd_ne nlq.symm) hF2, by have := sizeLine_eq; omega, ?_⟩
          have pe := perm_erase (xs := y0 :: ls) (k := r.toNat) (y := (y0 :: ls)[r.toNat]) (List.getElem?_eq_getElem hlt)
          refine ⟨⟨rfl, (d3.set nld nlg).set nqd nqg, fun b o n1 n2 e => ?_, _, _, Eq.trans (upd_ne nlq) upd_same, upd_same, ?_⟩, ?_⟩
          · rw [upd_ne (ne_of_none e nq2), upd_ne (ne_of_none e nl)]
            exact k3 b o n1 n2 (s1 _ _ (k1 b o n1 n2 e))
          · rw [List.append_assoc]
            exact (List.Perm.append_left fs pe).trans pm
          · rw [lenAt_of hL, lenAt_of (Eq.trans (upd_ne nlq) upd_same), List.length_eraseIdx_of_lt hlt]
            omega
    · rintro σ H1 Q1 Q2 hq ⟨v, e, z, hc⟩
      refine ⟨v, e, z, fun p np => ?_⟩
      obtain ⟨a, b, h1, h2, h3, h4, b5, e6, hc⟩ := hc p np
      exact ⟨a, b, h1, h2, h3, h4, b5, e6, hq _ _ hc⟩
end
end Lw
set_option Elab.async false
set_option linter.all false
set_option maxRecDepth 100000
set_option maxHeartbeats 4000000
namespace Lw
open PySem PySem.Spec PyProof.Rows L2 Hb
def eight : List Str := ["gate", "crk", "a", "zzzz", "door", "up", "tick", "loud"]
def spWords : Sp := fun vs H Q _ => ∃ (d g : Addr) (many : Int), vs = [.ref d, .int many] ∧ Deal d g H ∧ 0 ≤ many ∧ many ≤ 8 ∧
  ∀ (H' : Hp) (p : Addr) (ws : List Str), Deal d g H' → Kp d g H H' → H p = none → H' p = some (.lst (ws.map V.str)) → p ≠ g → ws.Nodup → (∀ w ∈ ws, w ∈ eight) → ws.length = many.toNat → Q (.ref p) H'
def unS : V → Str
  | .str x => x
  | _ => Str.empty
theorem unS_map (xs : List Str) : (xs.map V.str).map unS = xs := by
  rw [List.map_map]
  exact List.map_id xs
theorem strs_perm {ys : List V} {xs : List Str} (h : ys.Perm (xs.map V.str)) : ∃ zs : List Str, ys = zs.map V.str ∧ zs.Perm xs := by
  refine ⟨ys.map unS, ?_, by have := h.map unS; rw [unS_map] at this; exact this⟩
  rw [List.map_map]
  refine (List.map_id ys).symm.trans (List.map_congr_left fun v hv => ?_)
  obtain ⟨x, _, rfl⟩ := List.mem_map.mp (h.mem_iff.mp hv)
  rfl
theorem eight_nodup : eight.Nodup := by decide +kernel
theorem eight_ok : ∀ w ∈ eight, PyData.strOk w = true := by decide +kernel
theorem good_str {K : PySem.W.Frag} {H : Hp} {x : Str} (h : PyData.strOk x = true) : Hb.Good K H (.str x) := ⟨.str x, .str x, by simp only [PyData.canLay0]; exact h, by simp [PyData.depth]⟩
theorem cut_take (xs : List V) {i : Int} (h0 : 0 ≤ i) : cutV xs none (some i) = xs.take i.toNat := by
  have a : ¬ i < 0 := by omega
  simp [cutV, HT.sIx, a]
section
variable {P : Program} {w : World} {K : PySem.W.Frag} {mg : Str → Option Value} {base : Heap}
theorem c_words (D : Df K mg "_law_words" s_words) (T : Tx K mg) (c_mixed : C8.Cal P w K mg base 2 "_law_mixed" (spMixed K) []) : C8.Cal P w K mg base 3 "_law_words" spWords [] := by
  refine cal_mk D sc_words bd_words (fun vs H Q E h => ?_) fun f cdv A outer s H vs Q E hr h => ?_
  · obtain ⟨d, g, many, rfl, _⟩ := h
    rfl
  · obtain ⟨d, g, many, rfl, dl, m0, m1, k⟩ := h
    refine ⟨_, (pss_one (ps_ret (pe_slice sl_list (C8.pe_c c_mixed hr (by decide) rfl (pa_cons (pv 0) (pa_cons (pe_lst (pa_cons pe_str (pa_cons pe_str (pa_cons pe_str (pa_cons pe_str (pa_cons pe_str (pa_cons pe_str (pa_cons pe_str (pa_cons pe_str pa_nil))))))))) pa_nil))) po_none (po_some (pv 1))))), ?_⟩
    refine ⟨_, rfl, by show 8 ≤ sizeLine; decide, fun l nl => ?_⟩
    have dl2 := dl.new nl (o := .lst (eight.map V.str))
    refine ⟨d, g, l, eight.map V.str, rfl, dl2, .inl (SqL.of upd_same), by show 8 < 1000000; decide, fun v hv => ?_, fun H1 p ys d1 k1 np hp pg pm => ?_⟩
    · obtain ⟨x, hx, rfl⟩ := List.mem_map.mp hv
      exact good_str (eight_ok x hx)
    · obtain ⟨zs, rfl, pm2⟩ := strs_perm pm
      refine ⟨_, rfl, _, rfl, p, _, rfl, SqL.of hp, fun q nq => ?_⟩
      rw [show cutV (zs.map V.str) none (some many) = (zs.take many.toNat).map V.str by rw [cut_take _ m0, List.map_take]]
      have nH : H q = none := by
        have q1 := Kp.free k1 d1 nq
        exact (Same.new nl).free q1
      refine k _ q _ (d1.new nq) (((Hb.Same.kp (Same.new nl)).trans k1).trans (Hb.Same.kp (Same.new nq))) nH upd_same (d1.free nq).2 ((pm2.nodup_iff.mpr eight_nodup).sublist (List.take_sublist _ _)) (fun w hw => pm2.mem_iff.mp (List.mem_of_mem_take hw)) ?_
      rw [List.length_take, pm2.length_eq]
      show min many.toNat 8 = many.toNat
      omega
def absV1 : V → Option V
  | .int n => some (.int (if n < 0 then -n else n))
  | _ => none
def bigV : V → Option V
  | .int n => if 1000000000000000000 ≤ n then some (.int n) else none
  | _ => none
theorem cut_all {xs : List V} (h : xs.length ≤ 63) : cutV xs (some 0) (some 63) = xs := by
  have e : min 63 xs.length = xs.length := by omega
  simp [cutV, HT.sIx, e]
/-- the deal -/
def spDeal (K : PySem.W.Frag) : Sp := fun vs H Q _ => ∃ (a : Addr) (ns : List Int), vs = [.ref a, .int 0] ∧ SqL K H a (ns.map V.int) ∧ ns.length ≤ 63 ∧
  ∀ (H' : Hp) (d g : Addr), Deal d g H' → Same H H' → H d = none → H g = none → Q (.ref d) H'
theorem c_deal (D : Df K mg "_law_deal" s_deal) (T : Tx K mg) : C8.Cal P w K mg base 1 "_law_deal" (spDeal K) [] := by
  refine cal_mk D sc_deal bd_deal (fun vs H Q E h => ?_) fun f cdv A outer s H vs Q E hr h => ?_
  · obtain ⟨a, ns, rfl, _⟩ := h
    rfl
  · obtain ⟨a, ns, rfl, hS, few, k⟩ := h
    refine ⟨_, (pss_cons (ps_setLc (i := 2) (own := [("_law_cell", 3)]) (by rfl) sc_deal.nd rfl rfl (sw_true rfl rfl rfl (by decide +kernel)) (pi_list (pe_slice sl_list (pv 0) (po_some (pv 1)) (po_some pe_int))) (blkOk_by (N := N_deal) (sc := defScope s_deal) (by decide +kernel)) (fun _ _ _ _ _ => (pg_name (i := 3) sc_deal.nd rfl (Or.inl rfl))) (fun _ _ _ _ _ => pts_nil) (fun _ _ _ _ _ => (pe_callB call_abs (by rfl) T.n_abs (by decide +kernel) (pa_cons (pv 3) pa_nil))))
 (pss_cons (ps_set (i := 4) sc_deal.nd rfl (Or.inl rfl) (pe_op op_add pe_int (pv 1)))
 (pss_cons (ps_for PassesOwn.never rfl (pi_list (pv 2)) (pg_name (i := 3) sc_deal.nd rfl (Or.inl rfl))
 (pss_one (ps_set (i := 4) sc_deal.nd rfl (Or.inl rfl) (pe_op op_mod (pe_callTy call_int1 (by rfl) T.n_int (by decide +kernel) (pa_cons (pe_op op_add (pe_op op_mul (pv 4) pe_int) (pv 3)) pa_nil)) pe_int))))
 (pss_cons (ps_setLc (i := 5) (own := [("_law_cell", 3)]) (by rfl) sc_deal.nd rfl rfl (sw_true rfl rfl rfl (by decide +kernel)) (pi_list (pv 2)) (blkOk_by (N := N_deal) (sc := defScope s_deal) (by decide +kernel)) (fun _ _ _ _ _ => (pg_name (i := 3) sc_deal.nd rfl (Or.inl rfl))) (fun _ _ _ _ _ => (pts_one (pt_cmpR op_ge (pv 3) (pe_op op_pow pe_int pe_int) (by first | exact nomark _ | rfl)))) (fun _ _ _ _ _ => (pv 3)))
 (pss_one (ps_ret (pe_disp (pps_cons pe_str (pe_revL (pv 5)) (pps_cons pe_str pe_int (pps_cons pe_str (pe_op op_add (pv 4) pe_int) (pps_cons pe_str pe_int pps_nil)))) (by rfl) (by rfl) (fun z => by cases z) (by decide)))))))), ?_⟩
    have line := sizeLine_eq
    refine ⟨_, rfl, _, rfl, _, rfl, _, rfl, a, _, rfl, hS, fun p np => ?_⟩
    rw [show cutV (ns.map V.int) (some 0) (some 63) = ns.map V.int from cut_all (by rw [List.length_map]; exact few)]
    refine ⟨p, rfl, ⟨_, SqL.of upd_same⟩, fun D nD => lc_listP (xs := ns.map V.int) absV1 (by rw [List.length_map]; omega) (fun acc => SqL.laid (SqL.of upd_same) nD) ?_ ?_⟩
    · intro x hx acc N hl hN _
      obtain ⟨n, _, rfl⟩ := List.mem_map.mp hx
      refine ⟨rfl, yes_ ⟨_, rfl, n, rfl, acc, upd_same, hl, by rw [upd_upd]; exact hN _ rfl⟩⟩
    · rw [filterMap_ints (fun n => some (if n < 0 then -n else n)) ns absV1 (fun _ => rfl), List.filterMap_eq_map']
      have s1 : Same H (upd (upd H p (.lst (ns.map V.int))) D (.lst ((ns.map fun n => if n < 0 then -n else n).map V.int))) := (Same.new np).trans (Same.new nD)
      generalize hms : (ns.map fun n => if n < 0 then -n else n) = ms at s1 ⊢
      have few2 : ms.length ≤ 63 := by rw [← hms, List.length_map]; exact few
      generalize hH : upd (upd H p (.lst (ns.map V.int))) D (.lst (ms.map V.int)) = H2 at s1 ⊢
      have hD : H2 D = some (.lst (ms.map V.int)) := by rw [← hH]; exact upd_same
      refine ⟨_, rfl, _, _, rfl, rfl, ?_⟩
      refine ⟨_, rfl, D, rfl, ⟨_, SqL.of hD⟩, for_list (K := K) (a := D) (xs := ms.map V.int) (fun _ σ H' => ∃ z v, σ = [some (.ref a), some (.int 0), some (.ref D), v, some (.int z), none] ∧ H' = H2) ⟨_, none, rfl, rfl⟩ (fun _ _ _ _ ⟨_, _, _, e⟩ => by rw [e]; exact SqL.of hD) ?_ ?_⟩
      · rintro i x σ H' hx ⟨z, v, rfl, rfl⟩
        obtain ⟨n, _, rfl⟩ := List.mem_map.mp (List.mem_of_getElem? hx)
        exact ⟨_, rfl, _, _, rfl, rfl, .inr (by decide), _, rfl, _, _, rfl, rfl, .inl ⟨_, rfl, _, _, rfl, rfl, (by show (0 : Int) < 2147483647; decide), _, _, rfl, rfl⟩⟩
      · rintro σ H' ⟨z, v, rfl, rfl⟩
        refine ⟨_, rfl, D, rfl, ⟨_, SqL.of hD⟩, fun G nG => lc_listP (xs := ms.map V.int) bigV (by rw [List.length_map]; omega) (fun acc => SqL.laid (SqL.of hD) nG) ?_ ?_⟩
        · intro x hx acc N hl hN hN2
          obtain ⟨n, _, rfl⟩ := List.mem_map.mp hx
          refine ⟨rfl, _, rfl, _, _, rfl, rfl, ⟨by decide, by decide, by decide⟩, _, _, rfl, rfl, _, rfl, ?_⟩
          refine ite2 (fun q => ?_) (fun q => ?_)
          · have q' : (1000000000000000000 : Int) ≤ n := of_decide_eq_true q
            refine ⟨_, rfl, acc, upd_same, hl, ?_⟩
            rw [upd_upd]
            exact hN _ (by show (if _ then _ else _) = _; rw [if_pos q'])
          · have q' : ¬ (1000000000000000000 : Int) ≤ n := fun z => q (decide_eq_true z)
            exact hN2 (by show (if _ then _ else _) = _; rw [if_neg q'])
        · rw [filterMap_ints (fun n => if 1000000000000000000 ≤ n then some n else none) ms bigV (fun n => by show (if _ then _ else _) = _; split <;> simp_all)]
          have big : ∀ n ∈ ms.filterMap (fun n => if 1000000000000000000 ≤ n then some n else none), (0 : Int) ≤ n := fun n hn => by
            obtain ⟨m, _, e⟩ := List.mem_filterMap.mp hn
            by_cases q : (1000000000000000000 : Int) ≤ m
            · rw [if_pos q] at e
              cases e
              omega
            · rw [if_neg q] at e
              cases e
          have bl : (ms.filterMap (fun n => if 1000000000000000000 ≤ n then some n else none)).length ≤ 63 := Nat.le_trans (List.length_filterMap_le _ _) few2
          generalize ms.filterMap (fun n => if 1000000000000000000 ≤ n then some n else none) = gs at big bl ⊢
          intro d nd
          have ndG : d ≠ G := fun q => by rw [q, upd_same] at nd; cases nd
          have nd2 := nd
          rw [upd_ne ndG] at nd2
          refine ⟨_, rfl, G, _, rfl, SqL.of (Eq.trans (upd_ne ndG.symm) upd_same), fun g ng => ?_⟩
          have ngd : g ≠ d := fun q => by rw [q, upd_same] at ng; cases ng
          have ng2 := ng
          rw [upd_ne ngd] at ng2
          have ngG : g ≠ G := fun q => by rw [q, upd_same] at ng2; cases ng2
          rw [upd_ne ngG] at ng2
          refine ⟨_, rfl, _, _, rfl, rfl, Eq.trans (upd_ne ngd.symm) upd_same, dealKV g 0 (z + 1) 0, rfl, by show 4 ≤ 15; decide, ?_⟩
          rw [show mergeK [] (dealKV g 0 (z + 1) 0) = dealKV g 0 (z + 1) 0 from rfl]
          refine k _ d g ⟨gs.reverse, 0, z + 1, 0, ⟨upd_same, ?_, by rw [List.length_reverse]; exact bl, fun n hn => big n (List.mem_reverse.mp hn), by decide⟩⟩ ?_ (s1.free nd2) (s1.free ng2)
          · rw [upd_ne ngd, upd_same, List.map_reverse]
          · refine fun b o e => ?_
            have e1 := s1 b o e
            rw [upd_ne (ne_of_none e1 nd2), upd_ne (ne_of_none e1 ng2), upd_ne (ne_of_none e1 nd2), upd_ne (ne_of_none e1 nG)]
            exact e1
end
end Lw
set_option Elab.async false
set_option linter.all false
set_option maxRecDepth 100000
set_option maxHeartbeats 4000000
namespace Lw
open PySem PySem.Spec PyProof.Rows L2 Hb
def strV1 : V → Option V
  | .str n => some (.str n)
  | _ => none
def WordsOk (ws : List Str) : Prop := ∀ w ∈ ws, PyData.strOk w = true ∧ nameB w = true
theorem eight_words : WordsOk eight := by unfold WordsOk; decide +kernel
def spDrawn (K : PySem.W.Frag) : Sp := fun vs H Q _ => ∃ (d g l : Addr) (ws : List Str), vs = [.ref d, .ref l] ∧ Deal d g H ∧ SqL K H l (ws.map V.str) ∧ ws.Nodup ∧ ws.length ≤ 8 ∧ WordsOk ws ∧
  ∀ (H' : Hp) (p : Addr) (z : Zz), Deal d g H' → Kp d g H H' → H p = none → OneAt K H' p z → Zok z ws → Q (.ref p) H'
section
variable {P : Program} {w : World} {K : PySem.W.Frag} {mg : Str → Option Value} {base : Heap}
theorem c_drawn_sleeper (D : Df K mg "_law_drawn_sleeper" s_drawn_sleeper) (T : Tx K mg) (c_draw : C8.Cal P w K mg base 1 "_law_draw" spDraw []) (c_pick : C8.Cal P w K mg base 2 "_law_pick" (spPick K) []) :
    C8.Cal P w K mg base 3 "_law_drawn_sleeper" (spDrawn K) [] := by
  refine cal_mk D sc_drawn_sleeper bd_drawn_sleeper (fun vs H Q E h => ?_) fun f cdv A outer s H vs Q E hr h => ?_
  · obtain ⟨d, g, l, ws, rfl, _⟩ := h
    rfl
  · obtain ⟨d, g, l, ws, rfl, dl, hl, nd, few, wok, k⟩ := h
    have line := sizeLine_eq
    refine ⟨_, (pss_cons (ps_set (i := 2) sc_drawn_sleeper.nd rfl (Or.inl rfl) (pe_lst pa_nil))
 (pss_cons (ps_for PassesOwn.never rfl (pi_list (pe_callB cr_sortedS (by rfl) T.n_sorted (by decide +kernel) (pa_cons (pe_lc (own := [("_law_word", 3)]) (by rfl) sc_drawn_sleeper.nd (pi_list (pv 1)) (blkOk_by (N := N_drawn_sleeper) (sc := defScope s_drawn_sleeper) (by decide +kernel)) (fun _ _ _ _ _ => (pg_name (i := 3) sc_drawn_sleeper.nd rfl (Or.inl rfl))) (fun _ _ _ _ _ => pts_nil) (fun _ _ _ _ _ => (pe_callTy SkE.call_str_str (by rfl) T.n_str (by decide +kernel) (pa_cons (pv 3) pa_nil)))) pa_nil))) (pg_name (i := 3) sc_drawn_sleeper.nd rfl (Or.inl rfl))
 (pss_cons (ps_set (i := 4) sc_drawn_sleeper.nd rfl (Or.inl rfl) (C8.pe_c c_pick hr (by decide) rfl (pa_cons (pv 0) (pa_cons (pe_lst (pa_cons pe_str (pa_cons pe_str (pa_cons pe_str (pa_cons pe_str (pa_cons pe_str (pa_cons pe_str pa_nil))))))) pa_nil))))
 (pss_one (ps_set (i := 2) sc_drawn_sleeper.nd rfl (Or.inl rfl) (pe_op op_cat (pv 2) (pe_ifExp (pt_cmpR op_ne (pv 4) pe_str (by first | exact nomark _ | rfl)) (pe_lst (pa_cons (pe_tup (pa_cons (pv 3) (pa_cons (pv 4) pa_nil))) pa_nil)) (pe_lst pa_nil)))))))
 (pss_cons (ps_set (i := 5) sc_drawn_sleeper.nd rfl (Or.inl rfl) (C8.pe_c c_pick hr (by decide) rfl (pa_cons (pv 0) (pa_cons (pe_lst (pa_cons pe_str (pa_cons pe_str (pa_cons pe_str pa_nil)))) pa_nil))))
 (pss_one (ps_ret (pe_tup (pa_cons (pe_callTy call_tuple_of (by rfl) T.n_tuple (by decide +kernel) (pa_cons (pv 2) pa_nil)) (pa_cons (pe_op op_add pe_int (C8.pe_c c_draw hr (by decide) rfl (pa_cons (pv 0) (pa_cons pe_int pa_nil)))) (pa_cons (pe_op op_add pe_int (C8.pe_c c_draw hr (by decide) rfl (pa_cons (pv 0) (pa_cons pe_int pa_nil)))) (pa_cons (pe_op op_add pe_int (C8.pe_c c_draw hr (by decide) rfl (pa_cons (pv 0) (pa_cons pe_int pa_nil)))) (pa_cons (pv 5) pa_nil))))))))))), ?_⟩
    refine ⟨Nat.zero_le _, fun S0 nS0 => ?_⟩
    have s0 : Same H (upd H S0 (.lst [])) := Same.new nS0
    refine ⟨_, rfl, l, rfl, ⟨_, Same.seq s0 hl⟩, fun D nD => lc_listP (xs := ws.map V.str) strV1 (by rw [List.length_map]; omega) (fun acc => SqL.laid (Same.seq s0 hl) nD) ?_ ?_⟩
    · intro x hx acc N hac hN _
      obtain ⟨n, _, rfl⟩ := List.mem_map.mp hx
      exact ⟨rfl, yes_ ⟨_, rfl, n, rfl, acc, upd_same, hac, by rw [upd_upd]; exact hN _ rfl⟩⟩
    · rw [filterMap_strs (fun n => some n) ws strV1 (fun _ => rfl), List.filterMap_some]
      have s1 : Same H (upd (upd H S0 (.lst [])) D (.lst (ws.map V.str))) := s0.trans (Same.new nD)
      refine ⟨D, ws, rfl, SqL.of upd_same, by omega, fun ys p pm srt np => ?_⟩
      have s2 : Same H (upd (upd (upd H S0 (.lst [])) D (.lst (ws.map V.str))) p (.lst (ys.map V.str))) := s1.trans (Same.new np)
      have hp : upd (upd (upd H S0 (.lst [])) D (.lst (ws.map V.str))) p (.lst (ys.map V.str)) p = some (.lst (ys.map V.str)) := upd_same
      have hS0 : upd (upd (upd H S0 (.lst [])) D (.lst (ws.map V.str))) p (.lst (ys.map V.str)) S0 = some (.lst []) :=
        (Same.new np) _ _ ((Same.new nD) _ _ upd_same)
      have pg : p ≠ g := ((dl.same s1).free np).2
      have S0g : S0 ≠ g := (dl.free nS0).2
      generalize upd (upd (upd H S0 (.lst [])) D (.lst (ws.map V.str))) p (.lst (ys.map V.str)) = H3 at s2 hp hS0 ⊢
      have d3 : Deal d g H3 := dl.same s2
      have pd : p ≠ d := d3.ne_d hp (by intro kvs e; cases e)
      refine ⟨p, rfl, ⟨_, SqL.of hp⟩, for_list (K := K) (a := p) (xs := ys.map V.str) (fun i σ H' => ∃ (S : Addr) (prs : List (Str × Str)) (ps : List V) (v3 v4 : Option V), σ = [some (.ref d), some (.ref l), some (.ref S), v3, v4, none] ∧ Deal d g H' ∧ Kp d g H3 H' ∧ S ≠ g ∧
          H' S = some (.lst ps) ∧ TDs K H' ps (prs.map encP) ∧ (prs.map Prod.fst).Sublist (ys.take i) ∧ ∀ pr ∈ prs, pr.2 ∈ fourS)
        ⟨S0, [], [], none, none, rfl, d3, Kp.refl _ _ _, S0g, hS0, .nil, by simp, fun pr h => by cases h⟩ (fun i σ H' _ ⟨S, prs, ps, v3, v4, _, _, k', _⟩ => SqL.of (k' p _ pd pg hp)) ?_ ?_⟩
      · rintro i x σ H4 hx ⟨S, prs, ps, v3, v4, rfl, d4, k4, Sg, hS, td, sub, four⟩
        obtain ⟨wd, hwd, rfl⟩ : ∃ wd, ys[i]? = some wd ∧ x = V.str wd := by
          rw [List.getElem?_map] at hx
          obtain ⟨y, h1, h2⟩ := Option.map_eq_some_iff.mp hx
          exact ⟨y, h1, h2.symm⟩
        refine ⟨_, rfl, by show 6 ≤ sizeLine; decide, fun q nq => ?_⟩
        have s5 : Same H4 (upd H4 q (.lst [.str "faint", .str "loud", .str "soft", .str "sudden", .str "soft", .str ""])) := Same.new nq
        refine ⟨d, g, q, _, rfl, d4.same s5, .inl ⟨upd_same, (d4.free nq).2⟩, by simp, by show 6 < 1000000; decide, fun H5 v hv d5 k5 => ?_⟩
        have Sd : S ≠ d := d4.ne_d hS (by intro kvs e; cases e)
        have k45 : Kp d g H4 H5 := (Hb.Same.kp s5).trans k5
        have hS5 := k45 S _ Sd Sg hS
        have td5 := TDs.keep (d4.tk k45) td
        have subx : ys.take (i + 1) = ys.take i ++ [wd] := by rw [List.take_add_one, hwd]; rfl
        have plen : ps.length ≤ 8 := by
          have a1 := td.length
          have a2 := sub.length_le
          have a3 := pm.length_eq
          rw [List.length_map] at a1 a2
          rw [List.length_take] at a2
          omega
        obtain ⟨so, hso, rfl⟩ : ∃ so, so ∈ (["faint", "loud", "soft", "sudden", "soft", ""] : List Str) ∧ v = V.str so := by
          have hv2 : v ∈ (["faint", "loud", "soft", "sudden", "soft", ""] : List Str).map V.str := hv
          obtain ⟨so, h1, h2⟩ := List.mem_map.mp hv2
          exact ⟨so, h1, h2.symm⟩
        refine ⟨_, rfl, _, rfl, rfl, _, rfl, ?_⟩
        by_cases e : V.str so = V.str ""
        · rw [decide_eq_true e]
          refine iteF ⟨Nat.zero_le _, fun q2 nq2 => ?_⟩
          have s6 : Same H5 (upd H5 q2 (.lst [])) := Same.new nq2
          refine ⟨S, q2, ps, [], rfl, rfl, s6 _ _ hS5, upd_same, by simp; omega, fun q3 nq3 => ?_⟩
          have s7 : Same H5 (upd (upd H5 q2 (.lst [])) q3 (.lst (ps ++ []))) := s6.trans (Same.new nq3)
          exact ⟨q3, prs, ps ++ [], _, _, rfl, d5.same s7, (k4.trans k45).trans (Hb.Same.kp s7), ((d5.same s6).free nq3).2, upd_same, by have := TDs.keep (Same.tk s7) td5; simpa using this, by rw [subx]; exact sub.trans (List.sublist_append_left _ _), four⟩
        · rw [decide_eq_false e]
          have so4 : so ∈ fourS := by
            have ne : so ≠ "" := fun z => e (by rw [z])
            simp only [List.mem_cons, List.not_mem_nil, or_false] at hso
            rcases hso with h | h | h | h | h | h <;> first | exact absurd h ne | (rw [h]; decide +kernel)
          refine iteT ⟨_, rfl, _, rfl, by show 2 ≤ sizeLine; decide, fun t nt => ?_⟩
          have s6 : Same H5 (upd H5 t (.tup [.str wd, .str so])) := Same.new nt
          refine ⟨by show 1 ≤ sizeLine; decide, fun q2 nq2 => ?_⟩
          have s7 := s6.trans (Same.new nq2 (o := .lst [.ref t]))
          refine ⟨S, q2, ps, [.ref t], rfl, rfl, s7 _ _ hS5, upd_same, by simp; omega, fun q3 nq3 => ?_⟩
          have s8 : Same (upd (upd H5 t (.tup [.str wd, .str so])) q2 (.lst [.ref t])) (upd (upd (upd H5 t (.tup [.str wd, .str so])) q2 (.lst [.ref t])) q3 (.lst (ps ++ [.ref t]))) := Same.new nq3
          have s9 := s7.trans s8
          have ht := s8 _ _ ((Same.new nq2 (o := .lst [.ref t])) _ _ (upd_same (H := H5) (a := t) (o := .tup [.str wd, .str so])))
          refine ⟨q3, prs ++ [(wd, so)], ps ++ [.ref t], _, _, rfl, d5.same s9, (k4.trans k45).trans (Hb.Same.kp s9), ((d5.same s7).free nq3).2, upd_same, ?_, ?_, fun pr hpr => ?_⟩
          · rw [List.map_append]
            exact TDs.app (TDs.keep (Same.tk s9) td5) (.cons (.tup (SqT.of ht) (.cons (.str _) (.cons (.str _) .nil))) .nil)
          · rw [List.map_append, subx]
            exact List.Sublist.append sub (List.Sublist.refl _)
          · rcases List.mem_append.mp hpr with h | h
            · exact four pr h
            · rw [List.mem_singleton.mp h]
              exact so4
      · rintro σ H4 ⟨S, prs, ps, v3, v4, rfl, d4, k4, Sg, hS, td, sub, four⟩
        refine ⟨_, rfl, by show 3 ≤ sizeLine; decide, fun q nq => ?_⟩
        have s5 : Same H4 (upd H4 q (.lst [.str "again", .str "nothing", .str "wake"])) := Same.new nq
        refine ⟨d, g, q, _, rfl, d4.same s5, .inl ⟨upd_same, (d4.free nq).2⟩, by simp, by show 3 < 1000000; decide, fun H5 v hv d5 k5 => ?_⟩
        have Sd : S ≠ d := d4.ne_d hS (by intro kvs e; cases e)
        have k45 : Kp d g H4 H5 := (Hb.Same.kp s5).trans k5
        have hS5 := k45 S _ Sd Sg hS
        have td5 := TDs.keep (d4.tk k45) td
        obtain ⟨lo, hlo, rfl⟩ : ∃ lo, lo ∈ threeS ∧ v = V.str lo := by
          have hv2 : v ∈ threeS.map V.str := hv
          obtain ⟨so, h1, h2⟩ := List.mem_map.mp hv2
          exact ⟨so, h1, h2.symm⟩
        refine ⟨_, rfl, S, ps, rfl, .inl ⟨SqL.of hS5, fun t nt => ?_⟩⟩
        have s6 : Same H5 (upd H5 t (.tup ps)) := Same.new nt
        refine ⟨_, rfl, d, g, 5, rfl, d5.same s6, by decide, by decide, fun H6 r1 d6 k6 a0 a1 => ⟨_, _, rfl, rfl, ?_⟩⟩
        refine ⟨_, rfl, d, g, 5, rfl, d6, by decide, by decide, fun H7 r2 d7 k7 b0 b1 => ⟨_, _, rfl, rfl, ?_⟩⟩
        refine ⟨_, rfl, d, g, 2, rfl, d7, by decide, by decide, fun H8 r3 d8 k8 c0 c1 => ⟨_, _, rfl, rfl, ?_⟩⟩
        refine ⟨_, rfl, by show 5 ≤ sizeLine; decide, fun u nu => ?_⟩
        have s9 : Same H8 (upd H8 u (.tup [.ref t, .int (1 + r1), .int (1 + r2), .int (1 + r3), .str lo])) := Same.new nu
        have k58 : Kp d g (upd H5 t (.tup ps)) H8 := (k6.trans k7).trans k8
        have kall : Kp d g H H8 := (((Hb.Same.kp s2).trans k4).trans k45).trans ((Hb.Same.kp s6).trans k58)
        have tk58 := (d5.same s6).tk k58
        have ht8 : upd H8 u (.tup [.ref t, .int (1 + r1), .int (1 + r2), .int (1 + r3), .str lo]) t = some (.tup ps) := s9 _ _ (tk58.t t _ upd_same)
        have td8 : TDs K (upd H8 u (.tup [.ref t, .int (1 + r1), .int (1 + r2), .int (1 + r3), .str lo])) ps (prs.map encP) := TDs.keep (Same.tk s9) (TDs.keep tk58 (TDs.keep (Same.tk s6) td5))
        have sub2 : (prs.map Prod.fst).Sublist ys := sub.trans (List.take_sublist _ _)
        have inw : ∀ pr ∈ prs, pr.1 ∈ ws := fun pr h => pm.mem_iff.mp (sub2.subset (List.mem_map.mpr ⟨pr, h, rfl⟩))
        refine k _ u ⟨prs, 1 + r1, 1 + r2, 1 + r3, lo⟩ (d8.same s9) (kall.trans (Hb.Same.kp s9)) (Kp.free kall d8 nu) (OneIs.one ⟨SqT.of upd_same, SqT.of ht8, td8⟩) ⟨(pm.nodup_iff.mpr nd).sublist sub2, inw, fun pr h => wok _ (inw pr h), four, ?_, ?_, ?_, ?_, ?_, ?_, ?_, hlo⟩
        · have a2 := sub2.length_le
          have a3 := pm.length_eq
          rw [List.length_map] at a2
          show prs.length ≤ 8
          omega
        · show 1 ≤ 1 + r1; omega
        · show 1 + r1 ≤ 5; omega
        · show 1 ≤ 1 + r2; omega
        · show 1 + r2 ≤ 5; omega
        · show 1 ≤ 1 + r3; omega
        · show 1 + r3 ≤ 2; omega
end
end Lw
set_option Elab.async false
set_option linter.all false
set_option maxRecDepth 100000
set_option maxHeartbeats 4000000
namespace Lw
open PySem PySem.Spec PyProof.Rows L2 Hb
def spWhole : Sp := fun vs H Q _ => ∃ i : Int, vs = [.int i] ∧ Q (.bl true) H
def spPos : Sp := fun vs H Q _ => ∃ i : Int, vs = [.int i] ∧ Q (.bl (decide (1 ≤ i))) H
def spName : Sp := fun vs H Q _ => ∃ x : Str, vs = [.str x] ∧ x.length ≤ 1000 ∧ ∀ H', Same H H' → Q (.bl (nameB x)) H'
section
variable {P : Program} {w : World} {K : PySem.W.Frag} {mg : Str → Option Value} {base : Heap}
theorem c_is_whole (D : Df K mg "is_whole" s_is_whole) (T : Tx K mg) : C8.Cal P w K mg base 1 "is_whole" spWhole [] := by
  refine cal_mk D sc_is_whole bd_is_whole (fun vs H Q E h => ?_) fun f cdv A outer s H vs Q E hr h => ?_
  · obtain ⟨i, rfl, _⟩ := h
    rfl
  · obtain ⟨i, rfl, k⟩ := h
    refine ⟨_, (pss_one (ps_ret (pe_and (pe_callB call_isi (by rfl) T.n_isinstance (by decide +kernel) (pa_cons (pv 0) (pa_cons (pe_bltn (v := .ty "int") (u := .type "int") rfl T.n_int (by decide +kernel) rfl) pa_nil))) (pe_one (pe_not (pe_callB call_isi (by rfl) T.n_isinstance (by decide +kernel) (pa_cons (pv 0) (pa_cons (pe_bltn (v := .ty "bool") (u := .type "bool") rfl T.n_bool (by decide +kernel) rfl) pa_nil)))))))), ?_⟩
    refine ⟨_, rfl, _, _, _, _, true, rfl, .ty _, .base (.int i), kit_ty (by decide +kernel), _, rfl, iteT ?_⟩
    exact ⟨_, rfl, _, _, _, _, false, rfl, .ty _, .base (.int i), kit_ty (by decide +kernel), _, rfl, k⟩
theorem c_is_positive (D : Df K mg "is_positive" s_is_positive) (T : Tx K mg) (c_is_whole : C8.Cal P w K mg base 1 "is_whole" spWhole []) : C8.Cal P w K mg base 2 "is_positive" spPos [] := by
  refine cal_mk D sc_is_positive bd_is_positive (fun vs H Q E h => ?_) fun f cdv A outer s H vs Q E hr h => ?_
  · obtain ⟨i, rfl, _⟩ := h
    rfl
  · obtain ⟨i, rfl, k⟩ := h
    refine ⟨_, (pss_one (ps_ret (pe_and (C8.pe_c c_is_whole hr (by decide) rfl (pa_cons (pv 0) pa_nil)) (pe_one (pe_cmpR op_ge (pv 0) pe_int (by first | exact nomark _ | rfl)))))), ?_⟩
    exact ⟨_, rfl, i, rfl, _, rfl, iteT ⟨_, rfl, _, _, rfl, rfl, k⟩⟩
theorem c_is_name (D : Df K mg "is_name" s_is_name) (T : Tx K mg) : C8.Cal P w K mg base 1 "is_name" spName [] := by
  refine cal_mk D sc_is_name bd_is_name (fun vs H Q E h => ?_) fun f cdv A outer s H vs Q E hr h => ?_
  · obtain ⟨i, rfl, _⟩ := h
    rfl
  · obtain ⟨x, rfl, few, k⟩ := h
    obtain ⟨tL, hLETTERS⟩ := T.s_LETTERS
    have line := sizeLine_eq
    refine ⟨_, (pss_cons (ps_if (PW.pt (pw_or (pt_not (pt_val (pe_callB call_isi (by rfl) T.n_isinstance (by decide +kernel) (pa_cons (pv 0) (pa_cons (pe_bltn (v := .ty "str") (u := .type "str") rfl T.n_str (by decide +kernel) rfl) pa_nil))))) (pw_or1 (pt_not (pt_chain op_le op_le pe_int (pe_callB call_len (by rfl) T.n_len (by decide +kernel) (pa_cons (pv 0) pa_nil)) pe_int)))))
 (pss_one (ps_ret pe_bl))
 pss_nil)
 (pss_one (ps_ret (pe_callB (cr_all rfl) (by rfl) T.n_all (by decide +kernel) (pa_cons (pe_lc (own := [("letter", 1)]) (by rfl) sc_is_name.nd (pi_str (pv 0)) (blkOk_by (N := N_is_name) (sc := defScope s_is_name) (by decide +kernel)) (fun _ _ _ _ _ => (pg_name (i := 1) sc_is_name.nd rfl (Or.inl rfl))) (fun _ _ _ _ _ => pts_nil) (fun _ _ _ _ _ => (pe_cmpR op_in_sign (pv 1) (pe_glob (v := .str "abcdefghijklmnopqrstuvwxyz") rfl hLETTERS ⟨_, rfl⟩) (by first | exact nomark _ | rfl)))) pa_nil))))), ?_⟩
    refine ⟨_, rfl, _, _, _, _, true, rfl, .ty _, .base (.str x), kit_ty (by decide +kernel), _, rfl, iteF ?_⟩
    refine ⟨_, rfl, .str x, x.length, rfl, ⟨by omega, rfl⟩, _, _, rfl, rfl, _, rfl, ?_⟩
    by_cases h1 : (1 : Int) ≤ (x.length : Nat)
    · rw [decide_eq_true h1]
      refine iteT ⟨_, _, rfl, rfl, _, rfl, ?_⟩
      by_cases h2 : ((x.length : Nat) : Int) ≤ 4
      · rw [decide_eq_true h2]
        refine iteF ⟨_, rfl, x, rfl, fun D nD => lc_it (walk_str (z := x)) (fun i H' => H' = upd H D (.lst (((x.cps.toList.take i).map isLetter).map V.bl))) (by simp) (fun _ _ _ _ => trivial) ?_ ?_⟩
        · rintro i v H' H2 hi rfl ⟨e, c, hc, rfl⟩
          subst e
          refine ⟨rfl, yes_ ⟨_, rfl, c, _, rfl, rfl, _, upd_same, ?_, ?_⟩⟩
          · rw [List.length_map, List.length_map, List.length_take]
            have el : x.cps.toList.length = x.length := by simp [Str.length]
            omega
          · rw [upd_upd]
            have hc2 : x.cps.toList[i]? = some c := by rw [Array.getElem?_toList]; exact hc
            show upd H D _ = upd H D _
            rw [List.take_add_one, hc2]
            simp [isLetter]
        · rintro H' rfl
          have el : x.cps.size = x.cps.toList.length := by simp
          refine ⟨D, x.cps.toList.map isLetter, rfl, SqL.of (by rw [el, List.take_length]; exact upd_same), ?_⟩
          have e : (x.cps.toList.map isLetter).all id = nameB x := by
            have q : decide (1 ≤ x.length ∧ x.length ≤ 4) = true := decide_eq_true ⟨by omega, by omega⟩
            rw [nameB, q, List.all_map]
            rfl
          rw [e]
          exact k _ (Same.new nD)
      · rw [decide_eq_false h2]
        refine iteT ?_
        have q : nameB x = false := by
          have q : decide (1 ≤ x.length ∧ x.length ≤ 4) = false := decide_eq_false (by omega)
          rw [nameB, q, Bool.false_and]
        have k2 := k H (Same.refl H)
        rw [q] at k2
        exact k2
    · rw [decide_eq_false h1]
      refine iteF ⟨_, rfl, iteT ?_⟩
      have q : nameB x = false := by
        have q : decide (1 ≤ x.length ∧ x.length ≤ 4) = false := decide_eq_false (by omega)
        rw [nameB, q, Bool.false_and]
      have k2 := k H (Same.refl H)
      rw [q] at k2
      exact k2
def spRow (K : PySem.W.Frag) : Sp := fun vs H Q _ => ∃ (a : Addr) (xs : List V), vs = [.ref a] ∧ (SqL K H a xs ∨ SqT K H a xs) ∧ ∀ H', Same H H' → Q (.bl true) H'
theorem c_is_row (D : Df K mg "is_row" s_is_row) (T : Tx K mg) : C8.Cal P w K mg base 1 "is_row" (spRow K) [] := by
  refine cal_mk D sc_is_row bd_is_row (fun vs H Q E h => ?_) fun f cdv A outer s H vs Q E hr h => ?_
  · obtain ⟨a, xs, rfl, _⟩ := h
    rfl
  · obtain ⟨a, xs, rfl, hq, k⟩ := h
    refine ⟨_, (pss_one (ps_ret (pe_callB call_isiT (by rfl) T.n_isinstance (by decide +kernel) (pa_cons (pv 0) (pa_cons (pe_tup (pa_cons (pe_bltn (v := .ty "list") (u := .type "list") rfl T.n_list (by decide +kernel) rfl) (pa_cons (pe_bltn (v := .ty "tuple") (u := .type "tuple") rfl T.n_tuple (by decide +kernel) rfl) pa_nil))) pa_nil))))), ?_⟩
    refine ⟨_, rfl, by show 2 ≤ sizeLine; decide, fun p np => ?_⟩
    rcases hq with h | h
    · exact ⟨_, p, _, _, _, true, rfl, upd_same, .cons (.ty _) (.cons (.ty _) .nil), ty_lst (SqL.laid h np), kitAny_cons (kit_ty (b := "list") (r := true) (by decide +kernel)) (fun z => by cases z) (fun _ => rfl), k _ (Same.new np)⟩
    · exact ⟨_, p, _, _, _, true, rfl, upd_same, .cons (.ty _) (.cons (.ty _) .nil), ty_tup (SqT.laid h np), kitAny_cons (kit_ty (b := "list") (r := false) (by decide +kernel)) (fun _ => kitAny_cons (kit_ty (b := "tuple") (r := true) (by decide +kernel)) (fun z => by cases z) (fun _ => rfl)) (fun z => by cases z), k _ (Same.new np)⟩
def spTupOf (K : PySem.W.Frag) : Sp := fun vs H Q _ => ∃ (a : Addr) (xs : List V) (n : Int), vs = [.ref a, .int n] ∧ SqT K H a xs ∧ Q (.bl (decide (((xs.length : Nat) : Int) = n))) H
theorem c_is_tuple_of (D : Df K mg "is_tuple_of" s_is_tuple_of) (T : Tx K mg) : C8.Cal P w K mg base 1 "is_tuple_of" (spTupOf K) [] := by
  refine cal_mk D sc_is_tuple_of bd_is_tuple_of (fun vs H Q E h => ?_) fun f cdv A outer s H vs Q E hr h => ?_
  · obtain ⟨a, xs, n, rfl, _⟩ := h
    rfl
  · obtain ⟨a, xs, n, rfl, hq, k⟩ := h
    refine ⟨_, (pss_one (ps_ret (pe_and (pe_callB call_isi (by rfl) T.n_isinstance (by decide +kernel) (pa_cons (pv 0) (pa_cons (pe_bltn (v := .ty "tuple") (u := .type "tuple") rfl T.n_tuple (by decide +kernel) rfl) pa_nil))) (pe_one (pe_cmpR op_eq (pe_callB call_len (by rfl) T.n_len (by decide +kernel) (pa_cons (pv 0) pa_nil)) (pv 1) (by first | exact nomark _ | rfl)))))), ?_⟩
    refine ⟨_, rfl, _, _, _, _, true, rfl, .ty _, ty_tup hq, kit_ty (by decide +kernel), _, rfl, iteT ?_⟩
    refine ⟨_, rfl, .ref a, xs.length, rfl, .inr ⟨_, hq, rfl⟩, _, rfl, rfl, ?_⟩
    have e : decide (V.int ((xs.length : Nat) : Int) = V.int n) = decide (((xs.length : Nat) : Int) = n) := by
      by_cases q : ((xs.length : Nat) : Int) = n
      · rw [q]; simp
      · rw [decide_eq_false q, decide_eq_false (fun z => q (by injection z))]
    rw [e]
    exact k
def spUnlike (K : PySem.W.Frag) : Sp := fun vs H Q _ => ∃ (a : Addr), vs = [.ref a] ∧ ((∃ xs : List Str, SqL K H a (xs.map V.str) ∧ xs.Nodup ∧ xs.length ≤ 4000) ∨ ∃ ns : List Int, (SqL K H a (ns.map V.int) ∨ SqT K H a (ns.map V.int)) ∧ ns.Nodup ∧ ns.length ≤ 4000) ∧ Q (.bl true) H
theorem c_are_unlike (D : Df K mg "are_unlike" s_are_unlike) (T : Tx K mg) : C8.Cal P w K mg base 1 "are_unlike" (spUnlike K) [] := by
  refine cal_mk D sc_are_unlike bd_are_unlike (fun vs H Q E h => ?_) fun f cdv A outer s H vs Q E hr h => ?_
  · obtain ⟨a, rfl, _⟩ := h
    rfl
  · obtain ⟨a, rfl, hq, k⟩ := h
    refine ⟨_, (pss_one (ps_ret (pe_cmpR op_eq (Hb.pe_lenSet3 rfl T.n_len rfl T.n_set (pv 0)) (pe_callB call_len (by rfl) T.n_len (by decide +kernel) (pa_cons (pv 0) pa_nil)) (by first | exact nomark _ | rfl)))), ?_⟩
    rcases hq with ⟨xs, hq, nd, few⟩ | ⟨xs, hq, nd, few⟩
    · refine ⟨_, rfl, a, rfl, .inl ⟨xs, hq, nd, few, _, rfl, .ref a, _, rfl, .inl ⟨_, hq, rfl⟩, rfl, ?_⟩⟩
      rw [List.length_map, decide_eq_true rfl]
      exact k
    · refine ⟨_, rfl, a, rfl, .inr ⟨xs, hq, nd, few, _, rfl, .ref a, _, rfl, hq.imp (fun hq => ⟨_, hq, rfl⟩) (fun hq => ⟨_, hq, rfl⟩), rfl, ?_⟩⟩
      rw [List.length_map, decide_eq_true rfl]
      exact k
theorem name_short {x : Str} (h : nameB x = true) : x.length ≤ 4 := by
  have h1 := (Bool.and_eq_true_iff.mp h).1
  exact (of_decide_eq_true h1).2
end
end Lw
set_option Elab.async false
set_option linter.all false
set_option maxRecDepth 100000
set_option maxHeartbeats 4000000
namespace Lw
open PySem PySem.Spec PyProof.Rows L2 Hb
def spRoom : Sp := fun vs H Q _ => ∃ r v : Int, vs = [.int r, .int v] ∧ inR r v ∧ Q (.bl true) H
section
variable {P : Program} {w : World} {K : PySem.W.Frag} {mg : Str → Option Value} {base : Heap}
theorem c_is_room (D : Df K mg "is_room" s_is_room) (T : Tx K mg) (c_is_whole : C8.Cal P w K mg base 1 "is_whole" spWhole []) : C8.Cal P w K mg base 2 "is_room" spRoom [] := by
  refine cal_mk D sc_is_room bd_is_room (fun vs H Q E h => ?_) fun f cdv A outer s H vs Q E hr h => ?_
  · obtain ⟨r, v, rfl, _⟩ := h
    rfl
  · obtain ⟨r, v, rfl, ⟨i0, i1⟩, k⟩ := h
    refine ⟨_, (pss_one (ps_ret (pe_and (C8.pe_c c_is_whole hr (by decide) rfl (pa_cons (pv 1) pa_nil)) (pe_one (pe_chain op_le op_lt pe_int (pv 1) (pv 0)))))), ?_⟩
    refine ⟨_, rfl, v, rfl, _, rfl, iteT ?_⟩
    refine ⟨_, rfl, _, _, rfl, rfl, _, rfl, ?_⟩
    rw [decide_eq_true i0]
    refine iteT ⟨_, rfl, _, _, rfl, rfl, ?_⟩
    show Q (V.bl (decide (v < r))) H
    rw [decide_eq_true i1]
    exact k
def spDoor (K : PySem.W.Frag) : Sp := fun vs H Q _ => ∃ (r : Int) (t : Addr) (x : Dr), vs = [.int r, .ref t] ∧ SqT K H t [.int x.1, .int x.2.1, nzV x.2.2] ∧ DrOk r x ∧ ∀ H', Same H H' → Q (.bl true) H'
theorem c_is_door (D : Df K mg "is_door" s_is_door) (T : Tx K mg) (c_is_tuple_of : C8.Cal P w K mg base 1 "is_tuple_of" (spTupOf K) []) (c_is_room : C8.Cal P w K mg base 2 "is_room" spRoom []) (c_is_name : C8.Cal P w K mg base 1 "is_name" spName []) :
    C8.Cal P w K mg base 3 "is_door" (spDoor K) [] := by
  refine cal_mk D sc_is_door bd_is_door (fun vs H Q E h => ?_) fun f cdv A outer s H vs Q E hr h => ?_
  · obtain ⟨r, t, x, rfl, _⟩ := h
    rfl
  · obtain ⟨r, t, x, rfl, ht, ok, k⟩ := h
    refine ⟨_, (pss_cons (ps_if (pt_not (pt_val (C8.pe_c c_is_tuple_of hr (by decide) rfl (pa_cons (pv 1) (pa_cons pe_int pa_nil)))))
 (pss_one (ps_ret pe_bl))
 pss_nil)
 (pss_cons (ps_asg (pv 1) (pg_tup (by rfl) (pgs_cons (pg_name (i := 2) sc_is_door.nd rfl (Or.inl rfl)) (pgs_cons (pg_name (i := 3) sc_is_door.nd rfl (Or.inl rfl)) (pgs_cons (pg_name (i := 4) sc_is_door.nd rfl (Or.inl rfl)) pgs_nil)))))
 (pss_cons (ps_if (PW.pt (pw_or (pt_not (pt_val (C8.pe_c c_is_room hr (by decide) rfl (pa_cons (pv 0) (pa_cons (pv 2) pa_nil))))) (pw_or (pt_not (pt_val (C8.pe_c c_is_room hr (by decide) rfl (pa_cons (pv 0) (pa_cons (pv 3) pa_nil))))) (pw_or1 (pt_cmpR op_eq (pv 2) (pv 3) (by first | exact nomark _ | rfl))))))
 (pss_one (ps_ret pe_bl))
 pss_nil)
 (pss_one (ps_ret (pe_or (pe_cmpR op_isN (pv 4) pe_non (by first | exact nomark _ | rfl)) (pe_one (C8.pe_c c_is_name hr (by decide) rfl (pa_cons (pv 4) pa_nil))))))))), ?_⟩
    refine ⟨_, rfl, t, _, 3, rfl, ht, _, rfl, iteF ?_⟩
    obtain ⟨o1, o2, o3, o4⟩ := ok
    refine ⟨_, rfl, t, _, rfl, ht, rfl, _, _, rfl, _, _, rfl, _, _, rfl, rfl, ?_⟩
    refine ⟨_, rfl, _, rfl, r, x.1, rfl, o1, _, rfl, iteF ⟨_, rfl, _, rfl, r, x.2.1, rfl, o2, _, rfl, iteF ⟨_, rfl, _, rfl, rfl, _, rfl, ?_⟩⟩⟩
    rw [decide_eq_false (show ¬ V.int x.1 = V.int x.2.1 from fun q => o3 (by injection q))]
    refine iteF ?_
    obtain ⟨x1, x2, nz⟩ := x
    cases nz with
    | none => exact ⟨_, rfl, rfl, _, rfl, iteT (k _ (Same.refl H))⟩
    | some n =>
      have nb := o4 n rfl
      refine ⟨_, rfl, rfl, _, rfl, iteF ⟨_, rfl, n, rfl, Nat.le_trans (name_short nb) (by decide), fun H1 s1 => ?_⟩⟩
      rw [nb]
      exact k H1 s1
def spFloor (K : PySem.W.Frag) : Sp := fun vs H Q _ => ∃ (r : Int) (t : Addr) (x : Fl), vs = [.int r, .ref t] ∧ SqT K H t [.int x.1, .str x.2] ∧ FlOk r x ∧ ∀ H', Same H H' → Q (.bl true) H'
theorem c_is_floor (D : Df K mg "is_floor" s_is_floor) (T : Tx K mg) (c_is_tuple_of : C8.Cal P w K mg base 1 "is_tuple_of" (spTupOf K) []) (c_is_room : C8.Cal P w K mg base 2 "is_room" spRoom []) (c_is_name : C8.Cal P w K mg base 1 "is_name" spName []) :
    C8.Cal P w K mg base 3 "is_floor" (spFloor K) [] := by
  refine cal_mk D sc_is_floor bd_is_floor (fun vs H Q E h => ?_) fun f cdv A outer s H vs Q E hr h => ?_
  · obtain ⟨r, t, x, rfl, _⟩ := h
    rfl
  · obtain ⟨r, t, x, rfl, ht, ok, k⟩ := h
    refine ⟨_, (pss_one (ps_ret (pe_and (C8.pe_c c_is_tuple_of hr (by decide) rfl (pa_cons (pv 1) (pa_cons pe_int pa_nil))) (pe_and (C8.pe_c c_is_room hr (by decide) rfl (pa_cons (pv 0) (pa_cons (pe_ix ix_tup (pv 1) pe_int (fun _ _ => rfl)) pa_nil))) (pe_one (C8.pe_c c_is_name hr (by decide) rfl (pa_cons (pe_ix ix_tup (pv 1) pe_int (fun _ _ => rfl)) pa_nil))))))), ?_⟩
    obtain ⟨h1, h2⟩ := ok
    refine ⟨_, rfl, t, _, 2, rfl, ht, _, rfl, iteT ?_⟩
    refine ⟨_, rfl, _, rfl, t, _, 0, .int x.1, rfl, rfl, ht, rfl, r, x.1, rfl, h1, _, rfl, iteT ?_⟩
    refine ⟨_, rfl, t, _, 1, .str x.2, rfl, rfl, ht, rfl, x.2, rfl, Nat.le_trans (name_short h2) (by decide), fun H1 s1 => ?_⟩
    rw [h2]
    exact k H1 s1
def spDoors (K : PySem.W.Frag) : Sp := fun vs H Q _ => ∃ (r : Int) (a : Addr) (xs : List V) (ds : List Dr), vs = [.int r, .ref a] ∧ (SqL K H a xs ∨ SqT K H a xs) ∧ TDs K H xs (ds.map encD) ∧ (∀ x ∈ ds, DrOk r x) ∧ ds.length ≤ 1000 ∧ ∀ H', Same H H' → Q (.bl true) H'
theorem c_are_doors (D : Df K mg "are_doors" s_are_doors) (T : Tx K mg) (c_is_row : C8.Cal P w K mg base 1 "is_row" (spRow K) []) (c_is_door : C8.Cal P w K mg base 3 "is_door" (spDoor K) []) :
    C8.Cal P w K mg base 4 "are_doors" (spDoors K) [] := by
  refine cal_mk D sc_are_doors bd_are_doors (fun vs H Q E h => ?_) fun f cdv A outer s H vs Q E hr h => ?_
  · obtain ⟨r, a, xs, ds, rfl, _⟩ := h
    rfl
  · obtain ⟨r, a, xs, ds, rfl, hq, td, ok, few, k⟩ := h
    have line := sizeLine_eq
    have len : xs.length = ds.length := by rw [td.length, List.length_map]
    refine ⟨_, (pss_one (ps_ret (pe_and (C8.pe_c c_is_row hr (by decide) rfl (pa_cons (pv 1) pa_nil)) (pe_one (pe_callB (cr_all rfl) (by rfl) T.n_all (by decide +kernel) (pa_cons (pe_lc (own := [("door", 2)]) (by rfl) sc_are_doors.nd (pi_seq (pv 1)) (blkOk_by (N := N_are_doors) (sc := defScope s_are_doors) (by decide +kernel)) (fun _ _ _ _ _ => (pg_name (i := 2) sc_are_doors.nd rfl (Or.inl rfl))) (fun _ _ _ _ _ => pts_nil) (fun _ _ _ _ _ => (C8.pe_c c_is_door hr (by decide) rfl (pa_cons (pv 0) (pa_cons (pv 2) pa_nil))))) pa_nil)))))), ?_⟩
    refine ⟨_, rfl, a, xs, rfl, hq, fun H1 s1 => ⟨_, rfl, iteT ?_⟩⟩
    have hq1 : SqL K H1 a xs ∨ SqT K H1 a xs := hq.imp (Same.seq s1) (SqT.keep (Same.tk s1))
    refine ⟨_, rfl, a, xs, rfl, hq1, fun J G hG wk D nD => lc_it wk (fun i H' => Same H1 H' ∧ H' D = some (.lst (List.replicate i (.bl true)))) ⟨Same.new nD, upd_same⟩ (fun i H' _ p => hG _ p.1) ?_ ?_⟩
    · rintro i x H' H2 hi ⟨s2, hD⟩ ⟨rfl, hx⟩
      obtain ⟨p, hp, tdp⟩ := TDs.at_map (TDs.keep (Same.tk (s1.trans s2)) td) hx
      obtain ⟨t, rfl, ht⟩ := TD.door_inv tdp
      refine ⟨rfl, yes_ ⟨_, rfl, _, rfl, r, t, p, rfl, ht, ok p (List.mem_of_getElem? hp), fun H3 s3 => ?_⟩⟩
      refine ⟨_, s3 _ _ hD, by rw [List.length_replicate]; omega, Hb.Same.acc (s2.trans s3) nD, ?_⟩
      rw [upd_same, List.replicate_succ']
    · rintro H2 ⟨s2, hD⟩
      refine ⟨D, List.replicate xs.length true, rfl, SqL.of (by rw [hD, List.map_replicate]), ?_⟩
      rw [show (List.replicate xs.length true).all id = true by simp]
      exact k _ (s1.trans s2)
def spFloors (K : PySem.W.Frag) : Sp := fun vs H Q _ => ∃ (r : Int) (a : Addr) (xs : List V) (ds : List Fl), vs = [.int r, .ref a] ∧ (SqL K H a xs ∨ SqT K H a xs) ∧ TDs K H xs (ds.map encF) ∧ (∀ x ∈ ds, FlOk r x) ∧ (ds.map Prod.fst).Nodup ∧ ds.length ≤ 1000 ∧ ∀ H', Same H H' → Q (.bl true) H'
theorem c_are_floors (D : Df K mg "are_floors" s_are_floors) (T : Tx K mg) (c_is_row : C8.Cal P w K mg base 1 "is_row" (spRow K) []) (c_is_floor : C8.Cal P w K mg base 3 "is_floor" (spFloor K) [])
    (c_are_unlike : C8.Cal P w K mg base 1 "are_unlike" (spUnlike K) []) : C8.Cal P w K mg base 4 "are_floors" (spFloors K) [] := by
  refine cal_mk D sc_are_floors bd_are_floors (fun vs H Q E h => ?_) fun f cdv A outer s H vs Q E hr h => ?_
  · obtain ⟨r, a, xs, ds, rfl, _⟩ := h
    rfl
  · obtain ⟨r, a, xs, ds, rfl, hq, td, ok, nd, few, k⟩ := h
    have line := sizeLine_eq
    have len : xs.length = ds.length := by rw [td.length, List.length_map]
    refine ⟨_, (pss_cons (ps_if (PW.pt (pw_or (pt_not (pt_val (C8.pe_c c_is_row hr (by decide) rfl (pa_cons (pv 1) pa_nil)))) (pw_or1 (pt_not (pt_val (pe_callB (cr_all rfl) (by rfl) T.n_all (by decide +kernel) (pa_cons (pe_lc (own := [("floor", 2)]) (by rfl) sc_are_floors.nd (pi_seq (pv 1)) (blkOk_by (N := N_are_floors) (sc := defScope s_are_floors) (by decide +kernel)) (fun _ _ _ _ _ => (pg_name (i := 2) sc_are_floors.nd rfl (Or.inl rfl))) (fun _ _ _ _ _ => pts_nil) (fun _ _ _ _ _ => (C8.pe_c c_is_floor hr (by decide) rfl (pa_cons (pv 0) (pa_cons (pv 2) pa_nil))))) pa_nil)))))))
 (pss_one (ps_ret pe_bl))
 pss_nil)
 (pss_one (ps_ret (C8.pe_c c_are_unlike hr (by decide) rfl (pa_cons (pe_lc (own := [("floor", 2)]) (by rfl) sc_are_floors.nd (pi_seq (pv 1)) (blkOk_by (N := N_are_floors) (sc := defScope s_are_floors) (by decide +kernel)) (fun _ _ _ _ _ => (pg_name (i := 2) sc_are_floors.nd rfl (Or.inl rfl))) (fun _ _ _ _ _ => pts_nil) (fun _ _ _ _ _ => (pe_ix (show IxR _ (rIxT K) from ix_tup) (pv 2) pe_int (fun _ _ => rfl)))) pa_nil))))), ?_⟩
    refine ⟨_, rfl, a, xs, rfl, hq, fun H1 s1 => ⟨_, rfl, iteF ?_⟩⟩
    have hq1 : SqL K H1 a xs ∨ SqT K H1 a xs := hq.imp (Same.seq s1) (SqT.keep (Same.tk s1))
    refine ⟨_, rfl, a, xs, rfl, hq1, fun J G hG wk D nD => lc_it wk (fun i H' => Same H1 H' ∧ H' D = some (.lst (List.replicate i (.bl true)))) ⟨Same.new nD, upd_same⟩ (fun i H' _ p => hG _ p.1) ?_ ?_⟩
    · rintro i x H' H2 hi ⟨s2, hD⟩ ⟨rfl, hx⟩
      obtain ⟨p, hp, tdp⟩ := TDs.at_map (TDs.keep (Same.tk (s1.trans s2)) td) hx
      obtain ⟨t, rfl, ht⟩ := TD.floor_inv tdp
      refine ⟨rfl, yes_ ⟨_, rfl, _, rfl, r, t, p, rfl, ht, ok p (List.mem_of_getElem? hp), fun H3 s3 => ?_⟩⟩
      refine ⟨_, s3 _ _ hD, by rw [List.length_replicate]; omega, Hb.Same.acc (s2.trans s3) nD, ?_⟩
      rw [upd_same, List.replicate_succ']
    · rintro H2 ⟨s2, hD⟩
      refine ⟨D, List.replicate xs.length true, rfl, SqL.of (by rw [hD, List.map_replicate]), ?_⟩
      rw [show (List.replicate xs.length true).all id = true by simp]
      refine ⟨_, rfl, iteF ?_⟩
      have hq2 : SqL K H2 a xs ∨ SqT K H2 a xs := hq1.imp (Same.seq s2) (SqT.keep (Same.tk s2))
      have s12 := s1.trans s2
      refine ⟨_, rfl, a, xs, rfl, hq2, fun J G hG wk D2 nD2 => lc_it wk (fun i H' => H' = upd H2 D2 (.lst (((ds.take i).map Prod.fst).map V.int))) (by simp) (fun i H' _ p => by rw [p]; exact hG _ (Same.new nD2)) ?_ ?_⟩
      · rintro i x H' H3 hi rfl ⟨e, hx⟩
        subst e
        have s3 : Same H2 (upd H2 D2 (.lst (((ds.take i).map Prod.fst).map V.int))) := Same.new nD2
        obtain ⟨p, hp, tdp⟩ := TDs.at_map (TDs.keep (Same.tk (s12.trans s3)) td) hx
        obtain ⟨t, rfl, ht⟩ := TD.floor_inv tdp
        refine ⟨rfl, yes_ ⟨_, rfl, t, _, 0, .int p.1, rfl, rfl, ht, rfl, _, upd_same, ?_, ?_⟩⟩
        · rw [List.length_map, List.length_map, List.length_take]
          omega
        · rw [upd_upd]
          show upd H2 D2 _ = upd H2 D2 _
          rw [List.take_add_one, hp]
          simp
      · rintro H3 rfl
        rw [len, List.take_length]
        exact ⟨D2, rfl, .inr ⟨ds.map Prod.fst, .inl (SqL.of upd_same), nd, by rw [List.length_map]; omega⟩, k _ (s12.trans (Same.new nD2))⟩
def spCradles (K : PySem.W.Frag) : Sp := fun vs H Q _ => ∃ (r : Int) (a : Addr) (ns : List Int), vs = [.int r, .ref a] ∧ (SqL K H a (ns.map V.int) ∨ SqT K H a (ns.map V.int)) ∧ (∀ x ∈ ns, inR r x) ∧ ns.Nodup ∧ ns.length ≤ 1000 ∧ ∀ H', Same H H' → Q (.bl true) H'
theorem c_are_cradles (D : Df K mg "are_cradles" s_are_cradles) (T : Tx K mg) (c_is_row : C8.Cal P w K mg base 1 "is_row" (spRow K) []) (c_is_room : C8.Cal P w K mg base 2 "is_room" spRoom [])
    (c_are_unlike : C8.Cal P w K mg base 1 "are_unlike" (spUnlike K) []) : C8.Cal P w K mg base 3 "are_cradles" (spCradles K) [] := by
  refine cal_mk D sc_are_cradles bd_are_cradles (fun vs H Q E h => ?_) fun f cdv A outer s H vs Q E hr h => ?_
  · obtain ⟨r, a, ns, rfl, _⟩ := h
    rfl
  · obtain ⟨r, a, ns, rfl, hq, ok, nd, few, k⟩ := h
    have line := sizeLine_eq
    refine ⟨_, (pss_one (ps_ret (pe_and (C8.pe_c c_is_row hr (by decide) rfl (pa_cons (pv 1) pa_nil)) (pe_and (pe_callB (cr_all rfl) (by rfl) T.n_all (by decide +kernel) (pa_cons (pe_lc (own := [("room", 2)]) (by rfl) sc_are_cradles.nd (pi_seq (pv 1)) (blkOk_by (N := N_are_cradles) (sc := defScope s_are_cradles) (by decide +kernel)) (fun _ _ _ _ _ => (pg_name (i := 2) sc_are_cradles.nd rfl (Or.inl rfl))) (fun _ _ _ _ _ => pts_nil) (fun _ _ _ _ _ => (C8.pe_c c_is_room hr (by decide) rfl (pa_cons (pv 0) (pa_cons (pv 2) pa_nil))))) pa_nil)) (pe_one (C8.pe_c c_are_unlike hr (by decide) rfl (pa_cons (pv 1) pa_nil))))))), ?_⟩
    refine ⟨_, rfl, a, _, rfl, hq, fun H1 s1 => ⟨_, rfl, iteT ?_⟩⟩
    have hq1 : SqL K H1 a (ns.map V.int) ∨ SqT K H1 a (ns.map V.int) := hq.imp (Same.seq s1) (SqT.keep (Same.tk s1))
    refine ⟨_, rfl, a, _, rfl, hq1, fun J G hG wk D nD => lc_it wk (fun i H' => Same H1 H' ∧ H' D = some (.lst (List.replicate i (.bl true)))) ⟨Same.new nD, upd_same⟩ (fun i H' _ p => hG _ p.1) ?_ ?_⟩
    · rintro i x H' H2 hi ⟨s2, hD⟩ ⟨rfl, hx⟩
      obtain ⟨n, hn, rfl⟩ := List.mem_map.mp (List.mem_of_getElem? hx)
      refine ⟨rfl, yes_ ⟨_, rfl, _, rfl, r, n, rfl, ok n hn, _, hD, by rw [List.length_replicate]; rw [List.length_map] at hi; omega, Hb.Same.acc s2 nD, ?_⟩⟩
      rw [upd_same, List.replicate_succ']
    · rintro H2 ⟨s2, hD⟩
      refine ⟨D, List.replicate (ns.map V.int).length true, rfl, SqL.of (by rw [hD, List.map_replicate]), ?_⟩
      rw [show (List.replicate (ns.map V.int).length true).all id = true by simp]
      have hq2 : SqL K H2 a (ns.map V.int) ∨ SqT K H2 a (ns.map V.int) := hq1.imp (Same.seq s2) (SqT.keep (Same.tk s2))
      refine ⟨_, rfl, iteT ⟨_, rfl, a, rfl, .inr ⟨ns, hq2, nd, by omega⟩, k _ (s1.trans s2)⟩⟩
end
end Lw
set_option Elab.async false
set_option linter.all false
set_option maxRecDepth 100000
set_option maxHeartbeats 4000000
namespace Lw
open PySem PySem.Spec PyProof.Rows L2 Hb
theorem alike_I (p q : Int) : PySem.W.alike (PyData.int p) (PyData.int q) = true := by simp [PySem.W.alike]
theorem depth_I (p : Int) : (PyData.int p).depth ≤ 60 := by simp [PyData.depth]
def spHInit (K : PySem.W.Frag) (C : Addr) : Sp := fun vs H Q _ => ∃ (x dx a b c : Addr) (xs ys : List V) (h : Hz), vs = [.ref x, .int h.rooms, .ref a, .ref b, .ref c] ∧ H x = some (.ins C dx []) ∧
  (SqL K H a xs ∨ SqT K H a xs) ∧ TDs K H xs (h.doors.map encD) ∧ (SqL K H b ys ∨ SqT K H b ys) ∧ TDs K H ys (h.floors.map encF) ∧ (SqL K H c (h.cradles.map V.int) ∨ SqT K H c (h.cradles.map V.int)) ∧
  Hin h ∧ ∀ H', (∀ b o, b ≠ x → H b = some o → H' b = some o) → HAt K C H' x h → Q .non H'
section
variable {P : Program} {w : World} {K : PySem.W.Frag} {mg : Str → Option Value} {base : Heap}
theorem m_House_mk (D : Df1d K mg "House" "House.__init__" s_House_init 1) (T : Tx K mg) (c_is_positive : C8.Cal P w K mg base 2 "is_positive" spPos []) (c_are_doors : C8.Cal P w K mg base 4 "are_doors" (spDoors K) [])
    (c_are_floors : C8.Cal P w K mg base 4 "are_floors" (spFloors K) []) (c_are_cradles : C8.Cal P w K mg base 3 "are_cradles" (spCradles K) []) :
    C8.Mak P w K mg base 5 "House" (He.ga K "House") (spHInit K (He.ga K "House")) [] := by
  refine mak_mkD D sc_House_init bk_House_init (fun vs H Q E h => ?_) fun f cdv A outer s H vs Q E hr h => ?_
  · obtain ⟨x, dx, a, b, c, xs, ys, h, rfl, _⟩ := h
    rfl
  · obtain ⟨x, dx, a, b, c, xs, ys, h, rfl, hx, hd, tdd, hf, tdf, hc, hi, k⟩ := h
    refine ⟨_, (pss_cons (ps_if (pt_not (pt_val (C8.pe_c c_is_positive hr (by decide) rfl (pa_cons (pv 1) pa_nil))))
 (pss_one ps_never)
 pss_nil)
 (pss_cons (ps_if (pt_not (pt_val (C8.pe_c c_are_doors hr (by decide) rfl (pa_cons (pv 1) (pa_cons (pv 2) pa_nil)))))
 (pss_one ps_never)
 pss_nil)
 (pss_cons (ps_if (pt_not (pt_val (C8.pe_c c_are_floors hr (by decide) rfl (pa_cons (pv 1) (pa_cons (pv 3) pa_nil)))))
 (pss_one ps_never)
 pss_nil)
 (pss_cons (ps_if (pt_not (pt_val (C8.pe_c c_are_cradles hr (by decide) rfl (pa_cons (pv 1) (pa_cons (pv 4) pa_nil)))))
 (pss_one ps_never)
 pss_nil)
 (pss_cons (ps_fld (pv 0) (pv 1) rfl)
 (pss_cons (ps_fld (pv 0) (pe_callTy call_tuple_of (by rfl) T.n_tuple (by decide +kernel) (pa_cons (pv 2) pa_nil)) rfl)
 (pss_cons (ps_fld (pv 0) (pe_callTy call_tuple_of (by rfl) T.n_tuple (by decide +kernel) (pa_cons (pe_callB (cr_sortedAny encF hr.units) (by rfl) T.n_sorted (by decide +kernel) (pa_cons (pv 3) pa_nil)) pa_nil)) rfl)
 (pss_one (ps_fld (pv 0) (pe_callTy call_tuple_of (by rfl) T.n_tuple (by decide +kernel) (pa_cons (pe_callB (cr_sortedAny PyData.int hr.units) (by rfl) T.n_sorted (by decide +kernel) (pa_cons (pv 4) pa_nil)) pa_nil)) rfl))))))))), ?_⟩
    refine ⟨_, rfl, h.rooms, rfl, _, rfl, ?_⟩
    rw [decide_eq_true hi.r1]
    refine iteF ⟨_, rfl, _, rfl, h.rooms, a, xs, h.doors, rfl, hd, tdd, hi.d, hi.fewd, fun H1 s1 => ⟨_, rfl, iteF ?_⟩⟩
    have hf1 : SqL K H1 b ys ∨ SqT K H1 b ys := hf.imp (Same.seq s1) (SqT.keep (Same.tk s1))
    refine ⟨_, rfl, _, rfl, h.rooms, b, ys, h.floors, rfl, hf1, TDs.keep (Same.tk s1) tdf, hi.f, hi.fnd, hi.fewf, fun H2 s2 => ⟨_, rfl, iteF ?_⟩⟩
    have s12 := s1.trans s2
    have hc2 : SqL K H2 c (h.cradles.map V.int) ∨ SqT K H2 c (h.cradles.map V.int) := hc.imp (Same.seq s12) (SqT.keep (Same.tk s12))
    refine ⟨_, rfl, _, rfl, h.rooms, c, h.cradles, rfl, hc2, hi.c, hi.cnd, hi.fewc, fun H3 s3 => ⟨_, rfl, iteF ?_⟩⟩
    have s13 := s12.trans s3
    refine ⟨_, rfl, _, rfl, x, _, dx, [], rfl, s13 _ _ hx, T.cls_House, T.a_rooms, by decide, ?_⟩
    have kx4 : KX x H (upd H3 x (.ins (He.ga K "House") dx (putF "rooms" (.int h.rooms) []))) := (Hb.Same.kx s13).trans KX.put
    have hx4 : upd H3 x (.ins (He.ga K "House") dx (putF "rooms" (.int h.rooms) [])) x = some (.ins (He.ga K "House") dx [("rooms", .int h.rooms)]) := upd_same
    generalize upd H3 x (.ins (He.ga K "House") dx (putF "rooms" (.int h.rooms) [])) = H4 at kx4 hx4 ⊢
    dsimp only
    refine cut_seq (fun σ H' => σ = L2.start N_House_init [.ref x, .int h.rooms, .ref a, .ref b, .ref c] ∧ ∃ t, KX x H H' ∧ H' x = some (.ins (He.ga K "House") dx [("rooms", .int h.rooms), ("doors", .ref t)]) ∧ SqT K H' t xs) ?_ fun rest => ?_
    · rintro σ H5 ⟨rfl, t, kx5, hx5, ht⟩
      have tk5 := kx5.tk hx
      have hf5 : SqL K H5 b ys ∨ SqT K H5 b ys := hf.imp (fun q => kx5.seq hx q) (SqT.keep tk5)
      have tdf5 := TDs.keep tk5 tdf
      have len : ys.length = h.floors.length := by rw [tdf.length, List.length_map]
      have ztd := zip_tdE tdf5
      refine ⟨_, rfl, b, ys.zip h.floors, rfl, by rw [zip_fst len]; exact hf5, fun y hy => TD.dp (ztd y hy), PySem.W.AllAlike.of (fun b b' => alike_F b.2 b'.2), PySem.W.Sortable.tuples (fun b => ⟨_, _, rfl⟩), fun y _ => depth_F y.2, fun p np => ?_⟩
      generalize hzs : (ys.zip h.floors).mergeSort (PySem.W.dataLe false fun y => encF y.2) = zs
      have pz : zs.Perm (ys.zip h.floors) := by rw [← hzs]; exact List.mergeSort_perm _ _
      have snd : zs.map (·.2) = sortF h.floors := by rw [← hzs, sort_zipE, zip_snd len]; rfl
      have tds : TDs K H5 (zs.map (·.1)) ((sortF h.floors).map encF) := by
        rw [← snd]
        exact tdE_zip fun y hy => ztd y (pz.mem_iff.mp hy)
      have s6 : Same H5 (upd H5 p (.lst (zs.map (·.1)))) := Same.new np
      refine ⟨p, _, rfl, .inl ⟨SqL.of upd_same, fun t2 nt2 => ?_⟩⟩
      have s7 := s6.trans (Same.new nt2 (o := .tup (zs.map (·.1))))
      have ht7 : upd (upd H5 p (.lst (zs.map (·.1)))) t2 (.tup (zs.map (·.1))) t2 = some (.tup (zs.map (·.1))) := upd_same
      generalize upd (upd H5 p (.lst (zs.map (·.1)))) t2 (.tup (zs.map (·.1))) = H7 at s7 ht7 ⊢
      have hx7 := s7 _ _ hx5
      refine ⟨_, rfl, x, _, dx, _, rfl, hx7, T.cls_House, T.a_floors, by show 2 < 1000; decide, ?_⟩
      have hx8 : upd H7 x (.ins (He.ga K "House") dx (putF "floors" (.ref t2) [("rooms", .int h.rooms), ("doors", .ref t)])) x = some (.ins (He.ga K "House") dx [("rooms", .int h.rooms), ("doors", .ref t), ("floors", .ref t2)]) := upd_same
      have kx58 : KX x H5 (upd H7 x (.ins (He.ga K "House") dx (putF "floors" (.ref t2) [("rooms", .int h.rooms), ("doors", .ref t)]))) := (Hb.Same.kx s7).trans KX.put
      have ht8 : SqT K (upd H7 x (.ins (He.ga K "House") dx (putF "floors" (.ref t2) [("rooms", .int h.rooms), ("doors", .ref t)]))) t2 (zs.map (·.1)) := SqT.keep (KX.tk KX.put hx7) (SqT.of ht7)
      have td8 : TDs K (upd H7 x (.ins (He.ga K "House") dx (putF "floors" (.ref t2) [("rooms", .int h.rooms), ("doors", .ref t)]))) (zs.map (·.1)) ((sortF h.floors).map encF) := TDs.keep (kx58.tk hx5) tds
      generalize upd H7 x (.ins (He.ga K "House") dx (putF "floors" (.ref t2) [("rooms", .int h.rooms), ("doors", .ref t)])) = H8 at hx8 kx58 ht8 td8 ⊢
      have kx8 := kx5.trans kx58
      have tk8 := kx8.tk hx
      have hc8 : SqL K H8 c (h.cradles.map V.int) ∨ SqT K H8 c (h.cradles.map V.int) := hc.imp (fun q => kx8.seq hx q) (SqT.keep tk8)
      have tdc : TDs K H8 (h.cradles.map V.int) (h.cradles.map PyData.int) := tds_ints _
      have zc := zip_tdE tdc
      have lenc : (h.cradles.map V.int).length = h.cradles.length := List.length_map _
      refine ⟨_, rfl, c, (h.cradles.map V.int).zip h.cradles, rfl, by rw [zip_fst lenc]; exact hc8, fun y hy => TD.dp (zc y hy), PySem.W.AllAlike.of (fun b b' => alike_I b.2 b'.2), PySem.W.Sortable.others (fun b => ⟨(by intro e; cases e), (by intro xs e; cases e)⟩), fun y _ => depth_I y.2, fun p2 np2 => ?_⟩
      generalize hzc : ((h.cradles.map V.int).zip h.cradles).mergeSort (PySem.W.dataLe false fun y => PyData.int y.2) = cs
      have pc : cs.Perm ((h.cradles.map V.int).zip h.cradles) := by rw [← hzc]; exact List.mergeSort_perm _ _
      have sndc : cs.map (·.2) = sortI h.cradles := by rw [← hzc, sort_zipE, zip_snd lenc]; rfl
      have tdcs : TDs K H8 (cs.map (·.1)) ((sortI h.cradles).map PyData.int) := by
        rw [← sndc]
        exact tdE_zip fun y hy => zc y (pc.mem_iff.mp hy)
      have ec := TDs.ints_inv tdcs
      rw [ec]
      have s9 : Same H8 (upd H8 p2 (.lst ((sortI h.cradles).map V.int))) := Same.new np2
      refine ⟨p2, _, rfl, .inl ⟨SqL.of upd_same, fun t3 nt3 => ?_⟩⟩
      have s10 := s9.trans (Same.new nt3 (o := .tup ((sortI h.cradles).map V.int)))
      have ht10 : upd (upd H8 p2 (.lst ((sortI h.cradles).map V.int))) t3 (.tup ((sortI h.cradles).map V.int)) t3 = some (.tup ((sortI h.cradles).map V.int)) := upd_same
      generalize upd (upd H8 p2 (.lst ((sortI h.cradles).map V.int))) t3 (.tup ((sortI h.cradles).map V.int)) = H9 at s10 ht10 ⊢
      have hx10 := s10 _ _ hx8
      refine ⟨_, rfl, x, _, dx, _, rfl, hx10, T.cls_House, T.a_cradles, by show 3 < 1000; decide, ?_⟩
      have kx9 : KX x H8 (upd H9 x (.ins (He.ga K "House") dx (putF "cradles" (.ref t3) [("rooms", .int h.rooms), ("doors", .ref t), ("floors", .ref t2)]))) := (Hb.Same.kx s10).trans KX.put
      have tk9 := kx9.tk hx8
      refine k _ (kx8.trans kx9) ⟨dx, t, t2, t3, xs, zs.map (·.1), upd_same, ?_, TDs.keep ((kx8.trans kx9).tk hx) tdd, SqT.keep tk9 ht8, TDs.keep tk9 td8, SqT.keep (KX.tk KX.put hx10) (SqT.of ht10)⟩
      exact SqT.keep tk9 (SqT.keep (kx58.tk hx5) ht)
    · have hx' := hx4
      rcases hd with hd | hd
      · refine ⟨_, rfl, a, xs, rfl, .inl ⟨kx4.seq hx hd, fun t nt => ?_⟩⟩
        have s5 : Same H4 (upd H4 t (.tup xs)) := Same.new nt
        have hx5 := s5 _ _ hx4
        refine ⟨_, rfl, x, _, dx, _, rfl, hx5, T.cls_House, T.a_doors, by show 1 < 1000; decide, rest _ _ ⟨rfl, t, (kx4.trans (Hb.Same.kx s5)).trans KX.put, upd_same, SqT.keep (KX.tk KX.put hx5) (SqT.of upd_same)⟩⟩
      · refine ⟨_, rfl, a, xs, rfl, .inr ⟨SqT.keep (kx4.tk hx) hd, ?_⟩⟩
        exact ⟨_, rfl, x, _, dx, _, rfl, hx4, T.cls_House, T.a_doors, by show 1 < 1000; decide, rest _ _ ⟨rfl, a, kx4.trans KX.put, upd_same, SqT.keep (KX.tk KX.put hx4) (SqT.keep (kx4.tk hx) hd)⟩⟩
end
end Lw
set_option Elab.async false
set_option linter.all false
set_option maxRecDepth 100000
set_option maxHeartbeats 8000000
namespace Lw
open PySem PySem.Spec PyProof.Rows L2 Hb
def spHouse (K : PySem.W.Frag) : Sp := fun vs H Q _ => ∃ (d g l : Addr) (r m : Int) (ws : List Str), vs = [.ref d, .int r, .int m, .ref l] ∧ Deal d g H ∧ H l = some (.lst (ws.map V.str)) ∧ l ≠ g ∧ 1 ≤ r ∧ r ≤ 20 ∧ r ≤ m + 1 ∧ m ≤ 100 ∧ ws ≠ [] ∧ ws.length ≤ 100 ∧ (∀ w ∈ ws, PyData.strOk w = true) ∧
  ∀ (H' : Hp) (p : Addr) (h : Hz), Deal d g H' → Kp d g H H' → H p = none → HOne K H' p h → Hok h r m ws → Q (.ref p) H'
section
variable {P : Program} {w : World} {K : PySem.W.Frag} {mg : Str → Option Value} {base : Heap}
theorem c_drawn_house (D : Df K mg "_law_drawn_house" s_drawn_house) (T : Tx K mg) (c_draw : C8.Cal P w K mg base 1 "_law_draw" spDraw []) (c_pick : C8.Cal P w K mg base 2 "_law_pick" (spPick K) [])
    (c_mixed : C8.Cal P w K mg base 2 "_law_mixed" (spMixed K) []) : C8.Cal P w K mg base 3 "_law_drawn_house" (spHouse K) [] := by
  refine cal_mk D sc_drawn_house bd_drawn_house (fun vs H Q E h => ?_) fun f cdv A outer s H vs Q E hr h => ?_
  · obtain ⟨d, g, l, r, m, ws, rfl, _⟩ := h
    rfl
  · obtain ⟨d, g, l, r, m, ws, rfl, dl, hl, lg, r1, r2, rm, m1, wne, wfew, wok, k⟩ := h
    have line := sizeLine_eq
    refine ⟨_, (pss_cons (ps_par (i := 4) (j := 5) (by rfl) sc_drawn_house.nd rfl rfl (by decide) rfl rfl (pa_cons (pe_op op_add pe_int (C8.pe_c c_draw hr (by decide) rfl (pa_cons (pv 0) (pa_cons (pv 1) pa_nil)))) (pa_cons (pe_lst pa_nil) pa_nil)) (by rfl))
 (pss_cons (ps_for PassesOwn.never rfl (pi_range2 (by rfl) T.n_range (pa_cons pe_int (pa_cons (pv 4) pa_nil))) (pg_name (i := 6) sc_drawn_house.nd rfl (Or.inl rfl))
 (pss_cons (ps_set (i := 7) sc_drawn_house.nd rfl (Or.inl rfl) (C8.pe_c c_mixed hr (by decide) rfl (pa_cons (pv 0) (pa_cons (pe_lst (pa_cons (pv 6) (pa_cons (C8.pe_c c_draw hr (by decide) rfl (pa_cons (pv 0) (pa_cons (pv 6) pa_nil))) pa_nil))) pa_nil))))
 (pss_one (ps_expr (pe_bm PySem.F.plainAttrs_list PySem.F.slot_list_append PySem.F.type_list_append mt_append (pv 5) (pa_cons (pe_tup (pa_cons (pe_ix ix_list (pv 7) pe_int (fun _ _ => rfl)) (pa_cons (pe_ix ix_list (pv 7) pe_int (fun _ _ => rfl)) (pa_cons (C8.pe_c c_pick hr (by decide) rfl (pa_cons (pv 0) (pa_cons (pe_op op_cat (pv 3) (pe_lst (pa_cons pe_non pa_nil))) pa_nil))) pa_nil)))) pa_nil))))))
 (pss_cons (ps_for PassesOwn.never rfl (pi_range1 (by rfl) T.n_range (pa_cons (pe_ifExp (pt_cmpR op_gt (pv 4) pe_int (by first | exact nomark _ | rfl)) (C8.pe_c c_draw hr (by decide) rfl (pa_cons (pv 0) (pa_cons (pe_op op_add (pe_op op_sub (pv 2) (pv 4)) pe_int) pa_nil))) pe_int) pa_nil)) (pg_name (i := 8) sc_drawn_house.nd rfl (Or.inl rfl))
 (pss_cons (ps_set (i := 7) sc_drawn_house.nd rfl (Or.inl rfl) (pe_slice sl_list (C8.pe_c c_mixed hr (by decide) rfl (pa_cons (pv 0) (pa_cons (L2.pe_listRg rfl (by rfl) T.n_list (L2.prg_1 (by rfl) T.n_range (pv 4))) pa_nil))) po_none (po_some pe_int)))
 (pss_one (ps_expr (pe_bm PySem.F.plainAttrs_list PySem.F.slot_list_append PySem.F.type_list_append mt_append (pv 5) (pa_cons (pe_tup (pa_cons (pe_ix ix_list (pv 7) pe_int (fun _ _ => rfl)) (pa_cons (pe_ix ix_list (pv 7) pe_int (fun _ _ => rfl)) (pa_cons (C8.pe_c c_pick hr (by decide) rfl (pa_cons (pv 0) (pa_cons (pe_op op_cat (pv 3) (pe_lst (pa_cons pe_non pa_nil))) pa_nil))) pa_nil)))) pa_nil))))))
 (pss_cons (ps_setLc (i := 9) (own := [("_law_room", 10)]) (by rfl) sc_drawn_house.nd rfl rfl (sw_true rfl rfl rfl (by decide +kernel)) (pi_range1 (by rfl) T.n_range (pa_cons (pv 4) pa_nil)) (blkOk_by (N := N_drawn_house) (sc := defScope s_drawn_house) (by decide +kernel)) (fun _ _ _ _ _ => (pg_name (i := 10) sc_drawn_house.nd rfl (Or.inl rfl))) (fun _ _ _ _ _ => (pts_one (pt_cmpR op_eq (C8.pe_c c_draw hr (by decide) rfl (pa_cons (pv 0) (pa_cons pe_int pa_nil))) pe_int (by first | exact nomark _ | rfl)))) (fun _ _ _ _ _ => (pe_tup (pa_cons (pv 10) (pa_cons (C8.pe_c c_pick hr (by decide) rfl (pa_cons (pv 0) (pa_cons (pv 3) pa_nil))) pa_nil)))))
 (pss_cons (ps_setLc (i := 11) (own := [("_law_room", 10)]) (by rfl) sc_drawn_house.nd rfl rfl (sw_true rfl rfl rfl (by decide +kernel)) (pi_range1 (by rfl) T.n_range (pa_cons (pv 4) pa_nil)) (blkOk_by (N := N_drawn_house) (sc := defScope s_drawn_house) (by decide +kernel)) (fun _ _ _ _ _ => (pg_name (i := 10) sc_drawn_house.nd rfl (Or.inl rfl))) (fun _ _ _ _ _ => (pts_one (pt_cmpR op_eq (C8.pe_c c_draw hr (by decide) rfl (pa_cons (pv 0) (pa_cons pe_int pa_nil))) pe_int (by first | exact nomark _ | rfl)))) (fun _ _ _ _ _ => (pv 10)))
 (pss_one (ps_ret (pe_tup (pa_cons (pv 4) (pa_cons (pe_callTy call_tuple_of (by rfl) T.n_tuple (by decide +kernel) (pa_cons (C8.pe_c c_mixed hr (by decide) rfl (pa_cons (pv 0) (pa_cons (pv 5) pa_nil))) pa_nil)) (pa_cons (pe_callTy call_tuple_of (by rfl) T.n_tuple (by decide +kernel) (pa_cons (pv 9) pa_nil)) (pa_cons (pe_callTy call_tuple_of (by rfl) T.n_tuple (by decide +kernel) (pa_cons (pv 11) pa_nil)) pa_nil)))))))))))), ?_⟩
    refine ⟨_, rfl, _, rfl, d, g, r, rfl, dl, by omega, by omega, fun H1 r0 dl1 k1 a0 a1 => ⟨_, _, rfl, rfl, ?_⟩⟩
    refine ⟨Nat.zero_le _, fun F nF => ⟨_, _, rfl, ?_⟩⟩
    obtain ⟨M, hM⟩ : ∃ M : Int, 1 + r0 = M := ⟨_, rfl⟩
    have M1 : 1 ≤ M := by omega
    have Mr : M ≤ r := by omega
    change tSeq _ _ _ [some (.ref d), some (.int r), some (.int m), some (.ref l), some (.int (1 + r0)), some (.ref F), none, none, none, none, none, none] _
    rw [hM]
    have nF0 : H F = none := k1.free dl1 nF
    have Fd := (dl1.free nF).1
    have Fg := (dl1.free nF).2
    have hF0 : upd H1 F (.lst []) F = some (.lst []) := upd_same
    have dl2 : Deal d g (upd H1 F (.lst [])) := dl1.new nF
    have k2 : Kp d g H (upd H1 F (.lst [])) := k1.acc nF0
    generalize upd H1 F (.lst []) = H2 at hF0 dl2 k2 ⊢
    have hlA : ∀ {H' : Hp}, Kp d g H H' → H' l = some (.lst (ws.map V.str)) := fun k => k _ _ (dl.ne_d hl (by intro kvs e; cases e)) lg hl
    refine ⟨_, rfl, 1, M, rfl, ⟨by decide, by decide, by omega, by omega⟩, for_range (lo := 1) (n := (M - 1).toNat) (fun i σ H' => (∃ v6 v7, σ = [some (.ref d), some (.int r), some (.int m), some (.ref l), some (.int M), some (.ref F), v6, v7, none, none, none, none]) ∧ Deal d g H' ∧ Kp d g H H' ∧ ∃ (vs : List V) (ds : List Dr), H' F = some (.lst vs) ∧ TDs K H' vs (ds.map encD) ∧ (∀ x ∈ ds, DrW M ws x) ∧ ds.length = i)
      ⟨⟨_, _, rfl⟩, dl2, k2, [], [], hF0, .nil, (fun x h => by cases h), rfl⟩ ?_ ?_⟩
    · rintro i σ H3 hi ⟨⟨v6, v7, rfl⟩, dl3, k3, vs, ds, hF, td, ok, len⟩
      refine ⟨_, rfl, _, rfl, _, rfl, _, rfl, d, g, (1 + i), rfl, dl3, by omega, by omega, fun H4 b dl4 k4 b0 b1 => ⟨by show 2 ≤ sizeLine; decide, fun q nq => ?_⟩⟩
      refine ⟨d, g, q, _, rfl, dl4.new nq, .inl (SqL.of upd_same), by show 2 < 1000000; decide, (fun v hv => ?_), fun H5 pp ys dl5 k5 np hpp pg pm => ?_⟩
      · simp only [List.mem_cons, List.not_mem_nil, or_false] at hv
        rcases hv with rfl | rfl <;> exact good_int _
      obtain ⟨A, B, rfl, iA, iB, nAB⟩ : ∃ A B : Int, ys = [.int A, .int B] ∧ inR M A ∧ inR M B ∧ A ≠ B := by
        rcases perm_two pm with e | e
        · exact ⟨_, _, e, ⟨by omega, by omega⟩, ⟨by omega, by omega⟩, by omega⟩
        · exact ⟨_, _, e, ⟨by omega, by omega⟩, ⟨by omega, by omega⟩, by omega⟩
      have k35 : Kp d g H3 H5 := k4.trans ((Hb.Same.kp (Same.new nq)).trans k5)
      refine ⟨_, rfl, .inl ⟨rfl, _, SqL.of (k35 F _ Fd Fg hF)⟩, _, rfl, pp, _, 0, _, rfl, rfl, SqL.of hpp, rfl, _, rfl, pp, _, 1, _, rfl, rfl, SqL.of hpp, rfl, ?_⟩
      refine ⟨_, rfl, _, rfl, by show 1 ≤ sizeLine; decide, fun u nu => ⟨l, u, _, _, rfl, rfl, (Same.new nu) _ _ (hlA (k3.trans k35)), upd_same, by show (ws.map V.str).length + 1 ≤ sizeLine; rw [List.length_map]; omega, fun t nt => ?_⟩⟩
      have dlu := dl5.new nu (o := .lst [.non])
      have dlt := dlu.new nt (o := .lst (ws.map V.str ++ [.non]))
      refine ⟨d, g, t, _, rfl, dlt, .inl ⟨upd_same, (dlu.free nt).2⟩, by simp, by rw [List.length_append, List.length_map]; show ws.length + 1 < 1000000; omega, fun H6 v hv dl6 k6 => ⟨by show 3 ≤ sizeLine; decide, fun w nw => ?_⟩⟩
      obtain ⟨nz, rfl, hnz⟩ := noise_of hv
      have k36 : Kp d g H3 H6 := k35.trans ((Hb.Same.kp ((Same.new nu).trans (Same.new nt))).trans k6)
      have s7 : Same H6 (upd H6 w (.tup [.int A, .int B, nzV nz])) := Same.new nw
      have hF7 := s7 _ _ (k36 F _ Fd Fg hF)
      have tdl := td.length
      rw [List.length_map] at tdl
      refine ⟨F, vs, _, rfl, rfl, hF7, by omega, ⟨_, _, rfl⟩, (dl6.new nw).set Fd Fg, (((k3.trans k36).trans (Hb.Same.kp s7)).acc nF0), vs ++ [.ref w], ds ++ [(A, B, nz)], upd_same, ?_, ?_, ?_⟩
      · rw [List.map_append]
        exact TDs.app (TDs.keep (tk_acc hF7) (TDs.keep (Same.tk s7) (TDs.keep (dl3.tk k36) td))) (.cons (TD.keep (tk_acc hF7) (TD.door (x := (A, B, nz)) (SqT.of upd_same))) .nil)
      · intro x hx
        rcases List.mem_append.mp hx with hx | hx
        · exact ok x hx
        · rw [List.mem_singleton.mp hx]
          exact ⟨iA, iB, nAB, hnz⟩
      · rw [List.length_append, len]
        show _ + 1 = _
        omega
    · rintro σ H3 ⟨⟨v6, v7, rfl⟩, dl3, k3, vs, ds, hF, td, ok, len⟩
      dsimp only
      refine cut_seq (fun σ H' => (∃ v6 v7 v8, σ = [some (.ref d), some (.int r), some (.int m), some (.ref l), some (.int M), some (.ref F), v6, v7, v8, none, none, none]) ∧ Deal d g H' ∧ Kp d g H H' ∧ ∃ (vs : List V) (ds : List Dr), H' F = some (.lst vs) ∧ TDs K H' vs (ds.map encD) ∧ (∀ x ∈ ds, DrW M ws x) ∧ (ds.length : Int) ≤ m) ?_ fun rest => ?_
      · clear hF td ok len vs ds dl3 k3 v6 v7
        rintro σ H9 ⟨⟨v6, v7, v8, rfl⟩, dl9, k9, vs, ds, hF, td, ok, len⟩
        have wne2 : ws.map V.str ≠ [] := fun e => wne (List.map_eq_nil_iff.mp e)
        have wfew2 : (ws.map V.str).length < 1000000 := by rw [List.length_map]; omega
        -- floors
        refine ⟨_, rfl, M, rfl, by omega, by omega, fun D nD => lc_range (lo := 0) (n := M.toNat) (fun i H' => Deal d g H' ∧ Kp d g H9 H' ∧ ∃ (acc : List V) (fs : List Fl), H' D = some (.lst acc) ∧ TDs K H' acc (fs.map encF) ∧ (∀ x ∈ fs, 0 ≤ x.1 ∧ x.1 < (i : Nat) ∧ x.2 ∈ ws) ∧ (fs.map Prod.fst).Pairwise (· < ·) ∧ fs.length ≤ i)
          ⟨dl9.new nD, Hb.Same.kp (Same.new nD), [], [], upd_same, .nil, (fun x h => by cases h), .nil, Nat.le_refl _⟩ ?_ ?_⟩
        · rintro i H' hi ⟨dlA, kA, acc, fs, hD, tdf, okf, srt, fl⟩
          have Dd := (dl9.free nD).1
          have Dg := (dl9.free nD).2
          refine ⟨rfl, ?_⟩
          refine ⟨_, rfl, d, g, 2, rfl, dlA, by decide, by decide, fun HB e dlB kB b0 b1 => ⟨rfl, _, rfl, ?_⟩⟩
          by_cases ez : e = 0
          · rw [decide_eq_true (show V.int e = V.int 0 by rw [ez])]
            refine iteT ⟨_, rfl, _, rfl, _, rfl, d, g, l, ws.map V.str, rfl, dlB, .inl ⟨hlA (k9.trans (kA.trans kB)), lg⟩, wne2, wfew2, fun HC v hv dlC kC => ⟨by show 2 ≤ sizeLine; decide, fun q nq => ?_⟩⟩
            obtain ⟨wd, hwd, rfl⟩ := List.mem_map.mp hv
            have kAC : Kp d g H' HC := kB.trans kC
            have s1 : Same HC (upd HC q (.tup [.int (0 + (i : Nat)), .str wd])) := Same.new nq
            have hD1 := s1 _ _ (kAC D _ Dd Dg hD)
            have al := tdf.length
            rw [List.length_map] at al
            refine ⟨acc, hD1, by omega, (dlC.new nq).set Dd Dg, (((kA.trans kAC).trans (Hb.Same.kp s1)).acc nD), acc ++ [.ref q], fs ++ [((0 + (i : Nat) : Int), wd)], upd_same, ?_, ?_, ?_, ?_⟩
            · rw [List.map_append]
              exact TDs.app (TDs.keep (tk_acc hD1) (TDs.keep (Same.tk s1) (TDs.keep (dlA.tk kAC) tdf))) (.cons (TD.keep (tk_acc hD1) (TD.floor (x := ((0 + (i : Nat) : Int), wd)) (SqT.of upd_same))) .nil)
            · intro x hx
              rcases List.mem_append.mp hx with hx | hx
              · obtain ⟨a, b, c⟩ := okf x hx
                exact ⟨a, by omega, c⟩
              · rw [List.mem_singleton.mp hx]
                exact ⟨by show (0 : Int) ≤ 0 + (i : Nat); omega, by show (0 : Int) + (i : Nat) < ((i + 1 : Nat) : Int); omega, hwd⟩
            · rw [List.map_append]
              refine List.pairwise_append.mpr ⟨srt, List.pairwise_singleton _ _, fun a ha b hb => ?_⟩
              obtain ⟨x, hx, rfl⟩ := List.mem_map.mp ha
              have hb2 : b = 0 + (i : Nat) := by simpa using hb
              have := (okf x hx).2.1
              omega
            · rw [List.length_append]
              show _ + 1 ≤ _
              omega
          · rw [decide_eq_false (show ¬ V.int e = V.int 0 from fun q => ez (by injection q))]
            exact iteF ⟨dlB, kA.trans kB, acc, fs, kB D _ Dd Dg hD, TDs.keep (dlA.tk kB) tdf, fun x hx => ⟨(okf x hx).1, by have := (okf x hx).2.1; omega, (okf x hx).2.2⟩, srt, by omega⟩
        · rintro H' ⟨dlA, kA, acc, fs, hD, tdf, okf, srt, fl⟩
          have Dd := (dl9.free nD).1
          have Dg := (dl9.free nD).2
          have al := tdf.length
          rw [List.length_map] at al
          -- cradles
          refine ⟨_, rfl, M, rfl, by omega, by omega, fun D2 nD2 => lc_range (lo := 0) (n := M.toNat) (fun i H2 => Deal d g H2 ∧ Kp d g H' H2 ∧ ∃ cs : List Int, H2 D2 = some (.lst (cs.map V.int)) ∧ (∀ x ∈ cs, 0 ≤ x ∧ x < (i : Nat)) ∧ cs.Pairwise (· < ·) ∧ cs.length ≤ i)
            ⟨dlA.new nD2, Hb.Same.kp (Same.new nD2), [], upd_same, (fun x h => by cases h), .nil, Nat.le_refl _⟩ ?_ ?_⟩
          · rintro i H2 hi ⟨dlC, kC, cs, hC, okc, srtc, cl⟩
            have D2d := (dlA.free nD2).1
            have D2g := (dlA.free nD2).2
            refine ⟨rfl, ?_⟩
            refine ⟨_, rfl, d, g, 2, rfl, dlC, by decide, by decide, fun HB e dlB kB b0 b1 => ⟨rfl, _, rfl, ?_⟩⟩
            by_cases ez : e = 0
            · rw [decide_eq_true (show V.int e = V.int 0 by rw [ez])]
              refine iteT ⟨_, rfl, _, kB D2 _ D2d D2g hC, by rw [List.length_map]; omega, dlB.set D2d D2g, (kC.trans kB).acc nD2, cs ++ [(0 + (i : Nat) : Int)], ?_, ?_, ?_, ?_⟩
              · rw [upd_same, List.map_append]
                rfl
              · intro x hx
                rcases List.mem_append.mp hx with hx | hx
                · obtain ⟨a, b⟩ := okc x hx
                  exact ⟨a, by omega⟩
                · rw [List.mem_singleton.mp hx]
                  exact ⟨by omega, by omega⟩
              · refine List.pairwise_append.mpr ⟨srtc, List.pairwise_singleton _ _, fun a ha b hb => ?_⟩
                have hb2 : b = 0 + (i : Nat) := by simpa using hb
                have := (okc a ha).2
                omega
              · rw [List.length_append]
                show _ + 1 ≤ _
                omega
            · rw [decide_eq_false (show ¬ V.int e = V.int 0 from fun q => ez (by injection q))]
              exact iteF ⟨dlB, kC.trans kB, cs, kB D2 _ D2d D2g hC, fun x hx => ⟨(okc x hx).1, by have := (okc x hx).2; omega⟩, srtc, by omega⟩
          · rintro H2 ⟨dlC, kC, cs, hC, okc, srtc, cl⟩
            have D2d := (dlA.free nD2).1
            have D2g := (dlA.free nD2).2
            have k92 := kA.trans kC
            have hF2 := k92 F _ Fd Fg hF
            have td2 := TDs.keep (dl9.tk k92) td
            have vl := td.length
            rw [List.length_map] at vl
            refine ⟨_, rfl, _, rfl, _, rfl, d, g, F, vs, rfl, dlC, .inl (SqL.of hF2), by omega, (fun v hv => ?_), fun H3 p ys dl3 k3 np hp pg pm => ⟨p, ys, rfl, .inl ⟨SqL.of hp, fun t1 nt1 => ?_⟩⟩⟩
            · obtain ⟨i, hi⟩ := List.mem_iff_getElem?.mp hv
              obtain ⟨x, hx, tx⟩ := TDs.at_map td2 hi
              exact ⟨_, tx, shp_door fun n hn => wok n ((ok x (List.mem_of_getElem? hx)).2.2.2 n hn)⟩
            obtain ⟨es, pe, tde⟩ := perm_td pm (TDs.keep (dlC.tk k3) td2)
            have s1 : Same H3 (upd H3 t1 (.tup ys)) := Same.new nt1
            have hD3 := k3 D _ Dd Dg (kC D _ Dd Dg hD)
            have hC3 := k3 D2 _ D2d D2g hC
            refine ⟨_, rfl, D, acc, rfl, .inl ⟨SqL.of (s1 _ _ hD3), fun t2 nt2 => ?_⟩⟩
            have s2 : Same _ (upd (upd H3 t1 (.tup ys)) t2 (.tup acc)) := Same.new nt2
            refine ⟨_, rfl, D2, _, rfl, .inl ⟨SqL.of (s2 _ _ (s1 _ _ hC3)), fun t3 nt3 => ?_⟩⟩
            have s3 : Same _ (upd (upd (upd H3 t1 (.tup ys)) t2 (.tup acc)) t3 (.tup (cs.map V.int))) := Same.new nt3
            refine ⟨by show 4 ≤ sizeLine; decide, fun u nu => ?_⟩
            have s4 : Same _ (upd (upd (upd (upd H3 t1 (.tup ys)) t2 (.tup acc)) t3 (.tup (cs.map V.int))) u (.tup [.int M, .ref t1, .ref t2, .ref t3])) := Same.new nu
            have h1 := s4 _ _ (s3 _ _ (s2 _ _ (upd_same (H := H3) (a := t1) (o := .tup ys))))
            have h2 := s4 _ _ (s3 _ _ (upd_same (H := upd H3 t1 (.tup ys)) (a := t2) (o := .tup acc)))
            have h3 := s4 _ _ (upd_same (H := upd (upd H3 t1 (.tup ys)) t2 (.tup acc)) (a := t3) (o := .tup (cs.map V.int)))
            have s14 := ((s1.trans s2).trans s3).trans s4
            have kall : Kp d g H H3 := (k9.trans k92).trans k3
            have tk9 : TK H' H2 := dlA.tk kC
            have tdf3 := TDs.keep (dlC.tk k3) (TDs.keep tk9 tdf)
            have nu3 : H3 u = none := ((s1.trans s2).trans s3).free nu
            refine k _ u ⟨M, es, fs, cs⟩ (dl3.same s14) (kall.trans (Hb.Same.kp s14)) (kall.free dl3 nu3) (HIs.one ⟨SqT.of upd_same, SqT.of h1, TDs.keep (Same.tk s14) tde, SqT.of h2, TDs.keep (Same.tk s14) tdf3, SqT.of h3⟩) ⟨M1, Mr, fun x hx => ok x (pe.mem_iff.mp hx), ?_, fun x hx => ⟨⟨(okf x hx).1, ?_⟩, (okf x hx).2.2⟩, srt, ?_, fun x hx => ⟨(okc x hx).1, ?_⟩, srtc, ?_⟩
            · show ((es.length : Nat) : Int) ≤ m
              rw [pe.length_eq]
              exact len
            · show x.1 < M
              have := (okf x hx).2.1
              omega
            · show ((fs.length : Nat) : Int) ≤ M
              omega
            · show x < M
              have := (okc x hx).2
              omega
            · show ((cs.length : Nat) : Int) ≤ M
              omega
      · refine ⟨_, rfl, _, _, rfl, rfl, _, rfl, ite2 (fun h => ?_) (fun h => ?_)⟩
        · have M2 : 1 < M := of_decide_eq_true h
          refine ⟨_, rfl, _, rfl, _, rfl, _, _, rfl, rfl, _, _, rfl, rfl, d, g, m - M + 2, rfl, dl3, by omega, by omega, fun H3b n0 dl3b k3b n00 n01 => ?_⟩
          refine ⟨n0, rfl, by omega, by omega, for_range (lo := 0) (n := n0.toNat) (fun i σ H' => (∃ v6 v7 v8, σ = [some (.ref d), some (.int r), some (.int m), some (.ref l), some (.int M), some (.ref F), v6, v7, v8, none, none, none]) ∧ Deal d g H' ∧ Kp d g H H' ∧ ∃ (vs : List V) (ds : List Dr), H' F = some (.lst vs) ∧ TDs K H' vs (ds.map encD) ∧ (∀ x ∈ ds, DrW M ws x) ∧ ds.length = (M - 1).toNat + i)
            ⟨⟨_, _, _, rfl⟩, dl3b, k3.trans k3b, vs, ds, k3b F _ Fd Fg hF, TDs.keep (dl3.tk k3b) td, ok, len⟩ ?_ (fun σ H' ⟨a, b, c, vs, ds, e1, e2, e3, e4⟩ => rest _ _ ⟨a, b, c, vs, ds, e1, e2, e3, by omega⟩)⟩
          clear hF td ok len vs ds dl3 k3 v6 v7 k3b dl3b rest
          rintro i σ H3 hi ⟨⟨v6, v7, v8, rfl⟩, dl3, k3, vs, ds, hF, td, ok, len⟩
          refine ⟨_, rfl, _, rfl, M, rfl, RgOk.of_le (by decide) (by omega) (by decide) (by omega), fun q nq => ?_⟩
          refine ⟨d, g, q, _, rfl, dl3.new nq, .inl (SqL.of upd_same), by rw [rgV_length]; omega, (fun v hv => ?_), fun H4 p4 ys dl4 k4 np4 hp4 pg4 pm => ?_⟩
          · obtain ⟨A, rfl, _⟩ := rg_mem hv
            exact good_int _
          refine ⟨_, rfl, p4, _, rfl, SqL.of hp4, fun pp npp => ?_⟩
          rw [cut_take _ (by decide)]
          obtain ⟨A, B, eAB, iA, iB, nAB⟩ := take_two pm M2
          have eAB2 : ys.take (2 : Int).toNat = [.int A, .int B] := eAB
          rw [eAB2]
          have k35 : Kp d g H3 (upd H4 pp (.lst [.int A, .int B])) := ((Hb.Same.kp (Same.new nq)).trans k4).trans (Hb.Same.kp (Same.new npp))
          have dl5 : Deal d g (upd H4 pp (.lst [.int A, .int B])) := dl4.new npp
          have hpp : upd H4 pp (.lst [.int A, .int B]) pp = some (.lst [.int A, .int B]) := upd_same
          generalize upd H4 pp (.lst [.int A, .int B]) = H5 at k35 dl5 hpp ⊢
          refine ⟨_, rfl, .inl ⟨rfl, _, SqL.of (k35 F _ Fd Fg hF)⟩, _, rfl, pp, _, 0, _, rfl, rfl, SqL.of hpp, rfl, _, rfl, pp, _, 1, _, rfl, rfl, SqL.of hpp, rfl, ?_⟩
          refine ⟨_, rfl, _, rfl, by show 1 ≤ sizeLine; decide, fun u nu => ⟨l, u, _, _, rfl, rfl, (Same.new nu) _ _ (hlA (k3.trans k35)), upd_same, by show (ws.map V.str).length + 1 ≤ sizeLine; rw [List.length_map]; omega, fun t nt => ?_⟩⟩
          have dlu := dl5.new nu (o := .lst [.non])
          have dlt := dlu.new nt (o := .lst (ws.map V.str ++ [.non]))
          refine ⟨d, g, t, _, rfl, dlt, .inl ⟨upd_same, (dlu.free nt).2⟩, by simp, by rw [List.length_append, List.length_map]; show ws.length + 1 < 1000000; omega, fun H6 v hv dl6 k6 => ⟨by show 3 ≤ sizeLine; decide, fun w nw => ?_⟩⟩
          obtain ⟨nz, rfl, hnz⟩ := noise_of hv
          have k36 : Kp d g H3 H6 := k35.trans ((Hb.Same.kp ((Same.new nu).trans (Same.new nt))).trans k6)
          have s7 : Same H6 (upd H6 w (.tup [.int A, .int B, nzV nz])) := Same.new nw
          have hF7 := s7 _ _ (k36 F _ Fd Fg hF)
          have tdl := td.length
          rw [List.length_map] at tdl
          refine ⟨F, vs, _, rfl, rfl, hF7, by omega, ⟨_, _, _, rfl⟩, (dl6.new nw).set Fd Fg, (((k3.trans k36).trans (Hb.Same.kp s7)).acc nF0), vs ++ [.ref w], ds ++ [(A, B, nz)], upd_same, ?_, ?_, ?_⟩
          · rw [List.map_append]
            exact TDs.app (TDs.keep (tk_acc hF7) (TDs.keep (Same.tk s7) (TDs.keep (dl3.tk k36) td))) (.cons (TD.keep (tk_acc hF7) (TD.door (x := (A, B, nz)) (SqT.of upd_same))) .nil)
          · intro x hx
            rcases List.mem_append.mp hx with hx | hx
            · exact ok x hx
            · rw [List.mem_singleton.mp hx]
              exact ⟨iA, iB, nAB, hnz⟩
          · rw [List.length_append, len]
            show _ + 1 = _
            omega
        · have M2 : ¬ 1 < M := fun q => h (decide_eq_true q)
          refine ⟨0, rfl, by decide, by decide, for_range (lo := 0) (n := 0) (fun i σ H' => σ = [some (.ref d), some (.int r), some (.int m), some (.ref l), some (.int M), some (.ref F), v6, v7, none, none, none, none] ∧ H' = H3) ⟨rfl, rfl⟩ (fun i σ H' hi => absurd hi (Nat.not_lt_zero _)) (fun σ H' ⟨e1, e2⟩ => ?_)⟩
          subst e1 e2
          exact rest _ _ ⟨⟨_, _, _, rfl⟩, dl3, k3, vs, ds, hF, td, ok, by omega⟩
end
end Lw
set_option Elab.async false
set_option linter.all false
set_option maxRecDepth 100000
set_option maxHeartbeats 4000000
namespace Lw
open PySem PySem.Spec PyProof.Rows L2 Hb
def spHouseOf (K : PySem.W.Frag) (C : Addr) : Sp := fun vs H Q _ => ∃ (o : Addr) (h : Hz), vs = [.ref o] ∧ HOne K H o h ∧ Hin h ∧ ∀ H' p, Same H H' → H p = none → HAt K C H' p h → Q (.ref p) H'
section
variable {P : Program} {w : World} {K : PySem.W.Frag} {mg : Str → Option Value} {base : Heap}
theorem c_house_of (D : Df K mg "_law_house_of" s_house_of) (T : Tx K mg) (m_House : C8.Mak P w K mg base 5 "House" (He.ga K "House") (spHInit K (He.ga K "House")) []) :
    C8.Cal P w K mg base 7 "_law_house_of" (spHouseOf K (He.ga K "House")) [] := by
  refine cal_mk D sc_house_of bd_house_of (fun vs H Q E h => ?_) fun f cdv A outer s H vs Q E hr h => ?_
  · obtain ⟨o, h, rfl, _⟩ := h
    rfl
  · obtain ⟨o, h, rfl, ho, hi, k⟩ := h
    obtain ⟨a, b, c, xs, ys, hO⟩ := ho.inv
    refine ⟨_, (pss_one (ps_ret (C8.pe_mk m_House hr (by decide) rfl (pa_cons (pe_ix ix_tup (pv 0) pe_int (fun _ _ => rfl)) (pa_cons (pe_ix ix_tup (pv 0) pe_int (fun _ _ => rfl)) (pa_cons (pe_ix ix_tup (pv 0) pe_int (fun _ _ => rfl)) (pa_cons (pe_ix ix_tup (pv 0) pe_int (fun _ _ => rfl)) pa_nil))))))), ?_⟩
    refine ⟨_, rfl, o, _, 0, _, rfl, rfl, hO.all, rfl, _, rfl, o, _, 1, _, rfl, rfl, hO.all, rfl, _, rfl, o, _, 2, _, rfl, rfl, hO.all, rfl, _, rfl, o, _, 3, _, rfl, rfl, hO.all, rfl, ?_⟩
    intro x dx nx ndx ne
    have s1 : Same H (upd (upd H dx (.own x)) x (.ins (He.ga K "House") dx [])) := fun b u e => by
      rw [upd_ne (ne_of_none e nx), upd_ne (ne_of_none e ndx)]
      exact e
    have tk := Same.tk s1
    exact ⟨x, dx, a, b, c, xs, ys, h, rfl, upd_same, .inr (SqT.keep tk hO.da), TDs.keep tk hO.dx, .inr (SqT.keep tk hO.fb), TDs.keep tk hO.fx, .inr (SqT.keep tk hO.cc), hi, fun H' kp hz => ⟨rfl, k H' x (fun b u e => kp b u (ne_of_none e nx) (s1 b u e)) nx hz⟩⟩
end
end Lw
set_option Elab.async false
set_option linter.all false
set_option maxRecDepth 100000
set_option maxHeartbeats 4000000
namespace Lw
open PySem PySem.Spec PyProof.Rows L2 Hb
section
variable {P : Program} {w : World} {K : PySem.W.Frag} {mg : Str → Option Value} {base : Heap}
def spSortedName (K : PySem.W.Frag) : Sp := fun vs H Q _ => ∃ (a : Addr) (x y : Str), vs = [.ref a] ∧ SqT K H a [.str x, .str y] ∧ x.length ≤ 1000 ∧ ∀ H', Same H H' → Q (.bl (nameB x && decide (y ∈ fourS))) H'
theorem c_is_sorted_name (D : Df K mg "is_sorted_name" s_is_sorted_name) (T : Tx K mg) (c_is_tuple_of : C8.Cal P w K mg base 1 "is_tuple_of" (spTupOf K) []) (c_is_name : C8.Cal P w K mg base 1 "is_name" spName []) :
    C8.Cal P w K mg base 2 "is_sorted_name" (spSortedName K) [] := by
  refine cal_mk D sc_is_sorted_name bd_is_sorted_name (fun vs H Q E h => ?_) fun f cdv A outer s H vs Q E hr h => ?_
  · obtain ⟨a, x, y, rfl, _⟩ := h
    rfl
  · obtain ⟨a, x, y, rfl, hq, few, k⟩ := h
    refine ⟨_, (pss_one (ps_ret (pe_and (C8.pe_c c_is_tuple_of hr (by decide) rfl (pa_cons (pv 0) (pa_cons pe_int pa_nil))) (pe_and (C8.pe_c c_is_name hr (by decide) rfl (pa_cons (pe_ix ix_tup (pv 0) pe_int (fun _ _ => rfl)) pa_nil)) (pe_one (pe_cmpR op_in_seq (pe_ix ix_tup (pv 0) pe_int (fun _ _ => rfl)) (pe_glob (v := .ref _) rfl T.g_SORTS rfl) (by first | exact nomark _ | rfl))))))), ?_⟩
    refine ⟨_, rfl, a, _, 2, rfl, hq, _, rfl, iteT ?_⟩
    refine ⟨_, rfl, a, _, 0, .str x, rfl, rfl, hq, rfl, x, rfl, few, fun H1 s1 => ⟨_, rfl, ?_⟩⟩
    cases e : nameB x with
    | false =>
      have k2 := k H1 s1
      rw [e] at k2
      exact iteF k2
    | true =>
      have k2 := k H1 s1
      rw [e] at k2
      refine iteT ⟨_, rfl, a, _, 1, .str y, rfl, rfl, SqT.keep (Same.tk s1) hq, rfl, _, _, rfl, .inr (T.t_SORTS _), rfl, rfl, ?_⟩
      rw [if_neg Bool.false_ne_true]
      have q := inV_strs y fourS
      show Q (V.bl (inV (V.str y) (fourS.map V.str))) H1
      rw [q]
      exact k2
def spSorts (K : PySem.W.Frag) : Sp := fun vs H Q _ => ∃ (a : Addr) (xs : List V) (prs : List (Str × Str)), vs = [.ref a] ∧ (SqL K H a xs ∨ SqT K H a xs) ∧ TDs K H xs (prs.map encP) ∧
  (∀ p ∈ prs, nameB p.1 = true ∧ p.2 ∈ fourS) ∧ (prs.map Prod.fst).Nodup ∧ prs.length ≤ 100 ∧ ∀ H', Same H H' → Q (.bl true) H'
theorem pair_at {K : PySem.W.Frag} {H : Hp} {xs : List V} {prs : List (Str × Str)} {i : Nat} {x : V} (td : TDs K H xs (prs.map encP)) (h : xs[i]? = some x) : ∃ t p, x = .ref t ∧ prs[i]? = some p ∧ SqT K H t [.str p.1, .str p.2] := by
  obtain ⟨d, h1, h2⟩ := TDs.at td h
  rw [List.getElem?_map] at h1
  obtain ⟨p, h3, h4⟩ := Option.map_eq_some_iff.mp h1
  subst h4
  obtain ⟨t, ys, e, h5, h6⟩ := TD.tup_inv h2
  obtain rfl := TDs.strs_inv (xs := [p.1, p.2]) h6
  exact ⟨t, p, e, h3, h5⟩
theorem c_are_sorts (D : Df K mg "are_sorts" s_are_sorts) (T : Tx K mg) (c_is_row : C8.Cal P w K mg base 1 "is_row" (spRow K) []) (c_is_sorted_name : C8.Cal P w K mg base 2 "is_sorted_name" (spSortedName K) [])
    (c_are_unlike : C8.Cal P w K mg base 1 "are_unlike" (spUnlike K) []) : C8.Cal P w K mg base 3 "are_sorts" (spSorts K) [] := by
  refine cal_mk D sc_are_sorts bd_are_sorts (fun vs H Q E h => ?_) fun f cdv A outer s H vs Q E hr h => ?_
  · obtain ⟨a, xs, prs, rfl, _⟩ := h
    rfl
  · obtain ⟨a, xs, prs, rfl, hq, td, ok, nd, few, k⟩ := h
    have line := sizeLine_eq
    have len : xs.length = prs.length := by rw [td.length, List.length_map]
    refine ⟨_, (pss_cons (ps_if (PW.pt (pw_or (pt_not (pt_val (C8.pe_c c_is_row hr (by decide) rfl (pa_cons (pv 0) pa_nil)))) (pw_or1 (pt_not (pt_val (pe_callB (cr_all rfl) (by rfl) T.n_all (by decide +kernel) (pa_cons (pe_lc (own := [("pair", 1)]) (by rfl) sc_are_sorts.nd (pi_seq (pv 0)) (blkOk_by (N := N_are_sorts) (sc := defScope s_are_sorts) (by decide +kernel)) (fun _ _ _ _ _ => (pg_name (i := 1) sc_are_sorts.nd rfl (Or.inl rfl))) (fun _ _ _ _ _ => pts_nil) (fun _ _ _ _ _ => (C8.pe_c c_is_sorted_name hr (by decide) rfl (pa_cons (pv 1) pa_nil)))) pa_nil)))))))
 (pss_one (ps_ret pe_bl))
 pss_nil)
 (pss_one (ps_ret (C8.pe_c c_are_unlike hr (by decide) rfl (pa_cons (pe_lc (own := [("pair", 1)]) (by rfl) sc_are_sorts.nd (pi_seq (pv 0)) (blkOk_by (N := N_are_sorts) (sc := defScope s_are_sorts) (by decide +kernel)) (fun _ _ _ _ _ => (pg_name (i := 1) sc_are_sorts.nd rfl (Or.inl rfl))) (fun _ _ _ _ _ => pts_nil) (fun _ _ _ _ _ => (pe_ix (show IxR _ (rIxT K) from ix_tup) (pv 1) pe_int (fun _ _ => rfl)))) pa_nil))))), ?_⟩
    refine ⟨_, rfl, a, xs, rfl, hq, fun H1 s1 => ⟨_, rfl, iteF ?_⟩⟩
    have hq1 : SqL K H1 a xs ∨ SqT K H1 a xs := hq.imp (Same.seq s1) (SqT.keep (Same.tk s1))
    refine ⟨_, rfl, a, xs, rfl, hq1, fun J G hG wk D nD => lc_it wk (fun i H' => Same H1 H' ∧ H' D = some (.lst (List.replicate i (.bl true)))) ⟨Same.new nD, upd_same⟩ (fun i H' _ p => hG _ p.1) ?_ ?_⟩
    · rintro i x H' H2 hi ⟨s2, hD⟩ ⟨rfl, hx⟩
      obtain ⟨t, p, rfl, hp, ht⟩ := pair_at (TDs.keep (Same.tk (s1.trans s2)) td) hx
      have okp := ok p (List.mem_of_getElem? hp)
      refine ⟨rfl, yes_ ⟨_, rfl, t, p.1, p.2, rfl, ht, Nat.le_trans (name_short okp.1) (by decide), fun H3 s3 => ?_⟩⟩
      rw [okp.1, decide_eq_true okp.2]
      refine ⟨_, s3 _ _ hD, by rw [List.length_replicate]; omega, Hb.Same.acc (s2.trans s3) nD, ?_⟩
      rw [upd_same, List.replicate_succ']
      rfl
    · rintro H2 ⟨s2, hD⟩
      refine ⟨D, List.replicate xs.length true, rfl, SqL.of (by rw [hD, List.map_replicate]), _, rfl, ?_⟩
      rw [show (List.replicate xs.length true).all id = true by simp]
      refine iteF ?_
      have hq2 : SqL K H2 a xs ∨ SqT K H2 a xs := hq1.imp (Same.seq s2) (SqT.keep (Same.tk s2))
      have s12 := s1.trans s2
      refine ⟨_, rfl, a, xs, rfl, hq2, fun J G hG wk D2 nD2 => lc_it wk (fun i H' => H' = upd H2 D2 (.lst (((prs.take i).map Prod.fst).map V.str))) (by simp) (fun i H' _ p => by rw [p]; exact hG _ (Same.new nD2)) ?_ ?_⟩
      · rintro i x H' H3 hi rfl ⟨e, hx⟩
        subst e
        have s3 : Same H2 (upd H2 D2 (.lst (((prs.take i).map Prod.fst).map V.str))) := Same.new nD2
        obtain ⟨t, p, rfl, hp, ht⟩ := pair_at (TDs.keep (Same.tk (s12.trans s3)) td) hx
        refine ⟨rfl, yes_ ⟨_, rfl, t, _, 0, .str p.1, rfl, rfl, ht, rfl, _, upd_same, ?_, ?_⟩⟩
        · rw [List.length_map, List.length_map, List.length_take]
          omega
        · rw [upd_upd]
          show upd H2 D2 _ = upd H2 D2 _
          rw [List.take_add_one, hp]
          simp
      · rintro H3 rfl
        rw [len, List.take_length]
        exact ⟨D2, rfl, .inl ⟨prs.map Prod.fst, SqL.of upd_same, nd, by rw [List.length_map]; omega⟩, k _ (s12.trans (Same.new nD2))⟩
end
end Lw
set_option Elab.async false
set_option linter.all false
set_option maxRecDepth 100000
set_option maxHeartbeats 4000000
namespace Lw
open PySem PySem.Spec PyProof.Rows L2 Hb
theorem notin_no {A B : Prop} {y : V} {xs : List V} (h : inV y xs = true) (k : B) : if (if true = true then !inV y xs else inV y xs) = true then A else B := by
  rw [h]
  simpa using k
/-- what may be handed to Sleeper -/
structure Zin (z : Zz) : Prop where
  nd : (z.sorts.map Prod.fst).Nodup
  ok : ∀ p ∈ z.sorts, nameB p.1 = true ∧ p.2 ∈ fourS
  few : z.sorts.length ≤ 100
  s1 : 1 ≤ z.stir
  d1 : 1 ≤ z.doze
  n1 : 1 ≤ z.near
  lo : z.loud ∈ threeS
def spInit (K : PySem.W.Frag) (C : Addr) : Sp := fun vs H Q _ => ∃ (x dx a : Addr) (xs : List V) (z : Zz), vs = [.ref x, .ref a, .int z.stir, .int z.doze, .int z.near, .str z.loud] ∧ H x = some (.ins C dx []) ∧
  (SqL K H a xs ∨ SqT K H a xs) ∧ TDs K H xs (z.sorts.map encP) ∧ Zin z ∧ ∀ H', (∀ b o, b ≠ x → H b = some o → H' b = some o) → SlpAt K C H' x z → Q .non H'
section
variable {P : Program} {w : World} {K : PySem.W.Frag} {mg : Str → Option Value} {base : Heap}
theorem m_Sleeper_mk (D : Df1 K mg "Sleeper" "Sleeper.__init__" s_Sleeper_init) (T : Tx K mg) (c_are_sorts : C8.Cal P w K mg base 3 "are_sorts" (spSorts K) []) (c_is_positive : C8.Cal P w K mg base 2 "is_positive" spPos []) :
    C8.Mak P w K mg base 4 "Sleeper" (He.ga K "Sleeper") (spInit K (He.ga K "Sleeper")) [] := by
  refine mak_mk D sc_Sleeper_init bd_Sleeper_init (fun vs H Q E h => ?_) fun f cdv A outer s H vs Q E hr h => ?_
  · obtain ⟨x, dx, a, xs, z, rfl, _⟩ := h
    rfl
  · obtain ⟨x, dx, a, xs, z, rfl, hx, hq, td, zi, k⟩ := h
    refine ⟨_, (pss_cons (ps_if (pt_not (pt_val (C8.pe_c c_are_sorts hr (by decide) rfl (pa_cons (pv 1) pa_nil))))
 (pss_one ps_never)
 pss_nil)
 (pss_cons (ps_if (pt_not (pt_val (C8.pe_c c_is_positive hr (by decide) rfl (pa_cons (pv 2) pa_nil))))
 (pss_one ps_never)
 pss_nil)
 (pss_cons (ps_if (pt_not (pt_val (C8.pe_c c_is_positive hr (by decide) rfl (pa_cons (pv 3) pa_nil))))
 (pss_one ps_never)
 pss_nil)
 (pss_cons (ps_if (pt_not (pt_val (C8.pe_c c_is_positive hr (by decide) rfl (pa_cons (pv 4) pa_nil))))
 (pss_one ps_never)
 pss_nil)
 (pss_cons (ps_if (pt_cmpR op_notIn_seq (pv 5) (pe_glob (v := .ref _) rfl T.g_LOUD_RULES rfl) (by first | exact nomark _ | rfl))
 (pss_one ps_never)
 pss_nil)
 (pss_cons (ps_fld (pv 0) (pe_callTy call_tuple_of (by rfl) T.n_tuple (by decide +kernel) (pa_cons (pe_callB (cr_sortedAny encP hr.units) (by rfl) T.n_sorted (by decide +kernel) (pa_cons (pv 1) pa_nil)) pa_nil)) rfl)
 (pss_cons (ps_fld (pv 0) (pv 2) rfl)
 (pss_cons (ps_fld (pv 0) (pv 3) rfl)
 (pss_cons (ps_fld (pv 0) (pv 4) rfl)
 (pss_one (ps_fld (pv 0) (pv 5) rfl))))))))))), ?_⟩
    refine ⟨_, rfl, a, xs, z.sorts, rfl, hq, td, zi.ok, zi.nd, zi.few, fun H1 s1 => ⟨_, rfl, iteF ?_⟩⟩
    refine ⟨_, rfl, z.stir, rfl, _, rfl, ?_⟩
    rw [decide_eq_true zi.s1]
    refine iteF ⟨_, rfl, z.doze, rfl, _, rfl, ?_⟩
    rw [decide_eq_true zi.d1]
    refine iteF ⟨_, rfl, z.near, rfl, _, rfl, ?_⟩
    rw [decide_eq_true zi.n1]
    refine iteF ⟨_, rfl, _, _, rfl, .inr (T.t_LOUD_RULES _), rfl, rfl, _, rfl, ?_⟩
    refine notin_no (xs := threeS.map V.str) (by rw [inV_strs]; exact decide_eq_true zi.lo) ?_
    have hq1 : SqL K H1 a xs ∨ SqT K H1 a xs := hq.imp (Same.seq s1) (SqT.keep (Same.tk s1))
    have td1 := TDs.keep (Same.tk s1) td
    have len : xs.length = z.sorts.length := by rw [td.length, List.length_map]
    have ztd := zip_td td1
    refine ⟨_, rfl, a, xs.zip z.sorts, rfl, by rw [zip_fst len]; exact hq1, fun y hy => TD.dp (ztd y hy), PySem.W.AllAlike.of (fun b b' => alike_P b.2 b'.2), PySem.W.Sortable.tuples (fun b => ⟨_, _, rfl⟩), fun y _ => depth_P y.2, fun p np => ?_⟩
    generalize hzs : (xs.zip z.sorts).mergeSort (PySem.W.dataLe false fun y => encP y.2) = zs
    have pz : zs.Perm (xs.zip z.sorts) := by rw [← hzs]; exact List.mergeSort_perm _ _
    have snd : zs.map (·.2) = sortP z.sorts := by rw [← hzs, sort_zip, zip_snd len]
    have tds : TDs K H1 (zs.map (·.1)) ((sortP z.sorts).map encP) := by
      rw [← snd]
      exact td_zip fun y hy => ztd y (pz.mem_iff.mp hy)
    have s2 : Same H1 (upd H1 p (.lst (zs.map (·.1)))) := Same.new np
    refine ⟨p, _, rfl, .inl ⟨SqL.of upd_same, fun t nt => ?_⟩⟩
    have s3 : Same H1 (upd (upd H1 p (.lst (zs.map (·.1)))) t (.tup (zs.map (·.1)))) := s2.trans (Same.new nt)
    have s4 := s1.trans s3
    have xt : x ≠ t := ne_of_none (s2 _ _ (s1 _ _ hx)) nt
    refine ⟨_, rfl, x, _, dx, [], rfl, s4 _ _ hx, T.cls_Sleeper, T.a_sorts, by decide, ?_⟩
    refine ⟨_, rfl, _, rfl, x, _, dx, _, rfl, upd_same, T.cls_Sleeper, T.a_stir, by show 1 < 1000; decide, ?_⟩
    refine ⟨_, rfl, _, rfl, x, _, dx, _, rfl, upd_same, T.cls_Sleeper, T.a_doze, by show 2 < 1000; decide, ?_⟩
    refine ⟨_, rfl, _, rfl, x, _, dx, _, rfl, upd_same, T.cls_Sleeper, T.a_near, by show 3 < 1000; decide, ?_⟩
    refine ⟨_, rfl, _, rfl, x, _, dx, _, rfl, upd_same, T.cls_Sleeper, T.a_loud, by show 4 < 1000; decide, ?_⟩
    rw [upd_upd, upd_upd, upd_upd, upd_upd]
    have tk : TK (upd (upd H1 p (.lst (zs.map (·.1)))) t (.tup (zs.map (·.1)))) (upd (upd (upd H1 p (.lst (zs.map (·.1)))) t (.tup (zs.map (·.1)))) x (.ins (He.ga K "Sleeper") dx (slpFs t z))) := TK.put (s4 _ _ hx) (by intro xs e; cases e) (by intro q u e; cases e)
    refine k _ (fun b o n e => by rw [upd_ne n]; exact s4 b o e) ⟨dx, t, _, Eq.trans upd_same (congrArg (fun q => some (HO.ins (He.ga K "Sleeper") dx q)) rfl), SqT.keep tk (SqT.of upd_same), TDs.keep tk (TDs.keep (Same.tk s3) tds)⟩
end
end Lw
set_option Elab.async false
set_option linter.all false
set_option maxRecDepth 100000
set_option maxHeartbeats 4000000
namespace Lw
open PySem PySem.Spec PyProof.Rows L2 Hb
def spSortOf (K : PySem.W.Frag) (C : Addr) : Sp := fun vs H Q _ => ∃ (p : Addr) (z : Zz) (n : Str), vs = [.ref p, .str n] ∧ SlpAt K C H p z ∧ Q (soV (sortOf z n)) H
section
variable {P : Program} {w : World} {K : PySem.W.Frag} {mg : Str → Option Value} {base : Heap}
theorem c_sort_of (D : Df K mg "sort_of" s_sort_of) (T : Tx K mg) : C8.Cal P w K mg base 1 "sort_of" (spSortOf K (He.ga K "Sleeper")) [] := by
  refine cal_mk D sc_sort_of bd_sort_of (fun vs H Q E h => ?_) fun f cdv A outer s H vs Q E hr h => ?_
  · obtain ⟨p, z, n, rfl, _⟩ := h
    rfl
  · obtain ⟨p, z, n, rfl, ⟨dx, t, xs, hp, ht, td⟩, k⟩ := h
    refine ⟨_, (pss_cons (ps_for PassesOwn.never rfl (pi_tup (pe_fld (pv 0) rfl)) (pg_tup (by rfl) (pgs_cons (pg_name (i := 2) sc_sort_of.nd rfl (Or.inl rfl)) (pgs_cons (pg_name (i := 3) sc_sort_of.nd rfl (Or.inl rfl)) pgs_nil)))
 (pss_one (ps_if (pt_cmpR op_eq (pv 2) (pv 1) (by first | exact nomark _ | rfl))
 (pss_one (ps_ret (pv 3)))
 pss_nil)))
 (pss_one (ps_ret pe_non))), ?_⟩
    have len : xs.length = (sortP z.sorts).length := by rw [td.length, List.length_map]
    refine ⟨_, rfl, p, _, dx, _, _, rfl, hp, T.cls_Sleeper, T.a_sorts, rfl, t, rfl, ⟨_, ht⟩, for_tup (K := K) (a := t) (xs := xs) (fun i σ H' => H' = H ∧ (∃ v2 v3, σ = [some (.ref p), some (.str n), v2, v3]) ∧ sortOf z n = ((sortP z.sorts).drop i).lookup n)
      ⟨rfl, ⟨_, _, rfl⟩, rfl⟩ (fun i σ H' _ q => by rw [q.1]; exact ht) ?_ ?_⟩
    · rintro i x σ H' hx ⟨rfl, ⟨v2, v3, rfl⟩, e⟩
      obtain ⟨q, pr, rfl, hpr, hq⟩ := pair_at td hx
      obtain ⟨hlt, hget⟩ := List.getElem?_eq_some_iff.mp hpr
      rw [List.drop_eq_getElem_cons hlt, hget] at e
      refine ⟨q, _, rfl, hq, rfl, _, _, rfl, _, _, rfl, rfl, ?_⟩
      refine ⟨_, rfl, _, rfl, rfl, _, rfl, ?_⟩
      refine ite2 (fun h => ?_) (fun h => ?_)
      · have h2 : pr.1 = n := by have h3 := of_decide_eq_true h; injection h3
        have e2 : sortOf z n = some pr.2 := by rw [e, ← h2]; simp [List.lookup]
        rw [e2] at k
        exact ⟨_, rfl, k⟩
      · have h2 : ¬ pr.1 = n := fun q => h (decide_eq_true (by rw [q]))
        have h3 : (n == pr.1) = false := beq_eq_false_iff_ne.mpr fun q => h2 q.symm
        exact ⟨rfl, ⟨_, _, rfl⟩, by rw [e]; simp [List.lookup, h3]⟩
    · rintro σ H' ⟨rfl, ⟨v2, v3, rfl⟩, e⟩
      rw [List.drop_eq_nil_of_le (by omega)] at e
      rw [show soV (sortOf z n) = V.non by rw [e]; rfl] at k
      exact k
def spSt (K : PySem.W.Frag) (C : Addr) (f : Zz → S0 → S0) : Sp := fun vs H Q _ => ∃ (p : Addr) (v : V) (z : Zz) (s : S0), vs = [.ref p, v] ∧ SlpAt K C H p z ∧ StAt K H v s ∧ ∀ H' v', Same H H' → StAt K H' v' (f z s) → Q v' H'
/-- dozing anew -/
def spAnew (K : PySem.W.Frag) (C : Addr) : Sp := fun vs H Q _ => ∃ (p : Addr) (z : Zz), vs = [.ref p] ∧ SlpAt K C H p z ∧ ∀ H' v', Same H H' → StAt K H' v' (.doz z.doze) → Q v' H'
theorem c_dozing_anew (D : Df K mg "dozing_anew" s_dozing_anew) (T : Tx K mg) : C8.Cal P w K mg base 1 "dozing_anew" (spAnew K (He.ga K "Sleeper")) [] := by
  refine cal_mk D sc_dozing_anew bd_dozing_anew (fun vs H Q E h => ?_) fun f cdv A outer s H vs Q E hr h => ?_
  · obtain ⟨p, z, rfl, _⟩ := h
    rfl
  · obtain ⟨p, z, rfl, ⟨dx, t, xs, hp, ht, td⟩, k⟩ := h
    refine ⟨_, (pss_one (ps_ret (pe_tup (pa_cons pe_str (pa_cons (pe_fld (pv 0) rfl) pa_nil))))), ?_⟩
    exact ⟨_, rfl, p, _, dx, _, _, rfl, hp, T.cls_Sleeper, T.a_doze, rfl, by show 2 ≤ sizeLine; decide, fun q nq => k _ _ (Same.new nq) ⟨q, rfl, SqT.of upd_same⟩⟩
def loudDoz (z : Zz) (s : S0) : S0 := if z.loud = "wake" then .wok else if z.loud = "again" then .doz z.doze else s
theorem c_heard_loud_dozing (D : Df K mg "heard_loud_dozing" s_heard_loud_dozing) (T : Tx K mg) (c_dozing_anew : C8.Cal P w K mg base 1 "dozing_anew" (spAnew K (He.ga K "Sleeper")) []) :
    C8.Cal P w K mg base 2 "heard_loud_dozing" (spSt K (He.ga K "Sleeper") loudDoz) [] := by
  refine cal_mk D sc_heard_loud_dozing bd_heard_loud_dozing (fun vs H Q E h => ?_) fun f cdv A outer s H vs Q E hr h => ?_
  · obtain ⟨p, v, z, s, rfl, _⟩ := h
    rfl
  · obtain ⟨p, v, z, s, rfl, hz, hs, k⟩ := h
    obtain ⟨dx, t, xs, hp, ht, td⟩ := id hz
    refine ⟨_, (pss_cons (ps_if (pt_cmpR op_eq (pe_fld (pv 0) rfl) pe_str (by first | exact nomark _ | rfl))
 (pss_one (ps_ret (pe_glob (v := .ref _) rfl T.g_WOKEN rfl)))
 pss_nil)
 (pss_one (ps_ret (pe_ifExp (pt_cmpR op_eq (pe_fld (pv 0) rfl) pe_str (by first | exact nomark _ | rfl)) (C8.pe_c c_dozing_anew hr (by decide) rfl (pa_cons (pv 0) pa_nil)) (pv 1))))), ?_⟩
    refine ⟨_, rfl, p, _, dx, _, _, rfl, hp, T.cls_Sleeper, T.a_loud, rfl, rfl, _, rfl, ?_⟩
    by_cases h1 : z.loud = "wake"
    · rw [decide_eq_true (show V.str z.loud = V.str "wake" by rw [h1])]
      exact iteT (k _ _ (Same.refl H) ⟨_, rfl, by rw [show loudDoz z s = S0.wok from if_pos h1]; exact T.t_WOKEN _⟩)
    · rw [decide_eq_false (show ¬ V.str z.loud = V.str "wake" from fun q => h1 (by injection q))]
      refine iteF ⟨_, rfl, p, _, dx, _, _, rfl, hp, T.cls_Sleeper, T.a_loud, rfl, rfl, _, rfl, ?_⟩
      by_cases h2 : z.loud = "again"
      · rw [decide_eq_true (show V.str z.loud = V.str "again" by rw [h2])]
        have e : loudDoz z s = S0.doz z.doze := (if_neg h1).trans (if_pos h2)
        rw [e] at k
        exact iteT ⟨_, rfl, p, z, rfl, hz, k⟩
      · rw [decide_eq_false (show ¬ V.str z.loud = V.str "again" from fun q => h2 (by injection q))]
        have e : loudDoz z s = s := (if_neg h1).trans (if_neg h2)
        rw [e] at k
        exact iteF ⟨_, rfl, k _ _ (Same.refl H) hs⟩
end
end Lw
set_option Elab.async false
set_option linter.all false
set_option maxRecDepth 100000
set_option maxHeartbeats 4000000
namespace Lw
open PySem PySem.Spec PyProof.Rows L2 Hb
/-- behind a noise of a sort, asleep -/
def spAslp (K : PySem.W.Frag) (C : Addr) : Sp := fun vs H Q _ => ∃ (p : Addr) (v : V) (z : Zz) (s : S0) (n : Str) (so : Option Str), vs = [.ref p, v, .str n, soV so] ∧ SlpAt K C H p z ∧ StAt K H v s ∧ s.word = "asleep" ∧ ∀ H' v', Same H H' → StAt K H' v' (hear z so n s) → Q v' H'
def spHeard (K : PySem.W.Frag) (C : Addr) : Sp := fun vs H Q _ => ∃ (p : Addr) (v : V) (z : Zz) (s : S0) (n : Str), vs = [.ref p, v, .str n] ∧ SlpAt K C H p z ∧ StAt K H v s ∧ ∀ H' v', Same H H' → StAt K H' v' (hear z (sortOf z n) n s) → Q v' H'
section
variable {P : Program} {w : World} {K : PySem.W.Frag} {mg : Str → Option Value} {base : Heap}
theorem c_heard_asleep (D : Df K mg "heard_asleep" s_heard_asleep) (T : Tx K mg) : C8.Cal P w K mg base 1 "heard_asleep" (spAslp K (He.ga K "Sleeper")) [] := by
  refine cal_mk D sc_heard_asleep bd_heard_asleep (fun vs H Q E h => ?_) fun f cdv A outer s H vs Q E hr h => ?_
  · obtain ⟨p, v, z, s, n, so, rfl, _⟩ := h
    rfl
  · obtain ⟨p, v, z, s, n, so, rfl, ⟨dx, t, xs, hp, ht, td⟩, hs, hw, k⟩ := h
    have sl : s = .asl ∨ ∃ m a, s = .kept m a := by
      obtain ⟨h1, h2, h3, h4, h5, h6, h7, h8, h9, h10⟩ := words_ne
      cases s
      case up => exact absurd hw.symm h1
      case doz => exact absurd hw h5.symm
      case asl => exact .inl rfl
      case kept => exact .inr ⟨_, _, rfl⟩
      case stir => exact absurd hw h8
      case wok => exact absurd hw h9
    obtain ⟨a, rfl, hs⟩ := hs
    refine ⟨_, (pss_cons (ps_if (pt_cmpR op_eq (pv 3) pe_str (by first | exact nomark _ | rfl))
 (pss_one (ps_ret (pe_tup (pa_cons pe_str (pa_cons (pe_fld (pv 0) rfl) pa_nil)))))
 pss_nil)
 (pss_cons (ps_if (PW.pt (pw_or (pt_cmpR op_eq (pv 3) pe_str (by first | exact nomark _ | rfl)) (pw_or1 (pt_cmpR op_eq (pv 3) pe_str (by first | exact nomark _ | rfl)))))
 (pss_one (ps_ret (pe_glob (v := .ref _) rfl T.g_WOKEN rfl)))
 pss_nil)
 (pss_cons (ps_if (pt_cmpR op_eq (pv 3) pe_str (by first | exact nomark _ | rfl))
 (pss_one (ps_ret (pe_ifExp (PW.pt (pw_and (pt_cmpR op_eq (pe_callB call_len (by rfl) T.n_len (by decide +kernel) (pa_cons (pv 1) pa_nil)) pe_int (by first | exact nomark _ | rfl)) (pw_and1 (pt_cmpR op_ne (pe_ix ix_tup (pv 1) pe_int (fun _ _ => rfl)) (pv 2) (by first | exact nomark _ | rfl))))) (pe_glob (v := .ref _) rfl T.g_WOKEN rfl) (pe_tup (pa_cons pe_str (pa_cons (pv 2) (pa_cons pe_int pa_nil)))))))
 pss_nil)
 (pss_one (ps_ret (pv 1)))))), ?_⟩
    refine ⟨_, rfl, soV_scal so _, _, rfl, ?_⟩
    rw [soV_eq]
    by_cases h1 : so = some ("soft" : Str)
    · rw [decide_eq_true h1]
      refine iteT ⟨_, rfl, p, _, dx, _, _, rfl, hp, T.cls_Sleeper, T.a_stir, rfl, by show 2 ≤ sizeLine; decide, fun q nq => k _ _ (Same.new nq) ⟨q, rfl, ?_⟩⟩
      have e : hear z so n s = .stir z.stir := by rcases sl with rfl | ⟨m, a, rfl⟩ <;> (show ite _ _ _ = _; rw [if_pos h1])
      rw [e]
      exact SqT.of upd_same
    · rw [decide_eq_false h1]
      refine iteF ⟨_, rfl, soV_scal so _, _, rfl, ?_⟩
      rw [soV_eq]
      by_cases h2 : so = some ("loud" : Str)
      · rw [decide_eq_true h2]
        have e : hear z so n s = .wok := by rcases sl with rfl | ⟨m, a, rfl⟩ <;> (show ite _ _ _ = _; rw [if_neg h1, if_pos (Or.inl h2)])
        rw [e] at k
        exact iteT (k _ _ (Same.refl H) ⟨_, rfl, T.t_WOKEN _⟩)
      · rw [decide_eq_false h2]
        refine iteF ⟨_, rfl, soV_scal so _, _, rfl, ?_⟩
        rw [soV_eq]
        by_cases h3 : so = some ("sudden" : Str)
        · rw [decide_eq_true h3]
          have e : hear z so n s = .wok := by rcases sl with rfl | ⟨m, a, rfl⟩ <;> (show ite _ _ _ = _; rw [if_neg h1, if_pos (Or.inr h3)])
          rw [e] at k
          exact iteT (k _ _ (Same.refl H) ⟨_, rfl, T.t_WOKEN _⟩)
        · rw [decide_eq_false h3]
          refine iteF ⟨_, rfl, soV_scal so _, _, rfl, ?_⟩
          rw [soV_eq]
          by_cases h4 : so = some ("faint" : Str)
          · rw [decide_eq_true h4]
            refine iteT ?_
            rcases sl with rfl | ⟨m, ago, rfl⟩
            · refine ⟨_, rfl, .ref a, 1, rfl, .inr ⟨_, hs, rfl⟩, rfl, _, rfl, iteF (iteF ⟨_, rfl, by show 3 ≤ sizeLine; decide, fun q nq => ?_⟩)⟩
              have e : hear z so n .asl = .kept n 0 := by show ite _ _ _ = _; rw [if_neg h1, if_neg (fun q => q.elim h2 h3), if_pos h4]
              rw [e] at k
              exact k _ _ (Same.new nq) ⟨q, rfl, SqT.of upd_same⟩
            · refine ⟨_, rfl, .ref a, 3, rfl, .inr ⟨_, hs, rfl⟩, rfl, _, rfl, iteT ⟨_, rfl, a, _, 1, .str m, rfl, rfl, hs, rfl, _, rfl, rfl, _, rfl, ?_⟩⟩
              by_cases h5 : m = n
              · rw [decide_eq_true (show V.str m = V.str n by rw [h5])]
                refine iteF ⟨_, rfl, by show 3 ≤ sizeLine; decide, fun q nq => ?_⟩
                have e : hear z so n (.kept m ago) = .kept n 0 := by show ite _ _ _ = _; rw [if_neg h1, if_neg (fun q => q.elim h2 h3), if_pos h4, if_pos h5]
                rw [e] at k
                exact k _ _ (Same.new nq) ⟨q, rfl, SqT.of upd_same⟩
              · rw [decide_eq_false (show ¬ V.str m = V.str n from fun q => h5 (by injection q))]
                have e : hear z so n (.kept m ago) = .wok := by show ite _ _ _ = _; rw [if_neg h1, if_neg (fun q => q.elim h2 h3), if_pos h4, if_neg h5]
                rw [e] at k
                exact iteT (k _ _ (Same.refl H) ⟨_, rfl, T.t_WOKEN _⟩)
          · rw [decide_eq_false h4]
            refine iteF ⟨_, rfl, ?_⟩
            have e : hear z so n s = s := by rcases sl with rfl | ⟨m, a, rfl⟩ <;> (show ite _ _ _ = _; rw [if_neg h1, if_neg (fun q => q.elim h2 h3), if_neg h4])
            rw [e] at k
            exact k _ _ (Same.refl H) ⟨a, rfl, hs⟩
theorem word_eq (s : S0) (x : Str) : decide (V.str s.word = V.str x) = decide (s.word = x) := by
  by_cases h : s.word = x
  · rw [decide_eq_true h, decide_eq_true (show V.str s.word = V.str x by rw [h])]
  · rw [decide_eq_false h, decide_eq_false (show ¬ V.str s.word = V.str x from fun q => h (by injection q))]
theorem hear_doz {z : Zz} {so : Option Str} {n : Str} {t : Int} (h : so = some ("loud" : Str)) : hear z so n (.doz t) = loudDoz z (.doz t) := by
  show ite _ _ _ = _
  rw [if_pos h]
  rfl
theorem c_heard (D : Df K mg "heard" s_heard) (T : Tx K mg) (c_sort_of : C8.Cal P w K mg base 1 "sort_of" (spSortOf K (He.ga K "Sleeper")) []) (c_heard_asleep : C8.Cal P w K mg base 1 "heard_asleep" (spAslp K (He.ga K "Sleeper")) [])
    (c_heard_loud_dozing : C8.Cal P w K mg base 2 "heard_loud_dozing" (spSt K (He.ga K "Sleeper") loudDoz) []) : C8.Cal P w K mg base 3 "heard" (spHeard K (He.ga K "Sleeper")) [] := by
  refine cal_mk D sc_heard bd_heard (fun vs H Q E h => ?_) fun f cdv A outer s H vs Q E hr h => ?_
  · obtain ⟨p, v, z, s, n, rfl, _⟩ := h
    rfl
  · obtain ⟨p, v, z, s, n, rfl, hz, hs, k⟩ := h
    obtain ⟨a, rfl, ha⟩ := id hs
    obtain ⟨q1, q2, q3, q4, q5, q6, q7, q8, q9, q10⟩ := words_ne
    refine ⟨_, (pss_cons (ps_set (i := 3) sc_heard.nd rfl (Or.inl rfl) (C8.pe_c c_sort_of hr (by decide) rfl (pa_cons (pv 0) (pa_cons (pv 2) pa_nil))))
 (pss_cons (ps_if (pt_cmpR op_eq (pe_ix ix_tup (pv 1) pe_int (fun _ _ => rfl)) pe_str (by first | exact nomark _ | rfl))
 (pss_one (ps_ret (C8.pe_c c_heard_asleep hr (by decide) rfl (pa_cons (pv 0) (pa_cons (pv 1) (pa_cons (pv 2) (pa_cons (pv 3) pa_nil)))))))
 pss_nil)
 (pss_cons (ps_if (PW.pt (pw_and (pt_cmpR op_eq (pe_ix ix_tup (pv 1) pe_int (fun _ _ => rfl)) pe_str (by first | exact nomark _ | rfl)) (pw_and1 (pt_cmpR op_eq (pv 3) pe_str (by first | exact nomark _ | rfl)))))
 (pss_one (ps_ret (C8.pe_c c_heard_loud_dozing hr (by decide) rfl (pa_cons (pv 0) (pa_cons (pv 1) pa_nil)))))
 pss_nil)
 (pss_cons (ps_if (PW.pt (pw_and (pt_cmpR op_eq (pe_ix ix_tup (pv 1) pe_int (fun _ _ => rfl)) pe_str (by first | exact nomark _ | rfl)) (pw_and1 (pt_cmpR op_eq (pv 3) pe_str (by first | exact nomark _ | rfl)))))
 (pss_one (ps_ret (pe_glob (v := .ref _) rfl T.g_WOKEN rfl)))
 pss_nil)
 (pss_one (ps_ret (pv 1))))))), ?_⟩
    refine ⟨_, rfl, _, rfl, p, z, n, rfl, hz, ?_⟩
    refine ⟨_, rfl, a, _, 0, _, rfl, rfl, ha, s.head, rfl, _, rfl, ?_⟩
    rw [word_eq]
    by_cases h1 : s.word = "asleep"
    · rw [decide_eq_true h1]
      exact iteT ⟨_, rfl, _, rfl, _, rfl, _, rfl, p, _, z, s, n, sortOf z n, rfl, hz, hs, h1, k⟩
    · rw [decide_eq_false h1]
      refine iteF ⟨_, rfl, a, _, 0, _, rfl, rfl, ha, s.head, rfl, _, rfl, ?_⟩
      rw [word_eq]
      by_cases h2 : s.word = "dozing"
      · rw [decide_eq_true h2]
        obtain ⟨t, rfl⟩ : ∃ t, s = .doz t := by
          cases s
          case up => exact absurd h2.symm q2
          case doz t => exact ⟨t, rfl⟩
          case asl => exact absurd rfl h1
          case kept => exact absurd rfl h1
          case stir => exact absurd h2 q6
          case wok => exact absurd h2 q7
        refine iteT ⟨_, rfl, soV_scal _ _, _, rfl, ?_⟩
        rw [soV_eq]
        by_cases h3 : sortOf z n = some ("loud" : Str)
        · rw [decide_eq_true h3]
          rw [hear_doz h3] at k
          exact iteT ⟨_, rfl, _, rfl, p, _, z, _, rfl, hz, hs, k⟩
        · rw [decide_eq_false h3]
          refine iteF ⟨_, rfl, a, _, 0, _, rfl, rfl, ha, rfl, rfl, _, rfl, iteF (iteF ⟨_, rfl, ?_⟩)⟩
          have e : hear z (sortOf z n) n (.doz t) = .doz t := by show ite _ _ _ = _; rw [if_neg h3]
          rw [e] at k
          exact k _ _ (Same.refl H) hs
      · rw [decide_eq_false h2]
        refine iteF (iteF ⟨_, rfl, a, _, 0, _, rfl, rfl, ha, s.head, rfl, _, rfl, ?_⟩)
        rw [word_eq]
        by_cases h4 : s.word = "stirring"
        · rw [decide_eq_true h4]
          obtain ⟨t, rfl⟩ : ∃ t, s = .stir t := by
            cases s
            case up => exact absurd h4.symm q3
            case doz t => exact absurd rfl h2
            case asl => exact absurd rfl h1
            case kept => exact absurd rfl h1
            case stir t => exact ⟨t, rfl⟩
            case wok => exact absurd h4 q10
          refine iteT ⟨_, rfl, soV_scal _ _, _, rfl, ?_⟩
          rw [soV_eq]
          by_cases h3 : sortOf z n = some ("loud" : Str)
          · rw [decide_eq_true h3]
            have e : hear z (sortOf z n) n (.stir t) = .wok := by show ite _ _ _ = _; rw [if_pos h3]
            rw [e] at k
            exact iteT (k _ _ (Same.refl H) ⟨_, rfl, T.t_WOKEN _⟩)
          · rw [decide_eq_false h3]
            have e : hear z (sortOf z n) n (.stir t) = .stir t := by show ite _ _ _ = _; rw [if_neg h3]
            rw [e] at k
            exact iteF ⟨_, rfl, k _ _ (Same.refl H) hs⟩
        · rw [decide_eq_false h4]
          have e : hear z (sortOf z n) n s = s := by
            cases s
            case up => rfl
            case doz t => exact absurd rfl h2
            case asl => exact absurd rfl h1
            case kept => exact absurd rfl h1
            case stir t => exact absurd rfl h4
            case wok => rfl
          rw [e] at k
          exact iteF (iteF ⟨_, rfl, k _ _ (Same.refl H) hs⟩)
theorem c_ticked (D : Df K mg "ticked" s_ticked) (T : Tx K mg) : C8.Cal P w K mg base 1 "ticked" (spSt K (He.ga K "Sleeper") tick) [] := by
  refine cal_mk D sc_ticked bd_ticked (fun vs H Q E h => ?_) fun f cdv A outer s H vs Q E hr h => ?_
  · obtain ⟨p, v, z, s, rfl, _⟩ := h
    rfl
  · obtain ⟨p, v, z, s, rfl, hz, hs, k⟩ := h
    obtain ⟨dx, t0, xs, hp, ht, td⟩ := id hz
    obtain ⟨a, rfl, ha⟩ := id hs
    refine ⟨_, (pss_cons (ps_if (pt_cmpR op_eq (pe_ix ix_tup (pv 1) pe_int (fun _ _ => rfl)) pe_str (by first | exact nomark _ | rfl))
 (pss_one (ps_ret (pe_ifExp (pt_cmpR op_gt (pe_ix ix_tup (pv 1) pe_int (fun _ _ => rfl)) pe_int (by first | exact nomark _ | rfl)) (pe_tup (pa_cons pe_str (pa_cons (pe_op op_sub (pe_ix ix_tup (pv 1) pe_int (fun _ _ => rfl)) pe_int) pa_nil))) (pe_glob (v := .ref _) rfl T.g_ASLEEP rfl))))
 pss_nil)
 (pss_cons (ps_if (pt_cmpR op_eq (pe_ix ix_tup (pv 1) pe_int (fun _ _ => rfl)) pe_str (by first | exact nomark _ | rfl))
 (pss_one (ps_ret (pe_ifExp (pt_cmpR op_gt (pe_ix ix_tup (pv 1) pe_int (fun _ _ => rfl)) pe_int (by first | exact nomark _ | rfl)) (pe_tup (pa_cons pe_str (pa_cons (pe_op op_sub (pe_ix ix_tup (pv 1) pe_int (fun _ _ => rfl)) pe_int) pa_nil))) (pe_glob (v := .ref _) rfl T.g_WOKEN rfl))))
 pss_nil)
 (pss_cons (ps_if (PW.pt (pw_and (pt_cmpR op_eq (pe_ix ix_tup (pv 1) pe_int (fun _ _ => rfl)) pe_str (by first | exact nomark _ | rfl)) (pw_and1 (pt_cmpR op_eq (pe_callB call_len (by rfl) T.n_len (by decide +kernel) (pa_cons (pv 1) pa_nil)) pe_int (by first | exact nomark _ | rfl)))))
 (pss_one (ps_ret (pe_ifExp (pt_cmpR op_lt (pe_ix ix_tup (pv 1) pe_int (fun _ _ => rfl)) (pe_fld (pv 0) rfl) (by first | exact nomark _ | rfl)) (pe_tup (pa_cons pe_str (pa_cons (pe_ix ix_tup (pv 1) pe_int (fun _ _ => rfl)) (pa_cons (pe_op op_add (pe_ix ix_tup (pv 1) pe_int (fun _ _ => rfl)) pe_int) pa_nil)))) (pe_glob (v := .ref _) rfl T.g_ASLEEP rfl))))
 pss_nil)
 (pss_one (ps_ret (pv 1)))))), ?_⟩
    cases s with
    | doz t =>
      refine ⟨_, rfl, a, _, 0, _, rfl, rfl, ha, rfl, rfl, _, rfl, iteT ⟨_, rfl, a, _, 1, .int t, rfl, rfl, ha, rfl, _, _, rfl, rfl, _, rfl, ite2 (fun h => ?_) (fun h => ?_)⟩⟩
      · have h1 : 1 < t := of_decide_eq_true h
        refine ⟨_, rfl, a, _, 1, .int t, rfl, rfl, ha, rfl, _, _, rfl, rfl, by show 2 ≤ sizeLine; decide, fun q nq => k _ _ (Same.new nq) ⟨q, rfl, ?_⟩⟩
        rw [show tick z (.doz t) = .doz (t - 1) from if_pos h1]
        exact SqT.of upd_same
      · have h1 : ¬ 1 < t := fun q => h (decide_eq_true q)
        rw [show tick z (.doz t) = .asl from if_neg h1] at k
        exact k _ _ (Same.refl H) ⟨_, rfl, T.t_ASLEEP _⟩
    | stir t =>
      refine ⟨_, rfl, a, _, 0, _, rfl, rfl, ha, rfl, rfl, _, rfl, iteF ⟨_, rfl, a, _, 0, _, rfl, rfl, ha, rfl, rfl, _, rfl, iteT ⟨_, rfl, a, _, 1, .int t, rfl, rfl, ha, rfl, _, _, rfl, rfl, _, rfl, ite2 (fun h => ?_) (fun h => ?_)⟩⟩⟩
      · have h1 : 1 < t := of_decide_eq_true h
        refine ⟨_, rfl, a, _, 1, .int t, rfl, rfl, ha, rfl, _, _, rfl, rfl, by show 2 ≤ sizeLine; decide, fun q nq => k _ _ (Same.new nq) ⟨q, rfl, ?_⟩⟩
        rw [show tick z (.stir t) = .stir (t - 1) from if_pos h1]
        exact SqT.of upd_same
      · have h1 : ¬ 1 < t := fun q => h (decide_eq_true q)
        rw [show tick z (.stir t) = .wok from if_neg h1] at k
        exact k _ _ (Same.refl H) ⟨_, rfl, T.t_WOKEN _⟩
    | kept m ago =>
      refine ⟨_, rfl, a, _, 0, _, rfl, rfl, ha, rfl, rfl, _, rfl, iteF ⟨_, rfl, a, _, 0, _, rfl, rfl, ha, rfl, rfl, _, rfl, iteF ⟨_, rfl, a, _, 0, _, rfl, rfl, ha, rfl, rfl, _, rfl, iteT ⟨_, rfl, .ref a, 3, rfl, .inr ⟨_, ha, rfl⟩, rfl, _, rfl, iteT ?_⟩⟩⟩⟩
      refine ⟨_, rfl, a, _, 2, .int ago, rfl, rfl, ha, rfl, _, rfl, p, _, dx, _, _, rfl, hp, T.cls_Sleeper, T.a_near, rfl, _, _, rfl, rfl, _, rfl, ite2 (fun h => ?_) (fun h => ?_)⟩
      · have h1 : ago < z.near := of_decide_eq_true h
        refine ⟨_, rfl, a, _, 1, .str m, rfl, rfl, ha, rfl, _, rfl, a, _, 2, .int ago, rfl, rfl, ha, rfl, _, _, rfl, rfl, by show 3 ≤ sizeLine; decide, fun q nq => k _ _ (Same.new nq) ⟨q, rfl, ?_⟩⟩
        rw [show tick z (.kept m ago) = .kept m (ago + 1) from if_pos h1]
        exact SqT.of upd_same
      · have h1 : ¬ ago < z.near := fun q => h (decide_eq_true q)
        rw [show tick z (.kept m ago) = .asl from if_neg h1] at k
        exact k _ _ (Same.refl H) ⟨_, rfl, T.t_ASLEEP _⟩
    | asl =>
      refine ⟨_, rfl, a, _, 0, _, rfl, rfl, ha, rfl, rfl, _, rfl, iteF ⟨_, rfl, a, _, 0, _, rfl, rfl, ha, rfl, rfl, _, rfl, iteF ⟨_, rfl, a, _, 0, _, rfl, rfl, ha, rfl, rfl, _, rfl, iteT ⟨_, rfl, .ref a, 1, rfl, .inr ⟨_, ha, rfl⟩, rfl, _, rfl, iteF ⟨_, rfl, k _ _ (Same.refl H) hs⟩⟩⟩⟩⟩
    | up =>
      refine ⟨_, rfl, a, _, 0, _, rfl, rfl, ha, rfl, rfl, _, rfl, iteF ⟨_, rfl, a, _, 0, _, rfl, rfl, ha, rfl, rfl, _, rfl, iteF ⟨_, rfl, a, _, 0, _, rfl, rfl, ha, rfl, rfl, _, rfl, iteF (iteF ⟨_, rfl, k _ _ (Same.refl H) hs⟩)⟩⟩⟩
    | wok =>
      refine ⟨_, rfl, a, _, 0, _, rfl, rfl, ha, rfl, rfl, _, rfl, iteF ⟨_, rfl, a, _, 0, _, rfl, rfl, ha, rfl, rfl, _, rfl, iteF ⟨_, rfl, a, _, 0, _, rfl, rfl, ha, rfl, rfl, _, rfl, iteF (iteF ⟨_, rfl, k _ _ (Same.refl H) hs⟩)⟩⟩⟩
def spHum (K : PySem.W.Frag) (C : Addr) : Sp := fun vs H Q _ => ∃ (p : Addr) (v : V) (z : Zz) (s : S0) (x : Str), vs = [.ref p, v, .str x] ∧ SlpAt K C H p z ∧ StAt K H v s ∧ s.ok ∧ ∀ H' v', Same H H' → StAt K H' v' (hum z x s) → Q v' H'
theorem c_hummed (D : Df K mg "hummed" s_hummed) (T : Tx K mg) (c_dozing_anew : C8.Cal P w K mg base 1 "dozing_anew" (spAnew K (He.ga K "Sleeper")) []) : C8.Cal P w K mg base 2 "hummed" (spHum K (He.ga K "Sleeper")) [] := by
  refine cal_mk D sc_hummed bd_hummed (fun vs H Q E h => ?_) fun f cdv A outer s H vs Q E hr h => ?_
  · obtain ⟨p, v, z, s, x, rfl, _⟩ := h
    rfl
  · obtain ⟨p, v, z, s, x, rfl, hz, hs, ok, k⟩ := h
    have hw : StAt K H (.ref (He.ga K "WOKEN")) .wok := ⟨_, rfl, T.t_WOKEN _⟩
    refine ⟨_, (pss_cons (ps_if (pt_cmpR (op_eqD hr.units) (pv 1) (pe_glob (v := .ref _) rfl T.g_WOKEN rfl) (by first | exact nomark _ | rfl))
 (pss_one (ps_ret (pv 1)))
 pss_nil)
 (pss_one (ps_ret (pe_ifExp (pt_cmpR op_eq (pv 2) pe_str (by first | exact nomark _ | rfl)) (pe_glob (v := .ref _) rfl T.g_UP rfl) (C8.pe_c c_dozing_anew hr (by decide) rfl (pa_cons (pv 0) pa_nil)))))), ?_⟩
    refine ⟨_, rfl, _, _, TD.dp hs.td, TD.dp hw.td, (S0.shp ok).shaped, (S0.shp (s := .wok) trivial).shaped, _, rfl, ?_⟩
    rw [eqv_st]
    by_cases h1 : s = .wok
    · subst h1
      exact iteT ⟨_, rfl, k _ _ (Same.refl H) hs⟩
    · rw [decide_eq_false h1]
      refine iteF ⟨_, rfl, rfl, _, rfl, ?_⟩
      by_cases h2 : x = "up"
      · rw [decide_eq_true (show V.str x = V.str "up" by rw [h2])]
        have e : hum z x s = .up := by cases s <;> first | exact absurd rfl h1 | exact if_pos h2
        rw [e] at k
        exact iteT (k _ _ (Same.refl H) ⟨_, rfl, T.t_UP _⟩)
      · rw [decide_eq_false (show ¬ V.str x = V.str "up" from fun q => h2 (by injection q))]
        have e : hum z x s = .doz z.doze := by cases s <;> first | exact absurd rfl h1 | exact if_neg h2
        rw [e] at k
        exact iteF ⟨_, rfl, p, z, rfl, hz, k⟩
end
end Lw
set_option Elab.async false
set_option linter.all false
set_option maxRecDepth 100000
set_option maxHeartbeats 4000000
namespace Lw
open PySem PySem.Spec PyProof.Rows L2 Hb
def spSlpOf (K : PySem.W.Frag) (C : Addr) : Sp := fun vs H Q _ => ∃ (o : Addr) (z : Zz), vs = [.ref o] ∧ OneAt K H o z ∧ Zin z ∧ ∀ H' p, Same H H' → H p = none → SlpAt K C H' p z → Q (.ref p) H'
section
variable {P : Program} {w : World} {K : PySem.W.Frag} {mg : Str → Option Value} {base : Heap}
theorem c_sleeper_of (D : Df K mg "_law_sleeper_of" s_sleeper_of) (T : Tx K mg) (m_Sleeper : C8.Mak P w K mg base 4 "Sleeper" (He.ga K "Sleeper") (spInit K (He.ga K "Sleeper")) []) :
    C8.Cal P w K mg base 6 "_law_sleeper_of" (spSlpOf K (He.ga K "Sleeper")) [] := by
  refine cal_mk D sc_sleeper_of bd_sleeper_of (fun vs H Q E h => ?_) fun f cdv A outer s H vs Q E hr h => ?_
  · obtain ⟨o, z, rfl, _⟩ := h
    rfl
  · obtain ⟨o, z, rfl, ho, zi, k⟩ := h
    obtain ⟨t, xs, hO⟩ := ho.inv
    refine ⟨_, (pss_one (ps_ret (C8.pe_mk m_Sleeper hr (by decide) rfl (pa_cons (pe_ix ix_tup (pv 0) pe_int (fun _ _ => rfl)) (pa_cons (pe_ix ix_tup (pv 0) pe_int (fun _ _ => rfl)) (pa_cons (pe_ix ix_tup (pv 0) pe_int (fun _ _ => rfl)) (pa_cons (pe_ix ix_tup (pv 0) pe_int (fun _ _ => rfl)) (pa_cons (pe_ix ix_tup (pv 0) pe_int (fun _ _ => rfl)) pa_nil)))))))), ?_⟩
    refine ⟨_, rfl, o, _, 0, _, rfl, rfl, hO.all, rfl, _, rfl, o, _, 1, _, rfl, rfl, hO.all, rfl, _, rfl, o, _, 2, _, rfl, rfl, hO.all, rfl, _, rfl, o, _, 3, _, rfl, rfl, hO.all, rfl, _, rfl, o, _, 4, _, rfl, rfl, hO.all, rfl, ?_⟩
    intro x dx nx ndx ne
    have s1 : Same H (upd (upd H dx (.own x)) x (.ins (He.ga K "Sleeper") dx [])) := fun b u e => by
      rw [upd_ne (ne_of_none e nx), upd_ne (ne_of_none e ndx)]
      exact e
    have tk := Same.tk s1
    refine ⟨x, dx, t, xs, z, rfl, upd_same, .inr (SqT.keep tk hO.srt), TDs.keep tk hO.its, zi, fun H' kp hz => ⟨rfl, k H' x (fun b u e => kp b u (ne_of_none e nx) (s1 b u e)) nx hz⟩⟩

def firstS (z : Zz) (how : Str) : S0 := if how = "dozing" then .doz z.doze else if how = "asleep" then .asl else .up
def spFirst (K : PySem.W.Frag) (C : Addr) : Sp := fun vs H Q _ => ∃ (p : Addr) (z : Zz) (x : Str), vs = [.ref p, .str x] ∧ SlpAt K C H p z ∧ ∀ H' v', Same H H' → StAt K H' v' (firstS z x) → Q v' H'
theorem c_first_state (D : Df K mg "first_state" s_first_state) (T : Tx K mg) (c_dozing_anew : C8.Cal P w K mg base 1 "dozing_anew" (spAnew K (He.ga K "Sleeper")) []) : C8.Cal P w K mg base 2 "first_state" (spFirst K (He.ga K "Sleeper")) [] := by
  refine cal_mk D sc_first_state bd_first_state (fun vs H Q E h => ?_) fun f cdv A outer s H vs Q E hr h => ?_
  · obtain ⟨p, z, x, rfl, _⟩ := h
    rfl
  · obtain ⟨p, z, x, rfl, hz, k⟩ := h
    refine ⟨_, (pss_cons (ps_if (pt_cmpR op_eq (pv 1) pe_str (by first | exact nomark _ | rfl))
 (pss_one (ps_ret (C8.pe_c c_dozing_anew hr (by decide) rfl (pa_cons (pv 0) pa_nil))))
 pss_nil)
 (pss_one (ps_ret (pe_ifExp (pt_cmpR op_eq (pv 1) pe_str (by first | exact nomark _ | rfl)) (pe_glob (v := .ref _) rfl T.g_ASLEEP rfl) (pe_glob (v := .ref _) rfl T.g_UP rfl))))), ?_⟩
    refine ⟨_, rfl, rfl, _, rfl, ?_⟩
    by_cases h1 : x = "dozing"
    · rw [decide_eq_true (show V.str x = V.str "dozing" by rw [h1])]
      have e : firstS z x = .doz z.doze := if_pos h1
      rw [e] at k
      exact iteT ⟨_, rfl, p, z, rfl, hz, k⟩
    · rw [decide_eq_false (show ¬ V.str x = V.str "dozing" from fun q => h1 (by injection q))]
      refine iteF ⟨_, rfl, rfl, _, rfl, ?_⟩
      by_cases h2 : x = "asleep"
      · rw [decide_eq_true (show V.str x = V.str "asleep" by rw [h2])]
        have e : firstS z x = .asl := (if_neg h1).trans (if_pos h2)
        rw [e] at k
        exact iteT (k _ _ (Same.refl H) ⟨_, rfl, T.t_ASLEEP _⟩)
      · rw [decide_eq_false (show ¬ V.str x = V.str "asleep" from fun q => h2 (by injection q))]
        have e : firstS z x = .up := (if_neg h1).trans (if_neg h2)
        rw [e] at k
        exact iteF (k _ _ (Same.refl H) ⟨_, rfl, T.t_UP _⟩)
end
end Lw
set_option Elab.async false
set_option linter.all false
set_option maxRecDepth 100000
set_option maxHeartbeats 8000000
namespace Lw
open PySem PySem.Spec PyProof.Rows L2 Hb
/-! ### all states that can be here -/
def five : List Int := [1, 2, 3, 4, 5]
def allS : List S0 := [.up, .asl, .wok] ++ five.map S0.doz ++ five.map S0.stir ++ eight.flatMap fun n => [S0.kept n 0, .kept n 1, .kept n 2]
def fine (s : S0) : Bool := (PyData.tuple s.ds).showable && !(PyData.tuple s.ds).hasDict && decide ((PyData.tuple s.ds).depth ≤ 60) && decide ((PyData.tuple s.ds).shown.length ≤ 1000)
theorem fine_all : ∀ s ∈ allS, fine s = true := by decide +kernel
theorem five_of {t : Int} (h1 : 1 ≤ t) (h2 : t ≤ 5) : t ∈ five := by
  simp only [five, List.mem_cons, List.not_mem_nil, or_false]
  omega
theorem all_of {z : Zz} {ws : List Str} (zk : Zok z ws) (hw : ∀ w ∈ ws, w ∈ eight) {s : S0} (h : InS z s) : s ∈ allS := by
  unfold allS
  rw [List.mem_append, List.mem_append, List.mem_append]
  cases s with
  | up => exact .inl (.inl (.inl (by simp)))
  | asl => exact .inl (.inl (.inl (by simp)))
  | wok => exact .inl (.inl (.inl (by simp)))
  | doz t => exact .inl (.inl (.inr (List.mem_map.mpr ⟨t, five_of h.1 (Int.le_trans h.2 zk.d5), rfl⟩)))
  | stir t => exact .inl (.inr (List.mem_map.mpr ⟨t, five_of h.1 (Int.le_trans h.2 zk.s5), rfl⟩))
  | kept n a =>
    obtain ⟨m, a0, a1⟩ := h
    have a2 := zk.n2
    refine .inr (List.mem_flatMap.mpr ⟨n, hw n (zk.inw _ m), ?_⟩)
    have : a = 0 ∨ a = 1 ∨ a = 2 := by omega
    rcases this with rfl | rfl | rfl <;> simp
structure Rp (K : PySem.W.Frag) (H : Hp) (a : Addr) (d : PyData) : Prop where
  dp : Dp K H (.ref a) d
  sh : d.showable = true
  nd : d.hasDict = false
  de : d.depth ≤ 60
  le : d.shown.length ≤ sizeLine
theorem st_repr {K : PySem.W.Frag} {H : Hp} {v : V} {s : S0} (hs : StAt K H v s) (m : s ∈ allS) : ∃ a, v = .ref a ∧ Rp K H a (.tuple s.ds) := by
  have f := fine_all s m
  simp only [fine, Bool.and_eq_true, Bool.not_eq_true', decide_eq_true_eq] at f
  obtain ⟨⟨⟨f1, f2⟩, f3⟩, f4⟩ := f
  have e := hs.td
  obtain ⟨a, rfl, _⟩ := hs
  exact ⟨a, rfl, TD.dp e, f1, f2, f3, by rw [sizeLine_eq]; omega⟩
theorem InS.first {z : Zz} {ws : List Str} (zk : Zok z ws) (x : Str) : InS z (firstS z x) := by
  unfold firstS
  split
  · exact ⟨zk.d1, Int.le_refl _⟩
  · split <;> trivial
/-- what stays where it is while draws go on -/
structure Kit (K : PySem.W.Frag) (C d g p o m m2 : Addr) (ws : List Str) (z z2 : Zz) (H : Hp) : Prop where
  dl : Deal d g H
  hp : H p = some (.lst (ws.map V.str))
  pd : p ≠ d
  pg : p ≠ g
  ho : OneAt K H o z
  hm : SlpAt K C H m z
  hm2 : SlpAt K C H m2 z2
theorem Kit.kp {K : PySem.W.Frag} {C d g p o m m2 : Addr} {ws : List Str} {z z2 : Zz} {H H' : Hp} (h : Kit K C d g p o m m2 ws z z2 H) (k : Kp d g H H') (dl : Deal d g H') : Kit K C d g p o m m2 ws z z2 H' :=
  ⟨dl, k _ _ h.pd h.pg h.hp, h.pd, h.pg, TD.keep (h.dl.tk k) h.ho, h.hm.kp h.dl k, h.hm2.kp h.dl k⟩
theorem Kit.same {K : PySem.W.Frag} {C d g p o m m2 : Addr} {ws : List Str} {z z2 : Zz} {H H' : Hp} (h : Kit K C d g p o m m2 ws z z2 H) (s : Same H H') : Kit K C d g p o m m2 ws z z2 H' :=
  h.kp (Hb.Same.kp s) (h.dl.same s)
end Lw
set_option Elab.async false
set_option linter.all false
set_option maxRecDepth 100000
set_option maxHeartbeats 8000000
namespace Lw
open PySem PySem.Spec PyProof.Rows L2 Hb
def isDigit (c : Nat) : Bool := decide (c ∈ ("0123456789" : Str).cps.toList)
/-- whether a word is a number -/
def numB (w : Str) : Bool := decide (1 ≤ w.length ∧ w.length ≤ 2) && (w.cps.toList.all isDigit && (decide (w.length = 1) || !decide (w.cps.toList[0]? = some 48)))
def spNumeral : Sp := fun vs H Q _ => ∃ x : Str, vs = [.str x] ∧ x.length ≤ 1000 ∧ ∀ H', Same H H' → Q (.bl (numB x)) H'
section
variable {P : Program} {w : World} {K : PySem.W.Frag} {mg : Str → Option Value} {base : Heap}
theorem c_is_numeral (D : Df K mg "is_numeral" s_is_numeral) (T : Tx K mg) : C8.Cal P w K mg base 1 "is_numeral" spNumeral [] := by
  refine cal_mk D sc_is_numeral bd_is_numeral (fun vs H Q E h => ?_) fun f cdv A outer s H vs Q E hr h => ?_
  · obtain ⟨i, rfl, _⟩ := h
    rfl
  · obtain ⟨x, rfl, few, k⟩ := h
    obtain ⟨tL, hDIGITS⟩ := T.s_DIGITS
    have line := sizeLine_eq
    refine ⟨_, (pss_cons (ps_if (pt_not (pt_chain op_le op_le pe_int (pe_callB call_len (by rfl) T.n_len (by decide +kernel) (pa_cons (pv 0) pa_nil)) pe_int))
 (pss_one (ps_ret pe_bl))
 pss_nil)
 (pss_cons (ps_if (pt_not (pt_val (pe_callB (cr_all rfl) (by rfl) T.n_all (by decide +kernel) (pa_cons (pe_lc (own := [("digit", 1)]) (by rfl) sc_is_numeral.nd (pi_str (pv 0)) (blkOk_by (N := N_is_numeral) (sc := defScope s_is_numeral) (by decide +kernel)) (fun _ _ _ _ _ => (pg_name (i := 1) sc_is_numeral.nd rfl (Or.inl rfl))) (fun _ _ _ _ _ => pts_nil) (fun _ _ _ _ _ => (pe_cmpR op_in_sign (pv 1) (pe_glob (v := .str "0123456789") rfl hDIGITS ⟨_, rfl⟩) (by first | exact nomark _ | rfl)))) pa_nil))))
 (pss_one (ps_ret pe_bl))
 pss_nil)
 (pss_one (ps_ret (pe_or (pe_cmpR op_eq (pe_callB call_len (by rfl) T.n_len (by decide +kernel) (pa_cons (pv 0) pa_nil)) pe_int (by first | exact nomark _ | rfl)) (pe_one (pe_cmpR op_ne (pe_ix ix_str (pv 0) pe_int (fun _ _ => rfl)) pe_str (by first | exact nomark _ | rfl)))))))), ?_⟩
    refine ⟨_, rfl, .str x, x.length, rfl, ⟨by omega, rfl⟩, _, _, rfl, rfl, _, rfl, ?_⟩
    by_cases h1 : (1 : Int) ≤ (x.length : Nat)
    · rw [decide_eq_true h1]
      refine iteT ⟨_, _, rfl, rfl, _, rfl, ?_⟩
      by_cases h2 : ((x.length : Nat) : Int) ≤ 2
      · rw [decide_eq_true h2]
        refine iteF ⟨_, rfl, x, rfl, fun D nD => lc_it (walk_str (z := x)) (fun i H' => H' = upd H D (.lst (((x.cps.toList.take i).map isDigit).map V.bl))) (by simp) (fun _ _ _ _ => trivial) ?_ ?_⟩
        · rintro i v H' H2 hi rfl ⟨e, c, hc, rfl⟩
          subst e
          refine ⟨rfl, yes_ ⟨_, rfl, c, _, rfl, rfl, _, upd_same, ?_, ?_⟩⟩
          · rw [List.length_map, List.length_map, List.length_take]
            have el : x.cps.toList.length = x.length := by simp [Str.length]
            omega
          · rw [upd_upd]
            have hc2 : x.cps.toList[i]? = some c := by rw [Array.getElem?_toList]; exact hc
            show upd H D _ = upd H D _
            rw [List.take_add_one, hc2]
            simp [isDigit]
        · rintro H' rfl
          have el : x.cps.size = x.cps.toList.length := by simp
          have el2 : x.cps.toList.length = x.length := by simp [Str.length]
          have q : decide (1 ≤ x.length ∧ x.length ≤ 2) = true := decide_eq_true ⟨by omega, by omega⟩
          refine ⟨D, x.cps.toList.map isDigit, rfl, SqL.of (by rw [el, List.take_length]; exact upd_same), _, rfl, ?_⟩
          have sD : Same H (upd H D (.lst (((x.cps.toList.take x.cps.size).map isDigit).map V.bl))) := Same.new nD
          have ea : (x.cps.toList.map isDigit).all id = x.cps.toList.all isDigit := by rw [List.all_map]; rfl
          rw [ea]
          cases hall : x.cps.toList.all isDigit with
          | false =>
            refine iteT ?_
            have k2 := k _ sD
            rw [numB, q, hall] at k2
            exact k2
          | true =>
            refine iteF ⟨_, rfl, .str x, x.length, rfl, ⟨by omega, rfl⟩, rfl, _, rfl, ?_⟩
            by_cases h3 : x.length = 1
            · rw [decide_eq_true (show V.int ((x.length : Nat) : Int) = V.int 1 by rw [h3]; rfl)]
              refine iteT ?_
              have k2 := k _ sD
              rw [numB, q, hall, decide_eq_true h3] at k2
              exact k2
            · rw [decide_eq_false (show ¬ V.int ((x.length : Nat) : Int) = V.int 1 from fun z => h3 (by injection z with z; omega))]
              obtain ⟨c, hc⟩ : ∃ c, x.cps.toList[0]? = some c := ⟨_, List.getElem?_eq_getElem (by omega)⟩
              refine iteF ⟨_, rfl, x, 0, c, rfl, rfl, by omega, ?_, ?_⟩
              · have hlen : (0 : Int) < (x.cps.toList.length : Nat) := by omega
                unfold atI ixN
                rw [if_pos (Int.le_refl 0), if_pos hlen]
                exact hc
              · refine ⟨rfl, ?_⟩
                have k2 := k _ sD
                have e0 : decide (V.str (⟨#[c]⟩ : Str) = V.str "0") = decide (x.cps.toList[0]? = some 48) := by
                  rw [hc]
                  refine decide_eq_decide.mpr ⟨fun z => ?_, fun z => ?_⟩
                  · injection z with z
                    have z2 := congrArg (fun y : Str => y.cps.toList) z
                    have z3 : ([c] : List Nat) = [48] := z2
                    injection z3 with z4
                    rw [z4]
                  · injection z with z
                    rw [z]
                    rfl
                rw [numB, q, hall, decide_eq_false h3, ← e0] at k2
                exact k2
      · rw [decide_eq_false h2]
        refine iteT ?_
        have q : numB x = false := by
          have q : decide (1 ≤ x.length ∧ x.length ≤ 2) = false := decide_eq_false (by omega)
          rw [numB, q, Bool.false_and]
        have k2 := k H (Same.refl H)
        rw [q] at k2
        exact k2
    · rw [decide_eq_false h1]
      refine iteF ⟨_, rfl, iteT ?_⟩
      have q : numB x = false := by
        have q : decide (1 ≤ x.length ∧ x.length ≤ 2) = false := decide_eq_false (by omega)
        rw [numB, q, Bool.false_and]
      have k2 := k H (Same.refl H)
      rw [q] at k2
      exact k2
end
end Lw
set_option Elab.async false
set_option linter.all false
set_option maxRecDepth 100000
set_option maxHeartbeats 8000000
namespace Lw
open PySem PySem.Spec PyProof.Rows L2 Hb
def tI (i : Int) : Str := ((toString i : String) : Str)
def wordB (w : Str) : Bool := decide (32 ∉ TL.tl w) && decide (10 ∉ TL.tl w)
theorem no32 {w : Str} (h : wordB w = true) : 32 ∉ TL.tl w := of_decide_eq_true (Bool.and_eq_true_iff.mp h).1
theorem split_words {ws : List Str} (hne : ws ≠ []) (h : ∀ w ∈ ws, wordB w = true) : Txt.split (Txt.join " " ws) " " = ws := TL.split_join (s := 32) (S := []) rfl (by decide +kernel) hne fun p hp => no32 (h p hp)
theorem num_ints : ∀ i ∈ List.range 64, numB (tI (i : Int)) = true ∧ PySem.intText? (tI (i : Int)) = some (i : Int) ∧ (tI (i : Int)).length ≤ 2 ∧ wordB (tI (i : Int)) = true ∧ (i : Int).natAbs.log2 < 1920 := by decide +kernel
theorem num_tI {i : Int} (h : 0 ≤ i ∧ i < 64) : numB (tI i) = true ∧ PySem.intText? (tI i) = some i ∧ (tI i).length ≤ 2 ∧ wordB (tI i) = true ∧ i.natAbs.log2 < 1920 := by
  obtain ⟨n, rfl⟩ := Int.eq_ofNat_of_zero_le h.1
  exact num_ints n (List.mem_range.mpr (by omega))
theorem v_str_ne {x y : Str} (h : x ≠ y) : decide (V.str x = V.str y) = false := decide_eq_false fun e => h (by injection e)
theorem str_dec (x y : Str) : decide (V.str x = V.str y) = decide (x = y) := decide_eq_decide.mpr ⟨fun e => by injection e, fun e => by rw [e]⟩
/-- an event, told -/
inductive Ev where
  | tick | hum (p : Int) (d : Bool) | step (p n : Int)
def evW : Ev → List Str
  | .tick => ["tick"]
  | .hum p d => ["hum", tI p, if d then "doze" else "up"]
  | .step p n => ["step", tI p, tI n]
def evT (e : Ev) : Str := Txt.join " " (evW e)
def EvOk (k : Int) : Ev → Prop
  | .tick => True
  | .hum p _ => 0 ≤ p ∧ p < k
  | .step p n => (0 ≤ p ∧ p < k) ∧ 0 ≤ n ∧ n < 64
theorem lit_ne : ("hum" : Str) ≠ "step" ∧ ("tick" : Str) ≠ "step" ∧ ("tick" : Str) ≠ "hum" := by decide +kernel
theorem lit_words : wordB "hum" = true ∧ wordB "step" = true ∧ wordB "tick" = true ∧ wordB "doze" = true ∧ wordB "up" = true := by decide +kernel
theorem lit_len : ("hum" : Str).length = 3 ∧ ("step" : Str).length = 4 ∧ ("tick" : Str).length = 4 ∧ ("doze" : Str).length = 4 ∧ ("up" : Str).length = 2 ∧ (" " : Str).length = 1 := by decide +kernel
theorem tick_T : evT .tick = "tick" := by decide +kernel
theorem split_ev {k : Int} {e : Ev} (hk : k ≤ 64) (ok : EvOk k e) : Txt.split (evT e) " " = evW e := by
  obtain ⟨l1, l2, l3, l4, l5⟩ := lit_words
  refine split_words (by cases e <;> simp [evW]) fun w hw => ?_
  cases e with
  | tick =>
    rw [List.mem_singleton.mp hw]
    exact l3
  | hum p d =>
    have np := num_tI ⟨ok.1, Int.lt_of_lt_of_le ok.2 hk⟩
    simp only [evW, List.mem_cons, List.not_mem_nil, or_false] at hw
    rcases hw with rfl | rfl | rfl
    · exact l1
    · exact np.2.2.2.1
    · cases d
      · exact l5
      · exact l4
  | step p n =>
    have np := num_tI ⟨ok.1.1, Int.lt_of_lt_of_le ok.1.2 hk⟩
    have nn := num_tI ok.2
    simp only [evW, List.mem_cons, List.not_mem_nil, or_false] at hw
    rcases hw with rfl | rfl | rfl
    · exact l2
    · exact np.2.2.2.1
    · exact nn.2.2.2.1
theorem str_join_le (sep : Str) : ∀ ts : List Str, (Str.join sep ts).length ≤ (ts.map (·.length)).sum + ts.length * sep.length
  | [] => by simp [Str.join]; rfl
  | [x] => by show x.length ≤ _; simp
  | x :: y :: r => by
    have ih := str_join_le sep (y :: r)
    show (x ++ sep ++ Str.join sep (y :: r)).length ≤ _
    rw [Str.length_append, Str.length_append, List.map_cons, List.sum_cons, List.length_cons, Nat.succ_mul]
    omega
theorem ev_short {k : Int} {e : Ev} (hk : k ≤ 64) (ok : EvOk k e) : (evT e).length ≤ 20 := by
  obtain ⟨l1, l2, l3, l4, l5, l6⟩ := lit_len
  have z := str_join_le " " (evW e)
  rw [← TL.join_eq] at z
  change (evT e).length ≤ _ at z
  cases e with
  | tick =>
    rw [tick_T, l3]
    decide
  | hum p d =>
    have np := (num_tI ⟨ok.1, Int.lt_of_lt_of_le ok.2 hk⟩).2.2.1
    cases d <;> simp [evW, l1, l4, l5, l6] at z <;> omega
  | step p n =>
    have np := (num_tI ⟨ok.1.1, Int.lt_of_lt_of_le ok.1.2 hk⟩).2.2.1
    have nn := (num_tI ok.2).2.2.1
    simp [evW, l2, l6] at z
    omega
def spNumber : Sp := fun vs H Q _ => ∃ i : Int, vs = [.int i] ∧ Q (.bl (decide (0 ≤ i))) H
def spPerson : Sp := fun vs H Q _ => ∃ (k p : Int), vs = [.int k, .str (tI p)] ∧ 0 ≤ p ∧ p < k ∧ k ≤ 64 ∧ ∀ H', Same H H' → Q (.bl true) H'
def spEvent : Sp := fun vs H Q _ => ∃ (k : Int) (e : Ev), vs = [.int k, .str (evT e)] ∧ EvOk k e ∧ k ≤ 64 ∧ ∀ H', Same H H' → Q (.bl true) H'
section
variable {P : Program} {w : World} {K : PySem.W.Frag} {mg : Str → Option Value} {base : Heap}
theorem c_is_number (D : Df K mg "is_number" s_is_number) (T : Tx K mg) (c_is_whole : C8.Cal P w K mg base 1 "is_whole" spWhole []) : C8.Cal P w K mg base 2 "is_number" spNumber [] := by
  refine cal_mk D sc_is_number bd_is_number (fun vs H Q E h => ?_) fun f cdv A outer s H vs Q E hr h => ?_
  · obtain ⟨i, rfl, _⟩ := h
    rfl
  · obtain ⟨i, rfl, k⟩ := h
    refine ⟨_, (pss_one (ps_ret (pe_and (C8.pe_c c_is_whole hr (by decide) rfl (pa_cons (pv 0) pa_nil)) (pe_one (pe_cmpR op_ge (pv 0) pe_int (by first | exact nomark _ | rfl)))))), ?_⟩
    exact ⟨_, rfl, i, rfl, _, rfl, iteT ⟨_, rfl, _, _, rfl, rfl, k⟩⟩
theorem c_is_person (D : Df K mg "is_person" s_is_person) (T : Tx K mg) (c_is_numeral : C8.Cal P w K mg base 1 "is_numeral" spNumeral []) : C8.Cal P w K mg base 2 "is_person" spPerson [] := by
  refine cal_mk D sc_is_person bd_is_person (fun vs H Q E h => ?_) fun f cdv A outer s H vs Q E hr h => ?_
  · obtain ⟨k, p, rfl, _⟩ := h
    rfl
  · obtain ⟨k, p, rfl, p0, pk, k64, c⟩ := h
    obtain ⟨a1, a2, a3, a4, a5⟩ := num_tI (i := p) ⟨p0, by omega⟩
    refine ⟨_, (pss_one (ps_ret (pe_and (C8.pe_c c_is_numeral hr (by decide) rfl (pa_cons (pv 1) pa_nil)) (pe_one (pe_cmpR op_lt (pe_callTy call_int_str (by rfl) T.n_int (by decide +kernel) (pa_cons (pv 1) pa_nil)) (pv 0) (by first | exact nomark _ | rfl)))))), ?_⟩
    refine ⟨_, rfl, tI p, rfl, by omega, fun H1 s1 => ?_⟩
    rw [a1]
    refine ⟨_, rfl, iteT ⟨_, rfl, tI p, p, rfl, a2, by omega, _, rfl, _, _, rfl, rfl, ?_⟩⟩
    have e : V.bl (decide (p < k)) = V.bl true := by rw [decide_eq_true pk]
    show Q (V.bl (decide (p < k))) H1
    rw [e]
    exact c H1 s1
theorem c_is_event (D : Df K mg "is_event" s_is_event) (T : Tx K mg) (c_is_numeral : C8.Cal P w K mg base 1 "is_numeral" spNumeral []) (c_is_person : C8.Cal P w K mg base 2 "is_person" spPerson []) : C8.Cal P w K mg base 3 "is_event" spEvent [] := by
  refine cal_mk D sc_is_event bd_is_event (fun vs H Q E h => ?_) fun f cdv A outer s H vs Q E hr h => ?_
  · obtain ⟨k, e, rfl, _⟩ := h
    rfl
  · obtain ⟨k, e, rfl, ok, k64, c⟩ := h
    have short := ev_short k64 ok
    have line := sizeLine_eq
    obtain ⟨n1, n2, n3⟩ := lit_ne
    refine ⟨_, (pss_cons (ps_if (pt_not (pt_val (pe_callB call_isi (by rfl) T.n_isinstance (by decide +kernel) (pa_cons (pv 1) (pa_cons (pe_bltn (v := .ty "str") (u := .type "str") rfl T.n_str (by decide +kernel) rfl) pa_nil)))))
 (pss_one (ps_ret pe_bl))
 pss_nil)
 (pss_cons (ps_set (i := 2) sc_is_event.nd rfl (Or.inl rfl) (pe_split (pv 1) pe_str))
 (pss_cons (ps_if (pt_cmpR op_eq (pe_ix ix_list (pv 2) pe_int (fun _ _ => rfl)) pe_str (by first | exact nomark _ | rfl))
 (pss_one (ps_ret (pe_and (pe_cmpR op_eq (pe_callB call_len (by rfl) T.n_len (by decide +kernel) (pa_cons (pv 2) pa_nil)) pe_int (by first | exact nomark _ | rfl)) (pe_and (C8.pe_c c_is_person hr (by decide) rfl (pa_cons (pv 0) (pa_cons (pe_ix ix_list (pv 2) pe_int (fun _ _ => rfl)) pa_nil))) (pe_one (C8.pe_c c_is_numeral hr (by decide) rfl (pa_cons (pe_ix ix_list (pv 2) pe_int (fun _ _ => rfl)) pa_nil)))))))
 pss_nil)
 (pss_cons (ps_if (pt_cmpR op_eq (pe_ix ix_list (pv 2) pe_int (fun _ _ => rfl)) pe_str (by first | exact nomark _ | rfl))
 (pss_one (ps_ret (pe_and (pe_cmpR op_eq (pe_callB call_len (by rfl) T.n_len (by decide +kernel) (pa_cons (pv 2) pa_nil)) pe_int (by first | exact nomark _ | rfl)) (pe_and (C8.pe_c c_is_person hr (by decide) rfl (pa_cons (pv 0) (pa_cons (pe_ix ix_list (pv 2) pe_int (fun _ _ => rfl)) pa_nil))) (pe_one (pe_cmpR op_in_seq (pe_ix ix_list (pv 2) pe_int (fun _ _ => rfl)) (pe_glob (v := .ref _) rfl T.g_HUMMED rfl) (by first | exact nomark _ | rfl)))))))
 pss_nil)
 (pss_one (ps_ret (pe_cmpR op_eq (pv 1) pe_str (by first | exact nomark _ | rfl)))))))), ?_⟩
    refine ⟨_, rfl, _, _, _, _, true, rfl, .ty _, .base (.str _), kit_ty (by decide +kernel), _, rfl, iteF ?_⟩
    refine ⟨_, rfl, ⟨_, rfl⟩, evT e, " ", rfl, rfl, by decide +kernel, by omega, fun p np => ?_⟩
    rw [split_ev k64 ok]
    have sp : Same H (upd H p (.lst ((evW e).map V.str))) := Same.new np
    have hp : SqL K (upd H p (.lst ((evW e).map V.str))) p ((evW e).map V.str) := SqL.of upd_same
    generalize upd H p (.lst ((evW e).map V.str)) = H1 at sp hp ⊢
    cases e with
    | tick =>
      refine ⟨_, rfl, p, _, 0, .str "tick", rfl, rfl, hp, rfl, rfl, _, rfl, ?_⟩
      rw [v_str_ne n2]
      refine iteF ⟨_, rfl, p, _, 0, .str "tick", rfl, rfl, hp, rfl, rfl, _, rfl, ?_⟩
      rw [v_str_ne n3]
      refine iteF ⟨_, rfl, rfl, ?_⟩
      rw [str_dec, tick_T, decide_eq_true rfl]
      exact c H1 sp
    | hum q d =>
      refine ⟨_, rfl, p, _, 0, .str "hum", rfl, rfl, hp, rfl, rfl, _, rfl, ?_⟩
      rw [v_str_ne n1]
      refine iteF ⟨_, rfl, p, _, 0, .str "hum", rfl, rfl, hp, rfl, rfl, _, rfl, ?_⟩
      rw [decide_eq_true rfl]
      refine iteT ⟨_, rfl, .ref p, 3, rfl, .inl ⟨_, hp, rfl⟩, rfl, _, rfl, iteT ?_⟩
      refine ⟨_, rfl, _, rfl, p, _, 1, .str (tI q), rfl, rfl, hp, rfl, k, q, rfl, ok.1, ok.2, k64, fun H2 s2 => ⟨_, rfl, iteT ?_⟩⟩
      refine ⟨_, rfl, p, _, 2, .str (if d then "doze" else "up"), rfl, rfl, Same.seq s2 hp, rfl, _, _, rfl, .inr (T.t_HUMMED _), rfl, rfl, ?_⟩
      have e : V.bl (if false = true then !inV (.str (if d then "doze" else "up")) [V.str "doze", V.str "up"] else inV (.str (if d then "doze" else "up")) [V.str "doze", V.str "up"]) = V.bl true := by
        cases d <;> decide +kernel
      rw [e]
      exact c H2 (sp.trans s2)
    | step q n =>
      refine ⟨_, rfl, p, _, 0, .str "step", rfl, rfl, hp, rfl, rfl, _, rfl, ?_⟩
      rw [decide_eq_true rfl]
      refine iteT ⟨_, rfl, .ref p, 3, rfl, .inl ⟨_, hp, rfl⟩, rfl, _, rfl, iteT ?_⟩
      refine ⟨_, rfl, _, rfl, p, _, 1, .str (tI q), rfl, rfl, hp, rfl, k, q, rfl, ok.1.1, ok.1.2, k64, fun H2 s2 => ⟨_, rfl, iteT ?_⟩⟩
      have nn := num_tI ok.2
      refine ⟨_, rfl, p, _, 2, .str (tI n), rfl, rfl, Same.seq s2 hp, rfl, tI n, rfl, by omega, fun H3 s3 => ?_⟩
      rw [nn.1]
      exact c H3 ((sp.trans s2).trans s3)
end
end Lw
set_option Elab.async false
set_option linter.all false
set_option maxRecDepth 100000
set_option maxHeartbeats 8000000
namespace Lw
open PySem PySem.Spec PyProof.Rows L2 Hb
/-- a walk, told -/
structure Wk where
  g : Int
  n : Int
  f : Str
  es : List Str
def EvS (k : Int) (s : Str) : Prop := ∃ e, s = evT e ∧ EvOk k e
def firstL : List Str := ["asleep", "dozing", "up"]
structure WkOk (w : Wk) : Prop where
  g0 : 0 ≤ w.g
  n0 : 0 ≤ w.n
  few : w.g + w.n ≤ 64
  f : w.f ∈ firstL
  es : ∀ s ∈ w.es, EvS (w.g + w.n) s
  len : w.es.length ≤ 1000
def wFs (t : Addr) (w : Wk) : List (Str × V) := [("guests", .int w.g), ("nurses", .int w.n), ("first", .str w.f), ("events", .ref t)]
def WAt (K : PySem.W.Frag) (C : Addr) (H : Hp) (p : Addr) (w : Wk) : Prop := ∃ dx t, H p = some (.ins C dx (wFs t w)) ∧ SqT K H t (w.es.map V.str)
theorem WAt.same {K : PySem.W.Frag} {C : Addr} {H H' : Hp} {p : Addr} {w : Wk} (x : WAt K C H p w) (s : Same H H') : WAt K C H' p w := by
  obtain ⟨dx, t, h1, h2⟩ := x
  exact ⟨dx, t, s _ _ h1, SqT.keep (Same.tk s) h2⟩
theorem flat_strs' (xs : List Str) : (xs.map V.str).all flatV = true := by
  induction xs with
  | nil => rfl
  | cons x xs ih => rw [List.map_cons, List.all_cons, ih]; rfl
abbrev dflW (K : PySem.W.Frag) : Addr := He.dflAt ("Walk", some "__init__") 0 K
def spWInit (K : PySem.W.Frag) (C : Addr) : Sp := fun vs H Q _ => ∃ (x dx a : Addr) (w : Wk), vs = [.ref x, .int w.g, .int w.n, .str w.f, .ref a] ∧ H x = some (.ins C dx []) ∧
  (SqL K H a (w.es.map V.str) ∨ SqT K H a (w.es.map V.str)) ∧ WkOk w ∧ ∀ H', (∀ b o, b ≠ x → H b = some o → H' b = some o) → WAt K C H' x w → Q .non H'
section
variable {P : Program} {w : World} {K : PySem.W.Frag} {mg : Str → Option Value} {base : Heap}
theorem m_Walk_mk (D : Df1v K mg "Walk" "Walk.__init__" s_Walk_init [.ref (dflW K)]) (T : Tx K mg) (c_is_number : C8.Cal P w K mg base 2 "is_number" spNumber []) (c_is_row : C8.Cal P w K mg base 1 "is_row" (spRow K) [])
    (c_is_event : C8.Cal P w K mg base 3 "is_event" spEvent []) :
    C8.Mak P w K mg base 4 "Walk" (He.ga K "Walk") (spWInit K (He.ga K "Walk")) [] ∧ C8.Mak P w K mg base 4 "Walk" (He.ga K "Walk") (spWInit K (He.ga K "Walk")) [.ref (dflW K)] := by
  refine mak_mkD2 (n := 4) (by simp) rfl D sc_Walk_init bk_Walk_init bkp_Walk_init (fun vs H Q E h => ?_) fun f cdv A outer s H vs Q E hr h => ?_
  · obtain ⟨x, dx, a, z, rfl, _⟩ := h
    rfl
  · obtain ⟨x, dx, a, z, rfl, hx, ha, ok, k⟩ := h
    refine ⟨_, (pss_cons (ps_if (pt_not (pt_val (C8.pe_c c_is_number hr (by decide) rfl (pa_cons (pv 1) pa_nil))))
 (pss_one ps_never)
 pss_nil)
 (pss_cons (ps_if (pt_not (pt_val (C8.pe_c c_is_number hr (by decide) rfl (pa_cons (pv 2) pa_nil))))
 (pss_one ps_never)
 pss_nil)
 (pss_cons (ps_if (pt_cmpR op_notIn_seq (pv 3) (pe_glob (v := .ref _) rfl T.g_FIRSTS rfl) (by first | exact nomark _ | rfl))
 (pss_one ps_never)
 pss_nil)
 (pss_cons (ps_if (pt_not (pt_val (C8.pe_c c_is_row hr (by decide) rfl (pa_cons (pv 4) pa_nil))))
 (pss_one ps_never)
 pss_nil)
 (pss_cons (ps_for PassesOwn.never rfl (pi_enumS (by rfl) T.n_enumerate (pa_cons (pv 4) pa_nil)) (pg_tup (by rfl) (pgs_cons (pg_name (i := 5) sc_Walk_init.nd rfl (Or.inl rfl)) (pgs_cons (pg_name (i := 6) sc_Walk_init.nd rfl (Or.inl rfl)) pgs_nil)))
 (pss_one (ps_if (pt_not (pt_val (C8.pe_c c_is_event hr (by decide) rfl (pa_cons (pe_op op_add (pv 1) (pv 2)) (pa_cons (pv 6) pa_nil)))))
 (pss_one ps_never)
 pss_nil)))
 (pss_cons (ps_fld (pv 0) (pv 1) rfl)
 (pss_cons (ps_fld (pv 0) (pv 2) rfl)
 (pss_cons (ps_fld (pv 0) (pv 3) rfl)
 (pss_one (ps_fld (pv 0) (pe_callTy call_tuple_of (by rfl) T.n_tuple (by decide +kernel) (pa_cons (pv 4) pa_nil)) rfl)))))))))), ?_⟩
    refine ⟨_, rfl, z.g, rfl, _, rfl, ?_⟩
    rw [decide_eq_true ok.g0]
    refine iteF ⟨_, rfl, z.n, rfl, _, rfl, ?_⟩
    rw [decide_eq_true ok.n0]
    refine iteF ⟨_, rfl, _, _, rfl, .inr (T.t_FIRSTS _), rfl, rfl, _, rfl, ?_⟩
    rw [if_pos rfl]
    have eF : inV (.str z.f) [V.str "asleep", V.str "dozing", V.str "up"] = true := by
      show inV (.str z.f) (firstL.map V.str) = true
      rw [inV_strs, decide_eq_true ok.f]
    rw [eF]
    refine iteF ⟨_, rfl, a, _, rfl, ha, fun H1 s1 => ⟨_, rfl, iteF ?_⟩⟩
    have ha1 : SqL K H1 a (z.es.map V.str) ∨ SqT K H1 a (z.es.map V.str) := ha.imp (Same.seq s1) (SqT.keep (Same.tk s1))
    refine ⟨_, rfl, a, _, rfl, ha1, fun J G hG wk => for_it wk (fun i σ H' => (∃ v5 v6, σ = [some (.ref x), some (.int z.g), some (.int z.n), some (.str z.f), some (.ref a), v5, v6]) ∧ Same H1 H') ⟨⟨_, _, rfl⟩, Same.refl _⟩ (fun i σ H' _ e => hG _ e.2) ?_ ?_⟩
    · rintro i y σ H' H2 hi ⟨⟨v5, v6, rfl⟩, s2⟩ ⟨Tp, u, v, rfl, hT, rfl, e1, e2⟩
      injection e1 with e1
      subst e1
      replace e2 : (z.es.map V.str)[i]? = some v := e2
      rw [List.getElem?_map] at e2
      obtain ⟨s, hs, rfl⟩ := Option.map_eq_some_iff.mp e2
      obtain ⟨e, rfl, oe⟩ := ok.es s (List.mem_of_getElem? hs)
      have s3 : Same H' (upd H' Tp (.tup [.int (i : Nat), .str (evT e)])) := Same.new hT
      refine ⟨Tp, _, rfl, SqT.of upd_same, rfl, _, _, rfl, _, _, rfl, rfl, ?_⟩
      refine ⟨_, rfl, _, rfl, _, _, rfl, rfl, _, rfl, z.g + z.n, e, rfl, oe, ok.few, fun H3 s4 => ⟨_, rfl, iteF ?_⟩⟩
      exact ⟨⟨_, _, rfl⟩, (s2.trans s3).trans s4⟩
    · rintro σ H2 ⟨⟨v5, v6, rfl⟩, s2⟩
      have s12 := s1.trans s2
      have ha2 : SqL K H2 a (z.es.map V.str) ∨ SqT K H2 a (z.es.map V.str) := ha.imp (Same.seq s12) (SqT.keep (Same.tk s12))
      have hx2 := s12 _ _ hx
      refine ⟨_, rfl, _, rfl, x, _, dx, [], rfl, hx2, T.cls_Walk, T.a_guests, by decide, ?_⟩
      have h3 : upd H2 x (.ins (He.ga K "Walk") dx (putF "guests" (.int z.g) [])) x = some (.ins (He.ga K "Walk") dx [("guests", .int z.g)]) := upd_same
      have k3 : KX x H2 (upd H2 x (.ins (He.ga K "Walk") dx (putF "guests" (.int z.g) []))) := KX.put
      generalize upd H2 x (.ins (He.ga K "Walk") dx (putF "guests" (.int z.g) [])) = H3 at h3 k3 ⊢
      refine ⟨_, rfl, _, rfl, x, _, dx, _, rfl, h3, T.cls_Walk, T.a_nurses, by show 1 < 1000; decide, ?_⟩
      have h4 : upd H3 x (.ins (He.ga K "Walk") dx (putF "nurses" (.int z.n) [("guests", .int z.g)])) x = some (.ins (He.ga K "Walk") dx [("guests", .int z.g), ("nurses", .int z.n)]) := upd_same
      have k4 : KX x H3 (upd H3 x (.ins (He.ga K "Walk") dx (putF "nurses" (.int z.n) [("guests", .int z.g)]))) := KX.put
      generalize upd H3 x (.ins (He.ga K "Walk") dx (putF "nurses" (.int z.n) [("guests", .int z.g)])) = H4 at h4 k4 ⊢
      refine ⟨_, rfl, _, rfl, x, _, dx, _, rfl, h4, T.cls_Walk, T.a_first, by show 2 < 1000; decide, ?_⟩
      have h5 : upd H4 x (.ins (He.ga K "Walk") dx (putF "first" (.str z.f) [("guests", .int z.g), ("nurses", .int z.n)])) x = some (.ins (He.ga K "Walk") dx [("guests", .int z.g), ("nurses", .int z.n), ("first", .str z.f)]) := upd_same
      have k5 : KX x H4 (upd H4 x (.ins (He.ga K "Walk") dx (putF "first" (.str z.f) [("guests", .int z.g), ("nurses", .int z.n)]))) := KX.put
      generalize upd H4 x (.ins (He.ga K "Walk") dx (putF "first" (.str z.f) [("guests", .int z.g), ("nurses", .int z.n)])) = H5 at h5 k5 ⊢
      have k25 := (k3.trans k4).trans k5
      have kAll := (Hb.Same.kx s12).trans k25
      rcases ha2 with ha2 | ha2
      · refine ⟨_, rfl, a, _, rfl, .inl ⟨k25.seq hx2 ha2, fun t nt => ?_⟩⟩
        have s6 : Same H5 (upd H5 t (.tup (z.es.map V.str))) := Same.new nt
        have h6 := s6 _ _ h5
        refine ⟨_, rfl, x, _, dx, _, rfl, h6, T.cls_Walk, T.a_events, by show 3 < 1000; decide, ?_⟩
        exact k _ ((kAll.trans (Hb.Same.kx s6)).trans KX.put) ⟨dx, t, upd_same, SqT.keep (KX.tk KX.put h6) (SqT.of upd_same)⟩
      · refine ⟨_, rfl, a, _, rfl, .inr ⟨SqT.keep (k25.tk hx2) ha2, ?_⟩⟩
        refine ⟨_, rfl, x, _, dx, _, rfl, h5, T.cls_Walk, T.a_events, by show 3 < 1000; decide, ?_⟩
        exact k _ (kAll.trans KX.put) ⟨dx, a, upd_same, SqT.keep (KX.tk KX.put h5) (SqT.keep (k25.tk hx2) ha2)⟩
end
end Lw
set_option Elab.async false
set_option linter.all false
set_option maxRecDepth 100000
set_option maxHeartbeats 8000000
namespace Lw
open PySem PySem.Spec PyProof.Rows L2 Hb
theorem eqv_all {α : Type} [DecidableEq α] {enc : α → PyData} (h : ∀ x y, PyData.eqv (enc x) (enc y) = decide (x = y)) : ∀ ps qs : List α, PyData.eqvAll (ps.map enc) (qs.map enc) = decide (ps = qs)
  | [], [] => by simp [PyData.eqvAll]
  | [], q :: qs => by simp [PyData.eqvAll]
  | p :: ps, [] => by simp [PyData.eqvAll]
  | p :: ps, q :: qs => by
    rw [List.map_cons, List.map_cons, PyData.eqvAll, h, eqv_all h ps qs]
    by_cases h1 : p = q <;> by_cases h2 : ps = qs <;> simp [h1, h2]
theorem eqv_tup {α : Type} [DecidableEq α] {enc : α → PyData} (h : ∀ x y, PyData.eqv (enc x) (enc y) = decide (x = y)) (ps qs : List α) : PyData.eqv (.tuple (ps.map enc)) (.tuple (qs.map enc)) = decide (ps = qs) := by
  rw [PyData.eqv, eqv_all h]
theorem eqv_lst {α : Type} [DecidableEq α] {enc : α → PyData} (h : ∀ x y, PyData.eqv (enc x) (enc y) = decide (x = y)) (ps qs : List α) : PyData.eqv (.list (ps.map enc)) (.list (qs.map enc)) = decide (ps = qs) := by
  rw [PyData.eqv, eqv_all h]
theorem eqv_S (x y : Str) : PyData.eqv (.str x) (.str y) = decide (x = y) := by simp [PyData.eqv, beq_dec]
theorem strOk_tl (x : Str) : PyData.strOk x = (TL.tl x).all (· < 0x110000) := by
  unfold PyData.strOk TL.tl
  rw [← Array.all_toList]
theorem strOk_app {x y : Str} (hx : PyData.strOk x = true) (hy : PyData.strOk y = true) : PyData.strOk (x ++ y) = true := by
  rw [strOk_tl] at hx hy ⊢
  rw [TL.tl_append, List.all_append, hx, hy]
  rfl
theorem strOk_join : ∀ {ws : List Str}, (∀ w ∈ ws, PyData.strOk w = true) → PyData.strOk (Str.join " " ws) = true
  | [], _ => by decide +kernel
  | [w], h => h w List.mem_cons_self
  | w :: x :: r, h => strOk_app (strOk_app (h w List.mem_cons_self) (by decide +kernel)) (strOk_join (ws := x :: r) fun y hy => h y (List.mem_cons_of_mem _ hy))
theorem num_ok : ∀ i ∈ List.range 64, PyData.strOk (tI (i : Int)) = true := by decide +kernel
theorem lits_ok : PyData.strOk "hum" = true ∧ PyData.strOk "step" = true ∧ PyData.strOk "tick" = true ∧ PyData.strOk "doze" = true ∧ PyData.strOk "up" = true := by decide +kernel
theorem num_ok' {i : Int} (h : 0 ≤ i ∧ i < 64) : PyData.strOk (tI i) = true := by
  obtain ⟨n, rfl⟩ := Int.eq_ofNat_of_zero_le h.1
  exact num_ok n (List.mem_range.mpr (by omega))
theorem ev_ok {k : Int} (hk : k ≤ 64) {s : Str} (h : EvS k s) : PyData.strOk s = true := by
  obtain ⟨e, rfl, ok⟩ := h
  obtain ⟨l1, l2, l3, l4, l5⟩ := lits_ok
  unfold evT
  rw [TL.join_eq]
  refine strOk_join fun w hw => ?_
  cases e with
  | tick =>
    rw [List.mem_singleton.mp hw]
    exact l3
  | hum p d =>
    simp only [evW, List.mem_cons, List.not_mem_nil, or_false] at hw
    rcases hw with rfl | rfl | rfl
    · exact l1
    · exact num_ok' ⟨ok.1, Int.lt_of_lt_of_le ok.2 hk⟩
    · cases d
      · exact l5
      · exact l4
  | step p n =>
    simp only [evW, List.mem_cons, List.not_mem_nil, or_false] at hw
    rcases hw with rfl | rfl | rfl
    · exact l2
    · exact num_ok' ⟨ok.1.1, Int.lt_of_lt_of_le ok.1.2 hk⟩
    · exact num_ok' ok.2
theorem tds_strsW {K : PySem.W.Frag} {H : Hp} : ∀ xs : List Str, TDs K H (xs.map V.str) (xs.map PyData.str)
  | [] => .nil
  | x :: xs => .cons (.str x) (tds_strsW xs)
theorem shp_str {x : Str} (h : PyData.strOk x = true) : Shp (.str x) := ⟨by simp only [PyData.canLay0]; exact h, by simp [PyData.depth]⟩
theorem shaped_es {xs : List Str} (h : ∀ s ∈ xs, PyData.strOk s = true) : SeqAt.shaped (.tuple (xs.map PyData.str)) = true := shaped_tup fun d hd => by
  obtain ⟨x, hx, rfl⟩ := List.mem_map.mp hd
  exact shp_str (h x hx)
/-- alike walks -/
def wEq (a b : Wk) : Bool := decide (a.g = b.g) && (decide (a.n = b.n) && (decide (a.f = b.f) && decide (a.es = b.es)))
theorem wEq_refl (a : Wk) : wEq a a = true := by simp [wEq]
theorem ok_strs {z : Wk} (ok : WkOk z) : ∀ s ∈ z.es, PyData.strOk s = true := fun s hs => ev_ok ok.few (ok.es s hs)
def spUpto (K : PySem.W.Frag) (C : Addr) : Sp := fun vs H Q _ => ∃ (p : Addr) (m : Int) (z : Wk), vs = [.ref p, .int m] ∧ WAt K C H p z ∧ WkOk z ∧ 0 ≤ m ∧
  ∀ H' q, Same H H' → H q = none → WAt K C H' q ⟨z.g, z.n, z.f, z.es.take m.toNat⟩ → Q (.ref q) H'
def spFurther (K : PySem.W.Frag) (C : Addr) : Sp := fun vs H Q _ => ∃ (p a : Addr) (es : List Str) (z : Wk), vs = [.ref p, .ref a] ∧ WAt K C H p z ∧ WkOk z ∧ (SqL K H a (es.map V.str) ∨ SqT K H a (es.map V.str)) ∧ WkOk ⟨z.g, z.n, z.f, z.es ++ es⟩ ∧
  ∀ H' q, Same H H' → H q = none → WAt K C H' q ⟨z.g, z.n, z.f, z.es ++ es⟩ → Q (.ref q) H'
def spLenW (K : PySem.W.Frag) (C : Addr) : Sp := fun vs H Q _ => ∃ (p : Addr) (z : Wk), vs = [.ref p] ∧ WAt K C H p z ∧ WkOk z ∧ Q (.int z.es.length) H
def spEqW (K : PySem.W.Frag) (C : Addr) : Sp := fun vs H Q _ => ∃ (p : Addr) (y : V) (z : Wk), vs = [.ref p, y] ∧ WAt K C H p z ∧ WkOk z ∧ ((∃ q k, y = .ref q ∧ WAt K C H q k ∧ WkOk k ∧ Q (.bl (wEq z k)) H) ∨ ∃ t ∈ anyTy, TyX K H y (.type t) ∧ Q (.bl false) H)
theorem sIx_some (n : Nat) {i : Int} (h0 : 0 ≤ i) : HT.sIx n n (some i) = min i.toNat n := by
  have a : ¬ i < 0 := by omega
  simp [HT.sIx, a]
theorem app_nil {K : PySem.W.Frag} {H : Hp} {t : Addr} {xs ys : List V} (e : ys = []) (h : SqT K H t xs) : SqT K H t (xs ++ ys) := by
  rw [e, List.append_nil]
  exact h
/-- a walk made -/
theorem mk_W {K : PySem.W.Frag} {C : Addr} {H : Hp} {r x dx : Addr} {z : Wk} {R : VK} {E : XK} (hr : SqL K H r (z.es.map V.str) ∨ SqT K H r (z.es.map V.str)) (ok : WkOk z) (nx : H x = none) (ndx : H dx = none) (ne : dx ≠ x)
    (hR : ∀ H2, Same H H2 → WAt K C H2 x z → R .non H2) : spWInit K C [.ref x, .int z.g, .int z.n, .str z.f, .ref r] (upd (upd H dx (.own x)) x (.ins C dx [])) R E := by
  have s1 : Same H (upd (upd H dx (.own x)) x (.ins C dx [])) := fun b u e => by
    rw [upd_ne (ne_of_none e nx), upd_ne (ne_of_none e ndx)]
    exact e
  exact ⟨x, dx, r, z, rfl, upd_same, hr.imp (Same.seq s1) (SqT.keep (Same.tk s1)), ok, fun H2 kp hz => hR H2 (fun b u e => kp b u (ne_of_none e nx) (s1 b u e)) hz⟩

end Lw
set_option Elab.async false
set_option linter.all false
set_option maxRecDepth 100000
set_option maxHeartbeats 8000000
namespace Lw
open PySem PySem.Spec PyProof.Rows L2 Hb
section
variable {P : Program} {w : World} {K : PySem.W.Frag} {mg : Str → Option Value} {base : Heap}
theorem ok_further {f : Addr} {fd : FuncData} (F : FunD K "further" "Walk.further" (defArgs s_Walk_further) (defBody s_Walk_further) (defScope s_Walk_further) [] [] f fd) (T : Tx K mg) (c_is_row : C8.Cal P w K mg base 1 "is_row" (spRow K) []) (m_Walk : C8.Mak P w K mg base 4 "Walk" (He.ga K "Walk") (spWInit K (He.ga K "Walk")) []) :
    FnOk P w K mg base CX0 6 f fd ["self", "events"] (spFurther K (He.ga K "Walk")) := by
  refine F.ok sc_Walk_further (fun vs H Q E h => ?_) fun cdv A outer s H vs Q E hr h => ?_
  · obtain ⟨p, a, es, z, rfl, _⟩ := h
    rfl
  · obtain ⟨p, a, es, z, rfl, hp, ok, ha, ok2, k⟩ := h
    suffices go : ∃ t, PSs (cxOf CX0 P w K mg base N_Walk_further "Walk.further" (defScope s_Walk_further) f cdv A outer s H E).nox (defBody s_Walk_further) t ∧ t { nx := fun _ H' => Q .non H', rt := Q } (start N_Walk_further [.ref p, .ref a]) H by
      obtain ⟨t, h1, h2⟩ := go
      exact ⟨t, h1.nox, h2⟩
    refine ⟨_, (pss_cons (ps_if (pt_not (pt_val (C8.pe_c c_is_row hr (by decide) rfl (pa_cons (pv 1) pa_nil))))
 (pss_one ps_never)
 pss_nil)
 (pss_one (ps_ret (C8.pe_mk m_Walk hr (by decide) rfl (pa_cons (pe_fld (pv 0) rfl) (pa_cons (pe_fld (pv 0) rfl) (pa_cons (pe_fld (pv 0) rfl) (pa_cons (pe_op op_catA (pe_fld (pv 0) rfl) (pe_callTy call_tuple_of (by rfl) T.n_tuple (by decide +kernel) (pa_cons (pv 1) pa_nil))) pa_nil)))))))), ?_⟩
    obtain ⟨dx, t, hO, ht⟩ := hp
    refine ⟨_, rfl, a, _, rfl, ha, fun H1 s1 => ⟨_, rfl, iteF ?_⟩⟩
    have hO1 := s1 _ _ hO
    have ht1 := SqT.keep (Same.tk s1) ht
    have ha1 : SqL K H1 a (es.map V.str) ∨ SqT K H1 a (es.map V.str) := ha.imp (Same.seq s1) (SqT.keep (Same.tk s1))
    refine ⟨_, rfl, p, _, dx, _, _, rfl, hO1, T.cls_Walk, T.a_guests, rfl, _, rfl, p, _, dx, _, _, rfl, hO1, T.cls_Walk, T.a_nurses, rfl, _, rfl, p, _, dx, _, _, rfl, hO1, T.cls_Walk, T.a_first, rfl, _, rfl, p, _, dx, _, _, rfl, hO1, T.cls_Walk, T.a_events, rfl, ?_⟩
    have fin : ∀ (H2 : Hp) (r : Addr), Same H H2 → SqT K H2 r (z.es.map V.str ++ es.map V.str) → ∀ (x dx : Addr), H2 x = none → H2 dx = none → dx ≠ x →
        spWInit K (He.ga K "Walk") [.ref x, .int z.g, .int z.n, .str z.f, .ref r] (upd (upd H2 dx (.own x)) x (.ins (He.ga K "Walk") dx [])) (fun v H2 => v = V.non ∧ Q (V.ref x) H2) C8.E0 := fun H2 r s2 hr x dx nx ndx ne =>
      mk_W (z := ⟨z.g, z.n, z.f, z.es ++ es⟩) (.inr (by show SqT K H2 r ((z.es ++ es).map V.str); rw [List.map_append]; exact hr)) ok2 nx ndx ne fun H3 s3 hz => ⟨rfl, k H3 x (s2.trans s3) (s2.free nx) hz⟩
    have len : (z.es.map V.str).length + (es.map V.str).length ≤ sizeLine := by
      have := ok2.len
      have e : (z.es ++ es).length ≤ 1000 := this
      rw [List.length_append] at e
      have line := sizeLine_eq
      rw [List.length_map, List.length_map]
      omega
    rcases ha1 with ha1 | ha1
    · refine ⟨_, rfl, a, _, rfl, .inl ⟨ha1, fun u nu => ?_⟩⟩
      have su : Same H1 (upd H1 u (.tup (es.map V.str))) := Same.new nu
      have ht2 := SqT.keep (Same.tk su) ht1
      have hu : SqT K (upd H1 u (.tup (es.map V.str))) u (es.map V.str) := SqT.of upd_same
      exact ⟨t, u, _, _, rfl, rfl, ht2, hu, len, fun e0 => fin _ u (s1.trans su) (by rw [e0]; exact hu), fun _ e1 => fin _ t (s1.trans su) (app_nil e1 ht2), fun _ _ r nr => fin _ r ((s1.trans su).trans (Same.new nr)) (SqT.of upd_same)⟩
    · exact ⟨_, rfl, a, _, rfl, .inr ⟨ha1, t, a, _, _, rfl, rfl, ht1, ha1, len, fun e0 => fin _ a s1 (by rw [e0]; exact ha1), fun _ e1 => fin _ t s1 (app_nil e1 ht1), fun _ _ r nr => fin _ r (s1.trans (Same.new nr)) (SqT.of upd_same)⟩⟩
end
end Lw
set_option Elab.async false
set_option linter.all false
set_option maxRecDepth 100000
set_option maxHeartbeats 8000000
namespace Lw
open PySem PySem.Spec PyProof.Rows L2 Hb
section
variable {P : Program} {w : World} {K : PySem.W.Frag} {mg : Str → Option Value} {base : Heap}
theorem ok_len {f : Addr} {fd : FuncData} (F : FunD K "__len__" "Walk.__len__" (defArgs s_Walk_len) (defBody s_Walk_len) (defScope s_Walk_len) [] [] f fd) (T : Tx K mg) : FnOk P w K mg base CX0 1 f fd ["self"] (spLenW K (He.ga K "Walk")) := by
  refine F.ok sc_Walk_len (fun vs H Q E h => ?_) fun cdv A outer s H vs Q E hr h => ?_
  · obtain ⟨p, z, rfl, _⟩ := h
    rfl
  · obtain ⟨p, z, rfl, hp, ok, k⟩ := h
    obtain ⟨dx, t, hO, ht⟩ := hp
    suffices go : ∃ t, PSs (cxOf CX0 P w K mg base N_Walk_len "Walk.__len__" (defScope s_Walk_len) f cdv A outer s H E).nox (defBody s_Walk_len) t ∧ t { nx := fun _ H' => Q .non H', rt := Q } (start N_Walk_len [.ref p]) H by
      obtain ⟨t, h1, h2⟩ := go
      exact ⟨t, h1.nox, h2⟩
    refine ⟨_, (pss_one (ps_ret (pe_callB call_len (by rfl) T.n_len (by decide +kernel) (pa_cons (pe_fld (pv 0) rfl) pa_nil)))), ?_⟩
    exact ⟨_, rfl, p, _, dx, _, _, rfl, hO, T.cls_Walk, T.a_events, rfl, _, _, rfl, .inr ⟨_, ht, (List.length_map _).symm⟩, k⟩
end
end Lw
set_option Elab.async false
set_option linter.all false
set_option maxRecDepth 100000
set_option maxHeartbeats 8000000
/-! Worlds: what a walk does. -/
namespace Lw
open PySem PySem.Spec PyProof.Rows L2 Hb
def intV : Option Int → V
  | none => .non
  | some i => .int i
def beyondO (ds : List Dr) (n r : Int) : Option Int := match ds[n.toNat]? with
  | none => none
  | some d => if r = d.1 then some d.2.1 else if r = d.2.1 then some d.1 else none
/-- the noises of a step through a door into a room -/
def nzStep (h : Hz) (d : Dr) (r : Int) : List Str := d.2.2.toList ++ ((sortF h.floors).lookup r).toList
structure Wd where
  st : S0
  pl : List Int
  sp : List Int
  tk : Int
  md : List (Int × Str)
  wk : Option Int
  mn : Int
/-- the other side of a door -/
def behindD (d : Dr) (r : Int) : Int := if r = d.1 then d.2.1 else d.1
def doorAt (h : Hz) (n : Int) : Dr := h.doors.getD n.toNat (0, 0, none)
def placeAt (w : Wd) (p : Int) : Int := w.pl.getD p.toNat 0
def doEv (h : Hz) (z : Zz) (w : Wd) : Ev → Wd
  | .tick => { w with st := tick z w.st, tk := w.tk + 1, sp := [] }
  | .hum _ d => { w with st := hum z (if d then "doze" else "up") w.st }
  | .step p n => { w with st := rowS z w.st (nzStep h (doorAt h n) (behindD (doorAt h n) (placeAt w p))), pl := w.pl.set p.toNat (behindD (doorAt h n) (placeAt w p)), md := w.md ++ List.map (Prod.mk w.tk) (nzStep h (doorAt h n) (behindD (doorAt h n) (placeAt w p))), sp := w.sp ++ [p] }
def wokeAt (w : Wd) (s : S0) : Option Int := if w.wk = none ∧ s = .wok then some w.mn else w.wk
def goEv (h : Hz) (z : Zz) (w : Wd) (e : Ev) : Wd := { doEv h z w e with wk := wokeAt w (doEv h z w e).st, mn := w.mn + 1 }
def CanEv (h : Hz) (g : Int) (w : Wd) : Ev → Prop
  | .tick => True
  | .hum p _ => (0 ≤ p ∧ p < (w.pl.length : Nat)) ∧ g ≤ p ∧ placeAt w p ∈ h.cradles
  | .step p n => (0 ≤ p ∧ p < (w.pl.length : Nat)) ∧ (0 ≤ n ∧ n < (h.doors.length : Nat)) ∧ p ∉ w.sp ∧ (placeAt w p = (doorAt h n).1 ∨ placeAt w p = (doorAt h n).2.1)
instance (h : Hz) (g : Int) (w : Wd) (e : Ev) : Decidable (CanEv h g w e) := by cases e <;> (unfold CanEv; infer_instance)
def wd0 (z : Zz) (k : Int) (f : Str) : Wd := ⟨firstS z f, List.replicate k.toNat 0, [], 0, [], none, 0⟩
def runEv (h : Hz) (z : Zz) (w : Wd) (es : List Ev) : Wd := es.foldl (goEv h z) w
/-- each of them is possible in its turn -/
def Poss (h : Hz) (z : Zz) (g : Int) : Wd → List Ev → Prop
  | _, [] => True
  | w, e :: es => CanEv h g w e ∧ Poss h z g (goEv h z w e) es
theorem Poss.app {h : Hz} {z : Zz} {g : Int} : ∀ {w : Wd} {es fs : List Ev}, Poss h z g w (es ++ fs) ↔ Poss h z g w es ∧ Poss h z g (runEv h z w es) fs
  | _, [], _ => ⟨fun x => ⟨trivial, x⟩, fun x => x.2⟩
  | w, e :: es, fs => by
    show (_ ∧ Poss h z g _ (es ++ fs)) ↔ (_ ∧ Poss h z g _ es) ∧ _
    rw [Poss.app (es := es)]
    exact ⟨fun ⟨a, b, c⟩ => ⟨⟨a, b⟩, c⟩, fun ⟨⟨a, b⟩, c⟩ => ⟨a, b, c⟩⟩
theorem Poss.at {h : Hz} {z : Zz} {g : Int} {w : Wd} {es : List Ev} (x : Poss h z g w es) {i : Nat} {e : Ev} (hi : es[i]? = some e) : CanEv h g (runEv h z w (es.take i)) e := by
  have q : es = es.take i ++ e :: es.drop (i + 1) := by
    obtain ⟨hl, he⟩ := List.getElem?_eq_some_iff.mp hi
    rw [← he, ← List.drop_eq_getElem_cons hl, List.take_append_drop]
  rw [q] at x
  exact (Poss.app.mp x).2.1
theorem Poss.take {h : Hz} {z : Zz} {g : Int} {w : Wd} {es : List Ev} (x : Poss h z g w es) (i : Nat) : Poss h z g w (es.take i) := by
  rw [← List.take_append_drop i es] at x
  exact (Poss.app.mp x).1
theorem run_next {h : Hz} {z : Zz} {w : Wd} {es : List Ev} {i : Nat} {e : Ev} (hi : es[i]? = some e) : runEv h z w (es.take (i + 1)) = goEv h z (runEv h z w (es.take i)) e := by
  rw [List.take_add_one, hi]
  simp [runEv]
theorem run_snoc {h : Hz} {z : Zz} {w : Wd} {es : List Ev} {e : Ev} : runEv h z w (es ++ [e]) = goEv h z (runEv h z w es) e := by simp [runEv]
theorem nzStep_le (h : Hz) (d : Dr) (r : Int) : (nzStep h d r).length ≤ 2 := by
  unfold nzStep
  cases d.2.2 <;> cases (sortF h.floors).lookup r <;> simp
/-- bounds of a world behind so many events -/
structure WdB (h : Hz) (w : Wd) (k : Nat) (m : Nat) : Prop where
  pl : w.pl.length = k
  sp : w.sp.length ≤ m
  md : w.md.length ≤ 2 * m
  mn : w.mn = (m : Nat)
  tk0 : 0 ≤ w.tk
  tk : w.tk ≤ (m : Nat)
  mdt : ∀ x ∈ w.md, 0 ≤ x.1 ∧ x.1 ≤ w.tk
  wk : ∀ i, w.wk = some i → 0 ≤ i ∧ i < (m : Nat)
theorem WdB.zero (h : Hz) (z : Zz) {k : Int} (f : Str) : WdB h (wd0 z k f) k.toNat 0 := ⟨List.length_replicate, Nat.le_refl _, Nat.le_refl _, rfl, Int.le_refl _, Int.le_refl _, (fun x hx => nomatch hx), fun i e => nomatch e⟩
theorem WdB.go {h : Hz} {z : Zz} {w : Wd} {k m : Nat} (x : WdB h w k m) (e : Ev) : WdB h (goEv h z w e) k (m + 1) := by
  have wk : ∀ (s : S0) i, wokeAt w s = some i → 0 ≤ i ∧ i < ((m + 1 : Nat) : Int) := fun s i q => by
    unfold wokeAt at q
    split at q
    · have := x.mn
      simp at q
      omega
    · have := x.wk i q
      omega
  have mn : w.mn + 1 = ((m + 1 : Nat) : Int) := by have := x.mn; omega
  have t0 := x.tk0
  have t1 := x.tk
  have sp := x.sp
  have md := x.md
  cases e with
  | tick => exact ⟨x.pl, Nat.zero_le _, by show w.md.length ≤ _; omega, mn, by show 0 ≤ w.tk + 1; omega, by show w.tk + 1 ≤ _; omega, fun y hy => by have := x.mdt y hy; exact ⟨this.1, by show y.1 ≤ w.tk + 1; omega⟩, wk _⟩
  | hum p d => exact ⟨x.pl, by show w.sp.length ≤ _; omega, by show w.md.length ≤ _; omega, mn, t0, by show w.tk ≤ _; omega, x.mdt, wk _⟩
  | step p n =>
    refine ⟨by show (w.pl.set _ _).length = _; rw [List.length_set]; exact x.pl, by show (w.sp ++ [p]).length ≤ _; rw [List.length_append]; show _ + 1 ≤ _; omega, ?_, mn, t0, by show w.tk ≤ _; omega, fun y hy => ?_, wk _⟩
    · show (w.md ++ _).length ≤ _
      rw [List.length_append, List.length_map]
      have := nzStep_le h (doorAt h n) (behindD (doorAt h n) (placeAt w p))
      omega
    · rcases List.mem_append.mp hy with hy | hy
      · exact x.mdt y hy
      · obtain ⟨s, _, rfl⟩ := List.mem_map.mp hy
        exact ⟨t0, Int.le_refl _⟩
theorem WdB.run {h : Hz} (z : Zz) {k : Nat} : ∀ {es : List Ev} {w : Wd} {m : Nat}, WdB h w k m → WdB h (runEv h z w es) k (m + es.length)
  | [], _, _, x => x
  | e :: es, w, m, x => by
    have := WdB.run z (es := es) (x.go (z := z) e)
    rw [show m + 1 + es.length = m + (e :: es).length by rw [List.length_cons]; omega] at this
    exact this
def encM (x : Int × Str) : PyData := .tuple [.int x.1, .str x.2]
def movK (p : Int) : L2.Key × V := (Sum.inl p, .bl true)
theorem mov_val {sp : List Int} (p : Int) : (valV (sp.map movK) (Sum.inl p)).isSome = decide (p ∈ sp) := by
  induction sp with
  | nil => rfl
  | cons q sp ih =>
    by_cases e : q = p
    · subst e
      rw [List.map_cons, valV_pos (p := movK q) (k := Sum.inl q) rfl]
      simp
    · rw [List.map_cons, valV_neg (p := movK q) (fun z => e (by injection z)), ih]
      have e2 : ¬ p = q := fun z => e z.symm
      simp [e2]
theorem mov_put {sp : List Int} {p : Int} (h : p ∉ sp) : putK (sp.map movK) (Sum.inl p) (.bl true) = (sp ++ [p]).map movK := by
  have e := mov_val (sp := sp) p
  rw [decide_eq_false h] at e
  rw [putK_new _ (by simpa using e), List.map_append]
  rfl
end Lw
set_option Elab.async false
set_option linter.all false
set_option maxRecDepth 100000
set_option maxHeartbeats 8000000
namespace Lw
open PySem PySem.Spec PyProof.Rows L2 Hb
def spBeyond (K : PySem.W.Frag) (C : Addr) : Sp := fun vs H Q _ => ∃ (p : Addr) (h : Hz) (n r : Int), vs = [.ref p, .int n, .int r] ∧ HAt K C H p h ∧ 0 ≤ n ∧ h.doors.length ≤ 1000 ∧ Q (intV (beyondO h.doors n r)) H
def spFloorN (K : PySem.W.Frag) (C : Addr) : Sp := fun vs H Q _ => ∃ (p : Addr) (h : Hz) (r : Int), vs = [.ref p, .int r] ∧ HAt K C H p h ∧ Q (soV ((sortF h.floors).lookup r)) H
def spNoises (K : PySem.W.Frag) (C : Addr) : Sp := fun vs H Q _ => ∃ (p : Addr) (h : Hz) (n r : Int) (d : Dr), vs = [.ref p, .int n, .int r] ∧ HAt K C H p h ∧ 0 ≤ n ∧ h.doors[n.toNat]? = some d ∧
  ∀ H' t, Same H H' → H t = none → SqT K H' t ((nzStep h d r).map V.str) → Q (.ref t) H'
theorem nzV_soV (n : Option Str) : nzV n = soV n := by cases n <;> rfl
section
variable {P : Program} {w : World} {K : PySem.W.Frag} {mg : Str → Option Value} {base : Heap}
theorem c_beyond (D : Df K mg "beyond" s_beyond) (T : Tx K mg) : C8.Cal P w K mg base 1 "beyond" (spBeyond K (He.ga K "House")) [] := by
  refine cal_mk D sc_beyond bd_beyond (fun vs H Q E h => ?_) fun f cdv A outer s H vs Q E hr h => ?_
  · obtain ⟨p, h, n, r, rfl, _⟩ := h
    rfl
  · obtain ⟨p, h, n, r, rfl, ⟨dx, a, b, c, xs, ys, hp, ha, td, _⟩, n0, few, k⟩ := h
    have line := sizeLine_eq
    have len : xs.length = h.doors.length := by rw [td.length, List.length_map]
    refine ⟨_, (pss_cons (ps_if (pt_cmpR op_ge (pv 1) (pe_callB call_len (by rfl) T.n_len (by decide +kernel) (pa_cons (pe_fld (pv 0) rfl) pa_nil)) (by first | exact nomark _ | rfl))
 (pss_one (ps_ret pe_non))
 pss_nil)
 (pss_cons (ps_asg (pe_ix ix_tup (pe_fld (pv 0) rfl) (pv 1) (fun _ _ => rfl)) (pg_tup (by rfl) (pgs_cons (pg_name (i := 3) sc_beyond.nd rfl (Or.inl rfl)) (pgs_cons (pg_name (i := 4) sc_beyond.nd rfl (Or.inl rfl)) (pgs_cons (pg_name (i := 5) sc_beyond.nd rfl (Or.inl rfl)) pgs_nil)))))
 (pss_cons (ps_if (pt_cmpR op_eq (pv 2) (pv 3) (by first | exact nomark _ | rfl))
 (pss_one (ps_ret (pv 4)))
 pss_nil)
 (pss_one (ps_ret (pe_ifExp (pt_cmpR op_eq (pv 2) (pv 4) (by first | exact nomark _ | rfl)) (pv 3) pe_non)))))), ?_⟩
    refine ⟨_, rfl, _, rfl, p, _, dx, _, _, rfl, hp, T.cls_House, T.a_doors, rfl, .ref a, xs.length, rfl, .inr ⟨_, ha, rfl⟩, _, _, rfl, rfl, _, rfl, ite2 (fun q => ?_) (fun q => ?_)⟩
    · have q2 : ((xs.length : Nat) : Int) ≤ n := of_decide_eq_true q
      have e : beyondO h.doors n r = none := by
        unfold beyondO
        rw [List.getElem?_eq_none (by omega)]
      rw [e] at k
      exact k
    · have q2 : ¬ ((xs.length : Nat) : Int) ≤ n := fun z => q (decide_eq_true z)
      have hlt : n.toNat < xs.length := by omega
      obtain ⟨d, hd, tdd⟩ := TDs.at_map td (List.getElem?_eq_getElem hlt)
      obtain ⟨t, et, ht⟩ := TD.door_inv tdd
      have at_ : atI xs n = some (.ref t) := by
        have q := atI_nat (xs := xs) (j := n.toNat) (v := .ref t) (by rw [List.getElem?_eq_getElem hlt, et])
        rw [show ((n.toNat : Nat) : Int) = n by omega] at q
        exact q
      have eb : beyondO h.doors n r = if r = d.1 then some d.2.1 else if r = d.2.1 then some d.1 else none := by
        unfold beyondO
        rw [hd]
      refine ⟨_, rfl, p, _, dx, _, _, rfl, hp, T.cls_House, T.a_doors, rfl, _, rfl, a, _, n, _, rfl, rfl, ha, at_, t, _, rfl, ht, rfl, _, _, rfl, _, _, rfl, _, _, rfl, rfl, ?_⟩
      refine ⟨_, rfl, _, rfl, rfl, _, rfl, ?_⟩
      by_cases e1 : r = d.1
      · rw [decide_eq_true (show V.int r = V.int d.1 by rw [e1])]
        rw [eb, if_pos e1] at k
        exact iteT ⟨_, rfl, k⟩
      · rw [decide_eq_false (show ¬ V.int r = V.int d.1 from fun q => e1 (by injection q))]
        rw [eb, if_neg e1] at k
        refine iteF ⟨_, rfl, _, rfl, rfl, _, rfl, ?_⟩
        by_cases e2 : r = d.2.1
        · rw [decide_eq_true (show V.int r = V.int d.2.1 by rw [e2])]
          rw [if_pos e2] at k
          exact iteT ⟨_, rfl, k⟩
        · rw [decide_eq_false (show ¬ V.int r = V.int d.2.1 from fun q => e2 (by injection q))]
          rw [if_neg e2] at k
          exact iteF k
theorem c_floor_noise (D : Df K mg "floor_noise" s_floor_noise) (T : Tx K mg) : C8.Cal P w K mg base 1 "floor_noise" (spFloorN K (He.ga K "House")) [] := by
  refine cal_mk D sc_floor_noise bd_floor_noise (fun vs H Q E h => ?_) fun f cdv A outer s H vs Q E hr h => ?_
  · obtain ⟨p, h, r, rfl, _⟩ := h
    rfl
  · obtain ⟨p, h, r, rfl, ⟨dx, a, b, c, xs, ys, hp, _, _, hb, td, _⟩, k⟩ := h
    refine ⟨_, (pss_cons (ps_for PassesOwn.never rfl (pi_tup (pe_fld (pv 0) rfl)) (pg_tup (by rfl) (pgs_cons (pg_name (i := 2) sc_floor_noise.nd rfl (Or.inl rfl)) (pgs_cons (pg_name (i := 3) sc_floor_noise.nd rfl (Or.inl rfl)) pgs_nil)))
 (pss_one (ps_if (pt_cmpR op_eq (pv 2) (pv 1) (by first | exact nomark _ | rfl))
 (pss_one (ps_ret (pv 3)))
 pss_nil)))
 (pss_one (ps_ret pe_non))), ?_⟩
    have len : ys.length = (sortF h.floors).length := by rw [td.length, List.length_map]
    refine ⟨_, rfl, p, _, dx, _, _, rfl, hp, T.cls_House, T.a_floors, rfl, b, rfl, ⟨_, hb⟩, for_tup (K := K) (a := b) (xs := ys) (fun i σ H' => H' = H ∧ (∃ v2 v3, σ = [some (.ref p), some (.int r), v2, v3]) ∧ (sortF h.floors).lookup r = ((sortF h.floors).drop i).lookup r)
      ⟨rfl, ⟨_, _, rfl⟩, rfl⟩ (fun i σ H' _ q => by rw [q.1]; exact hb) ?_ ?_⟩
    · rintro i x σ H' hx ⟨rfl, ⟨v2, v3, rfl⟩, e⟩
      obtain ⟨fl, hfl, tdf⟩ := TDs.at_map td hx
      obtain ⟨t, rfl, ht⟩ := TD.floor_inv tdf
      obtain ⟨hlt, hget⟩ := List.getElem?_eq_some_iff.mp hfl
      rw [List.drop_eq_getElem_cons hlt, hget] at e
      refine ⟨t, _, rfl, ht, rfl, _, _, rfl, _, _, rfl, rfl, ?_⟩
      refine ⟨_, rfl, _, rfl, rfl, _, rfl, ?_⟩
      refine ite2 (fun h => ?_) (fun h => ?_)
      · have h2 : fl.1 = r := by have h3 := of_decide_eq_true h; injection h3
        rw [e] at k
        rw [show ((fl :: List.drop (i + 1) _ : List Fl).lookup r) = some fl.2 by rw [← h2]; simp [List.lookup]] at k
        exact ⟨_, rfl, k⟩
      · have h2 : ¬ fl.1 = r := fun q => h (decide_eq_true (by rw [q]))
        have h3 : (r == fl.1) = false := beq_eq_false_iff_ne.mpr fun q => h2 q.symm
        exact ⟨rfl, ⟨_, _, rfl⟩, by rw [e]; simp [List.lookup, h3]⟩
    · rintro σ H' ⟨rfl, ⟨v2, v3, rfl⟩, e⟩
      rw [List.drop_eq_nil_of_le (by omega)] at e
      rw [e] at k
      exact k
theorem c_noises_of_step (D : Df K mg "noises_of_step" s_noises_of_step) (T : Tx K mg) (c_floor_noise : C8.Cal P w K mg base 1 "floor_noise" (spFloorN K (He.ga K "House")) []) : C8.Cal P w K mg base 2 "noises_of_step" (spNoises K (He.ga K "House")) [] := by
  refine cal_mk D sc_noises_of_step bd_noises_of_step (fun vs H Q E h => ?_) fun f cdv A outer s H vs Q E hr h => ?_
  · obtain ⟨p, h, n, r, d, rfl, _⟩ := h
    rfl
  · obtain ⟨p, h, n, r, d, rfl, hh, n0, hd, k⟩ := h
    obtain ⟨dx, a, b, c, xs, ys, hp, ha, td, _⟩ := id hh
    have line := sizeLine_eq
    have len : xs.length = h.doors.length := by rw [td.length, List.length_map]
    obtain ⟨hl, hg⟩ := List.getElem?_eq_some_iff.mp hd
    have hlt : n.toNat < xs.length := by omega
    obtain ⟨d', hd', tdd⟩ := TDs.at_map td (List.getElem?_eq_getElem hlt)
    rw [hd] at hd'
    cases hd'
    obtain ⟨t, et, ht⟩ := TD.door_inv tdd
    have at_ : atI xs n = some (.ref t) := by
      have q := atI_nat (xs := xs) (j := n.toNat) (v := .ref t) (by rw [List.getElem?_eq_getElem hlt, et])
      rw [show ((n.toNat : Nat) : Int) = n by omega] at q
      exact q
    refine ⟨_, (pss_cons (ps_asg (pe_ix ix_tup (pe_fld (pv 0) rfl) (pv 1) (fun _ _ => rfl)) (pg_tup (by rfl) (pgs_cons (pg_name (i := 3) sc_noises_of_step.nd rfl (Or.inl rfl)) (pgs_cons (pg_name (i := 4) sc_noises_of_step.nd rfl (Or.inl rfl)) (pgs_cons (pg_name (i := 5) sc_noises_of_step.nd rfl (Or.inl rfl)) pgs_nil)))))
 (pss_one (ps_ret (pe_callTy call_tuple_of (by rfl) T.n_tuple (by decide +kernel) (pa_cons (pe_lc (own := [("made", 6)]) (by rfl) sc_noises_of_step.nd (pi_tup (pe_tup (pa_cons (pv 5) (pa_cons (C8.pe_c c_floor_noise hr (by decide) rfl (pa_cons (pv 0) (pa_cons (pv 2) pa_nil))) pa_nil)))) (blkOk_by (N := N_noises_of_step) (sc := defScope s_noises_of_step) (by decide +kernel)) (fun _ _ _ _ _ => (pg_name (i := 6) sc_noises_of_step.nd rfl (Or.inl rfl))) (fun _ _ _ _ _ => (pts_one (pt_cmpR op_notN (pv 6) pe_non (by first | exact nomark _ | rfl)))) (fun _ _ _ _ _ => (pv 6))) pa_nil))))), ?_⟩
    refine ⟨_, rfl, p, _, dx, _, _, rfl, hp, T.cls_House, T.a_doors, rfl, _, rfl, a, _, n, _, rfl, rfl, ha, at_, t, _, rfl, ht, rfl, _, _, rfl, _, _, rfl, _, _, rfl, rfl, ?_⟩
    refine ⟨_, rfl, _, rfl, _, rfl, p, h, r, rfl, hh, by show 2 ≤ sizeLine; decide, fun u nu => ?_⟩
    have s1 : Same H (upd H u (.tup [nzV d.2.2, soV ((sortF h.floors).lookup r)])) := Same.new nu
    have hu1 : SqT K (upd H u (.tup [nzV d.2.2, soV ((sortF h.floors).lookup r)])) u [nzV d.2.2, soV ((sortF h.floors).lookup r)] := SqT.of upd_same
    generalize upd H u (.tup [nzV d.2.2, soV ((sortF h.floors).lookup r)]) = H1 at s1 hu1 ⊢
    refine ⟨u, rfl, ⟨_, hu1⟩, fun D nD => lc_tup (K := K) (a := u) (xs := [nzV d.2.2, soV ((sortF h.floors).lookup r)]) (fun i H' => H' = upd H1 D (.lst (([d.2.2, (sortF h.floors).lookup r].take i).filterMap id |>.map V.str))) rfl (fun i H' _ q => by rw [q]; exact SqT.keep (Same.tk (Same.new nD)) hu1) ?_ ?_⟩
    · rintro i x H' hx rfl
      obtain ⟨y, hy, rfl⟩ : ∃ y, [d.2.2, (sortF h.floors).lookup r][i]? = some y ∧ x = soV y := by
        match i, hx with
        | 0, hx => exact ⟨d.2.2, rfl, by rw [← nzV_soV]; simpa using hx.symm⟩
        | 1, hx => exact ⟨_, rfl, by simpa using hx.symm⟩
        | (i + 2), hx => simp at hx
      refine ⟨rfl, _, rfl, rfl, _, rfl, ?_⟩
      have nx : ([d.2.2, (sortF h.floors).lookup r].take (i + 1)).filterMap id = ([d.2.2, (sortF h.floors).lookup r].take i).filterMap id ++ y.toList := by
        rw [List.take_add_one, hy, List.filterMap_append]
        cases y <;> simp
      cases y with
      | none =>
        refine iteF ?_
        show upd H1 D _ = upd H1 D _
        rw [nx]
        simp
      | some y =>
        refine iteT ⟨_, rfl, _, upd_same, ?_, ?_⟩
        · rw [List.length_map]
          refine Nat.lt_of_le_of_lt (List.length_filterMap_le _ _) ?_
          rw [List.length_take]
          show min i 2 < sizeLine
          omega
        · rw [upd_upd]
          show upd H1 D _ = upd H1 D _
          rw [nx, List.map_append]
          rfl
    · rintro H' rfl
      have e : ([d.2.2, (sortF h.floors).lookup r].take [nzV d.2.2, soV ((sortF h.floors).lookup r)].length).filterMap id = nzStep h d r := by
        show ([d.2.2, (sortF h.floors).lookup r].take 2).filterMap id = _
        unfold nzStep
        cases d.2.2 <;> cases (sortF h.floors).lookup r <;> rfl
      rw [e]
      have s2 : Same H1 (upd H1 D (.lst ((nzStep h d r).map V.str))) := Same.new nD
      exact ⟨D, _, rfl, .inl ⟨SqL.of upd_same, fun v nv => k _ v ((s1.trans s2).trans (Same.new nv)) ((s1.trans s2).free nv) (SqT.of upd_same)⟩⟩
def spHeardAll (K : PySem.W.Frag) (C : Addr) : Sp := fun vs H Q _ => ∃ (p : Addr) (v : V) (t : Addr) (z : Zz) (s : S0) (ns : List Str), vs = [.ref p, v, .ref t] ∧ SlpAt K C H p z ∧ StAt K H v s ∧ SqT K H t (ns.map V.str) ∧ ∀ H' v', Same H H' → StAt K H' v' (rowS z s ns) → Q v' H'
theorem c_heard_all (D : Df K mg "heard_all" s_heard_all) (T : Tx K mg) (c_heard : C8.Cal P w K mg base 3 "heard" (spHeard K (He.ga K "Sleeper")) []) : C8.Cal P w K mg base 4 "heard_all" (spHeardAll K (He.ga K "Sleeper")) [] := by
  refine cal_mk D sc_heard_all bd_heard_all (fun vs H Q E h => ?_) fun f cdv A outer s H vs Q E hr h => ?_
  · obtain ⟨p, v, t, z, s, ns, rfl, _⟩ := h
    rfl
  · obtain ⟨p, v, t, z, s, ns, rfl, hz, hs, ht, k⟩ := h
    refine ⟨_, (pss_cons (ps_set (i := 3) sc_heard_all.nd rfl (Or.inl rfl) (pv 1))
 (pss_cons (ps_for PassesOwn.never rfl (pi_tup (pv 2)) (pg_name (i := 4) sc_heard_all.nd rfl (Or.inl rfl))
 (pss_one (ps_set (i := 3) sc_heard_all.nd rfl (Or.inl rfl) (C8.pe_c c_heard hr (by decide) rfl (pa_cons (pv 0) (pa_cons (pv 3) (pa_cons (pv 4) pa_nil)))))))
 (pss_one (ps_ret (pv 3))))), ?_⟩
    refine ⟨_, rfl, _, rfl, t, rfl, ⟨_, ht⟩, for_tup (K := K) (a := t) (xs := ns.map V.str) (fun i σ H' => Same H H' ∧ ∃ v' v4, σ = [some (.ref p), some v, some (.ref t), some v', v4] ∧ StAt K H' v' (rowS z s (ns.take i)))
      ⟨Same.refl _, v, _, rfl, hs⟩ (fun i σ H' _ q => SqT.keep (Same.tk q.1) ht) ?_ ?_⟩
    · rintro i x σ H' hx ⟨s1, v', v4, rfl, hv⟩
      rw [List.getElem?_map] at hx
      obtain ⟨n, hn, rfl⟩ := Option.map_eq_some_iff.mp hx
      refine ⟨_, rfl, _, rfl, _, rfl, p, v', z, _, n, rfl, hz.same s1, hv, fun H2 v2 s2 hv2 => ⟨s1.trans s2, v2, _, rfl, ?_⟩⟩
      rw [List.take_add_one, hn]
      have e : rowS z s (ns.take i ++ (some n).toList) = hear z (sortOf z n) n (rowS z s (ns.take i)) := by simp [rowS]
      rw [e]
      exact hv2
    · rintro σ H' ⟨s1, v', v4, rfl, hv⟩
      rw [List.length_map, List.take_length] at hv
      exact ⟨_, rfl, k H' v' s1 hv⟩
end
end Lw
set_option Elab.async false
set_option linter.all false
set_option maxRecDepth 100000
set_option maxHeartbeats 8000000
namespace Lw
open PySem PySem.Spec PyProof.Rows L2 Hb
theorem ins_ne {H : Hp} {x a C C' dx dx' : Addr} {fs fs' : List (Str × V)} (h1 : H x = some (.ins C dx fs)) (h2 : H a = some (.ins C' dx' fs')) (n : fs.length ≠ fs'.length) : x ≠ a := fun e => by
  rw [e, h2] at h1
  injection h1 with h1
  injection h1 with _ _ h3
  exact n (by rw [h3])
theorem _root_.Hb.KX.free_ {x b : Addr} {H H' : Hp} (k : KX x H H') (n : b ≠ x) (e : H' b = none) : H b = none := by
  cases q : H b with
  | none => rfl
  | some o =>
    rw [k b o n q] at e
    cases e
def nFs (hm zm : Addr) (g : Int) (sv : V) (pl mv : Addr) (tk : Int) (md : Addr) : List (Str × V) := [("own_house", .ref hm), ("own_sleeper", .ref zm), ("guests", .int g), ("state", sv), ("places", .ref pl), ("moved", .ref mv), ("ticks", .int tk), ("made", .ref md)]
structure NIs (K : PySem.W.Frag) (C : Addr) (H : Hp) (x hm zm : Addr) (g : Int) (w : Wd) (dx : Addr) (sv : V) (pl mv md : Addr) (xs : List V) : Prop where
  o : H x = some (.ins C dx (nFs hm zm g sv pl mv w.tk md))
  st : StAt K H sv w.st
  hpl : H pl = some (.lst (w.pl.map V.int))
  hmv : H mv = some (.dK (w.sp.map movK))
  hmd : H md = some (.lst xs)
  td : TDs K H xs (w.md.map encM)
  ne : pl ≠ md
/-- a Night at x, all of it newer than G -/
def NightAt (K : PySem.W.Frag) (C : Addr) (G H : Hp) (x hm zm : Addr) (g : Int) (w : Wd) : Prop := ∃ dx sv pl mv md xs, NIs K C H x hm zm g w dx sv pl mv md xs ∧ Same G H ∧ G x = none ∧ G pl = none ∧ G mv = none ∧ G md = none
theorem NIs.same {K : PySem.W.Frag} {C : Addr} {H H' : Hp} {x hm zm : Addr} {g : Int} {w : Wd} {dx : Addr} {sv : V} {pl mv md : Addr} {xs : List V} (y : NIs K C H x hm zm g w dx sv pl mv md xs) (s : Same H H') : NIs K C H' x hm zm g w dx sv pl mv md xs :=
  ⟨s _ _ y.o, y.st.keep (Same.tk s), s _ _ y.hpl, s _ _ y.hmv, s _ _ y.hmd, TDs.keep (Same.tk s) y.td, y.ne⟩
theorem NightAt.same {K : PySem.W.Frag} {C : Addr} {G H H' : Hp} {x hm zm : Addr} {g : Int} {w : Wd} (y : NightAt K C G H x hm zm g w) (s : Same H H') : NightAt K C G H' x hm zm g w := by
  obtain ⟨dx, sv, pl, mv, md, xs, a, b, c⟩ := y
  exact ⟨dx, sv, pl, mv, md, xs, a.same s, b.trans s, c⟩
def spNInit (K : PySem.W.Frag) (C CS CW : Addr) : Sp := fun vs H Q _ => ∃ (x dx hm zm wa : Addr) (z : Zz) (wl : Wk), vs = [.ref x, .ref hm, .ref zm, .ref wa] ∧ H x = some (.ins C dx []) ∧ SlpAt K CS H zm z ∧ WAt K CW H wa wl ∧ WkOk wl ∧
  ∀ H' sv pl mv md xs, NIs K C H' x hm zm wl.g (wd0 z (wl.g + wl.n) wl.f) dx sv pl mv md xs → KX x H H' → H pl = none → H mv = none → H md = none → Q .non H'
def spNTick (K : PySem.W.Frag) (C CS : Addr) : Sp := fun vs H Q _ => ∃ (G : Hp) (x hm zm : Addr) (g : Int) (w : Wd) (h : Hz) (z : Zz), vs = [.ref x] ∧ NightAt K C G H x hm zm g w ∧ SlpAt K CS G zm z ∧ ∀ H', NightAt K C G H' x hm zm g (doEv h z w .tick) → Q .non H'
def spNStep (K : PySem.W.Frag) (C CS CH : Addr) : Sp := fun vs H Q _ => ∃ (G : Hp) (x hm zm : Addr) (g : Int) (w : Wd) (h : Hz) (z : Zz) (p n : Int), vs = [.ref x, .int p, .int n] ∧ NightAt K C G H x hm zm g w ∧ HAt K CH G hm h ∧ SlpAt K CS G zm z ∧ CanEv h g w (.step p n) ∧
  h.doors.length ≤ 1000 ∧ w.md.length ≤ 1000 ∧ w.sp.length ≤ 1000 ∧ ∀ H', NightAt K C G H' x hm zm g (doEv h z w (.step p n)) → Q .non H'
section
variable {P : Program} {w : World} {K : PySem.W.Frag} {mg : Str → Option Value} {base : Heap}
theorem m_Night_mk (D : Df1 K mg "Night" "Night.__init__" s_Night_init) (T : Tx K mg) (c_first_state : C8.Cal P w K mg base 2 "first_state" (spFirst K (He.ga K "Sleeper")) []) :
    C8.Mak P w K mg base 3 "Night" (He.ga K "Night") (spNInit K (He.ga K "Night") (He.ga K "Sleeper") (He.ga K "Walk")) [] := by
  refine mak_mk D sc_Night_init bd_Night_init (fun vs H Q E h => ?_) fun f cdv A outer s H vs Q E hr h => ?_
  · obtain ⟨x, dx, hm, zm, wa, z, wl, rfl, _⟩ := h
    rfl
  · obtain ⟨x, dx, hm, zm, wa, z, wl, rfl, hx, hz, ⟨dw, tw, hw, hwt⟩, ok, k⟩ := h
    have line := sizeLine_eq
    have xw : x ≠ wa := ins_ne hx hw (by show 0 ≠ 4; decide)
    refine ⟨_, (pss_cons (ps_fld (pv 0) (pv 1) rfl)
 (pss_cons (ps_fld (pv 0) (pv 2) rfl)
 (pss_cons (ps_fld (pv 0) (pe_fld (pv 3) rfl) rfl)
 (pss_cons (ps_fld (pv 0) (C8.pe_c c_first_state hr (by decide) rfl (pa_cons (pv 2) (pa_cons (pe_fld (pv 3) rfl) pa_nil))) rfl)
 (pss_cons (ps_fld (pv 0) (pe_op op_rep (pe_lst (pa_cons pe_int pa_nil)) (pe_op op_add (pe_fld (pv 3) rfl) (pe_fld (pv 3) rfl))) rfl)
 (pss_cons (ps_fld (pv 0) pe_dnewK rfl)
 (pss_cons (ps_fld (pv 0) pe_int rfl)
 (pss_one (ps_fld (pv 0) (pe_lst pa_nil) rfl))))))))), ?_⟩
    refine ⟨_, rfl, _, rfl, x, _, dx, [], rfl, hx, T.cls_Night, T.b_own_house, by decide, ?_⟩
    refine ⟨_, rfl, _, rfl, x, _, dx, _, rfl, upd_same, T.cls_Night, T.b_own_sleeper, by show 1 < 1000; decide, ?_⟩
    refine ⟨_, rfl, wa, _, dw, _, _, rfl, (by rw [upd_ne xw.symm, upd_ne xw.symm]; exact hw), T.cls_Walk, T.a_guests, rfl, _, rfl, x, _, dx, _, rfl, upd_same, T.cls_Night, T.b_guests, by show 2 < 1000; decide, ?_⟩
    rw [upd_upd, upd_upd]
    have hx1 : upd H x (.ins (He.ga K "Night") dx (putF "guests" (.int wl.g) (putF "own_sleeper" (.ref zm) (putF "own_house" (.ref hm) [])))) x = some (.ins (He.ga K "Night") dx [("own_house", .ref hm), ("own_sleeper", .ref zm), ("guests", .int wl.g)]) := upd_same
    have k1 : KX x H (upd H x (.ins (He.ga K "Night") dx (putF "guests" (.int wl.g) (putF "own_sleeper" (.ref zm) (putF "own_house" (.ref hm) []))))) := KX.put
    generalize upd H x (.ins (He.ga K "Night") dx (putF "guests" (.int wl.g) (putF "own_sleeper" (.ref zm) (putF "own_house" (.ref hm) [])))) = H1 at hx1 k1 ⊢
    have hw1 := k1 wa _ xw.symm hw
    have hz1 : SlpAt K (He.ga K "Sleeper") H1 zm z := hz.keep (k1.tk hx) fun o e => k1 zm o (by obtain ⟨_, _, _, h1, _⟩ := hz; exact ins_ne h1 hx (by show 5 ≠ 0; decide)) e
    refine ⟨_, rfl, _, rfl, wa, _, dw, _, _, rfl, hw1, T.cls_Walk, T.a_first, rfl, zm, z, wl.f, rfl, hz1, fun H2 sv s2 hsv => ?_⟩
    have hx2 := s2 _ _ hx1
    have hw2 := s2 _ _ hw1
    refine ⟨_, rfl, x, _, dx, _, rfl, hx2, T.cls_Night, T.b_state, by show 3 < 1000; decide, ?_⟩
    have k2 : KX x H (upd H2 x (.ins (He.ga K "Night") dx (putF "state" sv [("own_house", .ref hm), ("own_sleeper", .ref zm), ("guests", .int wl.g)]))) := (k1.trans (Hb.Same.kx s2)).trans KX.put
    have hx3 : upd H2 x (.ins (He.ga K "Night") dx (putF "state" sv [("own_house", .ref hm), ("own_sleeper", .ref zm), ("guests", .int wl.g)])) x = some (.ins (He.ga K "Night") dx [("own_house", .ref hm), ("own_sleeper", .ref zm), ("guests", .int wl.g), ("state", sv)]) := upd_same
    have hsv3 : StAt K (upd H2 x (.ins (He.ga K "Night") dx (putF "state" sv [("own_house", .ref hm), ("own_sleeper", .ref zm), ("guests", .int wl.g)]))) sv (firstS z wl.f) := hsv.keep (KX.tk KX.put hx2)
    generalize upd H2 x (.ins (He.ga K "Night") dx (putF "state" sv [("own_house", .ref hm), ("own_sleeper", .ref zm), ("guests", .int wl.g)])) = H3 at k2 hx3 hsv3 ⊢
    have hw3 := k2 wa _ xw.symm hw
    have g0 := ok.g0
    have n0 := ok.n0
    have few := ok.few
    refine ⟨by show 1 ≤ sizeLine; decide, fun u nu => ?_⟩
    have s4 : Same H3 (upd H3 u (.lst [.int 0])) := Same.new nu
    refine ⟨_, rfl, wa, _, dw, _, _, rfl, s4 _ _ hw3, T.cls_Walk, T.a_guests, rfl, _, rfl, wa, _, dw, _, _, rfl, s4 _ _ hw3, T.cls_Walk, T.a_nurses, rfl, _, _, rfl, rfl, u, _, _, rfl, rfl, upd_same, by omega, by omega, (by show 1 * _ ≤ _; omega), fun pl npl => ?_⟩
    rw [show (List.replicate (wl.g + wl.n).toNat [V.int 0]).flatten = (List.replicate (wl.g + wl.n).toNat (0 : Int)).map V.int by rw [List.map_replicate]; exact List.flatten_replicate_singleton]
    have s5 := s4.trans (Same.new npl (o := .lst ((List.replicate (wl.g + wl.n).toNat (0 : Int)).map V.int)))
    have hpl : upd (upd H3 u (.lst [.int 0])) pl (.lst ((List.replicate (wl.g + wl.n).toNat (0 : Int)).map V.int)) pl = some (.lst ((List.replicate (wl.g + wl.n).toNat (0 : Int)).map V.int)) := upd_same
    have npl3 : H3 pl = none := s4.free npl
    generalize upd (upd H3 u (.lst [.int 0])) pl (.lst ((List.replicate (wl.g + wl.n).toNat (0 : Int)).map V.int)) = H5 at s5 hpl ⊢
    have hx5 := s5 _ _ hx3
    have plx : pl ≠ x := fun e => by rw [e, hx3] at npl3; cases npl3
    refine ⟨_, rfl, x, _, dx, _, rfl, hx5, T.cls_Night, T.b_places, by show 4 < 1000; decide, ?_⟩
    have hx6 : upd H5 x (.ins (He.ga K "Night") dx (putF "places" (.ref pl) [("own_house", .ref hm), ("own_sleeper", .ref zm), ("guests", .int wl.g), ("state", sv)])) x = some (.ins (He.ga K "Night") dx [("own_house", .ref hm), ("own_sleeper", .ref zm), ("guests", .int wl.g), ("state", sv), ("places", .ref pl)]) := upd_same
    have k6 : KX x H3 (upd H5 x (.ins (He.ga K "Night") dx (putF "places" (.ref pl) [("own_house", .ref hm), ("own_sleeper", .ref zm), ("guests", .int wl.g), ("state", sv)]))) := (Hb.Same.kx s5).trans KX.put
    have hpl6 : upd H5 x (.ins (He.ga K "Night") dx (putF "places" (.ref pl) [("own_house", .ref hm), ("own_sleeper", .ref zm), ("guests", .int wl.g), ("state", sv)])) pl = some (.lst ((List.replicate (wl.g + wl.n).toNat (0 : Int)).map V.int)) := by rw [upd_ne plx]; exact hpl
    generalize upd H5 x (.ins (He.ga K "Night") dx (putF "places" (.ref pl) [("own_house", .ref hm), ("own_sleeper", .ref zm), ("guests", .int wl.g), ("state", sv)])) = H6 at hx6 k6 hpl6 ⊢
    intro mv nmv
    have mvx : mv ≠ x := fun e => by rw [e, hx6] at nmv; cases nmv
    have s7 : Same H6 (upd H6 mv (.dK [])) := Same.new nmv
    refine ⟨_, rfl, x, _, dx, _, rfl, s7 _ _ hx6, T.cls_Night, T.b_moved, by show 5 < 1000; decide, ?_⟩
    refine ⟨_, rfl, x, _, dx, _, rfl, upd_same, T.cls_Night, T.b_ticks, by show 6 < 1000; decide, ?_⟩
    rw [upd_upd]
    have hx8 : upd (upd H6 mv (.dK [])) x (.ins (He.ga K "Night") dx (putF "ticks" (.int 0) (putF "moved" (.ref mv) [("own_house", .ref hm), ("own_sleeper", .ref zm), ("guests", .int wl.g), ("state", sv), ("places", .ref pl)]))) x = some (.ins (He.ga K "Night") dx [("own_house", .ref hm), ("own_sleeper", .ref zm), ("guests", .int wl.g), ("state", sv), ("places", .ref pl), ("moved", .ref mv), ("ticks", .int 0)]) := upd_same
    have k8 : KX x H6 (upd (upd H6 mv (.dK [])) x (.ins (He.ga K "Night") dx (putF "ticks" (.int 0) (putF "moved" (.ref mv) [("own_house", .ref hm), ("own_sleeper", .ref zm), ("guests", .int wl.g), ("state", sv), ("places", .ref pl)])))) := (Hb.Same.kx s7).trans KX.put
    have hmv8 : upd (upd H6 mv (.dK [])) x (.ins (He.ga K "Night") dx (putF "ticks" (.int 0) (putF "moved" (.ref mv) [("own_house", .ref hm), ("own_sleeper", .ref zm), ("guests", .int wl.g), ("state", sv), ("places", .ref pl)]))) mv = some (.dK []) := by rw [upd_ne mvx]; exact upd_same
    have free6 : ∀ {b : Addr}, b ≠ x → H6 b = none → H b = none := fun {b} n e => by
      cases q : H b with
      | none => rfl
      | some o =>
        rw [k6 b o n (k2 b o n q)] at e
        cases e
    generalize upd (upd H6 mv (.dK [])) x (.ins (He.ga K "Night") dx (putF "ticks" (.int 0) (putF "moved" (.ref mv) [("own_house", .ref hm), ("own_sleeper", .ref zm), ("guests", .int wl.g), ("state", sv), ("places", .ref pl)]))) = H8 at hx8 k8 hmv8 ⊢
    refine ⟨Nat.zero_le _, fun md nmd => ?_⟩
    have mdx : md ≠ x := fun e => by rw [e, hx8] at nmd; cases nmd
    have s9 : Same H8 (upd H8 md (.lst [])) := Same.new nmd
    refine ⟨_, rfl, x, _, dx, _, rfl, s9 _ _ hx8, T.cls_Night, T.b_made, by show 7 < 1000; decide, ?_⟩
    have k9 : KX x H8 (upd (upd H8 md (.lst [])) x (.ins (He.ga K "Night") dx (putF "made" (.ref md) [("own_house", .ref hm), ("own_sleeper", .ref zm), ("guests", .int wl.g), ("state", sv), ("places", .ref pl), ("moved", .ref mv), ("ticks", .int 0)]))) := (Hb.Same.kx s9).trans KX.put
    have kall := ((k2.trans k6).trans k8).trans k9
    have tk3 := ((k6.trans k8).trans k9).tk hx3
    have hpl8 := k8 pl _ plx hpl6
    refine k _ sv pl mv md [] ⟨upd_same, hsv3.keep tk3, k9 pl _ plx hpl8, k9 mv _ mvx hmv8, ?_, .nil, fun e => ?_⟩ kall (k2.free_ plx npl3) (free6 mvx nmv) (free6 mdx ?_)
    · rw [upd_ne mdx]
      exact upd_same
    · rw [← e, hpl8] at nmd
      cases nmd
    · cases q : H6 md with
      | none => rfl
      | some o =>
        rw [k8 md o mdx q] at nmd
        cases nmd
end
end Lw
set_option Elab.async false
set_option linter.all false
set_option maxRecDepth 100000
set_option maxHeartbeats 8000000
namespace Lw
open PySem PySem.Spec PyProof.Rows L2 Hb
theorem place_at {w : Wd} {p : Int} (h : 0 ≤ p ∧ p < (w.pl.length : Nat)) : atI (w.pl.map V.int) p = some (.int (placeAt w p)) := by
  have hlt : p.toNat < w.pl.length := by omega
  have q := atI_nat (xs := w.pl.map V.int) (j := p.toNat) (v := .int (placeAt w p)) (by
    rw [List.getElem?_map, List.getElem?_eq_getElem hlt]
    unfold placeAt
    rw [List.getD_eq_getElem?_getD, List.getElem?_eq_getElem hlt]
    rfl)
  rw [show ((p.toNat : Nat) : Int) = p by omega] at q
  exact q
theorem door_get {h : Hz} {n : Int} (e : 0 ≤ n ∧ n < (h.doors.length : Nat)) : h.doors[n.toNat]? = some (doorAt h n) := by
  have hlt : n.toNat < h.doors.length := by omega
  unfold doorAt
  rw [List.getD_eq_getElem?_getD, List.getElem?_eq_getElem hlt]
  rfl
theorem beyond_can {h : Hz} {n r : Int} (e : 0 ≤ n ∧ n < (h.doors.length : Nat)) (q : r = (doorAt h n).1 ∨ r = (doorAt h n).2.1) : beyondO h.doors n r = some (behindD (doorAt h n) r) := by
  unfold beyondO behindD
  rw [door_get e]
  show (if _ then _ else _) = some (if _ then _ else _)
  by_cases e1 : r = (doorAt h n).1
  · rw [if_pos e1, if_pos e1]
  · rw [if_neg e1, if_neg e1]
    rcases q with q | q
    · exact absurd q e1
    · rw [if_pos q]
theorem ixN_in {n : Nat} {i : Int} (h0 : 0 ≤ i) (h1 : i < n) : ixN n i = some i.toNat := by
  unfold ixN
  rw [if_pos h0, if_pos h1]
theorem md_more (w : Wd) (ns : List Str) (i : Nat) (s : Str) (h : ns[i]? = some s) : (ns.take (i + 1)).map (fun s => encM (w.tk, s)) = (ns.take i).map (fun s => encM (w.tk, s)) ++ [encM (w.tk, s)] := by
  rw [List.take_add_one, h, List.map_append]
  rfl
section
variable {P : Program} {w : World} {K : PySem.W.Frag} {mg : Str → Option Value} {base : Heap}
theorem ok_tick {f : Addr} {fd : FuncData} (F : FunD K "tick" "Night.tick" (defArgs s_Night_tick) (defBody s_Night_tick) (defScope s_Night_tick) [] [] f fd) (T : Tx K mg) (c_ticked : C8.Cal P w K mg base 1 "ticked" (spSt K (He.ga K "Sleeper") tick) []) :
    FnOk P w K mg base CX0 2 f fd ["self"] (spNTick K (He.ga K "Night") (He.ga K "Sleeper")) := by
  refine F.ok sc_Night_tick (fun vs H Q E h => ?_) fun cdv A outer s H vs Q E hr h => ?_
  · obtain ⟨G, x, hm, zm, g, w, h, z, rfl, _⟩ := h
    rfl
  · obtain ⟨G, x, hm, zm, g, w, h, z, rfl, ⟨dx, sv, pl, mv, md, xs, y, sG, gx, gp, gm, gd⟩, hz, k⟩ := h
    suffices go : ∃ t, PSs (cxOf CX0 P _ K mg base N_Night_tick "Night.tick" (defScope s_Night_tick) f cdv A outer s H E).nox (defBody s_Night_tick) t ∧ t { nx := fun _ H' => Q .non H', rt := Q } (start N_Night_tick [.ref x]) H by
      obtain ⟨t, h1, h2⟩ := go
      exact ⟨t, h1.nox, h2⟩
    refine ⟨_, (pss_cons (ps_fld (pv 0) (C8.pe_c c_ticked hr (by decide) rfl (pa_cons (pe_fld (pv 0) rfl) (pa_cons (pe_fld (pv 0) rfl) pa_nil))) rfl)
 (pss_cons (ps_fldaug (pv 0) pe_int in_add)
 (pss_one (ps_fld (pv 0) pe_dnewK rfl)))), ?_⟩
    refine ⟨_, rfl, x, _, dx, _, _, rfl, y.o, T.cls_Night, T.b_own_sleeper, rfl, _, rfl, x, _, dx, _, _, rfl, y.o, T.cls_Night, T.b_state, rfl, zm, sv, z, w.st, rfl, hz.same sG, y.st, fun H1 v1 s1 hv1 => ?_⟩
    have y1 := y.same s1
    refine ⟨_, rfl, x, _, dx, _, rfl, y1.o, T.cls_Night, T.b_state, by show 8 < 1000; decide, ?_⟩
    refine ⟨_, rfl, x, _, dx, _, _, rfl, upd_same, T.cls_Night, T.b_ticks, rfl, _, _, rfl, rfl, dx, _, upd_same, by show 8 < 1000; decide, ?_⟩
    rw [upd_upd]
    have hx2 : upd H1 x (.ins (He.ga K "Night") dx (putF "ticks" (.int (w.tk + 1)) (putF "state" v1 (nFs hm zm g sv pl mv w.tk md)))) x = some (.ins (He.ga K "Night") dx (nFs hm zm g v1 pl mv (w.tk + 1) md)) := upd_same
    have k2 : KX x H1 (upd H1 x (.ins (He.ga K "Night") dx (putF "ticks" (.int (w.tk + 1)) (putF "state" v1 (nFs hm zm g sv pl mv w.tk md))))) := KX.put
    generalize upd H1 x (.ins (He.ga K "Night") dx (putF "ticks" (.int (w.tk + 1)) (putF "state" v1 (nFs hm zm g sv pl mv w.tk md)))) = H2 at hx2 k2 ⊢
    intro mv2 nmv
    have s3 : Same H2 (upd H2 mv2 (.dK [])) := Same.new nmv
    refine ⟨_, rfl, x, _, dx, _, rfl, s3 _ _ hx2, T.cls_Night, T.b_moved, by show 8 < 1000; decide, ?_⟩
    have mx : mv2 ≠ x := fun e => by rw [e, hx2] at nmv; cases nmv
    have plx : pl ≠ x := fun e => by have := y.hpl; rw [e, y.o] at this; cases this
    have mdx : md ≠ x := fun e => by have := y.hmd; rw [e, y.o] at this; cases this
    have k3 : KX x H1 (upd (upd H2 mv2 (.dK [])) x (.ins (He.ga K "Night") dx (putF "moved" (.ref mv2) (nFs hm zm g v1 pl mv (w.tk + 1) md)))) := (k2.trans (Hb.Same.kx s3)).trans KX.put
    have tk3 := k3.tk y1.o
    have gx2 : ∀ b o, G b = some o → b ≠ x := fun b o e q => by rw [q, gx] at e; cases e
    refine k _ ⟨dx, v1, pl, mv2, md, xs, ⟨upd_same, hv1.keep tk3, k3 pl _ plx y1.hpl, by rw [upd_ne mx]; exact upd_same, k3 md _ mdx y1.hmd, TDs.keep tk3 y1.td, y.ne⟩, fun b o e => k3 b o (gx2 b o e) (s1 _ _ (sG _ _ e)), gx, gp, ?_, gd⟩
    cases q : G mv2 with
    | none => rfl
    | some o =>
      rw [k2 mv2 o (gx2 _ _ q) (s1 _ _ (sG _ _ q))] at nmv
      cases nmv
theorem ok_step {f : Addr} {fd : FuncData} (F : FunD K "step" "Night.step" (defArgs s_Night_step) (defBody s_Night_step) (defScope s_Night_step) [] [] f fd) (T : Tx K mg) (c_beyond : C8.Cal P w K mg base 1 "beyond" (spBeyond K (He.ga K "House")) [])
    (c_noises_of_step : C8.Cal P w K mg base 2 "noises_of_step" (spNoises K (He.ga K "House")) []) (c_heard_all : C8.Cal P w K mg base 4 "heard_all" (spHeardAll K (He.ga K "Sleeper")) []) :
    FnOk P w K mg base CX0 5 f fd ["self", "person", "number"] (spNStep K (He.ga K "Night") (He.ga K "Sleeper") (He.ga K "House")) := by
  refine F.ok sc_Night_step (fun vs H Q E h => ?_) fun cdv A outer s H vs Q E hr h => ?_
  · obtain ⟨G, x, hm, zm, g, w, h, z, p, n, rfl, _⟩ := h
    rfl
  · obtain ⟨G, x, hm, zm, g, w, h, z, p, n, rfl, ⟨dx, sv, pl, mv, md, xs, y, sG, gx, gp, gm, gd⟩, hh, hz, ⟨pin, nin, psp, dor⟩, dfew, mfew, sfew, k⟩ := h
    have hu := hu_of hr
    have line := sizeLine_eq
    suffices go : ∃ t, PSs (cxOf CX0 P _ K mg base N_Night_step "Night.step" (defScope s_Night_step) f cdv A outer s H E).nox (defBody s_Night_step) t ∧ t { nx := fun _ H' => Q .non H', rt := Q } (start N_Night_step [.ref x, .int p, .int n]) H by
      obtain ⟨t, h1, h2⟩ := go
      exact ⟨t, h1.nox, h2⟩
    refine ⟨_, (pss_cons (ps_set (i := 3) sc_Night_step.nd rfl (Or.inl rfl) (C8.pe_c c_beyond hr (by decide) rfl (pa_cons (pe_fld (pv 0) rfl) (pa_cons (pv 2) (pa_cons (pe_ix ix_list (pe_fld (pv 0) rfl) (pv 1) (fun _ _ => rfl)) pa_nil)))))
 (pss_cons (ps_set (i := 4) sc_Night_step.nd rfl (Or.inl rfl) (C8.pe_c c_noises_of_step hr (by decide) rfl (pa_cons (pe_fld (pv 0) rfl) (pa_cons (pv 2) (pa_cons (pv 3) pa_nil)))))
 (pss_cons (ps_fld (pv 0) (C8.pe_c c_heard_all hr (by decide) rfl (pa_cons (pe_fld (pv 0) rfl) (pa_cons (pe_fld (pv 0) rfl) (pa_cons (pv 4) pa_nil)))) rfl)
 (pss_cons (ps_expr (pe_bm PySem.F.plainAttrs_list PySem.F.slot_list_extend PySem.F.type_list_extend mt_extend (pe_fld (pv 0) rfl) (pa_cons (pe_lc (own := [("noise", 5)]) (by rfl) sc_Night_step.nd (pi_tup (pv 4)) (blkOk_by (N := N_Night_step) (sc := defScope s_Night_step) (by decide +kernel)) (fun _ _ _ _ _ => (pg_name (i := 5) sc_Night_step.nd rfl (Or.inl rfl))) (fun _ _ _ _ _ => pts_nil) (fun _ _ _ _ _ => (pe_tup (pa_cons (show PE _ _ (tFld K _ "ticks") from pe_fld (pv 0) rfl) (pa_cons (pv 5) pa_nil))))) pa_nil)))
 (pss_cons (ps_asg (pv 3) (pg_sub (pe_fld (pv 0) rfl) (pv 1) set_list))
 (pss_one (ps_dput hu (pe_fld (pv 0) rfl) (pv 1) pe_bl rfl))))))), ?_⟩
    refine ⟨_, rfl, x, _, dx, _, _, rfl, y.o, T.cls_Night, T.b_own_house, rfl, _, rfl, _, rfl, x, _, dx, _, _, rfl, y.o, T.cls_Night, T.b_places, rfl, _, rfl, pl, _, p, _, rfl, rfl, SqL.of y.hpl, place_at pin, hm, h, n, placeAt w p, rfl, hh.same sG, nin.1, dfew, ?_⟩
    rw [beyond_can nin dor]
    generalize er : behindD (doorAt h n) (placeAt w p) = r
    refine ⟨_, rfl, x, _, dx, _, _, rfl, y.o, T.cls_Night, T.b_own_house, rfl, _, rfl, _, rfl, hm, h, n, r, _, rfl, hh.same sG, nin.1, door_get nin, fun H1 t s1 nt ht => ?_⟩
    generalize ens : nzStep h (doorAt h n) r = ns at ht
    have nfew : ns.length ≤ 2 := by rw [← ens]; exact nzStep_le _ _ _
    have y1 := y.same s1
    refine ⟨_, rfl, x, _, dx, _, _, rfl, y1.o, T.cls_Night, T.b_own_sleeper, rfl, _, rfl, x, _, dx, _, _, rfl, y1.o, T.cls_Night, T.b_state, rfl, _, rfl, zm, sv, t, z, w.st, ns, rfl, hz.same (sG.trans s1), y1.st, ht, fun H2 v2 s2 hv2 => ?_⟩
    have y2 := y1.same s2
    refine ⟨_, rfl, x, _, dx, _, rfl, y2.o, T.cls_Night, T.b_state, by show 8 < 1000; decide, ?_⟩
    have plx : pl ≠ x := fun e => by have := y.hpl; rw [e, y.o] at this; cases this
    have mdx : md ≠ x := fun e => by have := y.hmd; rw [e, y.o] at this; cases this
    have mvx : mv ≠ x := fun e => by have := y.hmv; rw [e, y.o] at this; cases this
    have hx3 : upd H2 x (.ins (He.ga K "Night") dx (putF "state" v2 (nFs hm zm g sv pl mv w.tk md))) x = some (.ins (He.ga K "Night") dx (nFs hm zm g v2 pl mv w.tk md)) := upd_same
    have k3 : KX x H2 (upd H2 x (.ins (He.ga K "Night") dx (putF "state" v2 (nFs hm zm g sv pl mv w.tk md)))) := KX.put
    have tk3 := k3.tk y2.o
    have ht3 := SqT.keep tk3 (SqT.keep (Same.tk s2) ht)
    have hv3 := hv2.keep tk3
    have hpl3 := k3 pl _ plx y2.hpl
    have hmd3 := k3 md _ mdx y2.hmd
    have hmv3 := k3 mv _ mvx y2.hmv
    have td3 := TDs.keep tk3 y2.td
    have gx2 : ∀ b o, G b = some o → b ≠ x := fun b o e q => by rw [q, gx] at e; cases e
    have sG3 : Same G (upd H2 x (.ins (He.ga K "Night") dx (putF "state" v2 (nFs hm zm g sv pl mv w.tk md)))) := fun b o e => k3 b o (gx2 b o e) (s2 _ _ (s1 _ _ (sG _ _ e)))
    generalize upd H2 x (.ins (He.ga K "Night") dx (putF "state" v2 (nFs hm zm g sv pl mv w.tk md))) = H3 at hx3 ht3 hv3 hpl3 hmd3 hmv3 td3 sG3 ⊢
    clear k3 tk3 y2 y1 hv2 s2 ht nt s1 H2 H1
    refine ⟨_, rfl, x, _, dx, _, _, rfl, hx3, T.cls_Night, T.b_made, rfl, .inl ⟨rfl, _, SqL.of hmd3⟩, _, rfl, t, rfl, ⟨_, ht3⟩, fun D nD => ?_⟩
    refine lc_tup (K := K) (a := t) (xs := ns.map V.str) (fun i H' => Same H3 H' ∧ ∃ acc, H' D = some (.lst acc) ∧ TDs K H' acc ((ns.take i).map fun s => encM (w.tk, s))) ⟨Same.new nD, [], upd_same, .nil⟩ (fun i H' _ q => SqT.keep (Same.tk q.1) ht3) ?_ ?_
    · rintro i v H' hv ⟨s4, acc, hD, tda⟩
      rw [List.getElem?_map] at hv
      obtain ⟨m, hm', rfl⟩ := Option.map_eq_some_iff.mp hv
      refine ⟨rfl, yes_ ⟨_, rfl, x, _, dx, _, _, rfl, s4 _ _ hx3, T.cls_Night, T.b_ticks, rfl, _, rfl, by show 2 ≤ sizeLine; decide, fun q nq => ?_⟩⟩
      have s5 : Same H' (upd H' q (.tup [.int w.tk, .str m])) := Same.new nq
      have al := tda.length
      rw [List.length_map, List.length_take] at al
      refine ⟨acc, s5 _ _ hD, by omega, Hb.Same.acc (s4.trans s5) nD, _, upd_same, ?_⟩
      rw [md_more w ns i m hm']
      have tkD := tk_acc (ys := acc ++ [.ref q]) (s5 _ _ hD)
      exact TDs.app (TDs.keep tkD (TDs.keep (Same.tk s5) tda)) (.cons (TD.keep tkD (.tup (SqT.of upd_same) (.cons (.int _) (.cons (.str _) .nil)))) .nil)
    · rintro H4 ⟨s4, acc, hD, tda⟩
      rw [List.length_map, List.take_length] at tda
      have al := tda.length
      have xl := td3.length
      rw [List.length_map] at al xl
      refine ⟨md, D, xs, acc, rfl, rfl, s4 _ _ hmd3, hD, by omega, ?_⟩
      have tk5 : TK H4 (upd H4 md (.lst (xs ++ acc))) := tk_acc (s4 _ _ hmd3)
      have hx5 : upd H4 md (.lst (xs ++ acc)) x = some (.ins (He.ga K "Night") dx (nFs hm zm g v2 pl mv w.tk md)) := by rw [upd_ne mdx.symm]; exact s4 _ _ hx3
      have hpl5 : upd H4 md (.lst (xs ++ acc)) pl = some (.lst (w.pl.map V.int)) := by rw [upd_ne y.ne]; exact s4 _ _ hpl3
      have mvd : mv ≠ md := fun e => by have := y.hmv; rw [e, y.hmd] at this; cases this
      have hmv5 : upd H4 md (.lst (xs ++ acc)) mv = some (.dK (w.sp.map movK)) := by rw [upd_ne mvd]; exact s4 _ _ hmv3
      have hmd5 : upd H4 md (.lst (xs ++ acc)) md = some (.lst (xs ++ acc)) := upd_same
      have td5 := TDs.keep tk5 (TDs.app (TDs.keep (Same.tk s4) td3) tda)
      have hv5 := (hv3.keep (Same.tk s4)).keep tk5
      have sG5 : Same G (upd H4 md (.lst (xs ++ acc))) := fun b o e => by
        rw [upd_ne (fun q => by rw [q, gd] at e; cases e)]
        exact s4 _ _ (sG3 _ _ e)
      generalize upd H4 md (.lst (xs ++ acc)) = H5 at tk5 hx5 hpl5 hmv5 hmd5 td5 hv5 sG5 ⊢
      have ix : ixN (w.pl.map V.int).length p = some p.toNat := ixN_in pin.1 (by rw [List.length_map]; exact pin.2)
      refine ⟨_, rfl, _, rfl, x, _, dx, _, _, rfl, hx5, T.cls_Night, T.b_places, rfl, _, rfl, pl, _, p, p.toNat, rfl, rfl, hpl5, ix, ?_⟩
      have tk6 : TK H5 (upd H5 pl (.lst ((w.pl.map V.int).set p.toNat (.int r)))) := tk_acc hpl5
      have mvp : mv ≠ pl := fun e => by have := y.hmv; rw [e, y.hpl] at this; cases this
      refine ⟨_, rfl, x, _, dx, _, _, rfl, (by rw [upd_ne plx.symm]; exact hx5), T.cls_Night, T.b_moved, rfl, _, rfl, mv, _, rfl, DPut.k (k := Sum.inl p) (by rw [upd_ne mvp]; exact hmv5) (by rw [List.length_map]; omega), ?_⟩
      rw [mov_put psp]
      have hmv6 : upd H5 pl (.lst ((w.pl.map V.int).set p.toNat (.int r))) mv = some (.dK (w.sp.map movK)) := by rw [upd_ne mvp]; exact hmv5
      have tk7 : TK (upd H5 pl (.lst ((w.pl.map V.int).set p.toNat (.int r)))) (upd (upd H5 pl (.lst ((w.pl.map V.int).set p.toNat (.int r)))) mv (.dK ((w.sp ++ [p]).map movK))) := TK.put hmv6 (by intro xs e; cases e) (by intro q u e; cases e)
      have tk57 := tk6.trans tk7
      refine k _ ⟨dx, v2, pl, mv, md, xs ++ acc, ⟨?_, ?_, ?_, ?_, ?_, ?_, y.ne⟩, fun b o e => ?_, gx, gp, gm, gd⟩
      · rw [upd_ne mvx.symm, upd_ne plx.symm]
        exact hx5
      · show StAt K _ v2 (rowS z w.st (nzStep h (doorAt h n) (behindD (doorAt h n) (placeAt w p))))
        rw [er, ens]
        exact hv5.keep tk57
      · rw [upd_ne mvp.symm, upd_same]
        show some (HO.lst ((w.pl.map V.int).set p.toNat (.int r))) = some (HO.lst ((w.pl.set p.toNat (behindD (doorAt h n) (placeAt w p))).map V.int))
        rw [er, List.map_set]
      · exact upd_same
      · rw [upd_ne mvd.symm, upd_ne y.ne.symm]
        exact hmd5
      · show TDs K _ (xs ++ acc) ((w.md ++ List.map (Prod.mk w.tk) (nzStep h (doorAt h n) (behindD (doorAt h n) (placeAt w p)))).map encM)
        have e : (w.md ++ List.map (Prod.mk w.tk) ns).map encM = w.md.map encM ++ ns.map fun s => encM (w.tk, s) := by
          rw [List.map_append, List.map_map]
          rfl
        rw [er, ens, e]
        exact TDs.keep tk57 td5
      · rw [upd_ne (fun q => by rw [q, gm] at e; cases e), upd_ne (fun q => by rw [q, gp] at e; cases e)]
        exact sG5 _ _ e
end
end Lw
set_option Elab.async false
set_option linter.all false
set_option maxRecDepth 100000
set_option maxHeartbeats 8000000
namespace Lw
open PySem PySem.Spec PyProof.Rows L2 Hb
theorem inV_ints (y : Int) : ∀ xs : List Int, inV (.int y) (xs.map V.int) = decide (y ∈ xs)
  | [] => by simp [inV]
  | x :: xs => by
    have ih := inV_ints y xs
    unfold inV at ih ⊢
    rw [List.map_cons, List.any_cons, ih]
    by_cases e : x = y
    · subst e
      simp [eqV]
    · have e2 : ¬ y = x := fun z => e z.symm
      simp [eqV, e, e2]
theorem flat_ints (xs : List Int) : (xs.map V.int).all flatV = true := by
  induction xs with
  | nil => rfl
  | cons x xs ih => rw [List.map_cons, List.all_cons, ih]; rfl
theorem beyond_none {h : Hz} {n r : Int} (n0 : 0 ≤ n) : decide (intV (beyondO h.doors n r) = V.non) = !decide ((0 ≤ n ∧ n < (h.doors.length : Nat)) ∧ (r = (doorAt h n).1 ∨ r = (doorAt h n).2.1)) := by
  by_cases e : n < (h.doors.length : Nat)
  · by_cases q : r = (doorAt h n).1 ∨ r = (doorAt h n).2.1
    · rw [beyond_can ⟨n0, e⟩ q]
      have : decide ((0 ≤ n ∧ n < (h.doors.length : Nat)) ∧ (r = (doorAt h n).1 ∨ r = (doorAt h n).2.1)) = true := decide_eq_true ⟨⟨n0, e⟩, q⟩
      rw [this]
      rfl
    · have : decide ((0 ≤ n ∧ n < (h.doors.length : Nat)) ∧ (r = (doorAt h n).1 ∨ r = (doorAt h n).2.1)) = false := decide_eq_false fun z => q z.2
      rw [this]
      unfold beyondO
      rw [door_get ⟨n0, e⟩]
      show decide (intV (if _ then _ else if _ then _ else _) = _) = _
      rw [if_neg fun z => q (.inl z), if_neg fun z => q (.inr z)]
      rfl
  · have : decide ((0 ≤ n ∧ n < (h.doors.length : Nat)) ∧ (r = (doorAt h n).1 ∨ r = (doorAt h n).2.1)) = false := decide_eq_false fun z => e z.1.2
    rw [this]
    unfold beyondO
    rw [List.getElem?_eq_none (by omega)]
    rfl
def spNAllows (K : PySem.W.Frag) (C CH : Addr) : Sp := fun vs H Q _ => ∃ (G : Hp) (x q hm zm : Addr) (g : Int) (w : Wd) (h : Hz) (e : Ev), vs = [.ref x, .ref q] ∧ NightAt K C G H x hm zm g w ∧ HAt K CH G hm h ∧ SqL K H q ((evW e).map V.str) ∧
  EvOk (w.pl.length : Nat) e ∧ w.pl.length ≤ 64 ∧ h.doors.length ≤ 1000 ∧ Q (.bl (decide (CanEv h g w e))) H
def spNFollow (K : PySem.W.Frag) (C CS CH : Addr) : Sp := fun vs H Q _ => ∃ (G : Hp) (x q hm zm : Addr) (g : Int) (w : Wd) (h : Hz) (z : Zz) (e : Ev), vs = [.ref x, .ref q] ∧ NightAt K C G H x hm zm g w ∧ HAt K CH G hm h ∧ SlpAt K CS G zm z ∧ SqL K H q ((evW e).map V.str) ∧
  EvOk (w.pl.length : Nat) e ∧ w.pl.length ≤ 64 ∧ h.doors.length ≤ 1000 ∧ w.md.length ≤ 1000 ∧ w.sp.length ≤ 1000 ∧ w.st.ok ∧ CanEv h g w e ∧ ∀ H', NightAt K C G H' x hm zm g (doEv h z w e) → Q .non H'
section
variable {P : Program} {w : World} {K : PySem.W.Frag} {mg : Str → Option Value} {base : Heap}
theorem ok_allows {f : Addr} {fd : FuncData} (F : FunD K "allows" "Night.allows" (defArgs s_Night_allows) (defBody s_Night_allows) (defScope s_Night_allows) [] [] f fd) (T : Tx K mg) (c_beyond : C8.Cal P w K mg base 1 "beyond" (spBeyond K (He.ga K "House")) []) :
    FnOk P w K mg base CX0 2 f fd ["self", "words"] (spNAllows K (He.ga K "Night") (He.ga K "House")) := by
  refine F.ok sc_Night_allows (fun vs H Q E h => ?_) fun cdv A outer s H vs Q E hr h => ?_
  · obtain ⟨G, x, q, hm, zm, g, w, h, e, rfl, _⟩ := h
    rfl
  · obtain ⟨G, x, q, hm, zm, g, w, h, e, rfl, ⟨dx, sv, pl, mv, md, xs, y, sG, gx, gp, gm, gd⟩, hh, hq, eok, k64, dfew, k⟩ := h
    have hu := hu_of hr
    have line := sizeLine_eq
    obtain ⟨n1, n2, n3⟩ := lit_ne
    suffices go : ∃ t, PSs (cxOf CX0 P _ K mg base N_Night_allows "Night.allows" (defScope s_Night_allows) f cdv A outer s H E).nox (defBody s_Night_allows) t ∧ t { nx := fun _ H' => Q .non H', rt := Q } (start N_Night_allows [.ref x, .ref q]) H by
      obtain ⟨t, h1, h2⟩ := go
      exact ⟨t, h1.nox, h2⟩
    refine ⟨_, (pss_cons (ps_if (pt_cmpR op_eq (pe_ix ix_list (pv 1) pe_int (fun _ _ => rfl)) pe_str (by first | exact nomark _ | rfl))
 (pss_one (ps_ret pe_bl))
 pss_nil)
 (pss_cons (ps_set (i := 2) sc_Night_allows.nd rfl (Or.inl rfl) (pe_callTy call_int_str (by rfl) T.n_int (by decide +kernel) (pa_cons (pe_ix ix_list (pv 1) pe_int (fun _ _ => rfl)) pa_nil)))
 (pss_cons (ps_if (pt_cmpR op_eq (pe_ix ix_list (pv 1) pe_int (fun _ _ => rfl)) pe_str (by first | exact nomark _ | rfl))
 (pss_one (ps_ret (pe_and (pe_cmpR op_ge (pv 2) (pe_fld (pv 0) rfl) (by first | exact nomark _ | rfl)) (pe_one (pe_cmpR op_in_seq (pe_ix ix_list (pe_fld (pv 0) rfl) (pv 2) (fun _ _ => rfl)) (pe_fld (pe_fld (pv 0) rfl) rfl) (by first | exact nomark _ | rfl))))))
 pss_nil)
 (pss_one (ps_ret (pe_and (pe_cmp (pc_dnotin hu (pv 2) (pe_fld (pv 0) rfl)) rfl) (pe_one (pe_cmpR op_notN (C8.pe_c c_beyond hr (by decide) rfl (pa_cons (pe_fld (pv 0) rfl) (pa_cons (pe_callTy call_int_str (by rfl) T.n_int (by decide +kernel) (pa_cons (pe_ix ix_list (pv 1) pe_int (fun _ _ => rfl)) pa_nil)) (pa_cons (pe_ix ix_list (pe_fld (pv 0) rfl) (pv 2) (fun _ _ => rfl)) pa_nil)))) pe_non (by first | exact nomark _ | rfl))))))))), ?_⟩
    cases e with
    | tick =>
      refine ⟨_, rfl, q, _, 0, .str "tick", rfl, rfl, hq, rfl, rfl, _, rfl, ?_⟩
      rw [decide_eq_true rfl]
      exact iteT k
    | hum p d =>
      obtain ⟨a1, a2, a3, a4, a5⟩ := num_tI (i := p) ⟨eok.1, Int.lt_of_lt_of_le eok.2 (by omega)⟩
      refine ⟨_, rfl, q, _, 0, .str "hum", rfl, rfl, hq, rfl, rfl, _, rfl, ?_⟩
      rw [v_str_ne (show ("hum" : Str) ≠ "tick" from n3.symm)]
      refine iteF ⟨_, rfl, q, _, 1, .str (tI p), rfl, rfl, hq, rfl, tI p, p, rfl, a2, by omega, ?_⟩
      refine ⟨_, rfl, q, _, 0, .str "hum", rfl, rfl, hq, rfl, rfl, _, rfl, ?_⟩
      rw [decide_eq_true rfl]
      refine iteT ⟨_, rfl, _, rfl, x, _, dx, _, _, rfl, y.o, T.cls_Night, T.b_guests, rfl, _, _, rfl, rfl, _, rfl, ?_⟩
      by_cases hg : g ≤ p
      · rw [decide_eq_true hg]
        obtain ⟨dh, ah, bh, ch, xh, yh, hH, _, _, _, _, hc⟩ := hh.same sG
        refine iteT ⟨_, rfl, x, _, dx, _, _, rfl, y.o, T.cls_Night, T.b_places, rfl, _, rfl, pl, _, p, _, rfl, rfl, SqL.of y.hpl, place_at eok, _, rfl, x, _, dx, _, _, rfl, y.o, T.cls_Night, T.b_own_house, rfl, hm, _, dh, _, _, rfl, hH, T.cls_House, T.a_cradles, rfl, ch, _, rfl, .inr hc, rfl, flat_ints _, ?_⟩
        rw [if_neg Bool.false_ne_true, inV_ints]
        have e : decide (placeAt w p ∈ sortI h.cradles) = decide (CanEv h g w (.hum p d)) := decide_eq_decide.mpr ⟨fun z => ⟨eok, hg, (sortI_perm _).mem_iff.mp z⟩, fun z => (sortI_perm _).mem_iff.mpr z.2.2⟩
        rw [e]
        exact k
      · rw [decide_eq_false hg]
        have e : decide (CanEv h g w (.hum p d)) = false := decide_eq_false fun z => hg z.2.1
        rw [e] at k
        exact iteF k
    | step p n =>
      obtain ⟨a1, a2, a3, a4, a5⟩ := num_tI (i := p) ⟨eok.1.1, Int.lt_of_lt_of_le eok.1.2 (by omega)⟩
      obtain ⟨b1, b2, b3, b4, b5⟩ := num_tI eok.2
      refine ⟨_, rfl, q, _, 0, .str "step", rfl, rfl, hq, rfl, rfl, _, rfl, ?_⟩
      rw [v_str_ne (show ("step" : Str) ≠ "tick" from n2.symm)]
      refine iteF ⟨_, rfl, q, _, 1, .str (tI p), rfl, rfl, hq, rfl, tI p, p, rfl, a2, by omega, ?_⟩
      refine ⟨_, rfl, q, _, 0, .str "step", rfl, rfl, hq, rfl, rfl, _, rfl, ?_⟩
      rw [v_str_ne (show ("step" : Str) ≠ "hum" from n1.symm)]
      refine iteF ⟨_, rfl, _, rfl, x, _, dx, _, _, rfl, y.o, T.cls_Night, T.b_moved, rfl, mv, _, rfl, DGet.k (k := Sum.inl p) y.hmv, _, rfl, ?_⟩
      rw [mov_val]
      by_cases hp : p ∈ w.sp
      · rw [decide_eq_true hp]
        have e : decide (CanEv h g w (.step p n)) = false := decide_eq_false fun z => z.2.2.1 hp
        rw [e] at k
        exact iteF k
      · rw [decide_eq_false hp]
        refine iteT ⟨_, rfl, x, _, dx, _, _, rfl, y.o, T.cls_Night, T.b_own_house, rfl, _, rfl, q, _, 2, .str (tI n), rfl, rfl, hq, rfl, tI n, n, rfl, b2, by omega, _, rfl, x, _, dx, _, _, rfl, y.o, T.cls_Night, T.b_places, rfl, _, rfl, pl, _, p, _, rfl, rfl, SqL.of y.hpl, place_at eok.1, hm, h, n, placeAt w p, rfl, hh.same sG, eok.2.1, dfew, rfl, ?_⟩
        rw [beyond_none eok.2.1, Bool.not_not]
        have e : decide ((0 ≤ n ∧ n < (h.doors.length : Nat)) ∧ (placeAt w p = (doorAt h n).1 ∨ placeAt w p = (doorAt h n).2.1)) = decide (CanEv h g w (.step p n)) := decide_eq_decide.mpr ⟨fun z => ⟨eok.1, z.1, hp, z.2⟩, fun z => ⟨z.2.1, z.2.2.2⟩⟩
        rw [e]
        exact k
theorem ok_follow {f : Addr} {fd : FuncData} (F : FunD K "follow" "Night.follow" (defArgs s_Night_follow) (defBody s_Night_follow) (defScope s_Night_follow) [] [] f fd) (T : Tx K mg) (c_hummed : C8.Cal P w K mg base 2 "hummed" (spHum K (He.ga K "Sleeper")) [])
    (c_tick : C8.Met P w K mg base 2 (He.ga K "Night") "tick" (spNTick K (He.ga K "Night") (He.ga K "Sleeper")) []) (c_step : C8.Met P w K mg base 5 (He.ga K "Night") "step" (spNStep K (He.ga K "Night") (He.ga K "Sleeper") (He.ga K "House")) []) :
    FnOk P w K mg base CX0 6 f fd ["self", "words"] (spNFollow K (He.ga K "Night") (He.ga K "Sleeper") (He.ga K "House")) := by
  refine F.ok sc_Night_follow (fun vs H Q E h => ?_) fun cdv A outer s H vs Q E hr h => ?_
  · obtain ⟨G, x, q, hm, zm, g, w, h, z, e, rfl, _⟩ := h
    rfl
  · obtain ⟨G, x, q, hm, zm, g, w, h, z, e, rfl, hN, hh, hz, hq, eok, k64, dfew, mfew, sfew, sok, can, k⟩ := h
    have hu := hu_of hr
    obtain ⟨dx, sv, pl, mv, md, xs, y, sG, gx, gp, gm, gd⟩ := id hN
    obtain ⟨n1, n2, n3⟩ := lit_ne
    suffices go : ∃ t, PSs (cxOf CX0 P _ K mg base N_Night_follow "Night.follow" (defScope s_Night_follow) f cdv A outer s H E).nox (defBody s_Night_follow) t ∧ t { nx := fun _ H' => Q .non H', rt := Q } (start N_Night_follow [.ref x, .ref q]) H by
      obtain ⟨t, h1, h2⟩ := go
      exact ⟨t, h1.nox, h2⟩
    refine ⟨_, (pss_one (ps_if (pt_cmpR op_eq (pe_ix ix_list (pv 1) pe_int (fun _ _ => rfl)) pe_str (by first | exact nomark _ | rfl))
 (pss_one (ps_expr (C8.pe_mt0 c_tick hr (by decide) (pv 0))))
 (pss_one (ps_if (pt_cmpR op_eq (pe_ix ix_list (pv 1) pe_int (fun _ _ => rfl)) pe_str (by first | exact nomark _ | rfl))
 (pss_one (ps_fld (pv 0) (C8.pe_c c_hummed hr (by decide) rfl (pa_cons (pe_fld (pv 0) rfl) (pa_cons (pe_fld (pv 0) rfl) (pa_cons (pe_ix ix_list (pv 1) pe_int (fun _ _ => rfl)) pa_nil)))) rfl))
 (pss_one (ps_expr (C8.pe_mt c_step hr (by decide) (pv 0) (pa_cons (pe_callTy call_int_str (by rfl) T.n_int (by decide +kernel) (pa_cons (pe_ix ix_list (pv 1) pe_int (fun _ _ => rfl)) pa_nil)) (pa_cons (pe_callTy call_int_str (by rfl) T.n_int (by decide +kernel) (pa_cons (pe_ix ix_list (pv 1) pe_int (fun _ _ => rfl)) pa_nil)) pa_nil))))))))), ?_⟩
    cases e with
    | tick =>
      refine ⟨_, rfl, q, _, 0, .str "tick", rfl, rfl, hq, rfl, rfl, _, rfl, ?_⟩
      rw [decide_eq_true rfl]
      exact iteT ⟨_, rfl, x, dx, _, rfl, y.o, rfl, G, x, hm, zm, g, w, h, z, rfl, hN, hz, k⟩
    | hum p d =>
      refine ⟨_, rfl, q, _, 0, .str "hum", rfl, rfl, hq, rfl, rfl, _, rfl, ?_⟩
      rw [v_str_ne (show ("hum" : Str) ≠ "tick" from n3.symm)]
      refine iteF ⟨_, rfl, q, _, 0, .str "hum", rfl, rfl, hq, rfl, rfl, _, rfl, ?_⟩
      rw [decide_eq_true rfl]
      refine iteT ⟨_, rfl, x, _, dx, _, _, rfl, y.o, T.cls_Night, T.b_own_sleeper, rfl, _, rfl, x, _, dx, _, _, rfl, y.o, T.cls_Night, T.b_state, rfl, _, rfl, q, _, 2, .str (if d then "doze" else "up"), rfl, rfl, hq, rfl, zm, sv, z, w.st, _, rfl, hz.same sG, y.st, sok, fun H1 v1 s1 hv1 => ?_⟩
      have y1 := y.same s1
      refine ⟨_, rfl, x, _, dx, _, rfl, y1.o, T.cls_Night, T.b_state, by show 8 < 1000; decide, ?_⟩
      have plx : pl ≠ x := fun e => by have := y.hpl; rw [e, y.o] at this; cases this
      have mdx : md ≠ x := fun e => by have := y.hmd; rw [e, y.o] at this; cases this
      have mvx : mv ≠ x := fun e => by have := y.hmv; rw [e, y.o] at this; cases this
      have k3 : KX x H1 (upd H1 x (.ins (He.ga K "Night") dx (putF "state" v1 (nFs hm zm g sv pl mv w.tk md)))) := KX.put
      have tk3 := k3.tk y1.o
      exact k _ ⟨dx, v1, pl, mv, md, xs, ⟨upd_same, hv1.keep tk3, k3 pl _ plx y1.hpl, k3 mv _ mvx y1.hmv, k3 md _ mdx y1.hmd, TDs.keep tk3 y1.td, y.ne⟩, fun b o e => k3 b o (fun q => by rw [q, gx] at e; cases e) (s1 _ _ (sG _ _ e)), gx, gp, gm, gd⟩
    | step p n =>
      obtain ⟨a1, a2, a3, a4, a5⟩ := num_tI (i := p) ⟨eok.1.1, Int.lt_of_lt_of_le eok.1.2 (by omega)⟩
      obtain ⟨b1, b2, b3, b4, b5⟩ := num_tI eok.2
      refine ⟨_, rfl, q, _, 0, .str "step", rfl, rfl, hq, rfl, rfl, _, rfl, ?_⟩
      rw [v_str_ne (show ("step" : Str) ≠ "tick" from n2.symm)]
      refine iteF ⟨_, rfl, q, _, 0, .str "step", rfl, rfl, hq, rfl, rfl, _, rfl, ?_⟩
      rw [v_str_ne (show ("step" : Str) ≠ "hum" from n1.symm)]
      exact iteF ⟨_, rfl, x, dx, _, rfl, y.o, rfl, _, rfl, q, _, 1, .str (tI p), rfl, rfl, hq, rfl, tI p, p, rfl, a2, by omega, _, rfl, q, _, 2, .str (tI n), rfl, rfl, hq, rfl, tI n, n, rfl, b2, by omega, G, x, hm, zm, g, w, h, z, p, n, rfl, hN, hh, hz, can, dfew, mfew, sfew, k⟩
end
end Lw
set_option Elab.async false
set_option linter.all false
set_option maxRecDepth 100000
set_option maxHeartbeats 8000000
namespace Lw
open PySem PySem.Spec PyProof.Rows L2 Hb
def pFs (sv : V) (pl : Addr) (tk : Int) (md : Addr) (wk : Option Int) : List (Str × V) := [("state", sv), ("places", .ref pl), ("ticks", .int tk), ("made", .ref md), ("woke", intV wk)]
/-- a Played -/
def PlAt (K : PySem.W.Frag) (C : Addr) (H : Hp) (p : Addr) (w : Wd) : Prop := ∃ dx sv pl md xs, H p = some (.ins C dx (pFs sv pl w.tk md w.wk)) ∧ StAt K H sv w.st ∧ SqT K H pl (w.pl.map V.int) ∧ SqT K H md xs ∧ TDs K H xs (w.md.map encM)
theorem PlAt.same {K : PySem.W.Frag} {C : Addr} {H H' : Hp} {p : Addr} {w : Wd} (y : PlAt K C H p w) (s : Same H H') : PlAt K C H' p w := by
  obtain ⟨dx, sv, pl, md, xs, a, b, c, d, e⟩ := y
  exact ⟨dx, sv, pl, md, xs, s _ _ a, b.keep (Same.tk s), SqT.keep (Same.tk s) c, SqT.keep (Same.tk s) d, TDs.keep (Same.tk s) e⟩
def spPInit (K : PySem.W.Frag) (C : Addr) : Sp := fun vs H Q _ => ∃ (x dx : Addr) (sv : V) (pl md : Addr) (tk : Int) (wk : Option Int), vs = [.ref x, sv, .ref pl, .int tk, .ref md, intV wk] ∧ H x = some (.ins C dx []) ∧
  ∀ H', KX x H H' → H' x = some (.ins C dx (pFs sv pl tk md wk)) → Q .non H'
def spPlay (K : PySem.W.Frag) (C CH CS CW : Addr) : Sp := fun vs H Q _ => ∃ (hm zm wa : Addr) (h : Hz) (z : Zz) (g n : Int) (f : Str) (es : List Ev), vs = [.ref hm, .ref zm, .ref wa] ∧ HAt K CH H hm h ∧ SlpAt K CS H zm z ∧ WAt K CW H wa ⟨g, n, f, es.map evT⟩ ∧
  WkOk ⟨g, n, f, es.map evT⟩ ∧ (∀ e ∈ es, EvOk (g + n) e) ∧ Poss h z g (wd0 z (g + n) f) es ∧ h.doors.length ≤ 1000 ∧ es.length ≤ 400 ∧ (∀ i, (runEv h z (wd0 z (g + n) f) (es.take i)).st.ok) ∧
  ∀ H' p, Same H H' → H p = none → PlAt K C H' p (runEv h z (wd0 z (g + n) f) es) → Q (.ref p) H'
theorem intV_non (o : Option Int) : decide (intV o = V.non) = decide (o = none) := by cases o <;> simp [intV]
section
variable {P : Program} {w : World} {K : PySem.W.Frag} {mg : Str → Option Value} {base : Heap}
theorem m_Played_mk (D : Df1 K mg "Played" "Played.__init__" s_Played_init) (T : Tx K mg) : C8.Mak P w K mg base 1 "Played" (He.ga K "Played") (spPInit K (He.ga K "Played")) [] := by
  refine mak_mk D sc_Played_init bd_Played_init (fun vs H Q E h => ?_) fun f cdv A outer s H vs Q E hr h => ?_
  · obtain ⟨x, dx, sv, pl, md, tk, wk, rfl, _⟩ := h
    rfl
  · obtain ⟨x, dx, sv, pl, md, tk, wk, rfl, hx, k⟩ := h
    refine ⟨_, (pss_cons (ps_fld (pv 0) (pv 1) rfl)
 (pss_cons (ps_fld (pv 0) (pv 2) rfl)
 (pss_cons (ps_fld (pv 0) (pv 3) rfl)
 (pss_cons (ps_fld (pv 0) (pv 4) rfl)
 (pss_one (ps_fld (pv 0) (pv 5) rfl)))))), ?_⟩
    refine ⟨_, rfl, _, rfl, x, _, dx, [], rfl, hx, T.cls_Played, T.p_state, by decide, ?_⟩
    refine ⟨_, rfl, _, rfl, x, _, dx, _, rfl, upd_same, T.cls_Played, T.p_places, by show 1 < 1000; decide, ?_⟩
    refine ⟨_, rfl, _, rfl, x, _, dx, _, rfl, upd_same, T.cls_Played, T.p_ticks, by show 2 < 1000; decide, ?_⟩
    refine ⟨_, rfl, _, rfl, x, _, dx, _, rfl, upd_same, T.cls_Played, T.p_made, by show 3 < 1000; decide, ?_⟩
    refine ⟨_, rfl, _, rfl, x, _, dx, _, rfl, upd_same, T.cls_Played, T.p_woke, by show 4 < 1000; decide, ?_⟩
    rw [upd_upd, upd_upd, upd_upd, upd_upd]
    exact k _ KX.put upd_same
theorem c_play (D : Df K mg "play" s_play) (T : Tx K mg) (m_Night : C8.Mak P w K mg base 3 "Night" (He.ga K "Night") (spNInit K (He.ga K "Night") (He.ga K "Sleeper") (He.ga K "Walk")) [])
    (m_Played : C8.Mak P w K mg base 1 "Played" (He.ga K "Played") (spPInit K (He.ga K "Played")) [])
    (c_allows : C8.Met P w K mg base 2 (He.ga K "Night") "allows" (spNAllows K (He.ga K "Night") (He.ga K "House")) [])
    (c_follow : C8.Met P w K mg base 6 (He.ga K "Night") "follow" (spNFollow K (He.ga K "Night") (He.ga K "Sleeper") (He.ga K "House")) []) :
    C8.Cal P w K mg base 8 "play" (spPlay K (He.ga K "Played") (He.ga K "House") (He.ga K "Sleeper") (He.ga K "Walk")) [] := by
  refine cal_mk D sc_play bd_play (fun vs H Q E h => ?_) fun f cdv A outer s H vs Q E hr h => ?_
  · obtain ⟨hm, zm, wa, h, z, g, n, fi, es, rfl, _⟩ := h
    rfl
  · obtain ⟨hm, zm, wa, h, z, g, n, fi, es, rfl, hh, hz, hwa, wok, eok, poss, dfew, efew, sok, k⟩ := h
    have line := sizeLine_eq
    have g0 := wok.g0
    have n0 := wok.n0
    have few := wok.few
    change 0 ≤ g at g0
    change 0 ≤ n at n0
    change g + n ≤ 64 at few
    refine ⟨_, (pss_cons (ps_set (i := 3) sc_play.nd rfl (Or.inl rfl) (C8.pe_mk m_Night hr (by decide) rfl (pa_cons (pv 0) (pa_cons (pv 1) (pa_cons (pv 2) pa_nil)))))
 (pss_cons (ps_set (i := 4) sc_play.nd rfl (Or.inl rfl) pe_non)
 (pss_cons (ps_for PassesOwn.never rfl (pi_enumT (by rfl) T.n_enumerate (pa_cons (pe_fld (pv 2) rfl) pa_nil)) (pg_tup (by rfl) (pgs_cons (pg_name (i := 5) sc_play.nd rfl (Or.inl rfl)) (pgs_cons (pg_name (i := 6) sc_play.nd rfl (Or.inl rfl)) pgs_nil)))
 (pss_cons (ps_set (i := 7) sc_play.nd rfl (Or.inl rfl) (pe_split (pv 6) pe_str))
 (pss_cons (ps_if (pt_not (pt_val (C8.pe_mt c_allows hr (by decide) (pv 3) (pa_cons (pv 7) pa_nil))))
 (pss_one ps_never)
 pss_nil)
 (pss_cons (ps_expr (C8.pe_mt c_follow hr (by decide) (pv 3) (pa_cons (pv 7) pa_nil)))
 (pss_one (ps_if (PW.pt (pw_and (pt_cmpR op_isN (pv 4) pe_non (by first | exact nomark _ | rfl)) (pw_and1 (pt_cmpR (op_eqD hr.units) (pe_fld (pv 3) rfl) (pe_glob (v := .ref _) rfl T.g_WOKEN rfl) (by first | exact nomark _ | rfl)))))
 (pss_one (ps_set (i := 4) sc_play.nd rfl (Or.inl rfl) (pv 5)))
 pss_nil))))))
 (pss_one (ps_ret (C8.pe_mk m_Played hr (by decide) rfl (pa_cons (pe_fld (pv 3) rfl) (pa_cons (pe_callTy call_tuple_of (by rfl) T.n_tuple (by decide +kernel) (pa_cons (pe_fld (pv 3) rfl) pa_nil)) (pa_cons (pe_fld (pv 3) rfl) (pa_cons (pe_callTy call_tuple_of (by rfl) T.n_tuple (by decide +kernel) (pa_cons (pe_fld (pv 3) rfl) pa_nil)) (pa_cons (pv 4) pa_nil))))))))))), ?_⟩
    refine ⟨_, rfl, _, rfl, _, rfl, fun x dx nx ndx ne => ?_⟩
    have s0 : Same H (upd (upd H dx (.own x)) x (.ins (He.ga K "Night") dx [])) := fun b u e => by
      rw [upd_ne (ne_of_none e nx), upd_ne (ne_of_none e ndx)]
      exact e
    refine ⟨x, dx, hm, zm, wa, z, _, rfl, upd_same, hz.same s0, hwa.same s0, wok, fun H1 sv pl mv md xs y kx np nm nd => ⟨rfl, ?_⟩⟩
    have N0 : NightAt K (He.ga K "Night") H H1 x hm zm g (wd0 z (g + n) fi) := ⟨dx, sv, pl, mv, md, xs, y, fun b o e => kx b o (ne_of_none e nx) (s0 b o e), nx, s0.free np, s0.free nm, s0.free nd⟩
    clear y kx np nm nd s0 ne ndx xs md mv pl sv
    obtain ⟨dw, tw, hwO, hwt⟩ := hwa
    have sN : ∀ {H' : Hp} {w : Wd}, NightAt K (He.ga K "Night") H H' x hm zm g w → Same H H' := fun q => by
      obtain ⟨_, _, _, _, _, _, _, s, _⟩ := q
      exact s
    refine ⟨_, rfl, wa, _, dw, _, _, rfl, sN N0 _ _ hwO, T.cls_Walk, T.a_events, rfl, tw, _, rfl, SqT.keep (Same.tk (sN N0)) hwt, for_it walk_enumT (fun i σ H' => (∃ v5 v6 v7, σ = [some (.ref hm), some (.ref zm), some (.ref wa), some (.ref x), some (intV (runEv h z (wd0 z (g + n) fi) (es.take i)).wk), v5, v6, v7]) ∧
      NightAt K (He.ga K "Night") H H' x hm zm g (runEv h z (wd0 z (g + n) fi) (es.take i))) ⟨⟨_, _, _, rfl⟩, N0⟩ (fun i σ H' _ q => SqT.keep (Same.tk (sN q.2)) hwt) ?_ ?_⟩
    · rintro i v σ H2 H3 hi ⟨⟨v5, v6, v7, rfl⟩, N2⟩ ⟨Tp, u1, u2, rfl, nT, rfl, e1, e2⟩
      injection e1 with e1
      subst e1
      replace e2 : ((es.map evT).map V.str)[i]? = some u2 := e2
      rw [List.getElem?_map, List.getElem?_map] at e2
      obtain ⟨y, hy, rfl⟩ := Option.map_eq_some_iff.mp e2
      obtain ⟨ev, hev, rfl⟩ := Option.map_eq_some_iff.mp hy
      have evok := eok ev (List.mem_of_getElem? hev)
      have short := ev_short few evok
      have il : i < es.length := (List.getElem?_eq_some_iff.mp hev).1
      have s3 : Same H2 (upd H2 Tp (.tup [.int (i : Nat), .str (evT ev)])) := Same.new nT
      have N3 := N2.same s3
      refine ⟨Tp, _, rfl, SqT.of upd_same, rfl, _, _, rfl, _, _, rfl, rfl, ?_⟩
      generalize upd H2 Tp (.tup [.int (i : Nat), .str (evT ev)]) = H3 at N3 ⊢
      clear N2 s3 e2 hy
      refine ⟨_, rfl, ⟨_, rfl⟩, evT ev, " ", rfl, rfl, by decide +kernel, by omega, fun q nq => ?_⟩
      rw [split_ev few evok]
      have N4 := N3.same (Same.new nq (o := .lst ((evW ev).map V.str)))
      have hq : SqL K (upd H3 q (.lst ((evW ev).map V.str))) q ((evW ev).map V.str) := SqL.of upd_same
      generalize upd H3 q (.lst ((evW ev).map V.str)) = H4 at N4 hq ⊢
      clear N3 nq
      have B := WdB.run z (es := es.take i) (WdB.zero h z (k := g + n) fi)
      have tl : (es.take i).length = i := by rw [List.length_take]; omega
      rw [tl, Nat.zero_add] at B
      have can := poss.at hev
      have nx := run_next (h := h) (z := z) (w := wd0 z (g + n) fi) hev
      have sok1 := sok (i + 1)
      have sok0 := sok i
      rw [nx] at sok1
      generalize runEv h z (wd0 z (g + n) fi) (es.take i) = wd at N4 B can nx sok1 sok0 ⊢
      have evok2 : EvOk (wd.pl.length : Nat) ev := by
        rw [B.pl, Int.toNat_of_nonneg (by omega)]
        exact evok
      have pl64 : wd.pl.length ≤ 64 := by rw [B.pl]; omega
      have mfew := B.md
      have sfew := B.sp
      obtain ⟨dx4, sv4, pl4, mv4, md4, xs4, y4, sG4, gx4, _⟩ := id N4
      refine ⟨_, rfl, x, dx4, _, rfl, y4.o, rfl, _, rfl, H, x, q, hm, zm, g, wd, h, ev, rfl, N4, hh, hq, evok2, pl64, dfew, _, rfl, ?_⟩
      rw [decide_eq_true can]
      refine iteF ⟨_, rfl, x, dx4, _, rfl, y4.o, rfl, _, rfl, H, x, q, hm, zm, g, wd, h, z, ev, rfl, N4, hh, hz, hq, evok2, pl64, dfew, by omega, by omega, sok0, can, fun H5 N5 => ?_⟩
      have N5' : NightAt K (He.ga K "Night") H H5 x hm zm g (goEv h z wd ev) := by
        obtain ⟨a1, a2, a3, a4, a5, a6, a7, a8⟩ := N5
        exact ⟨a1, a2, a3, a4, a5, a6, ⟨a7.o, a7.st, a7.hpl, a7.hmv, a7.hmd, a7.td, a7.ne⟩, a8⟩
      obtain ⟨dx5, sv5, pl5, mv5, md5, xs5, y5, sG5, gx5, _⟩ := id N5
      have ewk : (goEv h z wd ev).wk = wokeAt wd (doEv h z wd ev).st := rfl
      have mn := B.mn
      refine ⟨_, rfl, rfl, _, rfl, ?_⟩
      rw [intV_non]
      by_cases e1 : wd.wk = none
      · rw [decide_eq_true e1]
        refine iteT ⟨_, rfl, x, _, dx5, _, _, rfl, y5.o, T.cls_Night, T.b_state, rfl, ?_⟩
        have hw : StAt K H5 (.ref (He.ga K "WOKEN")) .wok := ⟨_, rfl, T.t_WOKEN _⟩
        refine ⟨_, _, TD.dp y5.st.td, TD.dp hw.td, (S0.shp sok1).shaped, (S0.shp (s := .wok) trivial).shaped, _, rfl, ?_⟩
        rw [eqv_st]
        by_cases e2 : (doEv h z wd ev).st = .wok
        · rw [decide_eq_true e2]
          have e3 : (goEv h z wd ev).wk = some ((i : Nat) : Int) := by
            rw [ewk, wokeAt, if_pos ⟨e1, e2⟩, mn]
          refine iteT ⟨_, rfl, ?_, ?_⟩
          · rw [nx, e3]
            exact ⟨_, _, _, rfl⟩
          · rw [nx]
            exact N5'
        · rw [decide_eq_false e2]
          have e3 : (goEv h z wd ev).wk = wd.wk := by rw [ewk, wokeAt, if_neg (fun q => e2 q.2)]
          refine iteF ⟨?_, ?_⟩
          · rw [nx, e3]
            exact ⟨_, _, _, rfl⟩
          · rw [nx]
            exact N5'
      · rw [decide_eq_false e1]
        have e3 : (goEv h z wd ev).wk = wd.wk := by rw [ewk, wokeAt, if_neg (fun q => e1 q.1)]
        refine iteF (iteF ⟨?_, ?_⟩)
        · rw [nx, e3]
          exact ⟨_, _, _, rfl⟩
        · rw [nx]
          exact N5'
    · rintro σ H2 ⟨⟨v5, v6, v7, rfl⟩, N2⟩
      rw [List.length_map, List.length_map, List.take_length] at N2 ⊢
      obtain ⟨dx2, sv2, pl2, mv2, md2, xs2, y2, sG2, gx2, _⟩ := id N2
      refine ⟨_, rfl, x, _, dx2, _, _, rfl, y2.o, T.cls_Night, T.b_state, rfl, _, rfl, x, _, dx2, _, _, rfl, y2.o, T.cls_Night, T.b_places, rfl, pl2, _, rfl, .inl ⟨SqL.of y2.hpl, fun t1 nt1 => ?_⟩⟩
      have s3 : Same H2 (upd H2 t1 (.tup ((runEv h z (wd0 z (g + n) fi) es).pl.map V.int))) := Same.new nt1
      have h1 : upd H2 t1 (.tup ((runEv h z (wd0 z (g + n) fi) es).pl.map V.int)) t1 = some (.tup ((runEv h z (wd0 z (g + n) fi) es).pl.map V.int)) := upd_same
      have y3 := y2.same s3
      have sG3 := sG2.trans s3
      generalize upd H2 t1 (.tup ((runEv h z (wd0 z (g + n) fi) es).pl.map V.int)) = H3 at h1 y3 sG3 ⊢
      refine ⟨_, rfl, x, _, dx2, _, _, rfl, y3.o, T.cls_Night, T.b_ticks, rfl, _, rfl, x, _, dx2, _, _, rfl, y3.o, T.cls_Night, T.b_made, rfl, md2, _, rfl, .inl ⟨SqL.of y3.hmd, fun t2 nt2 => ?_⟩⟩
      have s4 : Same H3 (upd H3 t2 (.tup xs2)) := Same.new nt2
      have h2 : upd H3 t2 (.tup xs2) t2 = some (.tup xs2) := upd_same
      have y4 := y3.same s4
      have sG4 := sG3.trans s4
      have h1' := s4 _ _ h1
      generalize upd H3 t2 (.tup xs2) = H4 at h1' h2 y4 sG4 ⊢
      refine ⟨_, rfl, fun p dp np ndp ne => ?_⟩
      have s5 : Same H4 (upd (upd H4 dp (.own p)) p (.ins (He.ga K "Played") dp [])) := fun b u e => by
        rw [upd_ne (ne_of_none e np), upd_ne (ne_of_none e ndp)]
        exact e
      refine ⟨p, dp, sv2, t1, t2, _, _, rfl, upd_same, fun H' kx hp => ⟨rfl, ?_⟩⟩
      have s6 : Same H4 H' := fun b o e => kx b o (ne_of_none e np) (s5 b o e)
      exact k H' p (sG4.trans s6) (sG4.free np) ⟨dp, sv2, t1, t2, xs2, hp, y4.st.keep (Same.tk s6), SqT.of (s6 _ _ h1'), SqT.of (s6 _ _ h2), TDs.keep (Same.tk s6) y4.td⟩
end
end Lw
set_option Elab.async false
set_option linter.all false
set_option maxRecDepth 100000
set_option maxHeartbeats 8000000
/-! What is shown of a world. -/
namespace Lw
open PySem PySem.Spec PyProof.Rows L2 Hb
theorem few_shown : ∀ i : Fin 256, (PyData.int (i.val : Int)).shown.length ≤ 8 ∧ (PyData.int (i.val : Int)).showable = true := by decide +kernel
theorem int_shown {i : Int} (h0 : 0 ≤ i) (h1 : i < 256) : (PyData.int i).shown.length ≤ 8 ∧ (PyData.int i).showable = true := by
  obtain ⟨n, rfl⟩ := Int.eq_ofNat_of_zero_le h0
  exact few_shown ⟨n, by omega⟩
/-- data whose text is at most n signs -/
structure Sh (n : Nat) (d : PyData) : Prop where
  le : d.shown.length ≤ n
  sh : d.showable = true
  nd : d.hasDict = false
theorem showableAll_of : ∀ {ds : List PyData}, (∀ d ∈ ds, d.showable = true) → PyData.showableAll ds = true
  | [], _ => rfl
  | d :: ds, h => by simp only [PyData.showableAll, h d List.mem_cons_self, showableAll_of fun e he => h e (List.mem_cons_of_mem _ he), Bool.and_self]
theorem hasDictAll_of : ∀ {ds : List PyData}, (∀ d ∈ ds, d.hasDict = false) → PyData.hasDictAll ds = false
  | [], _ => rfl
  | d :: ds, h => by simp only [PyData.hasDictAll, h d List.mem_cons_self, hasDictAll_of fun e he => h e (List.mem_cons_of_mem _ he), Bool.or_self]
theorem Sh.tup {n m k : Nat} {ds : List PyData} (h : ∀ d ∈ ds, Sh n d) (hm : ds.length ≤ m) (hk : (n + 2) * m + 3 ≤ k) : Sh k (.tuple ds) :=
  ⟨Nat.le_trans (tup_le (fun d hd => (h d hd).le) hm) hk, by simp only [PyData.showable]; exact showableAll_of fun d hd => (h d hd).sh, by simp only [PyData.hasDict]; exact hasDictAll_of fun d hd => (h d hd).nd⟩
theorem Sh.int {i : Int} (h0 : 0 ≤ i) (h1 : i < 256) : Sh 8 (.int i) := ⟨(int_shown h0 h1).1, (int_shown h0 h1).2, rfl⟩
theorem Sh.mono {n m : Nat} {d : PyData} (h : Sh n d) (e : n ≤ m) : Sh m d := ⟨Nat.le_trans h.le e, h.sh, h.nd⟩
theorem eight_shown : ∀ w ∈ eight, (PyData.str w).shown.length ≤ 30 := by decide +kernel
/-- rooms and noises in a world -/
structure WdS (ws : List Str) (w : Wd) : Prop where
  pl : ∀ r ∈ w.pl, 0 ≤ r ∧ r < 64
  md : ∀ x ∈ w.md, x.2 ∈ ws
theorem WdS.zero (ws : List Str) (z : Zz) (k : Int) (f : Str) : WdS ws (wd0 z k f) := ⟨fun r hr => by rw [(List.mem_replicate.mp hr).2]; decide, fun x hx => nomatch hx⟩
theorem mem_getD {α : Type} {xs : List α} {i : Nat} {d : α} (h : i < xs.length) : xs.getD i d ∈ xs := by
  rw [List.getD_eq_getElem?_getD, List.getElem?_eq_getElem h]
  exact List.getElem_mem h
theorem door_mem {h : Hz} {n : Int} (e : 0 ≤ n ∧ n < (h.doors.length : Nat)) : doorAt h n ∈ h.doors := mem_getD (by omega)
theorem lookupF_mem : ∀ {fs : List Fl} {r : Int} {x : Str}, fs.lookup r = some x → (r, x) ∈ fs
  | [], _, _, h => by simp at h
  | (m, y) :: ps, n, x, h => by
    rw [List.lookup_cons] at h
    by_cases e : n = m
    · subst e
      simp at h
      subst h
      exact List.mem_cons_self
    · have e2 : (n == m) = false := beq_eq_false_iff_ne.mpr e
      rw [e2] at h
      exact List.mem_cons_of_mem _ (lookupF_mem h)
theorem nz_in {h : Hz} {ws : List Str} (hd : ∀ x ∈ h.doors, ∀ n, x.2.2 = some n → n ∈ ws) (hf : ∀ x ∈ h.floors, x.2 ∈ ws) {d : Dr} (dm : d ∈ h.doors) (r : Int) : ∀ n ∈ nzStep h d r, n ∈ ws := fun n hn => by
  rcases List.mem_append.mp hn with hn | hn
  · cases e : d.2.2 with
    | none => rw [e] at hn; cases hn
    | some m =>
      rw [e] at hn
      rw [List.mem_singleton.mp hn]
      exact hd d dm m e
  · cases e : (sortF h.floors).lookup r with
    | none => rw [e] at hn; cases hn
    | some m =>
      rw [e] at hn
      rw [List.mem_singleton.mp hn]
      exact hf _ ((sortF_perm _).mem_iff.mp (lookupF_mem e))
theorem WdS.go {h : Hz} {z : Zz} {ws : List Str} {r m : Int} (hk : Hok h r m ws) (r64 : r ≤ 64) {g : Int} {w : Wd} {e : Ev} (y : WdS ws w) (c : CanEv h g w e) : WdS ws (goEv h z w e) := by
  cases e with
  | tick => exact ⟨y.pl, y.md⟩
  | hum p d => exact ⟨y.pl, y.md⟩
  | step p n =>
    obtain ⟨pin, nin, _, _⟩ := c
    have dm := door_mem nin
    obtain ⟨d1, d2, d3, d4⟩ := hk.d _ dm
    refine ⟨fun q hq => ?_, fun x hx => ?_⟩
    · have r2 := hk.r2
      rcases List.mem_or_eq_of_mem_set hq with hq | rfl
      · exact y.pl q hq
      · unfold behindD
        split
        · exact ⟨d2.1, by have := d2.2; omega⟩
        · exact ⟨d1.1, by have := d1.2; omega⟩
    · rcases List.mem_append.mp hx with hx | hx
      · exact y.md x hx
      · obtain ⟨s, hs, rfl⟩ := List.mem_map.mp hx
        exact nz_in (fun x hx => (hk.d x hx).2.2.2) (fun x hx => (hk.f x hx).2) dm _ s hs
theorem WdS.run {h : Hz} {z : Zz} {ws : List Str} {r m : Int} (hk : Hok h r m ws) (r64 : r ≤ 64) {g : Int} : ∀ {es : List Ev} {w : Wd}, WdS ws w → Poss h z g w es → WdS ws (runEv h z w es)
  | [], _, y, _ => y
  | e :: es, w, y, p => WdS.run hk r64 (es := es) (y.go (z := z) hk r64 p.1) p.2
theorem InS.go {h : Hz} {z : Zz} {ws : List Str} (zk : Zok z ws) {w : Wd} {e : Ev} (y : InS z w.st) : InS z (doEv h z w e).st := by
  cases e with
  | tick => exact InS.tick zk y
  | hum p d => exact (InS.hum zk y).1
  | step p n => exact InS.row zk y
theorem InS.run {h : Hz} {z : Zz} {ws : List Str} (zk : Zok z ws) : ∀ {es : List Ev} {w : Wd}, InS z w.st → InS z (runEv h z w es).st
  | [], _, y => y
  | e :: es, w, y => InS.run zk (es := es) (w := goEv h z w e) (InS.go zk y)
def wkD : Option Int → PyData
  | none => .none
  | some i => .int i
def encWd (w : Wd) : PyData := .tuple [.tuple w.st.ds, .tuple (w.pl.map PyData.int), .int w.tk, .tuple (w.md.map encM), wkD w.wk]
theorem TD.wk {K : PySem.W.Frag} {H : Hp} (o : Option Int) : TD K H (intV o) (wkD o) := by
  cases o with
  | none => exact .non
  | some i => exact .int i
/-- a world that can be shown -/
theorem Sh_Wd {h : Hz} {w : Wd} {k m : Nat} {ws : List Str} (B : WdB h w k m) (S : WdS ws w) (hw : ∀ x ∈ ws, x ∈ eight) (st : w.st ∈ allS) (k8 : k ≤ 8) (m9 : m ≤ 100) : Sh 100000 (encWd w) := by
  have f := fine_all _ st
  simp only [fine, Bool.and_eq_true, Bool.not_eq_true', decide_eq_true_eq] at f
  obtain ⟨⟨⟨f1, f2⟩, f3⟩, f4⟩ := f
  refine Sh.tup (n := 18000) (m := 5) (fun d hd => ?_) (by simp) (by decide)
  have t0 := B.tk0
  have t1 := B.tk
  simp only [List.mem_cons, List.not_mem_nil, or_false] at hd
  rcases hd with rfl | rfl | rfl | rfl | rfl
  · exact ⟨by omega, f1, f2⟩
  · refine Sh.tup (n := 8) (m := 8) (fun d hd => ?_) (by rw [List.length_map, B.pl]; exact k8) (by decide)
    obtain ⟨r, hr, rfl⟩ := List.mem_map.mp hd
    have := S.pl r hr
    exact Sh.int this.1 (by omega)
  · exact (Sh.int t0 (by omega)).mono (by decide)
  · refine Sh.tup (n := 80) (m := 200) (fun d hd => ?_) (by rw [List.length_map]; have := B.md; omega) (by decide)
    obtain ⟨x, hx, rfl⟩ := List.mem_map.mp hd
    refine Sh.tup (n := 30) (m := 2) (fun d hd => ?_) (by simp) (by decide)
    simp only [List.mem_cons, List.not_mem_nil, or_false] at hd
    have := B.mdt x hx
    rcases hd with rfl | rfl
    · exact (Sh.int this.1 (by omega)).mono (by decide)
    · exact ⟨eight_shown _ (hw _ (S.md x hx)), rfl, rfl⟩
  · cases e : w.wk with
    | none => exact ⟨by decide +kernel, rfl, rfl⟩
    | some i =>
      have := B.wk i e
      exact (Sh.int this.1 (by omega)).mono (by decide)
theorem depth_Wd (w : Wd) (st : w.st ∈ allS) : (encWd w).depth ≤ 60 := by
  have f := fine_all _ st
  simp only [fine, Bool.and_eq_true, Bool.not_eq_true', decide_eq_true_eq] at f
  obtain ⟨⟨⟨f1, f2⟩, f3⟩, f4⟩ := f
  have a1 : PyData.depthAll (w.pl.map PyData.int) ≤ 1 := depthAll_le fun e he => by
    obtain ⟨x, _, rfl⟩ := List.mem_map.mp he
    simp [PyData.depth]
  have a2 : PyData.depthAll (w.md.map encM) ≤ 3 := depthAll_le fun e he => by
    obtain ⟨x, _, rfl⟩ := List.mem_map.mp he
    simp [encM, PyData.depth, PyData.depthAll]
  have a3 : (wkD w.wk).depth ≤ 1 := by cases w.wk <;> simp [wkD, PyData.depth]
  have a4 : (PyData.tuple w.st.ds).depth ≤ 10 := by cases w.st <;> simp [S0.ds, PyData.depth, PyData.depthAll]
  simp only [PyData.depth] at a4
  simp only [encWd, PyData.depth, PyData.depthAll]
  omega
end Lw
set_option Elab.async false
set_option linter.all false
set_option maxRecDepth 100000
set_option maxHeartbeats 8000000
namespace Lw
open PySem PySem.Spec PyProof.Rows L2 Hb
structure Few (h : Hz) : Prop where
  r : 0 ≤ h.rooms ∧ h.rooms < 64
  d : ∀ x ∈ h.doors, (0 ≤ x.1 ∧ x.1 < 64) ∧ (0 ≤ x.2.1 ∧ x.2.1 < 64) ∧ ∀ k, x.2.2 = some k → k ∈ eight
  dm : h.doors.length ≤ 30
  f : ∀ x ∈ h.floors, (0 ≤ x.1 ∧ x.1 < 64) ∧ x.2 ∈ eight
  fm : h.floors.length ≤ 30
  c : ∀ x ∈ h.cradles, 0 ≤ x ∧ x < 64
  cm : h.cradles.length ≤ 64
theorem small_int : ∀ i ∈ List.range 100, ((toString (i : Int) : String) : Str).length ≤ 2 ∧ (i : Int).natAbs.log2 < 1920 := by decide +kernel
theorem int_short {i : Int} (h0 : 0 ≤ i) (h1 : i ≤ 99) : ((toString i : String) : Str).length ≤ 2 ∧ i.natAbs.log2 < 1920 := by
  obtain ⟨n, rfl⟩ := Int.eq_ofNat_of_zero_le h0
  exact small_int n (List.mem_range.mpr (by omega))
def nzT : Option Str → Str
  | none => "-"
  | some n => n
def doorL (x : Dr) : Str := (((((Str.empty ++ "door ") ++ tI x.1) ++ " ") ++ tI x.2.1) ++ " ") ++ nzT x.2.2
def floorL (x : Fl) : Str := (((Str.empty ++ "floor ") ++ tI x.1) ++ " ") ++ x.2
def roomsL (r : Int) : Str := (Str.empty ++ "rooms ") ++ tI r
def cradlesL (cs : List Int) : Str := Txt.join " " ("cradles" :: cs.map tI)
def linesH (h : Hz) : List Str := roomsL h.rooms :: (h.doors.map doorL ++ ((sortF h.floors).map floorL ++ [cradlesL (sortI h.cradles)]))
def textH (h : Hz) : Str := Txt.join "\n" (linesH h)
theorem litsH : ("door " : Str).length = 5 ∧ ("floor " : Str).length = 6 ∧ ("rooms " : Str).length = 6 ∧ (" " : Str).length = 1 ∧ Str.empty.length = 0 := by decide +kernel
theorem eight_len : ∀ w ∈ eight, w.length ≤ 8 := by decide +kernel
theorem sum_le {m : Nat} : ∀ {ys : List Str}, (∀ y ∈ ys, y.length ≤ m) → (ys.map (·.length)).sum ≤ ys.length * m
  | [], _ => by simp
  | y :: ys, h => by
    have h1 := h y List.mem_cons_self
    have h2 := sum_le (ys := ys) fun x hx => h x (List.mem_cons_of_mem _ hx)
    rw [List.map_cons, List.sum_cons, List.length_cons, Nat.succ_mul]
    omega
def spDoorLine (K : PySem.W.Frag) : Sp := fun vs H Q _ => ∃ (t : Addr) (x : Dr), vs = [.ref t] ∧ SqT K H t [.int x.1, .int x.2.1, nzV x.2.2] ∧ ((0 ≤ x.1 ∧ x.1 < 64) ∧ (0 ≤ x.2.1 ∧ x.2.1 < 64) ∧ ∀ k, x.2.2 = some k → k ∈ eight) ∧ Q (.str (doorL x)) H
section
variable {P : Program} {w : World} {K : PySem.W.Frag} {mg : Str → Option Value} {base : Heap}
theorem c_door_line (D : Df K mg "door_line" s_door_line) (T : Tx K mg) : C8.Cal P w K mg base 1 "door_line" (spDoorLine K) [] := by
  refine cal_mk D sc_door_line bd_door_line (fun vs H Q E h => ?_) fun f cdv A outer s H vs Q E hr h => ?_
  · obtain ⟨t, x, rfl, _⟩ := h
    rfl
  · obtain ⟨t, ⟨a, b, n⟩, rfl, ht, ⟨⟨a0, a1⟩, ⟨b0, b1⟩, n1⟩, k⟩ := h
    refine ⟨_, (pss_cons (ps_asg (pv 0) (pg_tup (by rfl) (pgs_cons (pg_name (i := 1) sc_door_line.nd rfl (Or.inl rfl)) (pgs_cons (pg_name (i := 2) sc_door_line.nd rfl (Or.inl rfl)) (pgs_cons (pg_name (i := 3) sc_door_line.nd rfl (Or.inl rfl)) pgs_nil)))))
 (pss_cons (ps_set (i := 4) sc_door_line.nd rfl (Or.inl rfl) (pe_ifExp (pt_cmpR op_isN (pv 3) pe_non (by first | exact nomark _ | rfl)) pe_str (pv 3)))
 (pss_one (ps_ret (L2.pe_joined (.cons pe_str (.cons (L2.pe_fmt (pv 1)) (.cons pe_str (.cons (L2.pe_fmt (pv 2)) (.cons pe_str (.cons (L2.pe_fmt (pv 4)) .nil))))))))))), ?_⟩
    refine ⟨_, rfl, t, _, rfl, ht, rfl, _, _, rfl, _, _, rfl, _, _, rfl, rfl, ?_⟩
    have line := sizeLine_eq
    obtain ⟨l1, l2, l3, l4, l5⟩ := litsH
    have ia : ((toString a : String) : Str).length ≤ 2 ∧ a.natAbs.log2 < 1920 := int_short a0 (by have := a1; dsimp only at this; omega)
    have ib : ((toString b : String) : Str).length ≤ 2 ∧ b.natAbs.log2 < 1920 := int_short b0 (by have := b1; dsimp only at this; omega)
    have go : ∀ z : Str, z.length ≤ 8 → Q (.str ((((((Str.empty ++ "door ") ++ tI a) ++ " ") ++ tI b) ++ " ") ++ z)) H → tJs [tC (V.str "door "), tFmt (tVar 1), tC (V.str " "), tFmt (tVar 2), tC (V.str " "), tFmt (tVar 4)] Str.empty [some (.ref t), some (.int a), some (.int b), some (nzV n), some (.str z)] H fun out H1 => Q (V.str out) H1 := fun z hz q => by
      refine ⟨_, rfl, by simp only [Str.length_append, l1, l5]; omega, ?_⟩
      refine ⟨_, rfl, .inr ⟨a, rfl, ia.2, _, rfl, by simp only [Str.length_append, l1, l5]; omega, ?_⟩⟩
      refine ⟨_, rfl, by simp only [Str.length_append, l1, l4, l5]; omega, ?_⟩
      refine ⟨_, rfl, .inr ⟨b, rfl, ib.2, _, rfl, by simp only [Str.length_append, l1, l4, l5]; omega, ?_⟩⟩
      refine ⟨_, rfl, by simp only [Str.length_append, l1, l4, l5]; omega, ?_⟩
      exact ⟨_, rfl, .inl ⟨z, rfl, by omega, _, rfl, by simp only [Str.length_append, l1, l4, l5]; omega, q⟩⟩
    cases n with
    | none => exact ⟨_, rfl, rfl, _, rfl, iteT (go _ (by decide) k)⟩
    | some w => exact ⟨_, rfl, rfl, _, rfl, iteF ⟨_, rfl, go _ (eight_len w (n1 w rfl)) k⟩⟩
def tFloor : TE := fun σ H Q => tJs [tC (.str "floor "), tFmt (tVar 4), tC (.str " "), tFmt (tVar 5)] Str.empty σ H fun out H1 => Q (.str out) H1
def spStrH (K : PySem.W.Frag) (C : Addr) : Sp := fun vs H Q _ => ∃ (p : Addr) (h : Hz), vs = [.ref p] ∧ HAt K C H p h ∧ Few h ∧ ∀ H', Same H H' → Q (.str (textH h)) H'
theorem ok_strH {f : Addr} {fd : FuncData} (F : FunD K "__str__" "House.__str__" (defArgs s_House_str) (defBody s_House_str) (defScope s_House_str) [] [] f fd) (T : Tx K mg) (c_door_line : C8.Cal P w K mg base 1 "door_line" (spDoorLine K) []) : FnOk P w K mg base CX0 2 f fd ["self"] (spStrH K (He.ga K "House")) := by
  refine F.ok sc_House_str (fun vs H Q E h => ?_) fun cdv A outer s H vs Q E hr h => ?_
  · obtain ⟨p, h, rfl, _⟩ := h
    rfl
  · obtain ⟨p, h, rfl, hp, fw, k⟩ := h
    suffices go : ∃ t, PSs (cxOf CX0 P w K mg base N_House_str "House.__str__" (defScope s_House_str) f cdv A outer s H E).nox (defBody s_House_str) t ∧ t { nx := fun _ H' => Q .non H', rt := Q } (start N_House_str [.ref p]) H by
      obtain ⟨t, h1, h2⟩ := go
      exact ⟨t, h1.nox, h2⟩
    refine ⟨_, (pss_cons (ps_setLc (i := 1) (own := [("door", 2)]) (by rfl) sc_House_str.nd rfl rfl (sw_true rfl rfl rfl (by decide +kernel)) (pi_tup (pe_fld (pv 0) rfl)) (blkOk_by (N := N_House_str) (sc := defScope s_House_str) (by decide +kernel)) (fun _ _ _ _ _ => (pg_name (i := 2) sc_House_str.nd rfl (Or.inl rfl))) (fun _ _ _ _ _ => pts_nil) (fun _ _ _ _ _ => (C8.pe_c c_door_line hr (by decide) rfl (pa_cons (pv 2) pa_nil))))
 (pss_cons (ps_setLc (i := 3) (own := [("room", 4), ("noise", 5)]) (g := (gTup K 2 (gCons (gName 4) (gCons (gName 5) gNil)))) (by rfl) sc_House_str.nd rfl rfl (sw_true rfl rfl rfl (by decide +kernel)) (pi_tup (pe_fld (pv 0) rfl)) (blkOk_by (N := N_House_str) (sc := defScope s_House_str) (by decide +kernel)) (fun _ _ _ _ _ => (pg_tup (by rfl) (pgs_cons (pg_name (i := 4) sc_House_str.nd rfl (Or.inl rfl)) (pgs_cons (pg_name (i := 5) sc_House_str.nd rfl (Or.inl rfl)) pgs_nil)))) (fun _ _ _ _ _ => pts_nil) (fun _ _ _ _ _ => (L2.pe_joined (.cons pe_str (.cons (L2.pe_fmt (pv 4)) (.cons pe_str (.cons (L2.pe_fmt (pv 5)) .nil)))))))
 (pss_cons (ps_set (i := 6) sc_House_str.nd rfl (Or.inl rfl) (pe_join pe_str (pe_op op_cat (pe_lst (pa_cons pe_str pa_nil)) (pe_lc (own := [("room", 4)]) (by rfl) sc_House_str.nd (pi_tup (pe_fld (pv 0) rfl)) (blkOk_by (N := N_House_str) (sc := defScope s_House_str) (by decide +kernel)) (fun _ _ _ _ _ => (pg_name (i := 4) sc_House_str.nd rfl (Or.inl rfl))) (fun _ _ _ _ _ => pts_nil) (fun _ _ _ _ _ => (pe_callTy (show CallR _ _ (fun xs H Q => ∃ n : Int, xs = [.int n] ∧ n.natAbs.log2 < 1920 ∧ Q (.str ((toString n : String) : Str)) H) from call_str_int) (by rfl) T.n_str (by decide +kernel) (pa_cons (pv 4) pa_nil)))))))
 (pss_one (ps_ret (pe_join pe_str (pe_op op_cat (pe_op op_cat (pe_op op_cat (pe_lst (pa_cons (L2.pe_joined (.cons pe_str (.cons (L2.pe_fmt (pe_fld (pv 0) rfl)) .nil))) pa_nil)) (pv 1)) (pv 3)) (pe_lst (pa_cons (pv 6) pa_nil))))))))), ?_⟩
    obtain ⟨dx, a, b, c, xs, ys, hO, sa, ta, sb, tb, sc⟩ := hp
    obtain ⟨l1, l2, l3, l4, l5⟩ := litsH
    have line := sizeLine_eq
    have xl : xs.length = h.doors.length := by rw [ta.length, List.length_map]
    have yl : ys.length = (sortF h.floors).length := by rw [tb.length, List.length_map]
    have yfew : (sortF h.floors).length ≤ 30 := by rw [(sortF_perm _).length_eq]; exact fw.fm
    have zfew : (sortI h.cradles).length ≤ 64 := by rw [(sortI_perm _).length_eq]; exact fw.cm
    have xfew := fw.dm
    -- doors
    refine ⟨_, rfl, p, _, dx, _, _, rfl, hO, T.cls_House, T.a_doors, rfl, a, rfl, ⟨_, sa⟩, fun D nD => lc_tup (xs := xs) (fun i H' => Same H H' ∧ H' D = some (.lst (((h.doors.take i).map doorL).map V.str))) ⟨Same.new nD, upd_same⟩
      (fun i H' _ e => SqT.keep (Same.tk e.1) sa) (fun i x H' hx ⟨s1, hD⟩ => ?_) (fun H1 ⟨s1, hD⟩ => ?_)⟩
    · obtain ⟨y, hd, tdx⟩ := TDs.at_map (TDs.keep (Same.tk s1) ta) hx
      obtain ⟨t, rfl, ht⟩ := TD.door_inv tdx
      have al2 : i < xs.length := (List.getElem?_eq_some_iff.mp hx).1
      refine ⟨rfl, yes_ ⟨_, rfl, t, y, rfl, ht, fw.d y (List.mem_of_getElem? hd), _, hD, by rw [List.length_map, List.length_map, List.length_take]; omega, Hb.Same.acc s1 nD, ?_⟩⟩
      rw [upd_same, List.take_add_one, hd]
      simp
    rw [xl, List.take_length] at hD
    -- floors
    refine ⟨_, rfl, p, _, dx, _, _, rfl, s1 _ _ hO, T.cls_House, T.a_floors, rfl, b, rfl, ⟨_, SqT.keep (Same.tk s1) sb⟩, fun D2 nD2 => lc_tup (g := gTup K 2 (gCons (gName 4) (gCons (gName 5) gNil))) (tt := tYes) (te := tFloor) (vs := [4, 5]) (xs := ys) (fun i H' => Same H1 H' ∧ H' D2 = some (.lst ((((sortF h.floors).take i).map floorL).map V.str))) ⟨Same.new nD2, upd_same⟩
      (fun i H' _ e => SqT.keep (Same.tk (s1.trans e.1)) sb) (fun i x H' hx ⟨s2, hD2⟩ => ?_) (fun H2 ⟨s2, hD2⟩ => ?_)⟩
    · obtain ⟨y, hf, tdx⟩ := TDs.at_map (TDs.keep (Same.tk (s1.trans s2)) tb) hx
      obtain ⟨t, rfl, ht⟩ := TD.floor_inv tdx
      obtain ⟨⟨f0, f1⟩, f2⟩ := fw.f y ((sortF_perm _).mem_iff.mp (List.mem_of_getElem? hf))
      have iy := int_short f0 (show y.1 ≤ 99 by omega)
      have ly := eight_len _ f2
      have al2 : i < ys.length := (List.getElem?_eq_some_iff.mp hx).1
      refine ⟨t, _, rfl, ht, rfl, _, _, rfl, _, _, rfl, rfl, rfl, yes_ ?_⟩
      refine ⟨_, rfl, by simp only [Str.length_append, l2, l5]; omega, _, rfl, .inr ⟨y.1, rfl, iy.2, _, rfl, by simp only [Str.length_append, l2, l5]; omega, ?_⟩⟩
      refine ⟨_, rfl, by simp only [Str.length_append, l2, l4, l5]; omega, _, rfl, .inl ⟨y.2, rfl, by omega, _, rfl, by simp only [Str.length_append, l2, l4, l5]; omega, ?_⟩⟩
      refine ⟨_, hD2, by rw [List.length_map, List.length_map, List.length_take]; omega, Hb.Same.acc s2 nD2, ?_⟩
      rw [upd_same, List.take_add_one, hf, List.map_append, List.map_append]
      rfl
    rw [yl, List.take_length] at hD2
    have s12 := s1.trans s2
    -- cradles
    refine ⟨⟨_, rfl⟩, by show 1 ≤ sizeLine; decide, fun q nq => ?_⟩
    have sq : Same H2 (upd H2 q (.lst [.str "cradles"])) := Same.new nq
    have s1q := s12.trans sq
    refine ⟨_, rfl, p, _, dx, _, _, rfl, s1q _ _ hO, T.cls_House, T.a_cradles, rfl, c, rfl, ⟨_, SqT.keep (Same.tk s1q) sc⟩, fun D3 nD3 => lc_tup (xs := (sortI h.cradles).map V.int) (fun i H' => Same (upd H2 q (.lst [.str "cradles"])) H' ∧ H' D3 = some (.lst ((((sortI h.cradles).take i).map tI).map V.str))) ⟨Same.new nD3, upd_same⟩
      (fun i H' _ e => SqT.keep (Same.tk (s1q.trans e.1)) sc) (fun i x H' hx ⟨s3, hD3⟩ => ?_) (fun H3 ⟨s3, hD3⟩ => ?_)⟩
    · rw [List.getElem?_map] at hx
      obtain ⟨r, hr2, rfl⟩ := Option.map_eq_some_iff.mp hx
      have hb := fw.c r ((sortI_perm _).mem_iff.mp (List.mem_of_getElem? hr2))
      have ir := int_short hb.1 (show r ≤ 99 by omega)
      refine ⟨rfl, yes_ ⟨_, rfl, r, rfl, ir.2, _, hD3, by rw [List.length_map, List.length_map, List.length_take]; omega, Hb.Same.acc s3 nD3, ?_⟩⟩
      rw [upd_same, List.take_add_one, hr2, List.map_append, List.map_append]
      rfl
    rw [List.length_map, List.take_length] at hD3
    have tl2 : ∀ y ∈ (sortI h.cradles).map tI, y.length ≤ 2 := fun y hy => by
      obtain ⟨r, hr2, rfl⟩ := List.mem_map.mp hy
      have hb := fw.c r ((sortI_perm _).mem_iff.mp hr2)
      exact (int_short hb.1 (show r ≤ 99 by omega)).1
    have cr7 : ("cradles" : Str).length = 7 := by decide +kernel
    refine ⟨q, D3, _, _, rfl, rfl, s3 _ _ upd_same, hD3, by rw [List.length_map, List.length_map]; show 1 + _ ≤ _; omega, fun u nu => ?_⟩
    have su : Same H3 (upd H3 u (.lst ([.str "cradles"] ++ ((sortI h.cradles).map tI).map V.str))) := Same.new nu
    refine ⟨" ", u, "cradles" :: (sortI h.cradles).map tI, rfl, rfl, .inl (SqL.of upd_same), ?_, ?_⟩
    · have sm := sum_le tl2
      rw [List.length_map] at sm
      rw [List.map_cons, List.sum_cons, List.length_cons, List.length_map, l4, cr7]
      omega
    have s1u := (s1q.trans s3).trans su
    have hDu := su _ _ (s3 _ _ (sq _ _ (s2 _ _ hD)))
    have hD2u := su _ _ (s3 _ _ (sq _ _ hD2))
    have crl : (cradlesL (sortI h.cradles)).length ≤ 1000 := by
      have e := str_join_le " " ("cradles" :: (sortI h.cradles).map tI)
      rw [← TL.join_eq] at e
      change (cradlesL (sortI h.cradles)).length ≤ _ at e
      have sm := sum_le tl2
      rw [List.length_map] at sm
      rw [List.map_cons, List.sum_cons, List.length_cons, List.length_map, l4, cr7] at e
      omega
    obtain ⟨cr, ecr⟩ : ∃ z, Txt.join " " ("cradles" :: (sortI h.cradles).map tI) = z := ⟨_, rfl⟩
    rw [ecr]
    rw [show cradlesL (sortI h.cradles) = cr from ecr] at crl
    generalize upd H3 u (.lst ([.str "cradles"] ++ ((sortI h.cradles).map tI).map V.str)) = H4 at s1u hDu hD2u ⊢
    clear hD3 hD2 hD nu nD3 nq nD2 nD su s3 sq s1q s12 s2 s1
    have rr := fw.r
    have ir : ((toString h.rooms : String) : Str).length ≤ 2 ∧ h.rooms.natAbs.log2 < 1920 := int_short rr.1 (by omega)
    have rl : (roomsL h.rooms).length ≤ 8 := by
      unfold roomsL tI
      simp only [Str.length_append, l3, l5]
      omega
    refine ⟨⟨_, rfl⟩, _, rfl, by simp only [Str.length_append, l3, l5]; omega, ?_⟩
    refine ⟨_, rfl, p, _, dx, _, _, rfl, s1u _ _ hO, T.cls_House, T.a_rooms, rfl, .inr ⟨h.rooms, rfl, ir.2, _, rfl, by simp only [Str.length_append, l3, l5]; omega, ?_⟩⟩
    refine ⟨by show 1 ≤ sizeLine; decide, fun q1 nq1 => ?_⟩
    have t1 : Same H4 (upd H4 q1 (.lst [.str (roomsL h.rooms)])) := Same.new nq1
    refine ⟨_, rfl, q1, D, _, _, rfl, rfl, upd_same, t1 _ _ hDu, by rw [List.length_map, List.length_map]; show 1 + _ ≤ _; omega, fun u1 nu1 => ?_⟩
    have t2 : Same _ (upd (upd H4 q1 (.lst [.str (roomsL h.rooms)])) u1 (.lst ([.str (roomsL h.rooms)] ++ (h.doors.map doorL).map V.str))) := Same.new nu1
    refine ⟨_, rfl, u1, D2, _, _, rfl, rfl, upd_same, t2 _ _ (t1 _ _ hD2u), by rw [List.length_append, List.length_map, List.length_map, List.length_map, List.length_map]; show 1 + _ + _ ≤ _; omega, fun u2 nu2 => ?_⟩
    have t3 : Same _ (upd _ u2 (.lst ([.str (roomsL h.rooms)] ++ (h.doors.map doorL).map V.str ++ ((sortF h.floors).map floorL).map V.str))) := Same.new nu2
    refine ⟨_, rfl, by show 1 ≤ sizeLine; decide, fun u3 nu3 => ?_⟩
    have t4 : Same _ (upd _ u3 (.lst [.str cr])) := Same.new nu3
    refine ⟨u2, u3, _, _, rfl, rfl, t4 _ _ upd_same, upd_same, by rw [List.length_append, List.length_append, List.length_map, List.length_map, List.length_map, List.length_map]; show 1 + _ + _ + 1 ≤ _; omega, fun u4 nu4 => ?_⟩
    have t5 : Same _ (upd _ u4 (.lst ([.str (roomsL h.rooms)] ++ (h.doors.map doorL).map V.str ++ ((sortF h.floors).map floorL).map V.str ++ [.str cr]))) := Same.new nu4
    have el : [V.str (roomsL h.rooms)] ++ (h.doors.map doorL).map V.str ++ ((sortF h.floors).map floorL).map V.str ++ [.str cr] = (linesH h).map V.str := by
      rw [← ecr]
      simp [linesH, cradlesL]
    refine ⟨"\n", u4, linesH h, rfl, rfl, .inl (SqL.of (by rw [upd_same]; exact congrArg (fun z => some (HO.lst z)) el)), ?_, k _ (s1u.trans (t1.trans (t2.trans (t3.trans (t4.trans t5)))))⟩
    have all : ∀ y ∈ linesH h, y.length ≤ 1000 := fun y hy => by
      unfold linesH at hy
      rw [show cradlesL (sortI h.cradles) = cr from ecr] at hy
      simp only [List.mem_cons, List.mem_append, List.mem_map, List.not_mem_nil, or_false] at hy
      rcases hy with rfl | ⟨x, hx, rfl⟩ | ⟨x, hx, rfl⟩ | rfl
      · omega
      · obtain ⟨⟨a0, a1⟩, ⟨b0, b1⟩, n1⟩ := fw.d x hx
        have ia := int_short a0 (show x.1 ≤ 99 by omega)
        have ib := int_short b0 (show x.2.1 ≤ 99 by omega)
        have iz : (nzT x.2.2).length ≤ 8 := by
          cases e : x.2.2 with
          | none => decide
          | some w => exact eight_len w (n1 w e)
        unfold doorL tI
        simp only [Str.length_append, l1, l4, l5]
        omega
      · obtain ⟨⟨f0, f1⟩, f2⟩ := fw.f x ((sortF_perm _).mem_iff.mp hx)
        have iy := int_short f0 (show x.1 ≤ 99 by omega)
        have ly := eight_len _ f2
        unfold floorL tI
        simp only [Str.length_append, l2, l4, l5]
        omega
      · exact crl
    have sm := sum_le all
    have len : (linesH h).length = 1 + (h.doors.length + ((sortF h.floors).length + 1)) := by
      unfold linesH
      simp
      omega
    rw [len] at sm ⊢
    have l6 : ("\n" : Str).length = 1 := by decide +kernel
    rw [l6]
    omega
end
end Lw
set_option Elab.async false
set_option linter.all false
set_option maxRecDepth 100000
set_option maxHeartbeats 8000000
namespace Lw
open PySem PySem.Spec PyProof.Rows L2 Hb
theorem lits : ("stir " : Str).length = 5 ∧ (" doze " : Str).length = 6 ∧ (" near " : Str).length = 6 ∧ (" loud " : Str).length = 6 ∧ (" " : Str).length = 1 ∧ Str.empty.length = 0 := by decide +kernel
theorem sorts_short : ∀ x ∈ fourS, x.length ≤ 6 := by decide +kernel
theorem louds_short : ∀ x ∈ threeS, x.length ≤ 7 := by decide +kernel
def headT (z : Zz) : Str := (((((((Str.empty ++ "stir ") ++ ((toString z.stir : String) : Str)) ++ " doze ") ++ ((toString z.doze : String) : Str)) ++ " near ") ++ ((toString z.near : String) : Str)) ++ " loud ") ++ z.loud
def lineT (p : Str × Str) : Str := ((Str.empty ++ p.1) ++ " ") ++ p.2
def tLine : TE := fun σ H Q => tJs [tFmt (tVar 2), tC (.str " "), tFmt (tVar 3)] Str.empty σ H fun out H1 => Q (.str out) H1
def textT (z : Zz) : Str := Txt.join " " (headT z :: (sortP z.sorts).map lineT)
def spStrS (K : PySem.W.Frag) (C : Addr) : Sp := fun vs H Q _ => ∃ (p : Addr) (z : Zz), vs = [.ref p] ∧ SlpAt K C H p z ∧ Zin z ∧ z.stir ≤ 99 ∧ z.doze ≤ 99 ∧ z.near ≤ 99 ∧ ∀ H', Same H H' → Q (.str (textT z)) H'
section
variable {P : Program} {w : World} {K : PySem.W.Frag} {mg : Str → Option Value} {base : Heap}
theorem ok_strS {f : Addr} {fd : FuncData} (F : FunD K "__str__" "Sleeper.__str__" (defArgs s_Sleeper_str) (defBody s_Sleeper_str) (defScope s_Sleeper_str) [] [] f fd) (T : Tx K mg) : FnOk P w K mg base CX0 1 f fd ["self"] (spStrS K (He.ga K "Sleeper")) := by
  refine F.ok sc_Sleeper_str (fun vs H Q E h => ?_) fun cdv A outer s H vs Q E hr h => ?_
  · obtain ⟨p, z, rfl, _⟩ := h
    rfl
  · obtain ⟨p, z, rfl, hz, zi, b1, b2, b3, k⟩ := h
    suffices go : ∃ t, PSs (cxOf CX0 P w K mg base N_Sleeper_str "Sleeper.__str__" (defScope s_Sleeper_str) f cdv A outer s H E).nox (defBody s_Sleeper_str) t ∧ t { nx := fun _ H' => Q .non H', rt := Q } (start N_Sleeper_str [.ref p]) H by
      obtain ⟨t, h1, h2⟩ := go
      exact ⟨t, h1.nox, h2⟩
    refine ⟨_, (pss_cons (ps_set (i := 1) sc_Sleeper_str.nd rfl (Or.inl rfl) (L2.pe_joined (.cons pe_str (.cons (L2.pe_fmt (pe_fld (pv 0) rfl)) (.cons pe_str (.cons (L2.pe_fmt (pe_fld (pv 0) rfl)) (.cons pe_str (.cons (L2.pe_fmt (pe_fld (pv 0) rfl)) (.cons pe_str (.cons (L2.pe_fmt (pe_fld (pv 0) rfl)) .nil))))))))))
 (pss_one (ps_ret (pe_join pe_str (pe_op op_cat (pe_lst (pa_cons (pv 1) pa_nil)) (pe_lc (own := [("name", 2), ("sort", 3)]) (g := (gTup K 2 (gCons (gName 2) (gCons (gName 3) gNil)))) (by rfl) sc_Sleeper_str.nd (pi_tup (pe_fld (pv 0) rfl)) (blkOk_by (N := N_Sleeper_str) (sc := defScope s_Sleeper_str) (by decide +kernel)) (fun _ _ _ _ _ => (pg_tup (by rfl) (pgs_cons (pg_name (i := 2) sc_Sleeper_str.nd rfl (Or.inl rfl)) (pgs_cons (pg_name (i := 3) sc_Sleeper_str.nd rfl (Or.inl rfl)) pgs_nil)))) (fun _ _ _ _ _ => pts_nil) (fun _ _ _ _ _ => (L2.pe_joined (.cons (L2.pe_fmt (pv 2)) (.cons pe_str (.cons (L2.pe_fmt (pv 3)) .nil))))))))))), ?_⟩
    obtain ⟨dx, t, xs, hp, st, td⟩ := hz
    obtain ⟨l1, l2, l3, l4, l5, l6⟩ := lits
    have line := sizeLine_eq
    have i1 := int_short (Int.le_trans (by decide) zi.s1) b1
    have i2 := int_short (Int.le_trans (by decide) zi.d1) b2
    have i3 := int_short (Int.le_trans (by decide) zi.n1) b3
    have i4 := louds_short _ zi.lo
    have hl : (headT z).length ≤ 40 := by
      unfold headT
      simp only [Str.length_append, l1, l2, l3, l4, l6]
      omega
    refine ⟨_, rfl, by simp only [Str.length_append, l1, l6]; omega, ?_⟩
    refine ⟨_, rfl, p, _, dx, _, _, rfl, hp, T.cls_Sleeper, T.a_stir, rfl, .inr ⟨z.stir, rfl, i1.2, _, rfl, by simp only [Str.length_append, l1, l6]; omega, ?_⟩⟩
    refine ⟨_, rfl, by simp only [Str.length_append, l1, l2, l6]; omega, ?_⟩
    refine ⟨_, rfl, p, _, dx, _, _, rfl, hp, T.cls_Sleeper, T.a_doze, rfl, .inr ⟨z.doze, rfl, i2.2, _, rfl, by simp only [Str.length_append, l1, l2, l6]; omega, ?_⟩⟩
    refine ⟨_, rfl, by simp only [Str.length_append, l1, l2, l3, l6]; omega, ?_⟩
    refine ⟨_, rfl, p, _, dx, _, _, rfl, hp, T.cls_Sleeper, T.a_near, rfl, .inr ⟨z.near, rfl, i3.2, _, rfl, by simp only [Str.length_append, l1, l2, l3, l6]; omega, ?_⟩⟩
    refine ⟨_, rfl, by simp only [Str.length_append, l1, l2, l3, l4, l6]; omega, ?_⟩
    refine ⟨_, rfl, p, _, dx, _, _, rfl, hp, T.cls_Sleeper, T.a_loud, rfl, .inl ⟨z.loud, rfl, by omega, _, rfl, by simp only [Str.length_append, l1, l2, l3, l4, l6]; omega, ?_⟩⟩
    have line_le : ∀ p ∈ sortP z.sorts, p.1.length ≤ 4 ∧ p.2.length ≤ 6 := fun p hp => by
      have h := zi.ok p ((sortP_perm _).mem_iff.mp hp)
      exact ⟨name_short h.1, sorts_short _ h.2⟩
    have lens : ∀ y ∈ headT z :: (sortP z.sorts).map lineT, y.length ≤ 40 := fun y hy => by
      rcases List.mem_cons.mp hy with rfl | hy
      · exact hl
      · obtain ⟨p, hp, rfl⟩ := List.mem_map.mp hy
        have h := line_le p hp
        unfold lineT
        simp only [Str.length_append, l5, l6]
        omega
    have cnt : (sortP z.sorts).length ≤ 100 := by rw [(sortP_perm _).length_eq]; exact zi.few
    have xl : xs.length = (sortP z.sorts).length := by rw [td.length, List.length_map]
    change tJs [] (headT z) _ H _
    generalize eT : headT z = hT at lens ⊢
    dsimp only [tJs]
    refine ⟨⟨_, rfl⟩, _, rfl, by show 1 ≤ sizeLine; decide, fun q nq => ?_⟩
    have s1 : Same H (upd H q (.lst [.str (hT)])) := Same.new nq
    refine ⟨_, rfl, p, _, dx, _, _, rfl, s1 _ _ hp, T.cls_Sleeper, T.a_sorts, rfl, t, rfl, ⟨_, SqT.keep (Same.tk s1) st⟩, fun D nD => lc_tup (g := gTup K 2 (gCons (gName 2) (gCons (gName 3) gNil))) (tt := tYes) (te := tLine) (vs := [2, 3]) (xs := xs) (fun i H' => H' = upd (upd H q (.lst [.str (hT)])) D (.lst ((((sortP z.sorts).take i).map lineT).map V.str))) rfl (fun i H' _ e => by rw [e]; exact SqT.keep (Same.tk (s1.trans (Same.new nD))) st) (fun i x H' hx e => ?_) (fun H' e => ?_)⟩
    · subst e
      have s2 : Same H (upd (upd H q (.lst [.str (hT)])) D (.lst ((((sortP z.sorts).take i).map lineT).map V.str))) := s1.trans (Same.new nD)
      obtain ⟨q', pr, rfl, hpr, hq⟩ := pair_at (TDs.keep (Same.tk s2) td) hx
      have hle := line_le pr (List.mem_of_getElem? hpr)
      refine ⟨q', _, rfl, hq, rfl, _, _, rfl, _, _, rfl, rfl, rfl, yes_ ⟨_, rfl, .inl ⟨pr.1, rfl, by omega, _, rfl, by simp only [Str.length_append, l6]; omega, ?_⟩⟩⟩
      refine ⟨_, rfl, by simp only [Str.length_append, l5, l6]; omega, _, rfl, .inl ⟨pr.2, rfl, by omega, _, rfl, by simp only [Str.length_append, l5, l6]; omega, _, upd_same, ?_, ?_⟩⟩
      · rw [List.length_map, List.length_map, List.length_take]
        omega
      · rw [upd_upd]
        show upd _ D _ = upd _ D _
        rw [List.take_add_one, hpr]
        simp [lineT]
    · subst e
      rw [xl, List.take_length]
      have s2 : Same H (upd (upd H q (.lst [.str (hT)])) D (.lst (((sortP z.sorts).map lineT).map V.str))) := s1.trans (Same.new nD)
      refine ⟨q, D, _, _, rfl, rfl, (Same.new nD) _ _ upd_same, upd_same, by rw [List.length_map, List.length_map]; show 1 + _ ≤ _; omega, fun u nu => ?_⟩
      have s3 := s2.trans (Same.new nu (o := .lst ([.str (hT)] ++ ((sortP z.sorts).map lineT).map V.str)))
      refine ⟨" ", u, hT :: (sortP z.sorts).map lineT, rfl, rfl, .inl (SqL.of upd_same), ?_, ?_⟩
      · have sm := sum_le lens
        rw [List.length_cons, List.length_map] at sm
        show _ + (_ :: (sortP z.sorts).map lineT).length * (" " : Str).length ≤ _
        rw [l5, List.length_cons, List.length_map]
        omega
      · have k2 := k _ s3
        unfold textT at k2
        rw [eT] at k2
        exact k2
end
end Lw
set_option Elab.async false
set_option linter.all false
set_option maxRecDepth 100000
set_option maxHeartbeats 8000000
namespace Lw
open PySem PySem.Spec PyProof.Rows L2 Hb
/-! ### what stays: tuples, instances -/
structure IK (H H' : Hp) : Prop where
  tk : TK H H'
  ins : ∀ b C dx fs, H b = some (.ins C dx fs) → H' b = some (.ins C dx fs)
theorem IK.refl (H : Hp) : IK H H := ⟨TK.refl H, fun _ _ _ _ e => e⟩
theorem IK.trans {H H1 H2 : Hp} (a : IK H H1) (b : IK H1 H2) : IK H H2 := ⟨a.tk.trans b.tk, fun c C dx fs e => b.ins c C dx fs (a.ins c C dx fs e)⟩
theorem IK.same {H H' : Hp} (s : Same H H') : IK H H' := ⟨Same.tk s, fun b C dx fs e => s b _ e⟩
theorem IK.kp {d g : Addr} {H H' : Hp} (dl : Deal d g H) (k : Kp d g H H') : IK H H' := ⟨dl.tk k, fun b C dx fs e => k b _ (dl.ne_d e (by intro kvs q; cases q)) (dl.ne_g e (by intro xs q; cases q)) e⟩
theorem IK.lst {H : Hp} {q : Addr} {xs ys : List V} (e : H q = some (.lst xs)) : IK H (upd H q (.lst ys)) := ⟨tk_acc e, fun b C dx fs h => by rw [upd_ne (ne_of h e (by intro z; cases z))]; exact h⟩
theorem HAt.ik {K : PySem.W.Frag} {C : Addr} {H H' : Hp} {p : Addr} {h : Hz} (x : HAt K C H p h) (k : IK H H') : HAt K C H' p h := by
  have x2 := x
  obtain ⟨dx, a, b, c, xs, ys, h1, _⟩ := x2
  exact x.keep k.tk fun o e => by rw [h1] at e; cases e; exact k.ins _ _ _ _ h1
theorem SlpAt.ik {K : PySem.W.Frag} {C : Addr} {H H' : Hp} {p : Addr} {z : Zz} (x : SlpAt K C H p z) (k : IK H H') : SlpAt K C H' p z := by
  have x2 := x
  obtain ⟨dx, t, xs, h1, _⟩ := x2
  exact x.keep k.tk fun o e => by rw [h1] at e; cases e; exact k.ins _ _ _ _ h1
theorem WAt.ik {K : PySem.W.Frag} {C : Addr} {H H' : Hp} {m : Addr} {z : Wk} (x : WAt K C H m z) (k : IK H H') : WAt K C H' m z := by
  obtain ⟨dx, t, h1, h2⟩ := x
  exact ⟨dx, t, k.ins _ _ _ _ h1, SqT.keep k.tk h2⟩
theorem PlAt.ik {K : PySem.W.Frag} {C : Addr} {H H' : Hp} {p : Addr} {w : Wd} (y : PlAt K C H p w) (k : IK H H') : PlAt K C H' p w := by
  obtain ⟨dx, sv, pl, md, xs, a, b, c, e, f⟩ := y
  exact ⟨dx, sv, pl, md, xs, k.ins _ _ _ _ a, b.keep k.tk, SqT.keep k.tk c, SqT.keep k.tk e, TDs.keep k.tk f⟩
/-! ### live houses -/
def lFs (hm sc pa : Addr) : List (Str × V) := [("own_house", .ref hm), ("scene", .ref sc), ("past", .ref pa)]
theorem keep_x {x : Addr} {H H' : Hp} {b C dx C2 dx2 : Addr} {fs fs2 : List (Str × V)} (k : KX x H H') (hx : H x = some (.ins C dx fs)) (hb : H b = some (.ins C2 dx2 fs2)) (ne : fs2 ≠ fs) : H' b = some (.ins C2 dx2 fs2) :=
  k b _ (fun e => by rw [e, hx] at hb; injection hb with hb; injection hb with _ _ e3; exact ne e3.symm) hb
theorem ne_lH {hm sc pa a b c : Addr} {h : Hz} : hFs a b c h ≠ lFs hm sc pa := fun e => by
  injection e with e _
  injection e with e _
  exact absurd e (by decide +kernel)
theorem ne_lS {hm sc pa t : Addr} {z : Zz} : slpFs t z ≠ lFs hm sc pa := fun e => by
  injection e with e _
  injection e with e _
  exact absurd e (by decide +kernel)
theorem ne_lW {hm sc pa t : Addr} {z : Wk} : wFs t z ≠ lFs hm sc pa := fun e => by
  injection e with e _
  injection e with e _
  exact absurd e (by decide +kernel)
theorem ne_lP {hm sc pa pl md : Addr} {sv : V} {tk : Int} {wk : Option Int} : pFs sv pl tk md wk ≠ lFs hm sc pa := fun e => by
  injection e with e _
  injection e with e _
  exact absurd e (by decide +kernel)
structure LvIs (K : PySem.W.Frag) (H : Hp) (x : Addr) (h : Hz) (z : Zz) (g n : Int) (f : Str) (es : List Ev) (dx hm sc pa zm wl pp : Addr) (ys : List V) : Prop where
  o : H x = some (.ins (He.ga K "Live") dx (lFs hm sc pa))
  hh : HAt K (He.ga K "House") H hm h
  sc : SqT K H sc [.ref zm, .ref wl, .ref pp]
  hz : SlpAt K (He.ga K "Sleeper") H zm z
  hw : WAt K (He.ga K "Walk") H wl ⟨g, n, f, es.map evT⟩
  hp : PlAt K (He.ga K "Played") H pp (runEv h z (wd0 z (g + n) f) es)
  pa : SqT K H pa ys
/-- a scene: its sleeper, its walk, what the walk led to -/
def ScAt (K : PySem.W.Frag) (H : Hp) (h : Hz) (g n : Int) (f : Str) (v : V) (c : Zz × List Ev) : Prop := ∃ a zm wl pp, v = .ref a ∧ SqT K H a [.ref zm, .ref wl, .ref pp] ∧ SlpAt K (He.ga K "Sleeper") H zm c.1 ∧ WAt K (He.ga K "Walk") H wl ⟨g, n, f, c.2.map evT⟩ ∧ PlAt K (He.ga K "Played") H pp (runEv h c.1 (wd0 c.1 (g + n) f) c.2)
inductive Scs (K : PySem.W.Frag) (H : Hp) (h : Hz) (g n : Int) (f : Str) : List V → List (Zz × List Ev) → Prop
  | nil : Scs K H h g n f [] []
  | cons {v : V} {vs : List V} {c : Zz × List Ev} {cs : List (Zz × List Ev)} : ScAt K H h g n f v c → Scs K H h g n f vs cs → Scs K H h g n f (v :: vs) (c :: cs)
section
variable {K : PySem.W.Frag} {H H' : Hp} {h : Hz} {g n : Int} {f : Str}
theorem Scs.nil_inv {vs : List V} (y : Scs K H h g n f vs []) : vs = [] := by
  cases y
  rfl
theorem Scs.cons_inv {vs : List V} {c : Zz × List Ev} {cs : List (Zz × List Ev)} (y : Scs K H h g n f vs (c :: cs)) : ∃ v ws, vs = v :: ws ∧ ScAt K H h g n f v c ∧ Scs K H h g n f ws cs := by
  cases y with
  | cons a b => exact ⟨_, _, rfl, a, b⟩
theorem Scs.map (k : ∀ v c, ScAt K H h g n f v c → ScAt K H' h g n f v c) : ∀ (cs : List (Zz × List Ev)) {vs : List V}, Scs K H h g n f vs cs → Scs K H' h g n f vs cs
  | [], vs, y => by
    obtain rfl := y.nil_inv
    exact .nil
  | c :: cs, vs, y => by
    obtain ⟨v, ws, rfl, a, b⟩ := y.cons_inv
    exact .cons (k _ _ a) (Scs.map k cs b)
theorem Scs.length : ∀ (cs : List (Zz × List Ev)) {vs : List V}, Scs K H h g n f vs cs → vs.length = cs.length
  | [], vs, y => by
    obtain rfl := y.nil_inv
    rfl
  | c :: cs, vs, y => by
    obtain ⟨v, ws, rfl, a, b⟩ := y.cons_inv
    rw [List.length_cons, List.length_cons, Scs.length cs b]
theorem Scs.app {v : V} {c : Zz × List Ev} (y : ScAt K H h g n f v c) : ∀ (cs : List (Zz × List Ev)) {vs : List V}, Scs K H h g n f vs cs → Scs K H h g n f (vs ++ [v]) (cs ++ [c])
  | [], vs, q => by
    obtain rfl := q.nil_inv
    exact .cons y .nil
  | x :: cs, vs, q => by
    obtain ⟨v, ws, rfl, a, b⟩ := q.cons_inv
    exact .cons a (Scs.app y cs b)
theorem Scs.back {c : Zz × List Ev} : ∀ (cs : List (Zz × List Ev)) {vs : List V}, Scs K H h g n f vs (cs ++ [c]) → ∃ ws v, vs = ws ++ [v] ∧ Scs K H h g n f ws cs ∧ ScAt K H h g n f v c
  | [], vs, q => by
    obtain ⟨v, ws, rfl, a, b⟩ := Scs.cons_inv q
    obtain rfl := b.nil_inv
    exact ⟨[], v, rfl, .nil, a⟩
  | x :: cs, vs, q => by
    obtain ⟨v, ws, rfl, a, b⟩ := Scs.cons_inv (cs := cs ++ [c]) q
    obtain ⟨us, u, rfl, y, z⟩ := Scs.back cs b
    exact ⟨v :: us, u, rfl, .cons a y, z⟩
end
theorem ScAt.ik {K : PySem.W.Frag} {H H' : Hp} {h : Hz} {g n : Int} {f : Str} {v : V} {c : Zz × List Ev} (y : ScAt K H h g n f v c) (k : IK H H') : ScAt K H' h g n f v c := by
  obtain ⟨a, zm, wl, pp, e, q, r, s, t⟩ := y
  exact ⟨a, zm, wl, pp, e, SqT.keep k.tk q, SlpAt.ik r k, WAt.ik s k, PlAt.ik t k⟩
/-- a live house, with the scenes that can be taken back to -/
def LvAt (K : PySem.W.Frag) (H : Hp) (x : Addr) (h : Hz) (z : Zz) (g n : Int) (f : Str) (es : List Ev) (m : List (Zz × List Ev)) : Prop := ∃ dx hm sc pa zm wl pp ys, LvIs K H x h z g n f es dx hm sc pa zm wl pp ys ∧ Scs K H h g n f ys m
structure LvOk (h : Hz) (z : Zz) (g n : Int) (f : Str) (es : List Ev) : Prop where
  wok : WkOk ⟨g, n, f, es.map evT⟩
  eok : ∀ e ∈ es, EvOk (g + n) e
  poss : Poss h z g (wd0 z (g + n) f) es
  dfew : h.doors.length ≤ 1000
  len : es.length ≤ 400
  sok : ∀ i, (runEv h z (wd0 z (g + n) f) (es.take i)).st.ok
theorem LvIs.ik {K : PySem.W.Frag} {H H' : Hp} {x : Addr} {h : Hz} {z : Zz} {g n : Int} {f : Str} {es : List Ev} {dx hm sc pa zm wl pp : Addr} {ys : List V} (y : LvIs K H x h z g n f es dx hm sc pa zm wl pp ys) (k : IK H H') : LvIs K H' x h z g n f es dx hm sc pa zm wl pp ys :=
  ⟨k.ins _ _ _ _ y.o, HAt.ik y.hh k, SqT.keep k.tk y.sc, SlpAt.ik y.hz k, WAt.ik y.hw k, PlAt.ik y.hp k, SqT.keep k.tk y.pa⟩
theorem LvAt.ik {K : PySem.W.Frag} {H H' : Hp} {x : Addr} {h : Hz} {z : Zz} {g n : Int} {f : Str} {es : List Ev} {m : List (Zz × List Ev)} (y : LvAt K H x h z g n f es m) (k : IK H H') : LvAt K H' x h z g n f es m := by
  obtain ⟨dx, hm, sc, pa, zm, wl, pp, ys, y, l⟩ := y
  exact ⟨dx, hm, sc, pa, zm, wl, pp, ys, y.ik k, Scs.map (fun _ _ q => q.ik k) _ l⟩
theorem LvAt.same {K : PySem.W.Frag} {H H' : Hp} {x : Addr} {h : Hz} {z : Zz} {g n : Int} {f : Str} {es : List Ev} {m : List (Zz × List Ev)} (y : LvAt K H x h z g n f es m) (s : Same H H') : LvAt K H' x h z g n f es m := y.ik (IK.same s)
/-- what stands beside a live house while it alone changes -/
theorem HAt.kxl {K : PySem.W.Frag} {C : Addr} {H H' : Hp} {p x CL dl hm sc pa : Addr} {h : Hz} (y : HAt K C H p h) (k : KX x H H') (hx : H x = some (.ins CL dl (lFs hm sc pa))) : HAt K C H' p h := by
  have y2 := y
  obtain ⟨dx, a, b, c, xs, ys, h1, _⟩ := y2
  exact y.keep (k.tk hx) fun o e => by rw [h1] at e; cases e; exact keep_x k hx h1 ne_lH
theorem SlpAt.kxl {K : PySem.W.Frag} {C : Addr} {H H' : Hp} {p x CL dl hm sc pa : Addr} {z : Zz} (y : SlpAt K C H p z) (k : KX x H H') (hx : H x = some (.ins CL dl (lFs hm sc pa))) : SlpAt K C H' p z := by
  have y2 := y
  obtain ⟨dx, t, xs, h1, _⟩ := y2
  exact y.keep (k.tk hx) fun o e => by rw [h1] at e; cases e; exact keep_x k hx h1 ne_lS
theorem WAt.kxl {K : PySem.W.Frag} {C : Addr} {H H' : Hp} {m x CL dl hm sc pa : Addr} {z : Wk} (y : WAt K C H m z) (k : KX x H H') (hx : H x = some (.ins CL dl (lFs hm sc pa))) : WAt K C H' m z := by
  obtain ⟨dx, t, h1, h2⟩ := y
  exact ⟨dx, t, keep_x k hx h1 ne_lW, SqT.keep (k.tk hx) h2⟩
theorem PlAt.kxl {K : PySem.W.Frag} {C : Addr} {H H' : Hp} {p x CL dl hm sc pa : Addr} {w : Wd} (y : PlAt K C H p w) (k : KX x H H') (hx : H x = some (.ins CL dl (lFs hm sc pa))) : PlAt K C H' p w := by
  obtain ⟨dx, sv, pl, md, xs, a, b, c, e, f⟩ := y
  have tk := k.tk hx
  exact ⟨dx, sv, pl, md, xs, keep_x k hx a ne_lP, b.keep tk, SqT.keep tk c, SqT.keep tk e, TDs.keep tk f⟩
theorem ScAt.kxl {K : PySem.W.Frag} {H H' : Hp} {h : Hz} {g n : Int} {f : Str} {v : V} {c : Zz × List Ev} {x CL dl hm sc pa : Addr} (y : ScAt K H h g n f v c) (k : KX x H H') (hx : H x = some (.ins CL dl (lFs hm sc pa))) : ScAt K H' h g n f v c := by
  obtain ⟨a, zm, wl, pp, e, q, r, s, t⟩ := y
  exact ⟨a, zm, wl, pp, e, SqT.keep (k.tk hx) q, SlpAt.kxl r k hx, WAt.kxl s k hx, PlAt.kxl t k hx⟩
theorem ScAt.same {K : PySem.W.Frag} {H H' : Hp} {h : Hz} {g n : Int} {f : Str} {v : V} {c : Zz × List Ev} (y : ScAt K H h g n f v c) (s : Same H H') : ScAt K H' h g n f v c := y.ik (IK.same s)
/-- another live house stays -/
theorem LvAt.kxl {K : PySem.W.Frag} {H H' : Hp} {x y : Addr} {h : Hz} {z : Zz} {g n : Int} {f : Str} {es : List Ev} {m : List (Zz × List Ev)} {CL dl hm sc pa : Addr} (v : LvAt K H y h z g n f es m) (k : KX x H H') (hx : H x = some (.ins CL dl (lFs hm sc pa))) (ne : y ≠ x) : LvAt K H' y h z g n f es m := by
  obtain ⟨dx2, hm2, sc2, pa2, zm, wl, pp, ys, v, l⟩ := v
  exact ⟨dx2, hm2, sc2, pa2, zm, wl, pp, ys, ⟨k _ _ ne v.o, HAt.kxl v.hh k hx, SqT.keep (k.tk hx) v.sc, SlpAt.kxl v.hz k hx, WAt.kxl v.hw k hx, PlAt.kxl v.hp k hx, SqT.keep (k.tk hx) v.pa⟩, Scs.map (fun _ _ q => q.kxl k hx) _ l⟩
def spLedOn (K : PySem.W.Frag) : Sp := fun vs H Q _ => ∃ (hm sc zm wl pp : Addr) (h : Hz) (z : Zz) (g n : Int) (f : Str) (es : List Ev) (e : Ev), vs = [.ref hm, .ref sc, .str (evT e)] ∧ HAt K (He.ga K "House") H hm h ∧ SqT K H sc [.ref zm, .ref wl, .ref pp] ∧ SlpAt K (He.ga K "Sleeper") H zm z ∧ WAt K (He.ga K "Walk") H wl ⟨g, n, f, es.map evT⟩ ∧
  LvOk h z g n f es ∧ LvOk h z g n f (es ++ [e]) ∧ ∀ H' t wl' pp', Same H H' → SqT K H' t [.ref zm, .ref wl', .ref pp'] → WAt K (He.ga K "Walk") H' wl' ⟨g, n, f, (es ++ [e]).map evT⟩ → PlAt K (He.ga K "Played") H' pp' (runEv h z (wd0 z (g + n) f) (es ++ [e])) → Q (.ref t) H'
def spLInit (K : PySem.W.Frag) : Sp := fun vs H Q _ => ∃ (x dx hm zm : Addr) (h : Hz) (z : Zz) (g n : Int) (f : Str), vs = [.ref x, .ref hm, .ref zm, .int g, .int n, .str f] ∧ H x = some (.ins (He.ga K "Live") dx []) ∧ HAt K (He.ga K "House") H hm h ∧ SlpAt K (He.ga K "Sleeper") H zm z ∧ LvOk h z g n f [] ∧
  ∀ H', KX x H H' → LvAt K H' x h z g n f [] [] → Q .non H'
def spLDo (K : PySem.W.Frag) : Sp := fun vs H Q _ => ∃ (x : Addr) (h : Hz) (z : Zz) (g n : Int) (f : Str) (es : List Ev) (m : List (Zz × List Ev)) (e : Ev), vs = [.ref x, .str (evT e)] ∧ LvAt K H x h z g n f es m ∧ m.length ≤ 1000 ∧ LvOk h z g n f es ∧ LvOk h z g n f (es ++ [e]) ∧
  ∀ H' v, KX x H H' → LvAt K H' x h z g n f (es ++ [e]) (m ++ [(z, es)]) → StAt K H' v (runEv h z (wd0 z (g + n) f) (es ++ [e])).st → Q v H'
def spBecome (K : PySem.W.Frag) : Sp := fun vs H Q _ => ∃ (x dx hm sc pa t : Addr) (ys : List V), vs = [.ref x, .ref t] ∧ H x = some (.ins (He.ga K "Live") dx (lFs hm sc pa)) ∧ SqT K H pa ys ∧ ys.length ≤ 1000 ∧
  ∀ H' pa', KX x H H' → H' x = some (.ins (He.ga K "Live") dx (lFs hm t pa')) → SqT K H' pa' (ys ++ [.ref sc]) → Q .non H'
/-- a property: what stands there -/
def spLProp (K : PySem.W.Frag) (A : Hp → Hz → Zz → Int → Int → Str → List Ev → Addr → Prop) : Sp := fun vs H Q _ => ∃ (x : Addr) (h : Hz) (z : Zz) (g n : Int) (f : Str) (es : List Ev) (m : List (Zz × List Ev)), vs = [.ref x] ∧ LvAt K H x h z g n f es m ∧ ∀ q, A H h z g n f es q → Q (.ref q) H
abbrev spLHouse (K : PySem.W.Frag) : Sp := spLProp K fun H h _ _ _ _ _ q => HAt K (He.ga K "House") H q h
abbrev spLSleeper (K : PySem.W.Frag) : Sp := spLProp K fun H _ z _ _ _ _ q => SlpAt K (He.ga K "Sleeper") H q z
abbrev spLWalk (K : PySem.W.Frag) : Sp := spLProp K fun H _ _ g n f es q => WAt K (He.ga K "Walk") H q ⟨g, n, f, es.map evT⟩
abbrev spLPlayed (K : PySem.W.Frag) : Sp := spLProp K fun H h z g n f es q => PlAt K (He.ga K "Played") H q (runEv h z (wd0 z (g + n) f) es)
def spLLen (K : PySem.W.Frag) : Sp := fun vs H Q _ => ∃ (x : Addr) (h : Hz) (z : Zz) (g n : Int) (f : Str) (es : List Ev) (m : List (Zz × List Ev)), vs = [.ref x] ∧ LvAt K H x h z g n f es m ∧ Q (.int (m.length : Nat)) H
section
variable {P : Program} {w : World} {K : PySem.W.Frag} {mg : Str → Option Value} {base : Heap}
theorem c_led_on (D : Df K mg "led_on" s_led_on) (T : Tx K mg) (c_further : C8.Met P w K mg base 6 (He.ga K "Walk") "further" (spFurther K (He.ga K "Walk")) []) (c_play : C8.Cal P w K mg base 8 "play" (spPlay K (He.ga K "Played") (He.ga K "House") (He.ga K "Sleeper") (He.ga K "Walk")) []) :
    C8.Cal P w K mg base 9 "led_on" (spLedOn K) [] := by
  refine cal_mk D sc_led_on bd_led_on (fun vs H Q E h => ?_) fun f cdv A outer s H vs Q E hr h => ?_
  · obtain ⟨hm, sc, zm, wl, pp, h, z, g, n, f, es, e, rfl, _⟩ := h
    rfl
  · obtain ⟨hm, sc, zm, wl, pp, h, z, g, n, fi, es, e, rfl, hh, hsc, hz, hw, ok0, ok, k⟩ := h
    refine ⟨_, (pss_cons (ps_asg (pv 1) (pg_tup (by rfl) (pgs_cons (pg_name (i := 3) sc_led_on.nd rfl (Or.inl rfl)) (pgs_cons (pg_name (i := 4) sc_led_on.nd rfl (Or.inl rfl)) (pgs_cons (pg_name (i := 5) sc_led_on.nd rfl (Or.inl rfl)) pgs_nil)))))
 (pss_cons (ps_set (i := 6) sc_led_on.nd rfl (Or.inl rfl) (C8.pe_mt c_further hr (by decide) (pv 4) (pa_cons (pe_lst (pa_cons (pv 2) pa_nil)) pa_nil)))
 (pss_one (ps_ret (pe_tup (pa_cons (pv 3) (pa_cons (pv 6) (pa_cons (C8.pe_c c_play hr (by decide) rfl (pa_cons (pv 0) (pa_cons (pv 3) (pa_cons (pv 6) pa_nil)))) pa_nil)))))))), ?_⟩
    refine ⟨_, rfl, sc, _, rfl, hsc, rfl, _, _, rfl, _, _, rfl, _, _, rfl, rfl, ?_⟩
    obtain ⟨dxw, tw, hwO, hwt⟩ := id hw
    have e3 : es.map evT ++ [evT e] = (es ++ [e]).map evT := by rw [List.map_append]; rfl
    refine ⟨_, rfl, wl, dxw, _, rfl, hwO, rfl, _, rfl, by show 1 ≤ sizeLine; decide, fun l nl => ?_⟩
    have sl : Same H (upd H l (.lst [.str (evT e)])) := Same.new nl
    refine ⟨wl, l, [evT e], ⟨g, n, fi, es.map evT⟩, rfl, hw.same sl, ok0.wok, .inl (SqL.of upd_same), by show WkOk ⟨g, n, fi, es.map evT ++ [evT e]⟩; rw [e3]; exact ok.wok, fun H1 wl2 s1 nwl2 hwl2 => ?_⟩
    have hwl3 : WAt K (He.ga K "Walk") H1 wl2 ⟨g, n, fi, (es ++ [e]).map evT⟩ := by
      have q : WAt K (He.ga K "Walk") H1 wl2 ⟨g, n, fi, es.map evT ++ [evT e]⟩ := hwl2
      rw [e3] at q
      exact q
    have s01 := sl.trans s1
    refine ⟨_, rfl, _, rfl, _, rfl, _, rfl, _, rfl, hm, zm, wl2, h, z, g, n, fi, es ++ [e], rfl, hh.same s01, hz.same s01, hwl3, ok.wok, ok.eok, ok.poss, ok.dfew, ok.len, ok.sok, fun H2 pp2 s2 np2 hp2 => ?_⟩
    refine ⟨by show 3 ≤ sizeLine; decide, fun t nt => ?_⟩
    have s3 : Same H2 (upd H2 t (.tup [.ref zm, .ref wl2, .ref pp2])) := Same.new nt
    exact k _ t wl2 pp2 ((s01.trans s2).trans s3) (SqT.of upd_same) (hwl3.same (s2.trans s3)) (hp2.same s3)
theorem m_Live_mk (D : Df1 K mg "Live" "Live.__init__" s_Live_init) (T : Tx K mg) (m_Walk0 : C8.Mak P w K mg base 4 "Walk" (He.ga K "Walk") (spWInit K (He.ga K "Walk")) [.ref (dflW K)]) (c_play : C8.Cal P w K mg base 8 "play" (spPlay K (He.ga K "Played") (He.ga K "House") (He.ga K "Sleeper") (He.ga K "Walk")) []) :
    C8.Mak P w K mg base 9 "Live" (He.ga K "Live") (spLInit K) [] := by
  refine mak_mk D sc_Live_init bd_Live_init (fun vs H Q E h => ?_) fun f cdv A outer s H vs Q E hr h => ?_
  · obtain ⟨x, dx, hm, zm, h, z, g, n, f, rfl, _⟩ := h
    rfl
  · obtain ⟨x, dx, hm, zm, h, z, g, n, fi, rfl, hx, hh, hz, ok, k⟩ := h
    refine ⟨_, (pss_cons (ps_set (i := 6) sc_Live_init.nd rfl (Or.inl rfl) (C8.pe_mk m_Walk0 hr (by decide) rfl (pa_cons (pv 3) (pa_cons (pv 4) (pa_cons (pv 5) pa_nil)))))
 (pss_cons (ps_fld (pv 0) (pv 1) rfl)
 (pss_cons (ps_fld (pv 0) (pe_tup (pa_cons (pv 2) (pa_cons (pv 6) (pa_cons (C8.pe_c c_play hr (by decide) rfl (pa_cons (pv 1) (pa_cons (pv 2) (pa_cons (pv 6) pa_nil)))) pa_nil)))) rfl)
 (pss_one (ps_fld (pv 0) (pe_tup pa_nil) rfl))))), ?_⟩
    refine ⟨_, rfl, _, rfl, _, rfl, fun wl dw nw ndw ne => ?_⟩
    refine mk_W (z := ⟨g, n, fi, []⟩) (r := dflW K) (.inr (T.d_0 _)) ok.wok nw ndw ne fun H1 s1 hw => ⟨rfl, ?_⟩
    have hx1 := s1 _ _ hx
    have wlx : wl ≠ x := fun e => by rw [e, hx] at nw; cases nw
    refine ⟨_, rfl, _, rfl, x, _, dx, [], rfl, hx1, T.cls_Live, T.l_own_house, by decide, ?_⟩
    have kx1 : KX x H (upd H1 x (.ins (He.ga K "Live") dx (putF "own_house" (.ref hm) []))) := (Hb.Same.kx s1).trans KX.put
    have tk2 : TK H1 (upd H1 x (.ins (He.ga K "Live") dx (putF "own_house" (.ref hm) []))) := KX.tk KX.put hx1
    have stay : ∀ {b C2 d2 : Addr} {fs : List (Str × V)}, fs ≠ [] → H1 b = some (.ins C2 d2 fs) → upd H1 x (.ins (He.ga K "Live") dx (putF "own_house" (.ref hm) [])) b = some (.ins C2 d2 fs) := fun {b C2 d2 fs} ne e => by
      rw [upd_ne (fun q => by rw [q, hx1] at e; injection e with e; injection e with _ _ e; exact ne e.symm)]
      exact e
    have hx2 : upd H1 x (.ins (He.ga K "Live") dx (putF "own_house" (.ref hm) [])) x = some (.ins (He.ga K "Live") dx [("own_house", .ref hm)]) := upd_same
    have hw2 : WAt K (He.ga K "Walk") (upd H1 x (.ins (He.ga K "Live") dx (putF "own_house" (.ref hm) []))) wl ⟨g, n, fi, []⟩ := by
      obtain ⟨a, b, c, e⟩ := hw
      exact ⟨a, b, stay (fun q => nomatch q) c, SqT.keep tk2 e⟩
    have hh2 : HAt K (He.ga K "House") (upd H1 x (.ins (He.ga K "Live") dx (putF "own_house" (.ref hm) []))) hm h := by
      have y := hh.same s1
      have y2 := y
      obtain ⟨dh, a, b, c, xs, ys, h1, _⟩ := y2
      exact y.keep tk2 fun o e => by rw [h1] at e; cases e; exact stay (fun q => nomatch q) h1
    have hz2 : SlpAt K (He.ga K "Sleeper") (upd H1 x (.ins (He.ga K "Live") dx (putF "own_house" (.ref hm) []))) zm z := by
      have y := hz.same s1
      have y2 := y
      obtain ⟨dh, t, xs, h1, _⟩ := y2
      exact y.keep tk2 fun o e => by rw [h1] at e; cases e; exact stay (fun q => nomatch q) h1
    generalize upd H1 x (.ins (He.ga K "Live") dx (putF "own_house" (.ref hm) [])) = H2 at kx1 hx2 hw2 hh2 hz2 ⊢
    clear tk2 stay hw hx1 s1
    refine ⟨_, rfl, _, rfl, _, rfl, _, rfl, _, rfl, hm, zm, wl, h, z, g, n, fi, [], rfl, hh2, hz2, hw2, ok.wok, ok.eok, ok.poss, ok.dfew, ok.len, ok.sok, fun H3 pp s3 np3 hp3 => ?_⟩
    refine ⟨by show 3 ≤ sizeLine; decide, fun sc nsc => ?_⟩
    have s4 : Same H3 (upd H3 sc (.tup [.ref zm, .ref wl, .ref pp])) := Same.new nsc
    have hsc : upd H3 sc (.tup [.ref zm, .ref wl, .ref pp]) sc = some (.tup [.ref zm, .ref wl, .ref pp]) := upd_same
    have s34 := s3.trans s4
    have hp4 := hp3.same s4
    generalize upd H3 sc (.tup [.ref zm, .ref wl, .ref pp]) = H4 at hsc s34 hp4 ⊢
    refine ⟨_, rfl, x, _, dx, _, rfl, s34 _ _ hx2, T.cls_Live, T.l_scene, by show 1 < 1000; decide, ?_⟩
    have hx4 := s34 _ _ hx2
    have kx5 : KX x H4 (upd H4 x (.ins (He.ga K "Live") dx (putF "scene" (.ref sc) [("own_house", .ref hm)]))) := KX.put
    have hx5 : upd H4 x (.ins (He.ga K "Live") dx (putF "scene" (.ref sc) [("own_house", .ref hm)])) x = some (.ins (He.ga K "Live") dx [("own_house", .ref hm), ("scene", .ref sc)]) := upd_same
    generalize upd H4 x (.ins (He.ga K "Live") dx (putF "scene" (.ref sc) [("own_house", .ref hm)])) = H5 at kx5 hx5 ⊢
    refine ⟨Nat.zero_le _, fun pa npa => ?_⟩
    have s6 : Same H5 (upd H5 pa (.tup [])) := Same.new npa
    refine ⟨_, rfl, x, _, dx, _, rfl, s6 _ _ hx5, T.cls_Live, T.l_past, by show 2 < 1000; decide, ?_⟩
    have pax : pa ≠ x := fun e => by rw [e, hx5] at npa; cases npa
    have kx7 : KX x H4 (upd (upd H5 pa (.tup [])) x (.ins (He.ga K "Live") dx (putF "past" (.ref pa) [("own_house", .ref hm), ("scene", .ref sc)]))) := (kx5.trans (Hb.Same.kx s6)).trans KX.put
    have tk7 := kx7.tk hx4
    have hx7 : upd (upd H5 pa (.tup [])) x (.ins (He.ga K "Live") dx (putF "past" (.ref pa) [("own_house", .ref hm), ("scene", .ref sc)])) x = some (.ins (He.ga K "Live") dx (lFs hm sc pa)) := upd_same
    have hh4 := hh2.same s34
    have hz4 := hz2.same s34
    have hw4 := hw2.same s34
    refine k _ ((kx1.trans (Hb.Same.kx s34)).trans kx7) ⟨dx, hm, sc, pa, zm, wl, pp, [], ⟨hx7, ?_, SqT.keep tk7 (SqT.of hsc), ?_, ?_, ?_, ?_⟩, .nil⟩
    · have y2 := hh4
      obtain ⟨dh, a, b, c, xs, ys, h1, _⟩ := y2
      exact hh4.keep tk7 fun o e => by rw [h1] at e; cases e; exact keep_x kx7 hx4 h1 (fun e => nomatch (congrArg List.length e))
    · have y2 := hz4
      obtain ⟨dh, t, xs, h1, _⟩ := y2
      exact hz4.keep tk7 fun o e => by rw [h1] at e; cases e; exact keep_x kx7 hx4 h1 (fun e => nomatch (congrArg List.length e))
    · obtain ⟨a, b, c, e⟩ := hw4
      exact ⟨a, b, keep_x kx7 hx4 c (fun e => nomatch (congrArg List.length e)), SqT.keep tk7 e⟩
    · obtain ⟨a, sv, pl, md, xs, b, c, e, i, j⟩ := hp4
      exact ⟨a, sv, pl, md, xs, keep_x kx7 hx4 b (fun e => nomatch (congrArg List.length e)), c.keep tk7, SqT.keep tk7 e, SqT.keep tk7 i, TDs.keep tk7 j⟩
    · refine SqT.of ?_
      rw [upd_ne pax]
      exact upd_same
theorem ok_become {f : Addr} {fd : FuncData} (F : FunD K "become" "Live.become" (defArgs s_Live_become) (defBody s_Live_become) (defScope s_Live_become) [] [] f fd) (T : Tx K mg) : FnOk P w K mg base CX0 1 f fd ["self", "scene"] (spBecome K) := by
  refine F.ok sc_Live_become (fun vs H Q E h => ?_) fun cdv A outer s H vs Q E hr h => ?_
  · obtain ⟨x, dx, hm, sc, pa, t, ys, rfl, _⟩ := h
    rfl
  · obtain ⟨x, dx, hm, sc, pa, t, ys, rfl, hx, hpa, few, k⟩ := h
    have line := sizeLine_eq
    suffices go : ∃ t', PSs (cxOf CX0 P w K mg base N_Live_become "Live.become" (defScope s_Live_become) f cdv A outer s H E).nox (defBody s_Live_become) t' ∧ t' { nx := fun _ H' => Q .non H', rt := Q } (start N_Live_become [.ref x, .ref t]) H by
      obtain ⟨t', h1, h2⟩ := go
      exact ⟨t', h1.nox, h2⟩
    refine ⟨_, (pss_cons (ps_fld (pv 0) (pe_op op_catA (pe_fld (pv 0) rfl) (pe_tup (pa_cons (pe_fld (pv 0) rfl) pa_nil))) rfl)
 (pss_one (ps_fld (pv 0) (pv 1) rfl))), ?_⟩
    refine ⟨_, rfl, x, _, dx, _, _, rfl, hx, T.cls_Live, T.l_past, rfl, _, rfl, x, _, dx, _, _, rfl, hx, T.cls_Live, T.l_scene, rfl, by show 1 ≤ sizeLine; decide, fun u nu => ?_⟩
    have su : Same H (upd H u (.tup [.ref sc])) := Same.new nu
    have hu1 : SqT K (upd H u (.tup [.ref sc])) u [.ref sc] := SqT.of upd_same
    generalize upd H u (.tup [.ref sc]) = H1 at su hu1 ⊢
    have last : ∀ (H2 : Hp) (r : Addr), Same H1 H2 → SqT K H2 r (ys ++ [.ref sc]) → Q .non (upd (upd H2 x (.ins (He.ga K "Live") dx (putF "past" (.ref r) (lFs hm sc pa)))) x (.ins (He.ga K "Live") dx (putF "scene" (.ref t) (lFs hm sc r)))) := fun H2 r s2 hr => by
      have hx2 := s2 _ _ (su _ _ hx)
      rw [upd_upd]
      have kx : KX x H2 (upd H2 x (.ins (He.ga K "Live") dx (putF "scene" (.ref t) (lFs hm sc r)))) := KX.put
      exact k _ r ((Hb.Same.kx (su.trans s2)).trans kx) upd_same (SqT.keep (kx.tk hx2) hr)
    have hpa1 := SqT.keep (Same.tk su) hpa
    refine ⟨pa, u, _, _, rfl, rfl, hpa1, hu1, by show ys.length + 1 ≤ sizeLine; omega, fun e0 => ?_, fun _ e1 => (nomatch e1), fun _ _ r nr => ?_⟩
    · refine ⟨_, rfl, x, _, dx, _, rfl, su _ _ hx, T.cls_Live, T.l_past, by show 3 < 1000; decide, ?_⟩
      refine ⟨_, rfl, _, rfl, x, _, dx, _, rfl, upd_same, T.cls_Live, T.l_scene, by show 3 < 1000; decide, ?_⟩
      exact last H1 u (Same.refl _) (by rw [e0]; exact hu1)
    · have sr : Same H1 (upd H1 r (.tup (ys ++ [.ref sc]))) := Same.new nr
      refine ⟨_, rfl, x, _, dx, _, rfl, sr _ _ (su _ _ hx), T.cls_Live, T.l_past, by show 3 < 1000; decide, ?_⟩
      refine ⟨_, rfl, _, rfl, x, _, dx, _, rfl, upd_same, T.cls_Live, T.l_scene, by show 3 < 1000; decide, ?_⟩
      exact last _ r sr (SqT.of upd_same)
theorem ok_do {f : Addr} {fd : FuncData} (F : FunD K "do" "Live.do" (defArgs s_Live_do) (defBody s_Live_do) (defScope s_Live_do) [] [] f fd) (T : Tx K mg) (c_led_on : C8.Cal P w K mg base 9 "led_on" (spLedOn K) []) (c_become : C8.Met P w K mg base 1 (He.ga K "Live") "become" (spBecome K) []) :
    FnOk P w K mg base CX0 10 f fd ["self", "event"] (spLDo K) := by
  refine F.ok sc_Live_do (fun vs H Q E h => ?_) fun cdv A outer s H vs Q E hr h => ?_
  · obtain ⟨x, h, z, g, n, f, es, m, e, rfl, _⟩ := h
    rfl
  · obtain ⟨x, h, z, g, n, fi, es, m, e, rfl, ⟨dx, hm, sc, pa, zm, wl, pp, ys, y, yl⟩, mfew, ok0, ok, k⟩ := h
    suffices go : ∃ t', PSs (cxOf CX0 P w K mg base N_Live_do "Live.do" (defScope s_Live_do) f cdv A outer s H E).nox (defBody s_Live_do) t' ∧ t' { nx := fun _ H' => Q .non H', rt := Q } (start N_Live_do [.ref x, .str (evT e)]) H by
      obtain ⟨t', h1, h2⟩ := go
      exact ⟨t', h1.nox, h2⟩
    refine ⟨_, (pss_cons (ps_set (i := 2) sc_Live_do.nd rfl (Or.inl rfl) (C8.pe_c c_led_on hr (by decide) rfl (pa_cons (pe_fld (pv 0) rfl) (pa_cons (pe_fld (pv 0) rfl) (pa_cons (pv 1) pa_nil)))))
 (pss_cons (ps_expr (C8.pe_mt c_become hr (by decide) (pv 0) (pa_cons (pv 2) pa_nil)))
 (pss_one (ps_ret (pe_fld (pe_ix ix_tup (pv 2) pe_int (fun _ _ => rfl)) rfl))))), ?_⟩
    refine ⟨_, rfl, x, _, dx, _, _, rfl, y.o, T.cls_Live, T.l_own_house, rfl, _, rfl, x, _, dx, _, _, rfl, y.o, T.cls_Live, T.l_scene, rfl, _, rfl, hm, sc, zm, wl, pp, h, z, g, n, fi, es, e, rfl, y.hh, y.sc, y.hz, y.hw, ok0, ok, fun H1 t wl2 pp2 s1 ht hw2 hp2 => ?_⟩
    have hx1 := s1 _ _ y.o
    refine ⟨_, rfl, x, dx, _, rfl, hx1, rfl, _, rfl, x, dx, hm, sc, pa, t, ys, rfl, hx1, SqT.keep (Same.tk s1) y.pa, by have := Scs.length _ yl; omega, fun H2 pa2 kx hx2 hpa2 => ?_⟩
    have tk2 := kx.tk hx1
    have hp3 := PlAt.kxl hp2 kx hx1
    have hw3 := WAt.kxl hw2 kx hx1
    have ht2 := SqT.keep tk2 ht
    obtain ⟨dp, sv, pl, md, xs, hpO, hps, hpr⟩ := id hp3
    refine ⟨_, rfl, t, _, 2, _, rfl, rfl, ht2, rfl, pp2, _, dp, _, _, rfl, hpO, T.cls_Played, T.p_state, rfl, ?_⟩
    exact k H2 sv ((Hb.Same.kx s1).trans kx) ⟨dx, hm, t, pa2, zm, wl2, pp2, ys ++ [.ref sc], ⟨hx2, HAt.kxl (y.hh.same s1) kx hx1, ht2, SlpAt.kxl (y.hz.same s1) kx hx1, hw3, hp3, hpa2⟩, Scs.app (ScAt.kxl (ScAt.same ⟨sc, zm, wl, pp, rfl, y.sc, y.hz, y.hw, y.hp⟩ s1) kx hx1) _ (Scs.map (fun _ _ q => ScAt.kxl (q.same s1) kx hx1) _ yl)⟩ hps
theorem ok_house {f : Addr} {fd : FuncData} (F : FunD K "house" "Live.house" (defArgs s_Live_house) (defBody s_Live_house) (defScope s_Live_house) [] [] f fd) (T : Tx K mg) : FnOk P w K mg base CX0 1 f fd ["self"] (spLHouse K) := by
  refine F.ok sc_Live_house (fun vs H Q E h => ?_) fun cdv A outer s H vs Q E hr h => ?_
  · obtain ⟨x, h, z, g, n, f, es, m, rfl, _⟩ := h
    rfl
  · obtain ⟨x, h, z, g, n, fi, es, m, rfl, ⟨dx, hm, sc, pa, zm, wl, pp, ys, y, yl⟩, k⟩ := h
    suffices go : ∃ t', PSs (cxOf CX0 P w K mg base N_Live_house "Live.house" (defScope s_Live_house) f cdv A outer s H E).nox (defBody s_Live_house) t' ∧ t' { nx := fun _ H' => Q .non H', rt := Q } (start N_Live_house [.ref x]) H by
      obtain ⟨t', h1, h2⟩ := go
      exact ⟨t', h1.nox, h2⟩
    refine ⟨_, (pss_one (ps_ret (pe_fld (pv 0) rfl))), ?_⟩
    exact ⟨_, rfl, x, _, dx, _, _, rfl, y.o, T.cls_Live, T.l_own_house, rfl, k hm y.hh⟩
theorem ok_sleeper {f : Addr} {fd : FuncData} (F : FunD K "sleeper" "Live.sleeper" (defArgs s_Live_sleeper) (defBody s_Live_sleeper) (defScope s_Live_sleeper) [] [] f fd) (T : Tx K mg) : FnOk P w K mg base CX0 1 f fd ["self"] (spLSleeper K) := by
  refine F.ok sc_Live_sleeper (fun vs H Q E h => ?_) fun cdv A outer s H vs Q E hr h => ?_
  · obtain ⟨x, h, z, g, n, f, es, m, rfl, _⟩ := h
    rfl
  · obtain ⟨x, h, z, g, n, fi, es, m, rfl, ⟨dx, hm, sc, pa, zm, wl, pp, ys, y, yl⟩, k⟩ := h
    suffices go : ∃ t', PSs (cxOf CX0 P w K mg base N_Live_sleeper "Live.sleeper" (defScope s_Live_sleeper) f cdv A outer s H E).nox (defBody s_Live_sleeper) t' ∧ t' { nx := fun _ H' => Q .non H', rt := Q } (start N_Live_sleeper [.ref x]) H by
      obtain ⟨t', h1, h2⟩ := go
      exact ⟨t', h1.nox, h2⟩
    refine ⟨_, (pss_one (ps_ret (pe_ix ix_tup (pe_fld (pv 0) rfl) pe_int (fun _ _ => rfl)))), ?_⟩
    exact ⟨_, rfl, x, _, dx, _, _, rfl, y.o, T.cls_Live, T.l_scene, rfl, sc, _, 0, _, rfl, rfl, y.sc, rfl, k zm y.hz⟩
theorem ok_walk {f : Addr} {fd : FuncData} (F : FunD K "walk" "Live.walk" (defArgs s_Live_walk) (defBody s_Live_walk) (defScope s_Live_walk) [] [] f fd) (T : Tx K mg) : FnOk P w K mg base CX0 1 f fd ["self"] (spLWalk K) := by
  refine F.ok sc_Live_walk (fun vs H Q E h => ?_) fun cdv A outer s H vs Q E hr h => ?_
  · obtain ⟨x, h, z, g, n, f, es, m, rfl, _⟩ := h
    rfl
  · obtain ⟨x, h, z, g, n, fi, es, m, rfl, ⟨dx, hm, sc, pa, zm, wl, pp, ys, y, yl⟩, k⟩ := h
    suffices go : ∃ t', PSs (cxOf CX0 P w K mg base N_Live_walk "Live.walk" (defScope s_Live_walk) f cdv A outer s H E).nox (defBody s_Live_walk) t' ∧ t' { nx := fun _ H' => Q .non H', rt := Q } (start N_Live_walk [.ref x]) H by
      obtain ⟨t', h1, h2⟩ := go
      exact ⟨t', h1.nox, h2⟩
    refine ⟨_, (pss_one (ps_ret (pe_ix ix_tup (pe_fld (pv 0) rfl) pe_int (fun _ _ => rfl)))), ?_⟩
    exact ⟨_, rfl, x, _, dx, _, _, rfl, y.o, T.cls_Live, T.l_scene, rfl, sc, _, 1, _, rfl, rfl, y.sc, rfl, k wl y.hw⟩
theorem ok_played {f : Addr} {fd : FuncData} (F : FunD K "played" "Live.played" (defArgs s_Live_played) (defBody s_Live_played) (defScope s_Live_played) [] [] f fd) (T : Tx K mg) : FnOk P w K mg base CX0 1 f fd ["self"] (spLPlayed K) := by
  refine F.ok sc_Live_played (fun vs H Q E h => ?_) fun cdv A outer s H vs Q E hr h => ?_
  · obtain ⟨x, h, z, g, n, f, es, m, rfl, _⟩ := h
    rfl
  · obtain ⟨x, h, z, g, n, fi, es, m, rfl, ⟨dx, hm, sc, pa, zm, wl, pp, ys, y, yl⟩, k⟩ := h
    suffices go : ∃ t', PSs (cxOf CX0 P w K mg base N_Live_played "Live.played" (defScope s_Live_played) f cdv A outer s H E).nox (defBody s_Live_played) t' ∧ t' { nx := fun _ H' => Q .non H', rt := Q } (start N_Live_played [.ref x]) H by
      obtain ⟨t', h1, h2⟩ := go
      exact ⟨t', h1.nox, h2⟩
    refine ⟨_, (pss_one (ps_ret (pe_ix ix_tup (pe_fld (pv 0) rfl) pe_int (fun _ _ => rfl)))), ?_⟩
    exact ⟨_, rfl, x, _, dx, _, _, rfl, y.o, T.cls_Live, T.l_scene, rfl, sc, _, 2, _, rfl, rfl, y.sc, rfl, k pp y.hp⟩
theorem ok_llen {f : Addr} {fd : FuncData} (F : FunD K "__len__" "Live.__len__" (defArgs s_Live_len) (defBody s_Live_len) (defScope s_Live_len) [] [] f fd) (T : Tx K mg) : FnOk P w K mg base CX0 1 f fd ["self"] (spLLen K) := by
  refine F.ok sc_Live_len (fun vs H Q E h => ?_) fun cdv A outer s H vs Q E hr h => ?_
  · obtain ⟨x, h, z, g, n, f, es, m, rfl, _⟩ := h
    rfl
  · obtain ⟨x, h, z, g, n, fi, es, m, rfl, ⟨dx, hm, sc, pa, zm, wl, pp, ys, y, yl⟩, k⟩ := h
    suffices go : ∃ t', PSs (cxOf CX0 P w K mg base N_Live_len "Live.__len__" (defScope s_Live_len) f cdv A outer s H E).nox (defBody s_Live_len) t' ∧ t' { nx := fun _ H' => Q .non H', rt := Q } (start N_Live_len [.ref x]) H by
      obtain ⟨t', h1, h2⟩ := go
      exact ⟨t', h1.nox, h2⟩
    refine ⟨_, (pss_one (ps_ret (pe_callB call_len (by rfl) T.n_len (by decide +kernel) (pa_cons (pe_fld (pv 0) rfl) pa_nil)))), ?_⟩
    exact ⟨_, rfl, x, _, dx, _, _, rfl, y.o, T.cls_Live, T.l_past, rfl, _, _, rfl, .inr ⟨_, y.pa, (Scs.length _ yl).symm⟩, k⟩
end
end Lw
set_option Elab.async false
set_option linter.all false
set_option maxRecDepth 100000
set_option maxHeartbeats 8000000
namespace Lw
open PySem PySem.Spec PyProof.Rows L2 Hb
def spSeveral (K : PySem.W.Frag) : Sp := fun vs H Q _ => ∃ (x l : Addr) (h : Hz) (z : Zz) (g n : Int) (f : Str) (es fs : List Ev) (m : List (Zz × List Ev)), vs = [.ref x, .ref l] ∧ LvAt K H x h z g n f es m ∧ H l = some (.lst ((fs.map evT).map V.str)) ∧ m.length ≤ 1000 ∧ fs.length ≤ 400 ∧ (∀ i, LvOk h z g n f (es ++ fs.take i)) ∧
  ∀ H' v, KX x H H' → LvAt K H' x h z g n f (es ++ fs) (m ++ [(z, es)]) → Q v H'
def spChange (K : PySem.W.Frag) : Sp := fun vs H Q _ => ∃ (x q : Addr) (h : Hz) (z z2 : Zz) (g n : Int) (f : Str) (es : List Ev) (m : List (Zz × List Ev)), vs = [.ref x, .ref q] ∧ LvAt K H x h z g n f es m ∧ SlpAt K (He.ga K "Sleeper") H q z2 ∧ m.length ≤ 1000 ∧ LvOk h z2 g n f es ∧
  ∀ H', KX x H H' → LvAt K H' x h z2 g n f es (m ++ [(z, es)]) → Q .non H'
def spUndo (K : PySem.W.Frag) : Sp := fun vs H Q _ => ∃ (x : Addr) (h : Hz) (z : Zz) (g n : Int) (f : Str) (es : List Ev) (m : List (Zz × List Ev)), vs = [.ref x] ∧ LvAt K H x h z g n f es m ∧ m.length ≤ 1000 ∧ (m = [] → Q (.bl false) H) ∧
  ∀ z' es' m', m = m' ++ [(z', es')] → ∀ H', KX x H H' → LvAt K H' x h z' g n f es' m' → Q (.bl true) H'
theorem sIx_back {n : Nat} (h : 0 < n) : HT.sIx n n (some (-1)) = n - 1 := by
  show (if (-1 : Int) < 0 then ((-1 : Int) + (n : Int)).toNat else min (-1 : Int).toNat n) = n - 1
  rw [if_pos (by decide)]
  omega
theorem cut_back (ws : List V) (v : V) : cutV (ws ++ [v]) none (some (-1)) = ws := by
  unfold cutV
  rw [show (ws ++ [v]).length = ws.length + 1 by simp, sIx_back (by omega)]
  show ((ws ++ [v]).drop 0).take (ws.length + 1 - 1 - 0) = ws
  simp
theorem ne_nil_back {α : Type} {m : List α} (h : m ≠ []) : ∃ m' a, m = m' ++ [a] := ⟨m.dropLast, m.getLast h, (List.dropLast_concat_getLast h).symm⟩
section
variable {P : Program} {w : World} {K : PySem.W.Frag} {mg : Str → Option Value} {base : Heap}
theorem ok_change {f : Addr} {fd : FuncData} (F : FunD K "change" "Live.change" (defArgs s_Live_change) (defBody s_Live_change) (defScope s_Live_change) [] [] f fd) (T : Tx K mg) (g_walk : GetOf P w K mg base 1 (He.ga K "Live") "walk" (spLWalk K)) (c_play : C8.Cal P w K mg base 8 "play" (spPlay K (He.ga K "Played") (He.ga K "House") (He.ga K "Sleeper") (He.ga K "Walk")) []) (c_become : C8.Met P w K mg base 1 (He.ga K "Live") "become" (spBecome K) []) :
    FnOk P w K mg base CX0 10 f fd ["self", "sleeper"] (spChange K) := by
  refine F.ok sc_Live_change (fun vs H Q E h => ?_) fun cdv A outer s H vs Q E hr h => ?_
  · obtain ⟨x, q, h, z, z2, g, n, f, es, m, rfl, _⟩ := h
    rfl
  · obtain ⟨x, q, h, z, z2, g, n, fi, es, m, rfl, lv, hq, mfew, ok, k⟩ := h
    obtain ⟨dx, hm, sc, pa, zm, wl, pp, ys, y, yl⟩ := id lv
    suffices go : ∃ t', PSs (cxOf CX0 P w K mg base N_Live_change "Live.change" (defScope s_Live_change) f cdv A outer s H E).nox (defBody s_Live_change) t' ∧ t' { nx := fun _ H' => Q .non H', rt := Q } (start N_Live_change [.ref x, .ref q]) H by
      obtain ⟨t', h1, h2⟩ := go
      exact ⟨t', h1.nox, h2⟩
    refine ⟨_, (pss_one (ps_expr (C8.pe_mt c_become hr (by decide) (pv 0) (pa_cons (pe_tup (pa_cons (pv 1) (pa_cons (pe_get g_walk T.cls_Live hr (by decide) (pv 0)) (pa_cons (C8.pe_c c_play hr (by decide) rfl (pa_cons (pe_fld (pv 0) rfl) (pa_cons (pv 1) (pa_cons (pe_get g_walk T.cls_Live hr (by decide) (pv 0)) pa_nil)))) pa_nil)))) pa_nil)))), ?_⟩
    refine ⟨_, rfl, x, dx, _, rfl, y.o, rfl, _, rfl, _, rfl, x, dx, _, rfl, y.o, x, h, z, g, n, fi, es, m, rfl, lv, fun w1 hw1 => ?_⟩
    refine ⟨_, rfl, x, _, dx, _, _, rfl, y.o, T.cls_Live, T.l_own_house, rfl, _, rfl, _, rfl, x, dx, _, rfl, y.o, x, h, z, g, n, fi, es, m, rfl, lv, fun w2 hw2 => ?_⟩
    refine ⟨hm, q, w2, h, z2, g, n, fi, es, rfl, y.hh, hq, hw2, ok.wok, ok.eok, ok.poss, ok.dfew, ok.len, ok.sok, fun H1 p1 s1 np1 hp1 => ⟨by show 3 ≤ sizeLine; decide, fun t nt => ?_⟩⟩
    have s2 : Same H1 (upd H1 t (.tup [.ref q, .ref w1, .ref p1])) := Same.new nt
    have ht : SqT K (upd H1 t (.tup [.ref q, .ref w1, .ref p1])) t [.ref q, .ref w1, .ref p1] := SqT.of upd_same
    generalize upd H1 t (.tup [.ref q, .ref w1, .ref p1]) = H2 at s2 ht ⊢
    have s12 := s1.trans s2
    have hx2 := s12 _ _ y.o
    refine ⟨x, dx, hm, sc, pa, t, ys, rfl, hx2, SqT.keep (Same.tk s12) y.pa, by have := Scs.length _ yl; omega, fun H3 pa2 kx hx3 hpa2 => ?_⟩
    have tk := kx.tk hx2
    exact k H3 ((Hb.Same.kx s12).trans kx) ⟨dx, hm, t, pa2, q, w1, p1, ys ++ [.ref sc], ⟨hx3, HAt.kxl (y.hh.same s12) kx hx2, SqT.keep tk ht, SlpAt.kxl (hq.same s12) kx hx2, WAt.kxl (hw1.same s12) kx hx2, PlAt.kxl (hp1.same s2) kx hx2, hpa2⟩,
      Scs.app (ScAt.kxl (ScAt.same ⟨sc, zm, wl, pp, rfl, y.sc, y.hz, y.hw, y.hp⟩ s12) kx hx2) _ (Scs.map (fun _ _ q => ScAt.kxl (q.same s12) kx hx2) _ yl)⟩
theorem ok_undo {f : Addr} {fd : FuncData} (F : FunD K "undo" "Live.undo" (defArgs s_Live_undo) (defBody s_Live_undo) (defScope s_Live_undo) [] [] f fd) (T : Tx K mg) : FnOk P w K mg base CX0 1 f fd ["self"] (spUndo K) := by
  refine F.ok sc_Live_undo (fun vs H Q E h => ?_) fun cdv A outer s H vs Q E hr h => ?_
  · obtain ⟨x, h, z, g, n, f, es, m, rfl, _⟩ := h
    rfl
  · obtain ⟨x, h, z, g, n, fi, es, m, rfl, ⟨dx, hm, sc, pa, zm, wl, pp, ys, y, yl⟩, mfew, k0, k1⟩ := h
    have line := sizeLine_eq
    have len := Scs.length _ yl
    suffices go : ∃ t', PSs (cxOf CX0 P w K mg base N_Live_undo "Live.undo" (defScope s_Live_undo) f cdv A outer s H E).nox (defBody s_Live_undo) t' ∧ t' { nx := fun _ H' => Q .non H', rt := Q } (start N_Live_undo [.ref x]) H by
      obtain ⟨t', h1, h2⟩ := go
      exact ⟨t', h1.nox, h2⟩
    refine ⟨_, (pss_cons (ps_if (pt_cmpR op_eq (pe_callB call_len (by rfl) T.n_len (by decide +kernel) (pa_cons (pe_fld (pv 0) rfl) pa_nil)) pe_int (by first | exact nomark _ | rfl))
 (pss_one (ps_ret pe_bl))
 pss_nil)
 (pss_cons (ps_fld (pv 0) (pe_ix ix_tup (pe_fld (pv 0) rfl) (pe_un un_neg pe_int) (fun _ _ => rfl)) rfl)
 (pss_cons (ps_fld (pv 0) (pe_slice sl_tupA (pe_fld (pv 0) rfl) po_none (po_some (pe_un un_neg pe_int))) rfl)
 (pss_one (ps_ret pe_bl))))), ?_⟩
    refine ⟨_, rfl, x, _, dx, _, _, rfl, y.o, T.cls_Live, T.l_past, rfl, .ref pa, ys.length, rfl, .inr ⟨_, y.pa, rfl⟩, rfl, _, rfl, ?_⟩
    by_cases e : m = []
    · have l0 : ys.length = 0 := by rw [len, e]; rfl
      rw [l0]
      exact iteT (k0 e)
    · obtain ⟨m', ⟨z', es'⟩, rfl⟩ := ne_nil_back e
      obtain ⟨ws, v, rfl, yl', sv⟩ := Scs.back _ yl
      rw [decide_eq_false (show ¬ V.int (((ws ++ [v]).length : Nat) : Int) = V.int 0 from fun q => by
        injection q with q
        rw [List.length_append] at q
        have : ([v] : List V).length = 1 := rfl
        omega)]
      obtain ⟨a, zm2, wl2, pp2, rfl, hsc2, hz2, hw2, hp2⟩ := sv
      refine iteF ⟨_, rfl, x, _, dx, _, _, rfl, y.o, T.cls_Live, T.l_past, rfl, _, rfl, pa, _, -1, _, rfl, rfl, y.pa, atI_last _ _, ?_⟩
      refine ⟨_, rfl, x, _, dx, _, rfl, y.o, T.cls_Live, T.l_scene, by show 3 < 1000; decide, ?_⟩
      have kx1 : KX x H (upd H x (.ins (He.ga K "Live") dx (putF "scene" (.ref a) (lFs hm sc pa)))) := KX.put
      have hx1 : upd H x (.ins (He.ga K "Live") dx (putF "scene" (.ref a) (lFs hm sc pa))) x = some (.ins (He.ga K "Live") dx (lFs hm a pa)) := upd_same
      have tk1 := kx1.tk y.o
      have hpa1 := SqT.keep tk1 y.pa
      have hh1 := HAt.kxl y.hh kx1 y.o
      have hz1 := SlpAt.kxl hz2 kx1 y.o
      have hw1 := WAt.kxl hw2 kx1 y.o
      have hp1 := PlAt.kxl hp2 kx1 y.o
      have hs1 := SqT.keep tk1 hsc2
      have ys1 := Scs.map (fun _ _ q => ScAt.kxl q kx1 y.o) _ yl'
      generalize upd H x (.ins (He.ga K "Live") dx (putF "scene" (.ref a) (lFs hm sc pa))) = H1 at kx1 hx1 hpa1 hh1 hz1 hw1 hp1 hs1 ys1 ⊢
      have fin : ∀ (H2 : Hp) (r : Addr), Same H1 H2 → SqT K H2 r ws → Q (.bl true) (upd H2 x (.ins (He.ga K "Live") dx (putF "past" (.ref r) (lFs hm a pa)))) := fun H2 r s2 hr => by
        have hx2 := s2 _ _ hx1
        have kx2 : KX x H2 (upd H2 x (.ins (He.ga K "Live") dx (putF "past" (.ref r) (lFs hm a pa)))) := KX.put
        have tk2 := kx2.tk hx2
        exact k1 z' es' m' rfl _ ((kx1.trans (Hb.Same.kx s2)).trans kx2) ⟨dx, hm, a, r, zm2, wl2, pp2, ws, ⟨upd_same, HAt.kxl (hh1.same s2) kx2 hx2, SqT.keep tk2 (SqT.keep (Same.tk s2) hs1), SlpAt.kxl (hz1.same s2) kx2 hx2, WAt.kxl (hw1.same s2) kx2 hx2, PlAt.kxl (hp1.same s2) kx2 hx2, SqT.keep tk2 hr⟩, Scs.map (fun _ _ q => ScAt.kxl (q.same s2) kx2 hx2) _ ys1⟩
      refine ⟨_, rfl, x, _, dx, _, _, rfl, hx1, T.cls_Live, T.l_past, rfl, _, rfl, _, rfl, pa, _, rfl, hpa1, fun wh => ?_, fun _ r nr => ?_⟩
      · have q := wh.2
        rw [show (ws ++ [V.ref a]).length = ws.length + 1 by simp] at q
        rw [show (-1 : Int) = -1 from rfl, sIx_back (by omega)] at q
        omega
      · have e2 := cut_back ws (.ref a)
        have sr : Same H1 (upd H1 r (.tup ws)) := Same.new nr
        rw [e2]
        refine ⟨_, rfl, x, _, dx, _, rfl, sr _ _ hx1, T.cls_Live, T.l_past, by show 3 < 1000; decide, ?_⟩
        exact fin _ r sr (SqT.of upd_same)
theorem ok_several {f : Addr} {fd : FuncData} (F : FunD K "several" "Live.several" (defArgs s_Live_several) (defBody s_Live_several) (defScope s_Live_several) [] [] f fd) (T : Tx K mg) (c_is_row : C8.Cal P w K mg base 1 "is_row" (spRow K) []) (c_led_on : C8.Cal P w K mg base 9 "led_on" (spLedOn K) []) (c_become : C8.Met P w K mg base 1 (He.ga K "Live") "become" (spBecome K) []) :
    FnOk P w K mg base CX0 10 f fd ["self", "events"] (spSeveral K) := by
  refine F.ok sc_Live_several (fun vs H Q E h => ?_) fun cdv A outer s H vs Q E hr h => ?_
  · obtain ⟨x, l, h, z, g, n, f, es, fs, m, rfl, _⟩ := h
    rfl
  · obtain ⟨x, l, h, z, g, n, fi, es, fs, m, rfl, lv, hl, mfew, ffew, ok, k⟩ := h
    obtain ⟨dx, hm, sc, pa, zm, wl, pp, ys, y, yl⟩ := id lv
    have line := sizeLine_eq
    suffices go : ∃ t', PSs (cxOf CX0 P w K mg base N_Live_several "Live.several" (defScope s_Live_several) f cdv A outer s H E).nox (defBody s_Live_several) t' ∧ t' { nx := fun _ H' => Q .non H', rt := Q } (start N_Live_several [.ref x, .ref l]) H by
      obtain ⟨t', h1, h2⟩ := go
      exact ⟨t', h1.nox, h2⟩
    refine ⟨_, (pss_cons (ps_if (pt_not (pt_val (C8.pe_c c_is_row hr (by decide) rfl (pa_cons (pv 1) pa_nil))))
 (pss_one ps_never)
 pss_nil)
 (pss_cons (ps_set (i := 2) sc_Live_several.nd rfl (Or.inl rfl) (pe_fld (pv 0) rfl))
 (pss_cons (ps_set (i := 3) sc_Live_several.nd rfl (Or.inl rfl) (pe_lst pa_nil))
 (pss_cons (ps_for PassesOwn.never rfl (pi_enum (by rfl) T.n_enumerate (pa_cons (pv 1) pa_nil)) (pg_tup (by rfl) (pgs_cons (pg_name (i := 4) sc_Live_several.nd rfl (Or.inl rfl)) (pgs_cons (pg_name (i := 5) sc_Live_several.nd rfl (Or.inl rfl)) pgs_nil)))
 (pss_cons (ps_try_thru0 (pss_one (ps_set (i := 2) sc_Live_several.nd rfl (Or.inl rfl) (C8.pe_c c_led_on hr (by decide) rfl (pa_cons (pe_fld (pv 0) rfl) (pa_cons (pv 2) (pa_cons (pv 5) pa_nil)))))))
 (pss_one (ps_expr (pe_bm PySem.F.plainAttrs_list PySem.F.slot_list_append PySem.F.type_list_append mt_append (pv 3) (pa_cons (pe_fld (pe_ix ix_tup (pv 2) pe_int (fun _ _ => rfl)) rfl) pa_nil))))))
 (pss_cons (ps_expr (C8.pe_mt c_become hr (by decide) (pv 0) (pa_cons (pv 2) pa_nil)))
 (pss_one (ps_ret (pe_callTy call_tuple_of (by rfl) T.n_tuple (by decide +kernel) (pa_cons (pv 3) pa_nil))))))))), ?_⟩
    refine ⟨_, rfl, l, _, rfl, .inl (SqL.of hl), fun H1 s1 => ⟨_, rfl, iteF ?_⟩⟩
    refine ⟨_, rfl, x, _, dx, _, _, rfl, s1 _ _ y.o, T.cls_Live, T.l_scene, rfl, Nat.zero_le _, fun q nq => ?_⟩
    have s2 : Same H1 (upd H1 q (.lst [])) := Same.new nq
    have hq0 : upd H1 q (.lst []) q = some (.lst []) := upd_same
    have nq0 := s1.free nq
    have s12 := s1.trans s2
    generalize upd H1 q (.lst []) = H2 at s2 hq0 s12 ⊢
    refine ⟨_, rfl, l, _, rfl, SqL.of (s12 _ _ hl), for_it walk_enum (fun i σ H' => (∃ v5 v6 v7 v8, σ = [some (.ref x), some (.ref l), v5, some (.ref q), v6, v7, v8] ∧ ∃ (sc' zm' wl' pp' : Addr) (acc : List V), v5 = some (.ref sc') ∧ SqT K H' sc' [.ref zm', .ref wl', .ref pp'] ∧ SlpAt K (He.ga K "Sleeper") H' zm' z ∧ WAt K (He.ga K "Walk") H' wl' ⟨g, n, fi, (es ++ fs.take i).map evT⟩ ∧
      PlAt K (He.ga K "Played") H' pp' (runEv h z (wd0 z (g + n) fi) (es ++ fs.take i)) ∧ H' q = some (.lst acc) ∧ acc.length = i) ∧ Same H H') ?_ (fun i σ H' _ e => SqL.of (e.2 _ _ hl)) ?_ ?_⟩
    · refine ⟨⟨_, _, _, _, rfl, sc, zm, wl, pp, [], rfl, SqT.keep (Same.tk s12) y.sc, y.hz.same s12, ?_, ?_, hq0, rfl⟩, s12⟩
      · rw [List.take_zero, List.append_nil]
        exact y.hw.same s12
      · rw [List.take_zero, List.append_nil]
        exact y.hp.same s12
    · rintro i v σ H3 H4 hi ⟨⟨v5, v6, v7, v8, rfl, sc', zm', wl', pp', acc, rfl, hsc, hz, hw, hp, hq, al⟩, s3⟩ ⟨Tp, u1, u2, rfl, nT, rfl, e1, e2⟩
      injection e1 with e1
      subst e1
      replace e2 : ((fs.map evT).map V.str)[i]? = some u2 := e2
      rw [List.getElem?_map, List.getElem?_map] at e2
      obtain ⟨yy, hy, rfl⟩ := Option.map_eq_some_iff.mp e2
      obtain ⟨ev, hev, rfl⟩ := Option.map_eq_some_iff.mp hy
      have il : i < fs.length := (List.getElem?_eq_some_iff.mp hev).1
      have nx : es ++ fs.take (i + 1) = es ++ fs.take i ++ [ev] := by rw [List.take_add_one, hev, List.append_assoc]; rfl
      have ok1 := ok (i + 1)
      rw [nx] at ok1
      have s4 : Same H3 (upd H3 Tp (.tup [.int (i : Nat), .str (evT ev)])) := Same.new nT
      have hsc4 := SqT.keep (Same.tk s4) hsc
      have hz4 := hz.same s4
      have hw4 := hw.same s4
      have hq4 := s4 _ _ hq
      have s34 := s3.trans s4
      refine ⟨Tp, _, rfl, SqT.of upd_same, rfl, _, _, rfl, _, _, rfl, rfl, ?_⟩
      generalize upd H3 Tp (.tup [.int (i : Nat), .str (evT ev)]) = H4 at s4 hsc4 hz4 hw4 hq4 s34 ⊢
      refine ⟨_, rfl, x, _, dx, _, _, rfl, s34 _ _ y.o, T.cls_Live, T.l_own_house, rfl, _, rfl, _, rfl, hm, sc', zm', wl', pp', h, z, g, n, fi, es ++ fs.take i, ev, rfl, y.hh.same s34, hsc4, hz4, hw4, ok i, ok1, fun H5 t wl2 pp2 s5 ht hw5 hp5 => ?_⟩
      obtain ⟨dp, sv, pl, md, xs, hpO, hps, hpr⟩ := id hp5
      refine ⟨_, rfl, .inl ⟨rfl, _, SqL.of (s5 _ _ hq4)⟩, _, rfl, t, _, 2, _, rfl, rfl, ht, rfl, pp2, _, dp, _, _, rfl, hpO, T.cls_Played, T.p_state, rfl, ?_⟩
      have hq5 := s5 _ _ hq4
      have tk6 : TK H5 (upd H5 q (.lst (acc ++ [sv]))) := tk_acc hq5
      have ik6 : IK H5 (upd H5 q (.lst (acc ++ [sv]))) := IK.lst hq5
      refine ⟨q, acc, _, rfl, rfl, hq5, by omega, ⟨_, _, _, _, rfl, t, zm', wl2, pp2, acc ++ [sv], rfl, SqT.keep tk6 ht, SlpAt.ik (hz4.same s5) ik6, ?_, ?_, upd_same, by rw [List.length_append, al]; rfl⟩, Hb.Same.acc (s34.trans s5) nq0⟩
      · rw [nx]
        exact WAt.ik hw5 ik6
      · rw [nx]
        exact PlAt.ik hp5 ik6
    · rintro σ H3 ⟨⟨v5, v6, v7, v8, rfl, sc', zm', wl', pp', acc, rfl, hsc, hz, hw, hp, hq, al⟩, s3⟩
      rw [List.length_map, List.length_map, List.take_length] at hw hp
      have hx3 := s3 _ _ y.o
      refine ⟨_, rfl, x, dx, _, rfl, hx3, rfl, _, rfl, x, dx, hm, sc, pa, sc', ys, rfl, hx3, SqT.keep (Same.tk s3) y.pa, by have := Scs.length _ yl; omega, fun H5 pa2 kx hx5 hpa2 => ?_⟩
      have tk := kx.tk hx3
      have qx : q ≠ x := fun e => by rw [e, hx3] at hq; cases hq
      have hq5 := kx _ _ qx hq
      have lv5 : LvAt K H5 x h z g n fi (es ++ fs) (m ++ [(z, es)]) := ⟨dx, hm, sc', pa2, zm', wl', pp', ys ++ [.ref sc], ⟨hx5, HAt.kxl (y.hh.same s3) kx hx3, SqT.keep tk hsc, SlpAt.kxl hz kx hx3, WAt.kxl hw kx hx3, PlAt.kxl hp kx hx3, hpa2⟩,
        Scs.app (ScAt.kxl (ScAt.same ⟨sc, zm, wl, pp, rfl, y.sc, y.hz, y.hw, y.hp⟩ s3) kx hx3) _ (Scs.map (fun _ _ q => ScAt.kxl (q.same s3) kx hx3) _ yl)⟩
      refine ⟨_, rfl, q, _, rfl, .inl ⟨SqL.of hq5, fun t nt => ?_⟩⟩
      have s6 : Same H5 (upd H5 t (.tup acc)) := Same.new nt
      exact k _ _ (((Hb.Same.kx s3).trans kx).trans (Hb.Same.kx s6)) (lv5.same s6)
end
end Lw
set_option Elab.async false
set_option linter.all false
set_option maxRecDepth 100000
set_option maxHeartbeats 8000000
namespace Lw
open PySem PySem.Spec PyProof.Rows L2 Hb
theorem room64 {k : Nat} {A : Around} (hr : Room k A) : A.units + 64 < cLine := by have := hr.un; omega
theorem Sh.text {x : Str} {n : Nat} (h : PyData.strOk x = true) (l : x.length ≤ n) : Sh (10 * n + 2) (.str x) := by
  rw [strOk_tl] at h
  have q := PySem.StrLaws.reprText_len x fun c hc => by
    have := of_decide_eq_true (List.all_eq_true.mp h c hc)
    omega
  exact ⟨by show (reprText x).length ≤ _; omega, rfl, rfl⟩
theorem strOk_joinN {sep : Str} (hs : PyData.strOk sep = true) : ∀ {ws : List Str}, (∀ w ∈ ws, PyData.strOk w = true) → PyData.strOk (Str.join sep ws) = true
  | [], _ => by show PyData.strOk Str.empty = true; decide +kernel
  | [w], h => h w List.mem_cons_self
  | w :: x :: r, h => strOk_app (strOk_app (h w List.mem_cons_self) hs) (strOk_joinN hs (ws := x :: r) fun y hy => h y (List.mem_cons_of_mem _ hy))
theorem litsOk : PyData.strOk "door " = true ∧ PyData.strOk "floor " = true ∧ PyData.strOk "rooms " = true ∧ PyData.strOk " " = true ∧ PyData.strOk "\n" = true ∧ PyData.strOk Str.empty = true ∧ PyData.strOk "-" = true ∧ PyData.strOk "cradles" = true ∧ PyData.strOk "stir " = true ∧ PyData.strOk " doze " = true ∧ PyData.strOk " near " = true ∧ PyData.strOk " loud " = true := by decide +kernel
theorem fourS_ok : ∀ x ∈ fourS, PyData.strOk x = true := by decide +kernel
theorem threeS_ok : ∀ x ∈ threeS, PyData.strOk x = true := by decide +kernel
theorem len_lits : ("cradles" : Str).length = 7 ∧ ("-" : Str).length = 1 ∧ ("\n" : Str).length = 1 := by decide +kernel
theorem textH_ok {h : Hz} (fw : Few h) : PyData.strOk (textH h) = true ∧ (textH h).length ≤ 40000 := by
  obtain ⟨o1, o2, o3, o4, o5, o6, o7, o8, o9, o10, o11, o12⟩ := litsOk
  obtain ⟨l1, l2, l3, l4, l5⟩ := litsH
  obtain ⟨m1, m2, m3⟩ := len_lits
  have ti : ∀ i : Int, 0 ≤ i ∧ i < 64 → PyData.strOk (tI i) = true ∧ (tI i).length ≤ 2 := fun i q => ⟨num_ok' q, (num_tI q).2.2.1⟩
  have cr : ∀ r ∈ sortI h.cradles, PyData.strOk (tI r) = true ∧ (tI r).length ≤ 7 := fun r hr => by
    have q := ti r (fw.c r ((sortI_perm _).mem_iff.mp hr))
    exact ⟨q.1, by omega⟩
  have cl : PyData.strOk (cradlesL (sortI h.cradles)) = true ∧ (cradlesL (sortI h.cradles)).length ≤ 600 := by
    unfold cradlesL
    rw [TL.join_eq]
    refine ⟨strOk_joinN o4 fun w hw => ?_, ?_⟩
    · rcases List.mem_cons.mp hw with rfl | hw
      · exact o8
      · obtain ⟨r, hr, rfl⟩ := List.mem_map.mp hw
        exact (cr r hr).1
    · have q := str_join_le " " (("cradles" : Str) :: (sortI h.cradles).map tI)
      have q2 := sum_le (m := 7) (ys := ("cradles" : Str) :: (sortI h.cradles).map tI) fun w hw => by
        rcases List.mem_cons.mp hw with rfl | hw
        · omega
        · obtain ⟨r, hr, rfl⟩ := List.mem_map.mp hw
          exact (cr r hr).2
      have q3 : (("cradles" : Str) :: (sortI h.cradles).map tI).length ≤ 65 := by
        rw [List.length_cons, List.length_map, (sortI_perm _).length_eq]
        have := fw.cm
        omega
      have q4 := Nat.mul_le_mul_right 7 q3
      rw [l4, Nat.mul_one] at q
      omega
  have all : ∀ w ∈ linesH h, PyData.strOk w = true ∧ w.length ≤ 600 := fun w hw => by
    unfold linesH at hw
    rcases List.mem_cons.mp hw with rfl | hw
    · have q := ti h.rooms fw.r
      exact ⟨strOk_app (strOk_app o6 o3) q.1, by unfold roomsL; simp only [Str.length_append, l3, l5]; omega⟩
    rcases List.mem_append.mp hw with hw | hw
    · obtain ⟨x, hx, rfl⟩ := List.mem_map.mp hw
      obtain ⟨a, b, c⟩ := fw.d x hx
      have qa := ti _ a
      have qb := ti _ b
      have qn : PyData.strOk (nzT x.2.2) = true ∧ (nzT x.2.2).length ≤ 8 := by
        cases e : x.2.2 with
        | none => exact ⟨o7, by show ("-" : Str).length ≤ 8; omega⟩
        | some n => exact ⟨eight_ok n (c n e), eight_len n (c n e)⟩
      exact ⟨strOk_app (strOk_app (strOk_app (strOk_app (strOk_app (strOk_app o6 o1) qa.1) o4) qb.1) o4) qn.1, by unfold doorL; simp only [Str.length_append, l1, l4, l5]; omega⟩
    rcases List.mem_append.mp hw with hw | hw
    · obtain ⟨x, hx, rfl⟩ := List.mem_map.mp hw
      obtain ⟨a, b⟩ := fw.f x ((sortF_perm _).mem_iff.mp hx)
      have qa := ti _ a
      have qb := eight_len _ b
      exact ⟨strOk_app (strOk_app (strOk_app (strOk_app o6 o2) qa.1) o4) (eight_ok _ b), by unfold floorL; simp only [Str.length_append, l2, l4, l5]; omega⟩
    · rw [List.mem_singleton.mp hw]
      exact cl
  unfold textH
  rw [TL.join_eq]
  refine ⟨strOk_joinN o5 fun w hw => (all w hw).1, ?_⟩
  have q := str_join_le "\n" (linesH h)
  have q2 := sum_le (m := 600) (ys := linesH h) fun w hw => (all w hw).2
  have q3 : (linesH h).length ≤ 62 := by
    unfold linesH
    simp only [List.length_cons, List.length_append, List.length_map, List.length_nil, (sortF_perm _).length_eq]
    have := fw.dm
    have := fw.fm
    omega
  have q4 := Nat.mul_le_mul_right 600 q3
  rw [m3, Nat.mul_one] at q
  omega
theorem textT_ok {z : Zz} {ws : List Str} (zk : Zok z ws) (mem : ∀ w ∈ ws, w ∈ eight) : PyData.strOk (textT z) = true ∧ (textT z).length ≤ 1000 := by
  obtain ⟨o1, o2, o3, o4, o5, o6, o7, o8, o9, o10, o11, o12⟩ := litsOk
  obtain ⟨l1, l2, l3, l4, l5, l6⟩ := lits
  have ti : ∀ i : Int, 0 ≤ i ∧ i < 64 → PyData.strOk ((toString i : String) : Str) = true ∧ ((toString i : String) : Str).length ≤ 2 := fun i q => ⟨num_ok' q, (num_tI q).2.2.1⟩
  have t1 := ti z.stir ⟨by have := zk.s1; omega, by have := zk.s5; omega⟩
  have t2 := ti z.doze ⟨by have := zk.d1; omega, by have := zk.d5; omega⟩
  have t3 := ti z.near ⟨by have := zk.n1; omega, by have := zk.n2; omega⟩
  have hl := louds_short _ zk.lo
  have hd : PyData.strOk (headT z) = true ∧ (headT z).length ≤ 100 := ⟨strOk_app (strOk_app (strOk_app (strOk_app (strOk_app (strOk_app (strOk_app (strOk_app o6 o9) t1.1) o10) t2.1) o11) t3.1) o12) (threeS_ok _ zk.lo), by unfold headT; simp only [Str.length_append, l1, l2, l3, l4, l6]; omega⟩
  have all : ∀ w ∈ headT z :: (sortP z.sorts).map lineT, PyData.strOk w = true ∧ w.length ≤ 100 := fun w hw => by
    rcases List.mem_cons.mp hw with rfl | hw
    · exact hd
    · obtain ⟨p, hp, rfl⟩ := List.mem_map.mp hw
      have hp2 := (sortP_perm _).mem_iff.mp hp
      have a := eight_len _ (mem _ (zk.inw p hp2))
      have b := sorts_short _ (zk.srt p hp2)
      exact ⟨strOk_app (strOk_app (strOk_app o6 (zk.ok p hp2).1) o4) (fourS_ok _ (zk.srt p hp2)), by unfold lineT; simp only [Str.length_append, l5, l6]; omega⟩
  unfold textT
  rw [TL.join_eq]
  refine ⟨strOk_joinN o4 fun w hw => (all w hw).1, ?_⟩
  have q := str_join_le " " (headT z :: (sortP z.sorts).map lineT)
  have q2 := sum_le (m := 100) (ys := headT z :: (sortP z.sorts).map lineT) fun w hw => (all w hw).2
  have q3 : (headT z :: (sortP z.sorts).map lineT).length ≤ 9 := by
    rw [List.length_cons, List.length_map, (sortP_perm _).length_eq]
    have := zk.few
    omega
  have q4 := Nat.mul_le_mul_right 100 q3
  rw [l5, Nat.mul_one] at q
  omega
/-- what can be seen of a live house -/
def lookD (h : Hz) (z : Zz) (g n : Int) (f : Str) (es : List Ev) (m : Nat) : PyData := .tuple [.str (textH h), .str (textT z), .tuple [.int g, .int n, .str f, .tuple ((es.map evT).map PyData.str)], encWd (runEv h z (wd0 z (g + n) f) es), .int (m : Nat)]
structure LookOk (h : Hz) (z : Zz) (g n : Int) (f : Str) (es : List Ev) (m : Nat) : Prop where
  fw : Few h
  zi : Zin z
  zs : z.stir ≤ 99
  zd : z.doze ≤ 99
  zn : z.near ≤ 99
  sh : Sh 10000000 (lookD h z g n f es m)
  dp : (lookD h z g n f es m).depth ≤ 60
  m : m ≤ 1000
def spLook (K : PySem.W.Frag) : Sp := fun vs H Q _ => ∃ (x : Addr) (h : Hz) (z : Zz) (g n : Int) (f : Str) (es : List Ev) (m : List (Zz × List Ev)), vs = [.ref x] ∧ LvAt K H x h z g n f es m ∧ LookOk h z g n f es m.length ∧ ∀ H', Same H H' → Q (.str (lookD h z g n f es m.length).shown) H'
theorem int_sh3 : ∀ i : Fin 1001, (PyData.int (i.val : Int)).shown.length ≤ 8 ∧ (PyData.int (i.val : Int)).showable = true := by decide +kernel
theorem evs_len : ∀ {es : List Ev} {k : Int}, k ≤ 64 → (∀ e ∈ es, EvOk k e) → ∀ s ∈ es.map evT, PyData.strOk s = true ∧ s.length ≤ 20 := fun {es k} hk h s hs => by
  obtain ⟨e, he, rfl⟩ := List.mem_map.mp hs
  exact ⟨ev_ok hk ⟨e, rfl, h e he⟩, ev_short hk (h e he)⟩
theorem hok_few {h : Hz} {r m : Int} {ws : List Str} (hk : Hok h r m ws) (r6 : r ≤ 10) (m7 : m ≤ 10) (mem : ∀ w ∈ ws, w ∈ eight) : Few h := by
  have a1 := hk.r1
  have a2 := hk.r2
  have a3 := hk.dm
  have a4 := hk.fm
  have a5 := hk.cm
  have inr : ∀ v : Int, inR h.rooms v → 0 ≤ v ∧ v < 64 := fun v q => ⟨q.1, by have := q.2; omega⟩
  exact ⟨by omega, fun x hx => ⟨inr _ (hk.d x hx).1, inr _ (hk.d x hx).2.1, fun k e => mem k ((hk.d x hx).2.2.2 k e)⟩, by omega, fun x hx => ⟨inr _ (hk.f x hx).1, mem _ (hk.f x hx).2⟩, by omega, fun x hx => inr _ (hk.c x hx), by omega⟩
theorem depth_st (s : S0) : (PyData.tuple s.ds).depth ≤ 2 := by cases s <;> simp [S0.ds, PyData.depth, PyData.depthAll]
theorem depth_Wd2 (w : Wd) : (encWd w).depth ≤ 6 := by
  have h1 := depth_st w.st
  have h2 : PyData.depthAll (w.pl.map PyData.int) ≤ 1 := depthAll_le fun d hd => by
    obtain ⟨s, _, rfl⟩ := List.mem_map.mp hd
    simp [PyData.depth]
  have h3 : PyData.depthAll (w.md.map encM) ≤ 2 := depthAll_le fun d hd => by
    obtain ⟨s, _, rfl⟩ := List.mem_map.mp hd
    simp [encM, PyData.depth, PyData.depthAll]
  have h4 : (wkD w.wk).depth ≤ 1 := by cases w.wk <;> simp [wkD, PyData.depth]
  simp only [encWd, PyData.depth, PyData.depthAll] at h1 ⊢
  omega
theorem look_ok {h : Hz} {z : Zz} {g n : Int} {f : Str} {es : List Ev} {m : Nat} {ws : List Str} (hk : Hok h 4 6 ws) (zk : Zok z ws) (mem : ∀ w ∈ ws, w ∈ eight) (g0 : 0 ≤ g) (n0 : 0 ≤ n) (gn : g + n ≤ 8) (hf : f ∈ (["asleep", "dozing", "up"] : List Str)) (eok : ∀ e ∈ es, EvOk (g + n) e) (poss : Poss h z g (wd0 z (g + n) f) es) (el : es.length ≤ 100) (ml : m ≤ 1000) : LookOk h z g n f es m := by
  have fw := hok_few hk (by decide) (by decide) mem
  have B := WdB.run z (es := es) (WdB.zero h z (k := g + n) f)
  have S := WdS.run hk (by decide) (WdS.zero ws z (g + n) f) poss
  have st := all_of zk mem (InS.run zk (h := h) (es := es) (w := wd0 z (g + n) f) (InS.first zk f))
  rw [Nat.zero_add] at B
  have W := Sh_Wd B S mem st (by omega) el
  have Wd := depth_Wd (runEv h z (wd0 z (g + n) f) es) st
  have tH := textH_ok fw
  have tT := textT_ok zk mem
  have el2 := evs_len (es := es) (k := g + n) (by omega) eok
  have fok : ∀ x ∈ (["asleep", "dozing", "up"] : List Str), PyData.strOk x = true ∧ x.length ≤ 6 := by decide +kernel
  refine ⟨fw, ⟨zk.nd, fun p hp => ⟨(zk.ok p hp).2, zk.srt p hp⟩, Nat.le_trans zk.few (by decide), zk.s1, zk.d1, zk.n1, zk.lo⟩, by have := zk.s5; omega, by have := zk.d5; omega, by have := zk.n2; omega, ?_, ?_, ml⟩
  · refine Sh.tup (n := 500000) (m := 5) (fun d hd => ?_) (by simp) (by decide)
    simp only [List.mem_cons, List.not_mem_nil, or_false] at hd
    rcases hd with rfl | rfl | rfl | rfl | rfl
    · exact (Sh.text tH.1 tH.2).mono (by decide)
    · exact (Sh.text tT.1 tT.2).mono (by decide)
    · refine Sh.tup (n := 21000) (m := 4) (fun d hd => ?_) (by simp) (by decide)
      simp only [List.mem_cons, List.not_mem_nil, or_false] at hd
      rcases hd with rfl | rfl | rfl | rfl
      · exact (Sh.int g0 (by omega)).mono (by decide)
      · exact (Sh.int n0 (by omega)).mono (by decide)
      · exact (Sh.text (fok f hf).1 (fok f hf).2).mono (by decide)
      · refine Sh.tup (n := 202) (m := 100) (fun d hd => ?_) (by rw [List.length_map, List.length_map]; exact el) (by decide)
        obtain ⟨s, hs, rfl⟩ := List.mem_map.mp hd
        exact Sh.text (el2 s hs).1 (el2 s hs).2
    · exact W.mono (by decide)
    · have q := int_sh3 ⟨m, by omega⟩
      exact (show Sh 8 (.int (m : Nat)) from ⟨q.1, q.2, rfl⟩).mono (by decide)
  · have e1 : (PyData.tuple ((es.map evT).map PyData.str)).depth ≤ 2 := by
      simp only [PyData.depth]
      have : PyData.depthAll ((es.map evT).map PyData.str) ≤ 1 := depthAll_le fun d hd => by
        obtain ⟨s, _, rfl⟩ := List.mem_map.mp hd
        simp [PyData.depth]
      omega
    have e2 := depth_Wd2 (runEv h z (wd0 z (g + n) f) es)
    unfold lookD
    generalize encWd (runEv h z (wd0 z (g + n) f) es) = ew at e2 ⊢
    generalize (es.map evT).map PyData.str = ss at e1 ⊢
    simp only [PyData.depth, PyData.depthAll] at e1 ⊢
    omega
section
variable {P : Program} {ww : World} {K : PySem.W.Frag} {mg : Str → Option Value} {base : Heap}
theorem c_look (D : Df K mg "_law_look" s_look) (T : Tx K mg) (g_house : GetOf P ww K mg base 1 (He.ga K "Live") "house" (spLHouse K)) (g_sleeper : GetOf P ww K mg base 1 (He.ga K "Live") "sleeper" (spLSleeper K)) (g_walk : GetOf P ww K mg base 1 (He.ga K "Live") "walk" (spLWalk K)) (g_played : GetOf P ww K mg base 1 (He.ga K "Live") "played" (spLPlayed K))
    (c_llen : LenOf P ww K mg base 1 (He.ga K "Live") (spLLen K)) (c_strH : StrOf P ww K mg base 2 (He.ga K "House") (spStrH K (He.ga K "House"))) (c_strS : StrOf P ww K mg base 1 (He.ga K "Sleeper") (spStrS K (He.ga K "Sleeper"))) : CalG P ww K mg base 5 "_law_look" (spLook K) := by
  refine calG_mk D sc_look bd_look (fun vs H Q E h => ?_) fun f cdv A outer s H vs Q E hg hr h => ?_
  · obtain ⟨x, h, z, g, n, f, es, m, rfl, _⟩ := h
    rfl
  · obtain ⟨x, h, z, g, n, fi, es, m, rfl, lv, ok, k⟩ := h
    have line := sizeLine_eq
    have h64 := room64 hr
    have hu := hu_of hr
    have hg2 : (cxOf CX0 P ww K mg base N_look "_law_look" (defScope s_look) f cdv A outer s H E).nox.A.guards = some [] := hg
    refine ⟨_, (pss_cons (ps_set (i := 1) sc_look.nd rfl (Or.inl rfl) (pe_get g_played T.cls_Live hr (by decide) (pv 0)))
 (pss_cons (ps_set (i := 2) sc_look.nd rfl (Or.inl rfl) (pe_tup (pa_cons (pe_fld (pe_get g_walk T.cls_Live hr (by decide) (pv 0)) rfl) (pa_cons (pe_fld (pe_get g_walk T.cls_Live hr (by decide) (pv 0)) rfl) (pa_cons (pe_fld (pe_get g_walk T.cls_Live hr (by decide) (pv 0)) rfl) (pa_cons (pe_fld (pe_get g_walk T.cls_Live hr (by decide) (pv 0)) rfl) pa_nil))))))
 (pss_cons (ps_set (i := 3) sc_look.nd rfl (Or.inl rfl) (pe_tup (pa_cons (pe_fld (pv 1) rfl) (pa_cons (pe_fld (pv 1) rfl) (pa_cons (pe_fld (pv 1) rfl) (pa_cons (pe_fld (pv 1) rfl) (pa_cons (pe_fld (pv 1) rfl) pa_nil)))))))
 (pss_one (ps_ret (pe_callB (cr_reprD hg2 h64) (by rfl) T.n_repr (by decide +kernel) (pa_cons (pe_tup (pa_cons (pe_callTy (call_strOwn c_strH hr (by decide)) (by rfl) T.n_str (by decide +kernel) (pa_cons (pe_get g_house T.cls_Live hr (by decide) (pv 0)) pa_nil)) (pa_cons (pe_callTy (call_strOwn c_strS hr (by decide)) (by rfl) T.n_str (by decide +kernel) (pa_cons (pe_get g_sleeper T.cls_Live hr (by decide) (pv 0)) pa_nil)) (pa_cons (pv 2) (pa_cons (pv 3) (pa_cons (pe_callB (call_lenOwn c_llen hr (by decide)) (by rfl) T.n_len (by decide +kernel) (pa_cons (pv 0) pa_nil)) pa_nil)))))) pa_nil))))))), ?_⟩
    obtain ⟨dx, hm, sc, pa, zm, wl, pp, ys, y, yl⟩ := id lv
    refine ⟨_, rfl, x, dx, _, rfl, y.o, x, h, z, g, n, fi, es, m, rfl, lv, fun tp htp => ?_⟩
    refine ⟨_, rfl, x, dx, _, rfl, y.o, x, h, z, g, n, fi, es, m, rfl, lv, fun w1 hw1 => ?_⟩
    obtain ⟨dw1, tw1, hw1O, _⟩ := hw1
    refine ⟨w1, _, dw1, _, _, rfl, hw1O, T.cls_Walk, T.a_guests, rfl, _, rfl, x, dx, _, rfl, y.o, x, h, z, g, n, fi, es, m, rfl, lv, fun w2 hw2 => ?_⟩
    obtain ⟨dw2, tw2, hw2O, _⟩ := hw2
    refine ⟨w2, _, dw2, _, _, rfl, hw2O, T.cls_Walk, T.a_nurses, rfl, _, rfl, x, dx, _, rfl, y.o, x, h, z, g, n, fi, es, m, rfl, lv, fun w3 hw3 => ?_⟩
    obtain ⟨dw3, tw3, hw3O, _⟩ := hw3
    refine ⟨w3, _, dw3, _, _, rfl, hw3O, T.cls_Walk, T.a_first, rfl, _, rfl, x, dx, _, rfl, y.o, x, h, z, g, n, fi, es, m, rfl, lv, fun w4 hw4 => ?_⟩
    obtain ⟨dw4, tw4, hw4O, hw4t⟩ := hw4
    refine ⟨w4, _, dw4, _, _, rfl, hw4O, T.cls_Walk, T.a_events, rfl, by show 4 ≤ sizeLine; decide, fun t1 nt1 => ?_⟩
    have s1 : Same H (upd H t1 (.tup [.int g, .int n, .str fi, .ref tw4])) := Same.new nt1
    have ht1 : SqT K (upd H t1 (.tup [.int g, .int n, .str fi, .ref tw4])) t1 [.int g, .int n, .str fi, .ref tw4] := SqT.of upd_same
    generalize upd H t1 (.tup [.int g, .int n, .str fi, .ref tw4]) = H1 at s1 ht1 ⊢
    obtain ⟨dp, sv, pl, md, xs, hpO, hps, hppl, hpmd, hptd⟩ := htp.same s1
    refine ⟨_, rfl, tp, _, dp, _, _, rfl, hpO, T.cls_Played, T.p_state, rfl, _, rfl, tp, _, dp, _, _, rfl, hpO, T.cls_Played, T.p_places, rfl, _, rfl, tp, _, dp, _, _, rfl, hpO, T.cls_Played, T.p_ticks, rfl, _, rfl, tp, _, dp, _, _, rfl, hpO, T.cls_Played, T.p_made, rfl, _, rfl, tp, _, dp, _, _, rfl, hpO, T.cls_Played, T.p_woke, rfl, by show 5 ≤ sizeLine; decide, fun t2 nt2 => ?_⟩
    have s2 : Same H1 (upd H1 t2 (.tup [sv, .ref pl, .int (runEv h z (wd0 z (g + n) fi) es).tk, .ref md, intV (runEv h z (wd0 z (g + n) fi) es).wk])) := Same.new nt2
    have ht2 : TD K (upd H1 t2 (.tup [sv, .ref pl, .int (runEv h z (wd0 z (g + n) fi) es).tk, .ref md, intV (runEv h z (wd0 z (g + n) fi) es).wk])) (.ref t2) (encWd (runEv h z (wd0 z (g + n) fi) es)) := .tup (SqT.of upd_same) (.cons (hps.keep (Same.tk s2)).td (.cons (.tup (SqT.keep (Same.tk s2) hppl) (tds_ints _)) (.cons (.int _) (.cons (.tup (SqT.keep (Same.tk s2) hpmd) (TDs.keep (Same.tk s2) hptd)) (.cons (TD.wk _) .nil)))))
    generalize upd H1 t2 (.tup [sv, .ref pl, .int (runEv h z (wd0 z (g + n) fi) es).tk, .ref md, intV (runEv h z (wd0 z (g + n) fi) es).wk]) = H2 at s2 ht2 ⊢
    have s12 := s1.trans s2
    have lv2 := lv.same s12
    have ox2 := s12 _ _ y.o
    have ht12 : TD K H2 (.ref t1) (.tuple [.int g, .int n, .str fi, .tuple ((es.map evT).map PyData.str)]) := TD.keep (Same.tk s2) (.tup ht1 (.cons (.int _) (.cons (.int _) (.cons (.str _) (.cons (.tup (SqT.keep (Same.tk s1) hw4t) (tds_strs _)) .nil)))))
    refine ⟨_, rfl, x, dx, _, rfl, ox2, x, h, z, g, n, fi, es, m, rfl, lv2, fun qh hqh => ?_⟩
    obtain ⟨dh, b1, b2, b3, b4, b5, hqO, hqr⟩ := id hqh
    refine ⟨qh, dh, _, rfl, hqO, qh, h, rfl, hqh, ok.fw, fun H3 s3 => ⟨_, rfl, ?_⟩⟩
    have lv3 := lv2.same s3
    refine ⟨_, rfl, x, dx, _, rfl, s3 _ _ ox2, x, h, z, g, n, fi, es, m, rfl, lv3, fun qz hqz => ?_⟩
    obtain ⟨dz, c1, c2, hzO, hzr⟩ := id hqz
    refine ⟨qz, dz, _, rfl, hzO, qz, z, rfl, hqz, ok.zi, ok.zs, ok.zd, ok.zn, fun H4 s4 => ⟨_, rfl, ?_⟩⟩
    have lv4 := lv3.same s4
    refine ⟨_, rfl, _, rfl, _, rfl, x, dx, _, rfl, s4 _ _ (s3 _ _ ox2), x, h, z, g, n, fi, es, m, rfl, lv4, _, rfl, by omega, by have := ok.m; omega, by show 5 ≤ sizeLine; decide, fun t5 nt5 => ?_⟩
    have s5 : Same H4 (upd H4 t5 (.tup [.str (textH h), .str (textT z), .ref t1, .ref t2, .int (m.length : Nat)])) := Same.new nt5
    have s25 := (s3.trans s4).trans s5
    have D5 : TD K (upd H4 t5 (.tup [.str (textH h), .str (textT z), .ref t1, .ref t2, .int (m.length : Nat)])) (.ref t5) (lookD h z g n fi es m.length) := .tup (SqT.of upd_same) (.cons (.str _) (.cons (.str _) (.cons (TD.keep (Same.tk s25) ht12) (.cons (TD.keep (Same.tk s25) ht2) (.cons (.int _) .nil)))))
    have le := ok.sh.le
    exact ⟨t5, _, rfl, TD.dp D5, ok.sh.sh, ok.sh.nd, ok.dp, by omega, k _ (s12.trans s25)⟩
end
end Lw
set_option Elab.async false
set_option linter.all false
set_option maxRecDepth 100000
set_option maxHeartbeats 8000000
namespace Lw
open PySem PySem.Spec PyProof.Rows L2 Hb
theorem tlen_le {α : Type} {xs : List α} {i n : Nat} (h : xs.length ≤ n) : (xs.take i).length ≤ n := by
  rw [List.length_take]
  omega
/-- what is compared of what was played -/
def swD (w : Wd) : PyData := .tuple [.tuple w.st.ds, .tuple (w.pl.map PyData.int), .tuple (w.md.map encM), wkD w.wk]
theorem swD_ok {w : Wd} {ws : List Str} (so : w.st.ok) (S : WdS ws w) (mem : ∀ x ∈ ws, x ∈ eight) : SeqAt.shaped (swD w) = true := by
  refine shaped_tup fun d hd => ?_
  simp only [List.mem_cons, List.not_mem_nil, or_false] at hd
  rcases hd with rfl | rfl | rfl | rfl
  · exact S0.shp so
  · refine shp_tup fun d hd => ?_
    obtain ⟨r, hr, rfl⟩ := List.mem_map.mp hd
    exact ⟨by simp [PyData.canLay0], by simp [PyData.depth]⟩
  · refine shp_tup fun d hd => ?_
    obtain ⟨x, hx, rfl⟩ := List.mem_map.mp hd
    have q : (encM x).canLay0 = true ∧ (encM x).depth ≤ 1 + 1 := Shp.tup (n := 1) (fun d hd => by
      simp only [List.mem_cons, List.not_mem_nil, or_false] at hd
      rcases hd with rfl | rfl
      · exact ⟨by simp [PyData.canLay0], by simp [PyData.depth]⟩
      · exact ⟨by simp only [PyData.canLay0]; exact eight_ok _ (mem _ (S.md x hx)), by simp [PyData.depth]⟩) (by decide)
    exact ⟨q.1, by omega⟩
  · cases w.wk with
    | none => exact ⟨by simp [wkD, PyData.canLay0], by simp [wkD, PyData.depth]⟩
    | some i => exact ⟨by simp [wkD, PyData.canLay0], by simp [wkD, PyData.depth]⟩
def spIsPl (K : PySem.W.Frag) : Sp := fun vs H Q _ => ∃ (x : Addr) (h : Hz) (z : Zz) (g n : Int) (f : Str) (es : List Ev) (m : List (Zz × List Ev)), vs = [.ref x] ∧ LvAt K H x h z g n f es m ∧ LvOk h z g n f es ∧ SeqAt.shaped (swD (runEv h z (wd0 z (g + n) f) es)) = true ∧ ∀ H', Same H H' → Q (.bl true) H'
section
variable {P : Program} {ww : World} {K : PySem.W.Frag} {mg : Str → Option Value} {base : Heap}
theorem c_is_played (D : Df K mg "_law_is_played" s_is_played) (T : Tx K mg) (g_house : GetOf P ww K mg base 1 (He.ga K "Live") "house" (spLHouse K)) (g_sleeper : GetOf P ww K mg base 1 (He.ga K "Live") "sleeper" (spLSleeper K)) (g_walk : GetOf P ww K mg base 1 (He.ga K "Live") "walk" (spLWalk K)) (g_played : GetOf P ww K mg base 1 (He.ga K "Live") "played" (spLPlayed K))
    (c_play : C8.Cal P ww K mg base 8 "play" (spPlay K (He.ga K "Played") (He.ga K "House") (He.ga K "Sleeper") (He.ga K "Walk")) []) : C8.Cal P ww K mg base 9 "_law_is_played" (spIsPl K) [] := by
  refine cal_mk D sc_is_played bd_is_played (fun vs H Q E h => ?_) fun f cdv A outer s H vs Q E hr h => ?_
  · obtain ⟨x, h, z, g, n, f, es, m, rfl, _⟩ := h
    rfl
  · obtain ⟨x, h, z, g, n, fi, es, m, rfl, lv, ok, shp, k⟩ := h
    have line := sizeLine_eq
    refine ⟨_, (pss_cons (ps_par (i := 1) (j := 2) (by rfl) sc_is_played.nd rfl rfl (by decide) rfl rfl (pa_cons (pe_get g_played T.cls_Live hr (by decide) (pv 0)) (pa_cons (C8.pe_c c_play hr (by decide) rfl (pa_cons (pe_get g_house T.cls_Live hr (by decide) (pv 0)) (pa_cons (pe_get g_sleeper T.cls_Live hr (by decide) (pv 0)) (pa_cons (pe_get g_walk T.cls_Live hr (by decide) (pv 0)) pa_nil)))) pa_nil)) (by rfl))
 (pss_one (ps_ret (pe_cmpR (op_eqD (room64 hr)) (pe_tup (pa_cons (pe_fld (pv 1) rfl) (pa_cons (pe_fld (pv 1) rfl) (pa_cons (pe_fld (pv 1) rfl) (pa_cons (pe_fld (pv 1) rfl) pa_nil))))) (pe_tup (pa_cons (pe_fld (pv 2) rfl) (pa_cons (pe_fld (pv 2) rfl) (pa_cons (pe_fld (pv 2) rfl) (pa_cons (pe_fld (pv 2) rfl) pa_nil))))) (by first | exact nomark _ | rfl))))), ?_⟩
    obtain ⟨dx, hm, sc, pa, zm, wl, pp, ys, y, yl⟩ := id lv
    refine ⟨_, rfl, x, dx, _, rfl, y.o, x, h, z, g, n, fi, es, m, rfl, lv, fun tp htp => ?_⟩
    refine ⟨_, rfl, x, dx, _, rfl, y.o, x, h, z, g, n, fi, es, m, rfl, lv, fun w1 hw1 => ?_⟩
    refine ⟨_, rfl, x, dx, _, rfl, y.o, x, h, z, g, n, fi, es, m, rfl, lv, fun w2 hw2 => ?_⟩
    refine ⟨_, rfl, x, dx, _, rfl, y.o, x, h, z, g, n, fi, es, m, rfl, lv, fun w3 hw3 => ?_⟩
    refine ⟨w1, w2, w3, h, z, g, n, fi, es, rfl, hw1, hw2, hw3, ok.wok, ok.eok, ok.poss, ok.dfew, ok.len, ok.sok, fun H1 p1 s1 np1 hp1 => ⟨_, _, rfl, ?_⟩⟩
    obtain ⟨w, ew⟩ : ∃ w, runEv h z (wd0 z (g + n) fi) es = w := ⟨_, rfl⟩
    replace htp : PlAt K (He.ga K "Played") H tp (runEv h z (wd0 z (g + n) fi) es) := htp
    rw [ew] at htp hp1 shp
    obtain ⟨dp, sv, pl, md, xs, hpO, hps, hppl, hpmd, hptd⟩ := htp.same s1
    refine ⟨_, rfl, tp, _, dp, _, _, rfl, hpO, T.cls_Played, T.p_state, rfl, _, rfl, tp, _, dp, _, _, rfl, hpO, T.cls_Played, T.p_places, rfl, _, rfl, tp, _, dp, _, _, rfl, hpO, T.cls_Played, T.p_made, rfl, _, rfl, tp, _, dp, _, _, rfl, hpO, T.cls_Played, T.p_woke, rfl, by show 4 ≤ sizeLine; decide, fun t2 nt2 => ?_⟩
    have s2 : Same H1 (upd H1 t2 (.tup [sv, .ref pl, .ref md, intV w.wk])) := Same.new nt2
    have ht2 : TD K (upd H1 t2 (.tup [sv, .ref pl, .ref md, intV w.wk])) (.ref t2) (swD w) := .tup (SqT.of upd_same) (.cons (hps.keep (Same.tk s2)).td (.cons (.tup (SqT.keep (Same.tk s2) hppl) (tds_ints _)) (.cons (.tup (SqT.keep (Same.tk s2) hpmd) (TDs.keep (Same.tk s2) hptd)) (.cons (TD.wk _) .nil))))
    generalize upd H1 t2 (.tup [sv, .ref pl, .ref md, intV w.wk]) = H2 at s2 ht2 ⊢
    obtain ⟨dq, sq, pq, mq, xq, hqO, hqs, hqpl, hqmd, hqtd⟩ := hp1.same s2
    refine ⟨_, rfl, p1, _, dq, _, _, rfl, hqO, T.cls_Played, T.p_state, rfl, _, rfl, p1, _, dq, _, _, rfl, hqO, T.cls_Played, T.p_places, rfl, _, rfl, p1, _, dq, _, _, rfl, hqO, T.cls_Played, T.p_made, rfl, _, rfl, p1, _, dq, _, _, rfl, hqO, T.cls_Played, T.p_woke, rfl, by show 4 ≤ sizeLine; decide, fun t3 nt3 => ?_⟩
    have s3 : Same H2 (upd H2 t3 (.tup [sq, .ref pq, .ref mq, intV w.wk])) := Same.new nt3
    have ht3 : TD K (upd H2 t3 (.tup [sq, .ref pq, .ref mq, intV w.wk])) (.ref t3) (swD w) := .tup (SqT.of upd_same) (.cons (hqs.keep (Same.tk s3)).td (.cons (.tup (SqT.keep (Same.tk s3) hqpl) (tds_ints _)) (.cons (.tup (SqT.keep (Same.tk s3) hqmd) (TDs.keep (Same.tk s3) hqtd)) (.cons (TD.wk _) .nil))))
    exact eq_data (TD.dp (TD.keep (Same.tk s3) ht2)) (TD.dp ht3) shp (k _ ((s1.trans s2).trans s3))
end
end Lw
set_option Elab.async false
set_option linter.all false
set_option maxRecDepth 100000
set_option maxHeartbeats 8000000
namespace Lw
open PySem PySem.Spec PyProof.Rows L2 Hb
theorem wk_ok {g n : Int} {f : Str} {es : List Ev} (g0 : 0 ≤ g) (n0 : 0 ≤ n) (few : g + n ≤ 64) (hf : f ∈ (["asleep", "dozing", "up"] : List Str)) (ok : ∀ e ∈ es, EvOk (g + n) e) (len : es.length ≤ 1000) : WkOk ⟨g, n, f, es.map evT⟩ :=
  ⟨g0, n0, few, hf, fun s hs => by
    obtain ⟨e, he, rfl⟩ := List.mem_map.mp hs
    exact ⟨e, rfl, ok e he⟩, by show (es.map evT).length ≤ _; rw [List.length_map]; exact len⟩
theorem Poss.other {h : Hz} {z z2 : Zz} {g : Int} : ∀ {es : List Ev} {w v : Wd}, w.pl = v.pl → w.sp = v.sp → Poss h z g w es → Poss h z2 g v es
  | [], _, _, _, _, _ => trivial
  | e :: es, w, v, a, b, pz => by
    have c : CanEv h g v e := by
      have q := pz.1
      cases e with
      | tick => trivial
      | hum p d =>
        unfold CanEv placeAt at q ⊢
        rw [← a]
        exact q
      | step p n =>
        unfold CanEv placeAt at q ⊢
        rw [← a, ← b]
        exact q
    have a2 : (goEv h z w e).pl = (goEv h z2 v e).pl := by
      cases e with
      | tick => exact a
      | hum p d => exact a
      | step p n =>
        show w.pl.set _ (behindD _ (placeAt w p)) = v.pl.set _ (behindD _ (placeAt v p))
        unfold placeAt
        rw [a]
    have b2 : (goEv h z w e).sp = (goEv h z2 v e).sp := by
      cases e with
      | tick => rfl
      | hum p d => exact b
      | step p n =>
        show w.sp ++ [p] = v.sp ++ [p]
        rw [b]
    exact ⟨c, Poss.other (es := es) a2 b2 pz.2⟩
theorem Poss.snoc {h : Hz} {z : Zz} {g : Int} {w : Wd} {es : List Ev} {e : Ev} (a : Poss h z g w es) (b : CanEv h g (runEv h z w es) e) : Poss h z g w (es ++ [e]) := Poss.app.mpr ⟨a, b, trivial⟩
/-- all else stays -/
def Kq (x d g : Addr) (H H' : Hp) : Prop := ∀ b o, b ≠ x → b ≠ d → b ≠ g → H b = some o → H' b = some o
theorem Kq.trans {x d g : Addr} {H H1 H2 : Hp} (a : Kq x d g H H1) (b : Kq x d g H1 H2) : Kq x d g H H2 := fun c o n1 n2 n3 e => b c o n1 n2 n3 (a c o n1 n2 n3 e)
theorem Kq.kx {x d g : Addr} {H H' : Hp} (k : KX x H H') : Kq x d g H H' := fun b o n _ _ e => k b o n e
theorem Kq.kp {x d g : Addr} {H H' : Hp} (k : Kp d g H H') : Kq x d g H H' := fun b o _ n1 n2 e => k b o n1 n2 e
theorem Kq.same {x d g : Addr} {H H' : Hp} (k : Same H H') : Kq x d g H H' := fun b o _ _ _ e => k b o e
theorem LvAt.ob {K : PySem.W.Frag} {H : Hp} {x : Addr} {h : Hz} {z : Zz} {g n : Int} {f : Str} {es : List Ev} {m : List (Zz × List Ev)} (y : LvAt K H x h z g n f es m) : ∃ dx hm sc pa, H x = some (.ins (He.ga K "Live") dx (lFs hm sc pa)) := by
  obtain ⟨dx, hm, sc, pa, zm, wl, pp, ys, l, _⟩ := y
  exact ⟨dx, hm, sc, pa, l.o⟩
theorem deal_kx {x d g0 : Addr} {H H' : Hp} {C dx : Addr} {fs : List (Str × V)} (dl : Deal d g0 H) (k : KX x H H') (hx : H x = some (.ins C dx fs)) : Deal d g0 H' := by
  obtain ⟨ns, now, mixed, turn, dl⟩ := dl
  have nk : ∀ {b : Addr} {ob : HO}, H b = some ob → (∀ C dx fs, ob ≠ .ins C dx fs) → H' b = some ob := fun {b ob} e n => k b _ (fun z => by rw [z, hx] at e; exact n _ _ _ (Option.some.inj e).symm) e
  exact ⟨ns, now, mixed, turn, ⟨nk dl.d (fun _ _ _ e => nomatch e), nk dl.g (fun _ _ _ e => nomatch e), dl.few, dl.pos, dl.now⟩⟩
theorem lst_kx {x q : Addr} {H H' : Hp} {C dx : Addr} {fs : List (Str × V)} {xs : List V} (k : KX x H H') (hx : H x = some (.ins C dx fs)) (hq : H q = some (.lst xs)) : H' q = some (.lst xs) := k q _ (fun z => by rw [z, hx] at hq; cases hq) hq
abbrev w66 (z : Zz) : Wd := wd0 z (1 + 1) "asleep"
/-- what a live house of this law may be -/
structure Dn (ws : List Str) (h : Hz) (k : Nat) (z : Zz) (es : List Ev) : Prop where
  zk : Zok z ws
  eok : ∀ e ∈ es, EvOk (1 + 1) e
  poss : Poss h z 1 (w66 z) es
  len : es.length ≤ k
theorem Dn.mono {ws : List Str} {h : Hz} {k k' : Nat} {z : Zz} {es : List Ev} (x : Dn ws h k z es) (e : k ≤ k') : Dn ws h k' z es := ⟨x.zk, x.eok, x.poss, Nat.le_trans x.len e⟩
theorem Dn.put {ws : List Str} {h : Hz} {k : Nat} {z : Zz} {es : List Ev} (x : Dn ws h k z es) {e : Ev} (a : EvOk (1 + 1) e) (b : CanEv h 1 (runEv h z (w66 z) es) e) : Dn ws h (k + 1) z (es ++ [e]) := by
  refine ⟨x.zk, fun e' he' => ?_, x.poss.snoc b, by rw [List.length_append]; exact Nat.succ_le_succ x.len⟩
  rcases List.mem_append.mp he' with he' | he'
  · exact x.eok e' he'
  · rw [List.mem_singleton.mp he']
    exact a
theorem Dn.ticks {ws : List Str} {h : Hz} {z : Zz} {es : List Ev} : ∀ (n : Nat) {k : Nat}, Dn ws h k z es → Dn ws h (k + n) z (es ++ List.replicate n .tick)
  | 0, k, x => by
    rw [List.replicate_zero, List.append_nil]
    exact x
  | n + 1, k, x => by
    have q := (Dn.ticks n x).put (e := .tick) trivial trivial
    rw [List.append_assoc, ← List.replicate_succ'] at q
    exact q
theorem Dn.other {ws : List Str} {h : Hz} {k : Nat} {z z2 : Zz} {es : List Ev} (x : Dn ws h k z es) (zk : Zok z2 ws) : Dn ws h k z2 es := ⟨zk, x.eok, Poss.other (w := w66 z) (v := w66 z2) rfl rfl x.poss, x.len⟩
theorem Dn.lvok {ws : List Str} {h : Hz} {k : Nat} {z : Zz} {es : List Ev} (x : Dn ws h k z es) (kf : k ≤ 100) (dm : h.doors.length ≤ 60) : LvOk h z 1 1 "asleep" es := by
  have := x.len
  exact ⟨wk_ok (by decide) (by decide) (by decide) (by simp) x.eok (by omega), x.eok, x.poss, by omega, by omega, fun i => InS.sok x.zk (InS.run x.zk (InS.first x.zk "asleep"))⟩
theorem Dn.lk {ws : List Str} {h : Hz} {k : Nat} {z : Zz} {es : List Ev} (x : Dn ws h k z es) (hk : Hok h 4 6 ws) (mem : ∀ w ∈ ws, w ∈ eight) (kf : k ≤ 100) {m : Nat} (hm : m ≤ 1000) : LookOk h z 1 1 "asleep" es m := by
  have := x.len
  exact look_ok hk x.zk mem (by decide) (by decide) (by decide) (by simp) x.eok x.poss (by omega) hm
theorem Dn.sw {ws : List Str} {h : Hz} {k : Nat} {z : Zz} {es : List Ev} (x : Dn ws h k z es) (hk : Hok h 4 6 ws) (mem : ∀ w ∈ ws, w ∈ eight) : SeqAt.shaped (swD (runEv h z (wd0 z (1 + 1) "asleep") es)) = true :=
  swD_ok (InS.sok x.zk (InS.run x.zk (InS.first x.zk "asleep"))) (WdS.run hk (by decide) (WdS.zero ws z (1 + 1) "asleep") x.poss) mem
def spStep (K : PySem.W.Frag) : Sp := fun vs H Q _ => ∃ (d g0 x o l oA oB : Addr) (h : Hz) (z zA zB : Zz) (ws : List Str) (es : List Ev) (m : List (Zz × List Ev)) (k : Nat), vs = [.ref d, .ref x, .ref o, .ref l] ∧ Deal d g0 H ∧ LvAt K H x h z 1 1 "asleep" es m ∧ HOne K H o h ∧ H l = some (.lst [.ref oA, .ref oB]) ∧ l ≠ g0 ∧ OneAt K H oA zA ∧ OneAt K H oB zB ∧
  Hok h 4 6 ws ∧ (∀ w ∈ ws, w ∈ eight) ∧ Zok zA ws ∧ Zok zB ws ∧ Dn ws h k z es ∧ k ≤ 90 ∧ m.length ≤ 900 ∧
  ∀ H' z' es' v, Deal d g0 H' → Kq x d g0 H H' → TK H H' → LvAt K H' x h z' 1 1 "asleep" es' (m ++ [(z, es)]) → Dn ws h (k + 2) z' es' → Q v H'
theorem zinO {z : Zz} {ws : List Str} (zk : Zok z ws) : Zin z := ⟨zk.nd, fun p hp => ⟨(zk.ok p hp).2, zk.srt p hp⟩, Nat.le_trans zk.few (by decide), zk.s1, zk.d1, zk.n1, zk.lo⟩
theorem rep_ticks (n : Nat) : (List.replicate n [V.str "tick"]).flatten = ((List.replicate n Ev.tick).map evT).map V.str := by
  induction n with
  | zero => rfl
  | succ n ih =>
    rw [List.replicate_succ, List.replicate_succ, List.flatten_cons, ih, List.map_cons, List.map_cons, tick_T]
    rfl
section
variable {P : Program} {ww : World} {K : PySem.W.Frag} {mg : Str → Option Value} {base : Heap}
theorem pl_at {xs : List Int} (h : 0 < xs.length) : (xs.map V.int)[0]? = some (V.int (xs.getD 0 0)) := by
  cases xs with
  | nil => cases h
  | cons a r => rfl
theorem in_two (r a b : Int) : inV (.int r) [.int a, .int b] = (decide (r = a) || decide (r = b)) := by
  show (eqV (.int a) (.int r) || (eqV (.int b) (.int r) || false)) = _
  show ((a == r) || ((b == r) || false)) = _
  rw [Bool.or_false, Bool.beq_eq_decide_eq, Bool.beq_eq_decide_eq]
  simp only [eq_comm]
theorem his_keep {K : PySem.W.Frag} {H H' : Hp} {p : Addr} {h : Hz} {a b c : Addr} {xs ys : List V} (k : TK H H') (x : HIs K H p h a b c xs ys) : HIs K H' p h a b c xs ys := ⟨SqT.keep k x.all, SqT.keep k x.da, TDs.keep k x.dx, SqT.keep k x.fb, TDs.keep k x.fx, SqT.keep k x.cc⟩
theorem ne_nilL {K : PySem.W.Frag} {H : Hp} {Q : VK} {q l : Addr} {vs : List V} {ds : List PyData} (hq : SqL K H q vs) (ht : TDs K H vs ds) (hl : SqL K H l []) (sh : SeqAt.shaped (.list ds) = true) (k : Q (.bl (!ds.isEmpty)) H) : rNeD K (.ref q) (.ref l) H Q :=
  ⟨.list ds, .list [], .lst hq (TDs.dp ht), .lst hl (TDs.dp .nil), sh, by decide +kernel, by rw [eqv_nil]; exact k⟩
theorem shaped_intsL (ns : List Int) : SeqAt.shaped (.list (ns.map PyData.int)) = true := shaped_list fun d hd => by
  obtain ⟨x, hx, rfl⟩ := List.mem_map.mp hd
  exact ⟨by simp [PyData.canLay0], by simp [PyData.depth]⟩
theorem step_Ts : ∀ n ∈ List.range 64, evT (.step 0 (n : Int)) = ("step 0 " : Str) ++ ((toString (n : Int) : String) : Str) ∧ (evT (.step 0 (n : Int))).length ≤ 20 ∧ ("step 0 " : Str).length + ((toString (n : Int) : String) : Str).length ≤ 20 := by decide +kernel
theorem step_T {n : Int} (h0 : 0 ≤ n) (h1 : n < 64) : evT (.step 0 n) = ("step 0 " : Str) ++ ((toString n : String) : Str) ∧ ("step 0 " : Str).length + ((toString n : String) : Str).length ≤ 20 := by
  obtain ⟨k, rfl⟩ := Int.eq_ofNat_of_zero_le h0
  have q := step_Ts k (List.mem_range.mpr (by omega))
  exact ⟨q.1, q.2.2⟩
theorem c_step (D : Df K mg "_law_step" s_step) (T : Tx K mg) (c_draw : C8.Cal P ww K mg base 1 "_law_draw" spDraw []) (c_pick : C8.Cal P ww K mg base 2 "_law_pick" (spPick K) []) (c_sleeper_of : C8.Cal P ww K mg base 6 "_law_sleeper_of" (spSlpOf K (He.ga K "Sleeper")) [])
    (c_do : C8.Met P ww K mg base 10 (He.ga K "Live") "do" (spLDo K) []) (c_several : C8.Met P ww K mg base 10 (He.ga K "Live") "several" (spSeveral K) []) (c_change : C8.Met P ww K mg base 10 (He.ga K "Live") "change" (spChange K) []) (c_undo : C8.Met P ww K mg base 1 (He.ga K "Live") "undo" (spUndo K) []) (g_played : GetOf P ww K mg base 1 (He.ga K "Live") "played" (spLPlayed K)) :
    C8.Cal P ww K mg base 11 "_law_step" (spStep K) [] := by
  refine cal_mk D sc_step bd_step (fun vs H Q E h => ?_) fun f cdv A outer s H vs Q E hr h => ?_
  · obtain ⟨d, g0, x, o, l, oA, oB, h, z, zA, zB, ws, es, m, k, rfl, _⟩ := h
    rfl
  · obtain ⟨d, g0, x, o, l, oA, oB, h, z, zA, zB, ws, es, m, k, rfl, dl, lv, ho, hl, lg, hA, hB, hk, mem, zkA, zkB, dn, k90, m900, kk⟩ := h
    have line := sizeLine_eq
    have dfew : h.doors.length ≤ 6 := by have := hk.dm; omega
    refine ⟨_, (pss_cons (ps_set (i := 4) sc_step.nd rfl (Or.inl rfl) (C8.pe_c c_draw hr (by decide) rfl (pa_cons (pv 0) (pa_cons pe_int pa_nil))))
 (pss_one (ps_if (pt_cmpR op_eq (pv 4) pe_int (by first | exact nomark _ | rfl))
 (pss_one (ps_expr (C8.pe_mt c_change hr (by decide) (pv 1) (pa_cons (C8.pe_c c_sleeper_of hr (by decide) rfl (pa_cons (C8.pe_c c_pick hr (by decide) rfl (pa_cons (pv 0) (pa_cons (pv 3) pa_nil))) pa_nil)) pa_nil))))
 (pss_one (ps_if (pt_cmpR op_lt (pv 4) pe_int (by first | exact nomark _ | rfl))
 (pss_one (ps_expr (C8.pe_mt c_several hr (by decide) (pv 1) (pa_cons (pe_op op_rep (pe_lst (pa_cons pe_str pa_nil)) (C8.pe_c c_draw hr (by decide) rfl (pa_cons (pv 0) (pa_cons pe_int pa_nil)))) pa_nil))))
 (pss_cons (ps_set (i := 5) sc_step.nd rfl (Or.inr rfl) (pe_ix ix_tup (pe_fld (pe_get g_played T.cls_Live hr (by decide) (pv 1)) rfl) pe_int (fun _ _ => rfl)))
 (pss_cons (ps_setLc (i := 6) (own := [("_law_door", 7)]) (by rfl) sc_step.nd rfl rfl (sw_true rfl rfl rfl (by decide +kernel)) (pi_range1 (by rfl) T.n_range (pa_cons (pe_callB call_len (by rfl) T.n_len (by decide +kernel) (pa_cons (pe_ix ix_tup (pv 2) pe_int (fun _ _ => rfl)) pa_nil)) pa_nil)) (blkOk_by (N := N_step) (sc := defScope s_step) (by decide +kernel)) (fun _ _ _ _ _ => (pg_name (i := 7) sc_step.nd rfl (Or.inl rfl))) (fun _ _ _ _ _ => (pts_one (pt_cmpR (show OpR _ _ (rIn K false) from op_in_seq) (pv 5) (pe_slice (show SlR _ (rSlA K) from sl_tupA) (pe_ix (show IxR _ (rIxT K) from ix_tup) (pe_ix (show IxR _ (rIxT K) from ix_tup) (pv 2) pe_int (fun _ _ => rfl)) (pv 7) (fun _ _ => rfl)) po_none (po_some pe_int)) (by first | exact nomark _ | rfl)))) (fun _ _ _ _ _ => (pv 7)))
 (pss_cons (ps_expr (C8.pe_mt c_do hr (by decide) (pv 1) (pa_cons pe_str pa_nil)))
 (pss_one (ps_if (pt_cmpR (op_neD hr.units) (pv 6) (pe_lst pa_nil) (by first | exact nomark _ | rfl))
 (pss_cons (ps_expr (C8.pe_mt0 c_undo hr (by decide) (pv 1)))
 (pss_one (ps_expr (C8.pe_mt c_several hr (by decide) (pv 1) (pa_cons (pe_lst (pa_cons pe_str (pa_cons (pe_op (show OpR _ _ (fun x y H Q => ∃ a b : Str, x = .str a ∧ y = .str b ∧ a.length + b.length ≤ sizeLine ∧ Q (.str (a ++ b)) H) from op_add_str) pe_str (pe_callTy (show CallR _ _ (fun xs H Q => ∃ n : Int, xs = [.int n] ∧ n.natAbs.log2 < 1920 ∧ Q (.str ((toString n : String) : Str)) H) from call_str_int) (by rfl) T.n_str (by decide +kernel) (pa_cons (C8.pe_c c_pick hr (by decide) rfl (pa_cons (pv 0) (pa_cons (pv 6) pa_nil))) pa_nil))) pa_nil))) pa_nil)))))
 pss_nil)))))))))), ?_⟩
    obtain ⟨dx, hm, sc, pa, hx⟩ := lv.ob
    refine ⟨_, rfl, d, g0, 5, rfl, dl, by decide, by decide, fun H1 c dl1 k1 c0 c1 => ?_⟩
    have kq1 : Kq x d g0 H H1 := Kq.kp k1
    have tk1 := dl.tk k1
    have lv1 := lv.ik (IK.kp dl k1)
    have ld : l ≠ d := dl.ne_d hl (by intro kvs e; cases e)
    have hl1 := k1 _ _ ld lg hl
    have ho1 : HOne K H1 o h := TD.keep tk1 ho
    have hA1 : OneAt K H1 oA zA := TD.keep tk1 hA
    have hB1 : OneAt K H1 oB zB := TD.keep tk1 hB
    have hx1 : ∃ dx hm sc pa, H1 x = some (.ins (He.ga K "Live") dx (lFs hm sc pa)) := lv1.ob
    clear hx lv ho hl hA hB k1 dl
    refine ⟨_, rfl, rfl, _, rfl, ite2 (fun q => ?_) (fun q => ⟨_, rfl, _, _, rfl, rfl, _, rfl, ite2 (fun q => ?_) (fun q => ?_)⟩)⟩
    · obtain ⟨dx, hm, sc, pa, hx⟩ := hx1
      refine ⟨_, rfl, x, dx, _, rfl, hx, rfl, _, rfl, _, rfl, d, g0, l, _, rfl, dl1, .inl ⟨hl1, lg⟩, by simp, by simp, fun H2 v hv dl2 k2 => ?_⟩
      have tk2 := dl1.tk k2
      have pick : ∃ ov zo, v = .ref ov ∧ OneAt K H2 ov zo ∧ Zok zo ws := by
        simp only [List.mem_cons, List.not_mem_nil, or_false] at hv
        rcases hv with rfl | rfl
        · exact ⟨oA, zA, rfl, TD.keep tk2 hA1, zkA⟩
        · exact ⟨oB, zB, rfl, TD.keep tk2 hB1, zkB⟩
      obtain ⟨ov, zo, rfl, hov, zko⟩ := pick
      refine ⟨ov, zo, rfl, hov, zinO zko, fun H3 zm s3 nzm hzm => ?_⟩
      have lv3 := (lv1.ik (IK.kp dl1 k2)).same s3
      have dl3 := dl2.same s3
      have dn2 := dn.other zko
      refine ⟨x, zm, h, z, zo, 1, 1, "asleep", es, m, rfl, lv3, hzm, by omega, dn2.lvok (by omega) (by omega), fun H4 kx4 lv4 => ?_⟩
      obtain ⟨dx3, hm3, sc3, pa3, hx3⟩ := lv3.ob
      exact kk H4 zo es _ (deal_kx dl3 kx4 hx3) (((kq1.trans (Kq.kp k2)).trans (Kq.same s3)).trans (Kq.kx kx4)) (((tk1.trans tk2).trans (Same.tk s3)).trans (kx4.tk hx3)) lv4 (dn2.mono (by omega))
    · obtain ⟨dx, hm, sc, pa, hx⟩ := hx1
      refine ⟨_, rfl, x, dx, _, rfl, hx, rfl, by show 1 ≤ sizeLine; omega, fun l1 nl1 => ⟨_, rfl, d, g0, 3, rfl, dl1.same (Same.new nl1), by decide, by decide, fun H3 n dl3 k3 n0 n1 => ?_⟩⟩
      have s2 : Same H1 (upd H1 l1 (.lst [.str "tick"])) := Same.new nl1
      have ll : l1 ≠ d ∧ l1 ≠ g0 := dl1.free nl1
      have hl3 : H3 l1 = some (.lst [.str "tick"]) := k3 _ _ ll.1 ll.2 upd_same
      have kq3 : Kq x d g0 H H3 := (kq1.trans (Kq.same s2)).trans (Kq.kp k3)
      have tk3 := (tk1.trans (Same.tk s2)).trans ((dl1.same s2).tk k3)
      have lv3 := (lv1.same s2).ik (IK.kp (dl1.same s2) k3)
      refine ⟨l1, n, _, rfl, rfl, hl3, by omega, by omega, by show 1 * n.toNat ≤ sizeLine; omega, fun p np => ?_⟩
      rw [rep_ticks]
      have s4 : Same H3 (upd H3 p (.lst (((List.replicate n.toNat Ev.tick).map evT).map V.str))) := Same.new np
      have hp4 : upd H3 p (.lst (((List.replicate n.toNat Ev.tick).map evT).map V.str)) p = some (.lst (((List.replicate n.toNat Ev.tick).map evT).map V.str)) := upd_same
      generalize upd H3 p (.lst (((List.replicate n.toNat Ev.tick).map evT).map V.str)) = H4 at s4 hp4 ⊢
      have lv4 := lv3.same s4
      obtain ⟨dx4, hm4, sc4, pa4, hx4⟩ := lv4.ob
      refine ⟨x, p, h, z, 1, 1, "asleep", es, List.replicate n.toNat .tick, m, rfl, lv4, hp4, by omega, by rw [List.length_replicate]; omega, fun i => ?_, fun H5 v kx5 lv5 => ?_⟩
      · rw [List.take_replicate]
        exact (dn.ticks (min i n.toNat)).lvok (by omega) (by omega)
      · exact kk H5 z _ _ (deal_kx (dl3.same s4) kx5 hx4) ((kq3.trans (Kq.same s4)).trans (Kq.kx kx5)) ((tk3.trans (Same.tk s4)).trans (kx5.tk hx4)) lv5 ((dn.ticks n.toNat).mono (by omega))
    · obtain ⟨dx, hm, sc, pa, hx⟩ := hx1
      have B := WdB.run z (es := es) (WdB.zero h z (k := 1 + 1) "asleep")
      have bpl : (runEv h z (wd0 z (1 + 1) "asleep") es).pl.length = 2 := B.pl
      refine ⟨_, rfl, x, dx, _, rfl, hx, x, h, z, 1, 1, "asleep", es, m, rfl, lv1, fun pq hp => ?_⟩
      obtain ⟨dp, sv, pl, md, xs, hpO, hps, hppl, hpmd, hptd⟩ := id hp
      have at0 : atI ((runEv h z (wd0 z (1 + 1) "asleep") es).pl.map V.int) ((0 : Nat) : Int) = some (V.int (placeAt (runEv h z (wd0 z (1 + 1) "asleep") es) 0)) := atI_nat (pl_at (by omega))
      refine ⟨pq, _, dp, _, _, rfl, hpO, T.cls_Played, T.p_places, rfl, pl, _, 0, _, rfl, rfl, hppl, at0, ?_⟩
      obtain ⟨ha, hb, hc, dxs, fxs, hO⟩ := ho1.inv
      have dl : dxs.length = h.doors.length := by have := TDs.length hO.dx; rw [List.length_map] at this; exact this
      generalize hpA : placeAt (runEv h z (wd0 z (1 + 1) "asleep") es) 0 = room at at0 ⊢
      refine ⟨_, rfl, o, _, 1, _, rfl, rfl, hO.all, rfl, .ref ha, dxs.length, rfl, .inr ⟨_, hO.da, rfl⟩, _, rfl, by omega, by omega, fun DL nDL => lc_range (lo := 0) (n := dxs.length) (fun i H' => Same H1 H' ∧ ∃ ns : List Int, H' DL = some (.lst (ns.map V.int)) ∧ ns.length ≤ i ∧ ∀ n ∈ ns, (0 ≤ n ∧ n < (h.doors.length : Nat)) ∧ (room = (doorAt h n).1 ∨ room = (doorAt h n).2.1)) ⟨Same.new nDL, [], upd_same, Nat.le_refl _, fun n hn => nomatch hn⟩ ?_ ?_⟩
      · rintro i H' hi ⟨s2, ns, hD, nl, hns⟩
        have hO' := his_keep (Same.tk s2) hO
        have hi2 : i < h.doors.length := by omega
        obtain ⟨v, hv⟩ : ∃ v, dxs[i]? = some v := ⟨_, List.getElem?_eq_getElem hi⟩
        obtain ⟨dr, hdr, hvd⟩ := TDs.at_map hO'.dx hv
        obtain ⟨t, us, rfl, ht, htd⟩ := TD.tup_inv hvd
        obtain ⟨v1, w1, rfl, a1, h3⟩ := TDs.cons_inv htd
        obtain ⟨v2, w2, rfl, a2, h4⟩ := TDs.cons_inv h3
        obtain ⟨v3, w3, rfl, a3, h5⟩ := TDs.cons_inv h4
        obtain rfl := TDs.nil_inv h5
        obtain rfl := TD.int_inv a1
        obtain rfl := TD.int_inv a2
        have dri : doorAt h (0 + (i : Nat)) = dr := by
          unfold doorAt
          rw [Int.zero_add, List.getD_eq_getElem?_getD, show ((i : Nat) : Int).toNat = i by omega, hdr]
          rfl
        refine ⟨rfl, _, rfl, _, rfl, o, _, 1, _, rfl, rfl, hO'.all, rfl, _, rfl, ha, _, (0 + (i : Nat) : Int), _, rfl, rfl, hO'.da, by rw [Int.zero_add]; exact atI_nat hv, 2, rfl, t, _, rfl, ht, fun q => absurd (show min (2 : Int).toNat 3 = 3 from q.2) (by decide), fun _ u nu => ?_⟩
        have s3 : Same H' (upd H' u (.tup (cutV [.int dr.1, .int dr.2.1, v3] none (some 2)))) := Same.new nu
        have hu3 : SqT K (upd H' u (.tup (cutV [.int dr.1, .int dr.2.1, v3] none (some 2)))) u [.int dr.1, .int dr.2.1] := SqT.of upd_same
        refine ⟨u, _, rfl, .inr hu3, rfl, rfl, _, rfl, ?_⟩
        have hD3 := s3 _ _ hD
        have s23 := s2.trans s3
        generalize upd H' u (.tup (cutV [.int dr.1, .int dr.2.1, v3] none (some 2))) = H3 at hD3 s23 ⊢
        rw [in_two]
        refine ite2 (fun q => ⟨_, rfl, _, hD3, by rw [List.length_map]; omega, Hb.Same.acc s23 nDL, ns ++ [(0 + ((i : Nat) : Int))], by rw [upd_same, List.map_append]; rfl, by rw [List.length_append]; exact Nat.succ_le_succ nl, fun n hn => ?_⟩) (fun q => ⟨s23, ns, hD3, by omega, hns⟩)
        rcases List.mem_append.mp hn with hn | hn
        · exact hns n hn
        · rw [List.mem_singleton.mp hn, dri]
          refine ⟨by omega, ?_⟩
          simpa using q
      · rintro H2 ⟨s2, ns, hD, nl, hns⟩
        have dl2 := dl1.same s2
        have lv2 := lv1.same s2
        have hx2 := s2 _ _ hx
        have kq2 := kq1.trans (Kq.same s2)
        have tk2 := tk1.trans (Same.tk s2)
        have DLx : DL ≠ x := fun e => by rw [e, hx] at nDL; cases nDL
        have dnT := dn.put (e := .tick) trivial trivial
        refine ⟨_, rfl, x, dx, _, rfl, hx2, rfl, x, h, z, 1, 1, "asleep", es, m, .tick, by rw [tick_T]; rfl, lv2, by omega, dn.lvok (by omega) (by omega), dnT.lvok (by omega) (by omega), fun H3 v kx3 lv3 hv3 => ?_⟩
        have dl3 := deal_kx dl2 kx3 hx2
        have kq3 : Kq x d g0 H H3 := kq2.trans (Kq.kx kx3)
        have tk3 := tk2.trans (kx3.tk hx2)
        have hD3 := kx3 _ _ DLx hD
        refine ⟨_, rfl, Nat.zero_le _, fun l0 nl0 => ?_⟩
        have s4 : Same H3 (upd H3 l0 (.lst [])) := Same.new nl0
        have hl04 : upd H3 l0 (.lst []) l0 = some (.lst []) := upd_same
        generalize upd H3 l0 (.lst []) = H4 at s4 hl04 ⊢
        have hD4 := s4 _ _ hD3
        refine ne_nilL (SqL.of hD4) (tds_ints ns) (SqL.of hl04) (shaped_intsL ns) ⟨_, rfl, ?_⟩
        cases ns with
        | nil => exact iteF (kk H4 z _ _ (dl3.same s4) (kq3.trans (Kq.same s4)) (tk3.trans (Same.tk s4)) (lv3.same s4) (dnT.mono (by omega)))
        | cons n0 nr =>
          have lv4 := lv3.same s4
          obtain ⟨dx4, hm4, sc4, pa4, hx4⟩ := lv4.ob
          refine iteT ⟨_, rfl, x, dx4, _, rfl, hx4, rfl, x, h, z, 1, 1, "asleep", _, _, rfl, lv4, by rw [List.length_append]; show m.length + 1 ≤ 1000; omega, fun q => by simp at q, fun z' es' m' eq H5 kx5 lv5 => ?_⟩
          obtain ⟨rfl, eq2⟩ := List.append_inj' eq rfl
          injection eq2 with eq2 _
          injection eq2 with e1 e2
          subst e1 e2
          obtain ⟨dx5, hm5, sc5, pa5, hx5⟩ := lv5.ob
          have dl5 := deal_kx (dl3.same s4) kx5 hx4
          have kq5 := (kq3.trans (Kq.same s4)).trans (Kq.kx kx5)
          have tk5 := (tk3.trans (Same.tk s4)).trans (kx5.tk hx4)
          have hD5 := kx5 _ _ DLx hD4
          have DLg := (dl1.free nDL).2
          refine ⟨_, rfl, x, dx5, _, rfl, hx5, rfl, _, rfl, _, rfl, d, g0, DL, _, rfl, dl5, .inl ⟨hD5, DLg⟩, by simp, by rw [List.length_map]; omega, fun H6 v hv dl6 k6 => ?_⟩
          obtain ⟨n, hn, rfl⟩ := List.mem_map.mp hv
          obtain ⟨⟨n0', n1'⟩, hroom⟩ := hns n hn
          have sT := step_T n0' (by omega)
          refine ⟨n, rfl, (num_tI (i := n) ⟨n0', by omega⟩).2.2.2.2, _, _, rfl, rfl, by omega, by show 2 ≤ sizeLine; omega, fun l2 nl2 => ?_⟩
          have s7 : Same H6 (upd H6 l2 (.lst [.str "tick", .str (("step 0 " : Str) ++ ((toString n : String) : Str))])) := Same.new nl2
          have hl7 : upd H6 l2 (.lst [.str "tick", .str (("step 0 " : Str) ++ ((toString n : String) : Str))]) l2 = some (.lst (([Ev.tick, .step 0 n].map evT).map V.str)) := by
            rw [upd_same, List.map_cons, List.map_cons, List.map_cons, List.map_cons, tick_T, sT.1]
            rfl
          generalize upd H6 l2 (.lst [.str "tick", .str (("step 0 " : Str) ++ ((toString n : String) : Str))]) = H7 at s7 hl7 ⊢
          have lv7 := (lv5.ik (IK.kp dl5 k6)).same s7
          obtain ⟨dx7, hm7, sc7, pa7, hx7⟩ := lv7.ob
          have can : CanEv h 1 (runEv h z (w66 z) (es ++ [.tick])) (.step 0 n) := by
            rw [run_snoc]
            refine ⟨⟨by decide, ?_⟩, ⟨n0', n1'⟩, (fun hh => by cases hh), ?_⟩
            · show (0 : Int) < ((runEv h z (w66 z) es).pl.length : Nat)
              rw [bpl]
              decide
            · show placeAt (runEv h z (w66 z) es) 0 = _ ∨ placeAt (runEv h z (w66 z) es) 0 = _
              rw [hpA]
              exact hroom
          have dnS := dnT.put (e := .step 0 n) ⟨⟨by decide, by decide⟩, n0', by omega⟩ can
          have eS : es ++ [Ev.tick] ++ [.step 0 n] = es ++ [.tick, .step 0 n] := by rw [List.append_assoc]; rfl
          rw [eS] at dnS
          refine ⟨x, l2, h, z, 1, 1, "asleep", es, [.tick, .step 0 n], m, rfl, lv7, hl7, by omega, by simp, fun i => ?_, fun H8 v8 kx8 lv8 => ?_⟩
          · match i with
            | 0 =>
              rw [List.take_zero, List.append_nil]
              exact dn.lvok (by omega) (by omega)
            | 1 => exact dnT.lvok (by omega) (by omega)
            | i + 2 =>
              rw [show List.take (i + 2) [Ev.tick, Ev.step 0 n] = [Ev.tick, Ev.step 0 n] by simp]
              exact dnS.lvok (by omega) (by omega)
          · exact kk H8 z _ _ (deal_kx (dl6.same s7) kx8 hx7) (((kq5.trans (Kq.kp k6)).trans (Kq.same s7)).trans (Kq.kx kx8)) (((tk5.trans (dl5.tk k6)).trans (Same.tk s7)).trans (kx8.tk hx7)) lv8 dnS
end
end Lw
set_option Elab.async false
set_option linter.all false
set_option maxRecDepth 100000
set_option maxHeartbeats 4000000
namespace Lw
open PySem PySem.Spec PyProof.Rows L2 Hb
section
variable {P : Program} {w : World} {K : PySem.W.Frag} {mg : Str → Option Value} {base : Heap}
/-- what is promised to the law -/
structure Cs (P : Program) (w : World) (K : PySem.W.Frag) (mg : Str → Option Value) (base : Heap) : Prop where
  c_deal : C8.Cal P w K mg base 1 "_law_deal" (spDeal K) []
  c_draw : C8.Cal P w K mg base 1 "_law_draw" spDraw []
  c_words : C8.Cal P w K mg base 3 "_law_words" spWords []
  c_drawn_house : C8.Cal P w K mg base 3 "_law_drawn_house" (spHouse K) []
  c_drawn_sleeper : C8.Cal P w K mg base 3 "_law_drawn_sleeper" (spDrawn K) []
  c_house_of : C8.Cal P w K mg base 7 "_law_house_of" (spHouseOf K (He.ga K "House")) []
  c_sleeper_of : C8.Cal P w K mg base 6 "_law_sleeper_of" (spSlpOf K (He.ga K "Sleeper")) []
  c_step : C8.Cal P w K mg base 11 "_law_step" (spStep K) []
  c_is_played : C8.Cal P w K mg base 9 "_law_is_played" (spIsPl K) []
  c_look : CalG P w K mg base 5 "_law_look" (spLook K)
  m_Live : C8.Mak P w K mg base 9 "Live" (He.ga K "Live") (spLInit K) []
  c_do : C8.Met P w K mg base 10 (He.ga K "Live") "do" (spLDo K) []
  c_undo : C8.Met P w K mg base 1 (He.ga K "Live") "undo" (spUndo K) []
  c_llen : LenOf P w K mg base 1 (He.ga K "Live") (spLLen K)
  c_wlen : LenOf P w K mg base 1 (He.ga K "Walk") (spLenW K (He.ga K "Walk"))
  g_walk : GetOf P w K mg base 1 (He.ga K "Live") "walk" (spLWalk K)
abbrev XL (P : Program) (w : World) (K : PySem.W.Frag) (mg : Str → Option Value) (base : Heap) (f : Addr) (cdv : Value) (s : Shared) (H0 : Hp) : Cx := (cxOf CX0 P w K mg base N_law "law" (defScope s_law) f cdv callerA [] s H0 E0).nox
abbrev RmL (s : Shared) (f : Addr) (cdv : Value) : Prop := Room 12 (callerA.deeper (envOfC "law" (defScope s_law) s.heap.objs.size f cdv))
abbrev lawB : List Stmt := nthB (defBody s_law) 1
abbrev bodB : List Stmt := nthB lawB 3
theorem cut_seq2 {t u : TS} {D : Ends} {σ : L2.St} {H : Hp} (R : L2.St → Hp → Prop) (h1 : (∀ σ H, R σ H → u D σ H) → t { D with nx := u D } σ H) (h2 : ∀ σ H, R σ H → u D σ H) : tSeq t u D σ H := h1 h2
/-- where all stands, and what was drawn -/
structure Bx where
  o : Addr
  l : Addr
  oA : Addr
  oB : Addr
  x : Addr
  ws : List Str
  h : Hz
  zA : Zz
  zB : Zz
structure Fx (U : Bx) : Prop where
  hk : Hok U.h 4 6 U.ws
  mem : ∀ w ∈ U.ws, w ∈ eight
  zA : Zok U.zA U.ws
  zB : Zok U.zB U.ws
abbrev Hs := List (Zz × List Ev)
/-- the texts that were seen, from a number of deeds on -/
def TX (h : Hz) : Nat → Hs → List Str
  | _, [] => []
  | k, c :: cs => (lookD h c.1 1 1 "asleep" c.2 k).shown :: TX h (k + 1) cs
theorem TX.app {h : Hz} : ∀ (cs : Hs) (k : Nat) (z : Zz) (es : List Ev), TX h k (cs ++ [(z, es)]) = TX h k cs ++ [(lookD h z 1 1 "asleep" es (k + cs.length)).shown]
  | [], k, z, es => rfl
  | x :: cs, k, z, es => by
    show _ :: TX h (k + 1) (cs ++ [(z, es)]) = _ :: (TX h (k + 1) cs ++ _)
    rw [TX.app cs (k + 1) z es, List.length_cons, Nat.add_right_comm, Nat.add_assoc]
theorem TX.length {h : Hz} : ∀ (cs : Hs) (k : Nat), (TX h k cs).length = cs.length
  | [], _ => rfl
  | c :: cs, k => by
    show (TX h (k + 1) cs).length + 1 = _
    rw [TX.length cs, List.length_cons]
theorem TX.get {h : Hz} : ∀ (cs : Hs) (k j : Nat) {c : Zz × List Ev}, cs[j]? = some c → (TX h k cs)[j]? = some (lookD h c.1 1 1 "asleep" c.2 (k + j)).shown
  | x :: cs, k, 0, c, e => by
    cases e
    rfl
  | x :: cs, k, j + 1, c, e => by
    show (TX h (k + 1) cs)[j]? = _
    rw [TX.get cs (k + 1) j e, Nat.add_assoc, Nat.add_comm 1 j]
/-- what stands -/
structure Kt (K : PySem.W.Frag) (d g0 : Addr) (U : Bx) (q : Addr) (ts : List Str) (z : Zz) (es : List Ev) (m : Hs) (H : Hp) : Prop where
  dl : Deal d g0 H
  ho : HOne K H U.o U.h
  hl : H U.l = some (.lst [.ref U.oA, .ref U.oB])
  ld : U.l ≠ d
  lg : U.l ≠ g0
  hA : OneAt K H U.oA U.zA
  hB : OneAt K H U.oB U.zB
  lv : LvAt K H U.x U.h z 1 1 "asleep" es m
  hq : H q = some (.lst (ts.map V.str))
  qd : q ≠ d
  qg : q ≠ g0
  ql : q ≠ U.l
section
variable {d g0 q : Addr} {U : Bx} {ts : List Str} {z z' : Zz} {es es' : List Ev} {m m' : Hs} {H H' : Hp}
theorem Kt.kp (y : Kt K d g0 U q ts z es m H) (k : Kp d g0 H H') (dl : Deal d g0 H') : Kt K d g0 U q ts z es m H' := by
  have tk := y.dl.tk k
  exact ⟨dl, TD.keep tk y.ho, k _ _ y.ld y.lg y.hl, y.ld, y.lg, TD.keep tk y.hA, TD.keep tk y.hB, y.lv.ik (IK.kp y.dl k), k _ _ y.qd y.qg y.hq, y.qd, y.qg, y.ql⟩
theorem Kt.same (y : Kt K d g0 U q ts z es m H) (s : Same H H') : Kt K d g0 U q ts z es m H' := y.kp (Hb.Same.kp s) (y.dl.same s)
/-- the live house changes, and the deal -/
theorem Kt.kq (y : Kt K d g0 U q ts z es m H) (k : Kq U.x d g0 H H') (tk : TK H H') (dl : Deal d g0 H') (lv : LvAt K H' U.x U.h z' 1 1 "asleep" es' m') : Kt K d g0 U q ts z' es' m' H' := by
  obtain ⟨dx, hm, sc, pa, hx⟩ := y.lv.ob
  have lx : U.l ≠ U.x := fun e => by
    have := y.hl
    rw [e, hx] at this
    cases this
  have qx : q ≠ U.x := fun e => by
    have := y.hq
    rw [e, hx] at this
    cases this
  exact ⟨dl, TD.keep tk y.ho, k _ _ lx y.ld y.lg y.hl, y.ld, y.lg, TD.keep tk y.hA, TD.keep tk y.hB, lv, k _ _ qx y.qd y.qg y.hq, y.qd, y.qg, y.ql⟩
theorem Kt.kx (y : Kt K d g0 U q ts z es m H) (k : KX U.x H H') (lv : LvAt K H' U.x U.h z' 1 1 "asleep" es' m') : Kt K d g0 U q ts z' es' m' H' := by
  obtain ⟨dx, hm, sc, pa, hx⟩ := y.lv.ob
  exact y.kq (Kq.kx k) (k.tk hx) (deal_kx y.dl k hx) lv
/-- one more text is kept -/
theorem Kt.more (y : Kt K d g0 U q ts z es m H) (t : Str) : Kt K d g0 U q (ts ++ [t]) z es m (upd H q (.lst (ts.map V.str ++ [.str t]))) := by
  have tk : TK H (upd H q (.lst (ts.map V.str ++ [.str t]))) := tk_acc y.hq
  have ik : IK H (upd H q (.lst (ts.map V.str ++ [.str t]))) := IK.lst y.hq
  exact ⟨y.dl.set y.qd y.qg, TD.keep tk y.ho, by rw [upd_ne y.ql.symm]; exact y.hl, y.ld, y.lg, TD.keep tk y.hA, TD.keep tk y.hB, y.lv.ik ik, by rw [upd_same, List.map_append]; rfl, y.qd, y.qg, y.ql⟩
/-- another list of texts -/
theorem Kt.new (y : Kt K d g0 U q ts z es m H) {q2 : Addr} {ts2 : List Str} (n : H q2 = none) : Kt K d g0 U q2 ts2 z es m (upd H q2 (.lst (ts2.map V.str))) := by
  have s : Same H (upd H q2 (.lst (ts2.map V.str))) := Same.new n
  have y2 := y.same s
  exact ⟨y2.dl, y2.ho, y2.hl, y2.ld, y2.lg, y2.hA, y2.hB, y2.lv, upd_same, (y.dl.free n).1, (y.dl.free n).2, (ne_of_none y.hl n).symm⟩
end
/-- all that was, and what is -/
structure Dmx (U : Bx) (k : Nat) (z : Zz) (es : List Ev) (m : Hs) : Prop where
  dn : Dn U.ws U.h k z es
  al : ∀ p ∈ m, Dn U.ws U.h k p.1 p.2
  hd : ∀ p, (m ++ [(z, es)]).head? = some p → p.2 = []
theorem Dmx.mono {U : Bx} {k k' : Nat} {z : Zz} {es : List Ev} {m : Hs} (x : Dmx U k z es m) (e : k ≤ k') : Dmx U k' z es m := ⟨x.dn.mono e, fun p hp => (x.al p hp).mono e, x.hd⟩
theorem head_app {α : Type} {m : List α} {a b : α} {p : α} (h : (m ++ [a] ++ [b]).head? = some p) : (m ++ [a]).head? = some p := by
  cases m with
  | nil => exact h
  | cons x r => exact h
theorem Dmx.back {U : Bx} {k : Nat} {z z' : Zz} {es es' : List Ev} {m : Hs} (x : Dmx U k z es (m ++ [(z', es')])) : Dmx U k z' es' m := ⟨x.al (z', es') (by simp), fun p hp => x.al p (List.mem_append_left _ hp), fun p hp => x.hd p (by
  cases m with
  | nil => exact hp
  | cons y r => exact hp)⟩
theorem Dmx.put {U : Bx} {k : Nat} {z z' : Zz} {es es' : List Ev} {m : Hs} (x : Dmx U k z es m) (d : Dn U.ws U.h k z' es') : Dmx U k z' es' (m ++ [(z, es)]) := ⟨d, fun p hp => by
  rcases List.mem_append.mp hp with hp | hp
  · exact x.al p hp
  · rw [List.mem_singleton.mp hp]
    exact x.dn, fun p hp => x.hd p (head_app hp)⟩
abbrev End (d g0 a : Addr) (D : Ends) : Prop := ∀ σ' H', (Deal d g0 H' ∧ ∃ v2 v3 v4 v5 v6 v7 v8 v9 v10 v11 v12, σ' = [some (.ref a), some (.ref d), v2, v3, v4, v5, v6, v7, v8, v9, v10, v11, v12]) → D.nx σ' H'
def R1 (a : Addr) (D : Ends) (σ : L2.St) (H : Hp) : Prop := ∃ d g0 : Addr, End d g0 a D ∧ Deal d g0 H ∧ ∃ v2 v3 v4 v5 v6 v7 v8 v9 v10 v11 v12, σ = [some (.ref a), some (.ref d), v2, v3, v4, v5, v6, v7, v8, v9, v10, v11, v12]
def LI (K : PySem.W.Frag) (a d g0 : Addr) (U : Bx) (i : Nat) (σ : L2.St) (H : Hp) : Prop := Fx U ∧ ∃ (q : Addr) (z : Zz) (es : List Ev) (m : Hs), Kt K d g0 U q (TX U.h 0 m) z es m H ∧ Dmx U (2 * i) z es m ∧ m.length ≤ i ∧
  ∃ v2 v3 v6 v9 v10 v11 v12, σ = [some (.ref a), some (.ref d), v2, v3, some (.ref U.o), some (.ref U.l), v6, some (.ref U.x), some (.ref q), v9, v10, v11, v12]
def R2 (K : PySem.W.Frag) (a : Addr) (D : Ends) (σ : L2.St) (H : Hp) : Prop := ∃ (d g0 : Addr) (U : Bx), End d g0 a D ∧ LI K a d g0 U 0 σ H
def RB (K : PySem.W.Frag) (a : Addr) (D : Ends) (σ : L2.St) (H : Hp) : Prop := ∃ (d g0 : Addr) (U : Bx) (i : Nat), LI K a d g0 U i σ H ∧ i < 26 ∧ ∀ σ' H', LI K a d g0 U (i + 1) σ' H' → D.nx σ' H'
def RJ (K : PySem.W.Frag) (a : Addr) (D : Ends) (σ : L2.St) (H : Hp) : Prop := ∃ (d g0 : Addr) (U : Bx) (i : Nat), LI K a d g0 U (i + 1) σ H ∧ i < 26 ∧ ∀ σ' H', LI K a d g0 U (i + 1) σ' H' → D.nx σ' H'
def R3 (K : PySem.W.Frag) (a : Addr) (D : Ends) (σ : L2.St) (H : Hp) : Prop := ∃ (d g0 : Addr) (U : Bx) (i : Nat), End d g0 a D ∧ LI K a d g0 U i σ H ∧ i ≤ 26
def RC (K : PySem.W.Frag) (a : Addr) (D : Ends) (σ : L2.St) (H : Hp) : Prop := ∃ (d g0 : Addr) (U : Bx) (q : Addr) (ts : List Str) (rs : Hs) (c z : Zz) (cs es : List Ev) (v2 v3 v6 v8 v9 v11 v12 : Option V), Fx U ∧ Kt K d g0 U q ts z es (rs ++ [(c, cs)]) H ∧ Dn U.ws U.h 60 c cs ∧ rs.length ≤ 60 ∧
  σ = [some (.ref a), some (.ref d), v2, v3, some (.ref U.o), some (.ref U.l), v6, some (.ref U.x), v8, v9, some (.str (lookD U.h c 1 1 "asleep" cs rs.length).shown), v11, v12] ∧ ∀ H', KX U.x H H' → Kt K d g0 U q ts c cs rs H' → D.nx σ H'
def R5 (K : PySem.W.Frag) (a : Addr) (D : Ends) (σ : L2.St) (H : Hp) : Prop := ∃ (d g0 : Addr) (U : Bx) (q : Addr) (ts : List Str) (z : Zz) (v2 v3 v6 v8 v9 v10 v11 v12 : Option V), End d g0 a D ∧ Fx U ∧ Kt K d g0 U q ts z [] [] H ∧ σ = [some (.ref a), some (.ref d), v2, v3, some (.ref U.o), some (.ref U.l), v6, some (.ref U.x), v8, v9, v10, v11, v12]
end
end Lw
set_option Elab.async false
set_option linter.all false
set_option maxRecDepth 100000
set_option maxHeartbeats 4000000
namespace Lw
open PySem PySem.Spec PyProof.Rows L2 Hb PySem.Builtin.Str
/-! Shown texts are texts. -/
theorem char_lt (c : Char) : c.toNat < 0x110000 := by
  have := c.valid
  show c.val.toNat < 0x110000
  rcases this with h | h
  · have : c.val.toNat < 55296 := h
    omega
  · have : c.val.toNat < 1114112 := h.2
    omega
theorem strOk_of (s : String) : PyData.strOk (s : Str) = true := by
  rw [strOk_tl]
  show (TL.tl (Str.ofString s)).all _ = true
  rw [TL.tl_ofString]
  refine List.all_eq_true.mpr fun c hc => ?_
  obtain ⟨ch, _, rfl⟩ := List.mem_map.mp hc
  exact decide_eq_true (char_lt ch)
theorem reprChar_lt {q c : Nat} (hq : q < 0x110000) (hc : c < 0x110000) : ∀ x ∈ reprChar q c, x < 0x110000 := by
  have hx : ∀ n x, x ∈ List.replicate (n - ((Nat.toDigits 16 c).map Char.toNat).length) 48 ++ (Nat.toDigits 16 c).map Char.toNat → x < 0x110000 := fun n x hx => by
    rcases List.mem_append.mp hx with hx | hx
    · rw [(List.mem_replicate.mp hx).2]
      decide
    · obtain ⟨ch, _, rfl⟩ := List.mem_map.mp hx
      exact char_lt ch
  intro x h
  unfold reprChar at h
  simp only at h
  split at h
  · simp only [List.mem_cons, List.not_mem_nil, or_false] at h; omega
  split at h
  · simp only [List.mem_cons, List.not_mem_nil, or_false] at h; omega
  split at h
  · simp only [List.mem_cons, List.not_mem_nil, or_false] at h; omega
  split at h
  · simp only [List.mem_cons, List.not_mem_nil, or_false] at h; omega
  split at h
  · simp only [List.mem_cons, List.not_mem_nil, or_false] at h; omega
  split at h
  · rcases List.mem_append.mp h with h | h
    · simp only [List.mem_cons, List.not_mem_nil, or_false] at h; omega
    · exact hx _ _ h
  split at h
  · rcases List.mem_append.mp h with h | h
    · simp only [List.mem_cons, List.not_mem_nil, or_false] at h; omega
    · exact hx _ _ h
  · rcases List.mem_append.mp h with h | h
    · simp only [List.mem_cons, List.not_mem_nil, or_false] at h; omega
    · exact hx _ _ h
theorem foldl_repr_lt {q : Nat} (hq : q < 0x110000) : ∀ (l : List Nat) (acc : Array Nat), (∀ c ∈ l, c < 0x110000) → (∀ c ∈ acc.toList, c < 0x110000) → ∀ c ∈ (l.foldl (fun out c => out ++ (reprChar q c).toArray) acc).toList, c < 0x110000
  | [], acc, _, h => h
  | a :: l, acc, hl, h => by
    rw [List.foldl_cons]
    refine foldl_repr_lt hq l _ (fun c hc => hl c (List.mem_cons_of_mem _ hc)) fun c hc => ?_
    rw [Array.toList_append] at hc
    rcases List.mem_append.mp hc with hc | hc
    · exact h c hc
    · exact reprChar_lt hq (hl a List.mem_cons_self) c hc
theorem strOk_repr {x : Str} (h : PyData.strOk x = true) : PyData.strOk (reprText x) = true := by
  have hx : ∀ c ∈ x.cps.toList, c < 0x110000 := fun c hc => by
    unfold PyData.strOk at h
    rw [← Array.all_toList] at h
    exact of_decide_eq_true (List.all_eq_true.mp h c hc)
  have hq : reprQuote x < 0x110000 := by
    unfold reprQuote
    split <;> decide
  unfold PyData.strOk reprText
  rw [← Array.all_toList]
  refine List.all_eq_true.mpr fun c hc => decide_eq_true ?_
  rw [Array.toList_push] at hc
  rcases List.mem_append.mp hc with hc | hc
  · rw [← Array.foldl_toList] at hc
    exact foldl_repr_lt hq _ _ hx (fun c hc => by simp at hc; omega) c hc
  · rw [List.mem_singleton.mp hc]
    exact hq
def So (d : PyData) : Prop := PyData.strOk d.shown = true
theorem So.str {x : Str} (h : PyData.strOk x = true) : So (.str x) := by
  unfold So
  simp only [PyData.shown]
  exact strOk_repr h
theorem So.int (i : Int) : So (.int i) := by
  unfold So
  simp only [PyData.shown]
  exact strOk_of _
theorem So.none : So .none := by
  unfold So
  simp only [PyData.shown]
  exact strOk_of _
theorem shownAll_map : ∀ ds : List PyData, PyData.shownAll ds = ds.map PyData.shown
  | [] => by simp [PyData.shownAll]
  | d :: ds => by simp [PyData.shownAll, shownAll_map ds]
theorem So.tup {ds : List PyData} (h : ∀ d ∈ ds, So d) : So (.tuple ds) := by
  unfold So
  simp only [PyData.shown, tupleText]
  refine strOk_app (strOk_app (strOk_of "(") ?_) ?_
  · rw [shownAll_map]
    refine strOk_joinN (strOk_of ", ") fun w hw => ?_
    obtain ⟨d, hd, rfl⟩ := List.mem_map.mp hw
    exact h d hd
  · split <;> exact strOk_of _
theorem soB_all : ∀ s ∈ allS, PyData.strOk (PyData.tuple s.ds).shown = true := by decide +kernel
theorem look_so {h : Hz} {z : Zz} {es : List Ev} {ws : List Str} {k m : Nat} (hk : Hok h 4 6 ws) (mem : ∀ w ∈ ws, w ∈ eight) (dn : Dn ws h k z es) : PyData.strOk (lookD h z 1 1 "asleep" es m).shown = true := by
  have fw := hok_few hk (by decide) (by decide) mem
  have S := WdS.run hk (by decide) (WdS.zero ws z (1 + 1) "asleep") dn.poss
  have st := all_of dn.zk mem (InS.run dn.zk (h := h) (es := es) (w := wd0 z (1 + 1) "asleep") (InS.first dn.zk "asleep"))
  have el2 := evs_len (es := es) (k := 1 + 1) (by decide) dn.eok
  refine So.tup fun d hd => ?_
  simp only [List.mem_cons, List.not_mem_nil, or_false] at hd
  rcases hd with rfl | rfl | rfl | rfl | rfl
  · exact So.str (textH_ok fw).1
  · exact So.str (textT_ok dn.zk mem).1
  · refine So.tup fun d hd => ?_
    simp only [List.mem_cons, List.not_mem_nil, or_false] at hd
    rcases hd with rfl | rfl | rfl | rfl
    · exact So.int _
    · exact So.int _
    · exact So.str (strOk_of _)
    · refine So.tup fun d hd => ?_
      obtain ⟨s, hs, rfl⟩ := List.mem_map.mp hd
      exact So.str (el2 s hs).1
  · refine So.tup fun d hd => ?_
    simp only [List.mem_cons, List.not_mem_nil, or_false] at hd
    rcases hd with rfl | rfl | rfl | rfl | rfl
    · exact soB_all _ st
    · refine So.tup fun d hd => ?_
      obtain ⟨r, hr, rfl⟩ := List.mem_map.mp hd
      exact So.int _
    · exact So.int _
    · refine So.tup fun d hd => ?_
      obtain ⟨x, hx, rfl⟩ := List.mem_map.mp hd
      refine So.tup fun d hd => ?_
      simp only [List.mem_cons, List.not_mem_nil, or_false] at hd
      rcases hd with rfl | rfl
      · exact So.int _
      · exact So.str (eight_ok _ (mem _ (S.md x hx)))
    · generalize (runEv h z (wd0 z (1 + 1) "asleep") es).wk = o
      cases o with
      | none => exact So.none
      | some i => exact So.int i
  · exact So.int _
theorem TX.ok {h : Hz} {ws : List Str} {n : Nat} (hk : Hok h 4 6 ws) (mem : ∀ w ∈ ws, w ∈ eight) : ∀ (m : Hs) (k : Nat), (∀ p ∈ m, Dn ws h n p.1 p.2) → ∀ t ∈ TX h k m, PyData.strOk t = true
  | [], _, _, t, ht => nomatch ht
  | c :: cs, k, al, t, ht => by
    rcases List.mem_cons.mp ht with rfl | ht
    · exact look_so hk mem (al c List.mem_cons_self)
    · exact TX.ok hk mem cs (k + 1) (fun p hp => al p (List.mem_cons_of_mem _ hp)) t ht
theorem shaped_txL {xs : List Str} (h : ∀ s ∈ xs, PyData.strOk s = true) : SeqAt.shaped (.list (xs.map PyData.str)) = true := by
  refine shaped_list fun d hd => ?_
  obtain ⟨x, hx, rfl⟩ := List.mem_map.mp hd
  have z := shp_str (h x hx)
  exact ⟨z.1, by have := z.2; omega⟩
end Lw
set_option Elab.async false
set_option linter.all false
set_option maxRecDepth 100000
set_option maxHeartbeats 4000000
namespace Lw
open PySem PySem.Spec PyProof.Rows L2 Hb
section
variable {P : Program} {w : World} {K : PySem.W.Frag} {mg : Str → Option Value} {base : Heap}
/-- drawn sleepers -/
def Slp (K : PySem.W.Frag) (ws : List Str) (H : Hp) (xs : List V) : Prop := ∀ v ∈ xs, ∃ b z, v = .ref b ∧ OneAt K H b z ∧ Zok z ws
theorem two_of {α : Type} : ∀ {xs : List α}, xs.length = 2 → ∃ x y, xs = [x, y]
  | [x, y], _ => ⟨x, y, rfl⟩
theorem part1 (T : Tx K mg) (C : Cs P w K mg base) {f : Addr} {cdv : Value} {s : Shared} {H0 : Hp} (hr : RmL s f cdv) {a : Addr} (next : Part (XL P w K mg base f cdv s H0) (lawB.drop 3) (R2 K a)) : Part (XL P w K mg base f cdv s H0) (lawB.drop 0) (R1 a) := by
  have hu := hu_of hr
  have h64 := room64 hr
  have line := sizeLine_eq
  have hg : (XL P w K mg base f cdv s H0).A.guards = some [] := rfl
  obtain ⟨c_deal, c_draw, c_words, c_drawn_house, c_drawn_sleeper, c_house_of, c_sleeper_of, c_step, c_is_played, c_look, m_Live, c_do, c_undo, c_llen, c_wlen, g_walk⟩ := C
  obtain ⟨tN, hN, next⟩ := next
  refine ⟨_, (pss_cons (ps_set (i := 3) sc_law.nd rfl (Or.inr rfl) (C8.pe_c c_words hr (by decide) rfl (pa_cons (pv 1) (pa_cons pe_int pa_nil))))
 (pss_cons (ps_par (i := 4) (j := 5) (by rfl) sc_law.nd rfl rfl (by decide) rfl rfl (pa_cons (C8.pe_c c_drawn_house hr (by decide) rfl (pa_cons (pv 1) (pa_cons pe_int (pa_cons pe_int (pa_cons (pv 3) pa_nil))))) (pa_cons (pe_lc (own := [("_law_k", 6)]) (by rfl) sc_law.nd (pi_range1 (by rfl) T.n_range (pa_cons pe_int pa_nil)) (blkOk_by (N := N_law) (sc := defScope s_law) (by decide +kernel)) (fun _ _ _ _ _ => (pg_name (i := 6) sc_law.nd rfl (Or.inl rfl))) (fun _ _ _ _ _ => pts_nil) (fun _ _ _ _ _ => (C8.pe_c c_drawn_sleeper hr (by decide) rfl (pa_cons (pv 1) (pa_cons (pv 3) pa_nil))))) pa_nil)) (by rfl))
 (pss_cons (ps_par (i := 7) (j := 8) (by rfl) sc_law.nd rfl rfl (by decide) rfl rfl (pa_cons (C8.pe_mk m_Live hr (by decide) rfl (pa_cons (C8.pe_c c_house_of hr (by decide) rfl (pa_cons (pv 4) pa_nil)) (pa_cons (C8.pe_c c_sleeper_of hr (by decide) rfl (pa_cons (pe_ix ix_list (pv 5) pe_int (fun _ _ => rfl)) pa_nil)) (pa_cons pe_int (pa_cons pe_int (pa_cons pe_str pa_nil)))))) (pa_cons (pe_lst pa_nil) pa_nil)) (by rfl))
 hN))), ?_⟩
  rintro DE σ H1 ⟨d, g0, hE, dl1, v2, v3, v4, v5, v6, v7, v8, v9, v10, v11, v12, rfl⟩
  refine ⟨_, rfl, d, g0, 4, rfl, dl1, by decide, by decide, fun H2 p ws dl2 k2 np hp pg nodup mem wlen => ?_⟩
  have pd : p ≠ d := dl2.ne_d hp (by intro kvs e; cases e)
  have wlen4 : ws.length = 4 := wlen
  have wne : ws ≠ [] := fun e => by rw [e] at wlen4; cases wlen4
  refine ⟨_, rfl, _, rfl, d, g0, p, 4, 6, ws, rfl, dl2, hp, pg, by decide, by decide, by decide, by decide, wne, by omega, fun w hw => eight_ok w (mem w hw), fun H3 o h dl3 k3 no ho hk => ?_⟩
  have hp3 := k3 p _ pd pg hp
  refine ⟨2, rfl, by decide, by decide, fun DL nDL => lc_range (lo := 0) (n := 2) (fun i H' => ∃ xs, H' DL = some (.lst xs) ∧ Deal d g0 H' ∧ Kp d g0 H3 H' ∧ xs.length = i ∧ Slp K ws H' xs) ?_ ?_ ?_⟩
  · have s : Same H3 (upd H3 DL (.lst [])) := Same.new nDL
    exact ⟨[], upd_same, dl3.same s, Hb.Same.kp s, rfl, fun v hv => nomatch hv⟩
  · rintro i H' hi ⟨xs, hD, dl', k', xl, hs⟩
    refine ⟨rfl, yes_ ⟨_, rfl, _, rfl, d, g0, p, ws, rfl, dl', SqL.of (k' _ _ pd pg hp3), nodup, by omega, fun w hw => eight_words w (mem w hw), fun H4 oz z dl4 k4 noz hoz zk => ?_⟩⟩
    have nD := dl3.free nDL
    have hD4 := k4 _ _ nD.1 nD.2 hD
    refine ⟨xs, hD4, by omega, xs ++ [.ref oz], upd_same, dl4.set nD.1 nD.2, fun b o n1 n2 e => ?_, by rw [List.length_append, xl]; rfl, fun v hv => ?_⟩
    · rw [upd_ne (ne_of_none e nDL)]
      exact k4 b o n1 n2 (k' b o n1 n2 e)
    · have tkD := tk_acc (ys := xs ++ [.ref oz]) hD4
      rcases List.mem_append.mp hv with hv | hv
      · obtain ⟨b, zb, rfl, h1, h2⟩ := hs v hv
        exact ⟨b, zb, rfl, TD.keep ((dl'.tk k4).trans tkD) h1, h2⟩
      · rw [List.mem_singleton.mp hv]
        exact ⟨oz, z, rfl, TD.keep tkD hoz, zk⟩
  · rintro H4 ⟨xs, hD, dl4, k4, xl, hs⟩
    have nD := dl3.free nDL
    obtain ⟨u, v, rfl⟩ := two_of xl
    obtain ⟨oA, zA, rfl, hA, zkA⟩ := hs u (by simp)
    obtain ⟨oB, zB, rfl, hB, zkB⟩ := hs v (by simp)
    refine ⟨_, _, rfl, ?_⟩
    have ho4 : HOne K H4 o h := TD.keep (dl3.tk k4) ho
    have hin : Hin h := hk.hin (by decide) (by decide) fun w hw => (eight_words w (mem w hw)).2
    clear hp3 k4 ho no dl3 hp k2 k3 np dl2 dl1 hs nDL
    refine ⟨_, rfl, o, h, rfl, ho4, hin, fun H5 hm s5 nhm hhm => ?_⟩
    have s5' := Same.tk s5
    refine ⟨_, rfl, DL, _, 0, _, rfl, rfl, SqL.of (s5 _ _ hD), rfl, oA, zA, rfl, TD.keep s5' hA, zinO zkA, fun H6 zm s6 nzm hzm => ?_⟩
    intro x dx nx ndx ne
    have s7 : Same H6 (upd (upd H6 dx (.own x)) x (.ins (He.ga K "Live") dx [])) := fun b u e => by
      rw [upd_ne (ne_of_none e nx), upd_ne (ne_of_none e ndx)]
      exact e
    have dn0 : Dn ws h 0 zA [] := ⟨zkA, (fun e he => nomatch he), trivial, Nat.le_refl _⟩
    have dm := hk.dm
    refine ⟨x, dx, hm, zm, h, zA, 1, 1, "asleep", rfl, upd_same, (hhm.same s6).same s7, hzm.same s7, dn0.lvok (by decide) (by omega), fun H8 kx lv => ⟨rfl, ?_⟩⟩
    have s8 : Same H6 H8 := fun b u e => kx b u (ne_of_none e nx) (s7 b u e)
    have s48 := (s5.trans s6).trans s8
    refine ⟨Nat.zero_le _, fun q nq => ⟨_, _, rfl, ?_⟩⟩
    have s9 : Same H8 (upd H8 q (.lst [])) := Same.new nq
    have s49 := s48.trans s9
    have hD8 := s48 _ _ hD
    exact next _ _ _ ⟨d, g0, ⟨o, DL, oA, oB, x, ws, h, zA, zB⟩, hE, ⟨hk, mem, zkA, zkB⟩, q, zA, [], [], ⟨dl4.same s49, TD.keep (Same.tk s49) ho4, s49 _ _ hD, nD.1, nD.2, TD.keep (Same.tk s49) hA, TD.keep (Same.tk s49) hB, lv.same s9, upd_same, ((dl4.same s48).free nq).1, ((dl4.same s48).free nq).2, (ne_of_none hD8 nq).symm⟩, ⟨dn0, (fun p hp => nomatch hp), fun p hp => by cases hp; rfl⟩, Nat.le_refl _, _, _, _, _, _, _, _, rfl⟩
end
end Lw
set_option Elab.async false
set_option linter.all false
set_option maxRecDepth 100000
set_option maxHeartbeats 4000000
namespace Lw
open PySem PySem.Spec PyProof.Rows L2 Hb
section
variable {P : Program} {w : World} {K : PySem.W.Frag} {mg : Str → Option Value} {base : Heap}
theorem partB1 (T : Tx K mg) (C : Cs P w K mg base) {f : Addr} {cdv : Value} {s : Shared} {H0 : Hp} (hr : RmL s f cdv) {a : Addr} : Part (XL P w K mg base f cdv s H0) (bodB.drop 1) (RJ K a) := by
  have hu := hu_of hr
  have h64 := room64 hr
  have line := sizeLine_eq
  have hg : (XL P w K mg base f cdv s H0).A.guards = some [] := rfl
  obtain ⟨c_deal, c_draw, c_words, c_drawn_house, c_drawn_sleeper, c_house_of, c_sleeper_of, c_step, c_is_played, c_look, m_Live, c_do, c_undo, c_llen, c_wlen, g_walk⟩ := C
  refine ⟨_, (pss_one (ps_if (PW.pt (pw_or (pt_cmpR op_ne (pe_callB (call_lenOwn c_llen hr (by decide)) (by rfl) T.n_len (by decide +kernel) (pa_cons (pv 7) pa_nil)) (pe_callB call_len (by rfl) T.n_len (by decide +kernel) (pa_cons (pv 8) pa_nil)) (by first | exact nomark _ | rfl)) (pw_or1 (pt_not (pt_val (C8.pe_c c_is_played hr (by decide) rfl (pa_cons (pv 7) pa_nil)))))))
 (pss_one (ps_ret pe_bl))
 pss_nil)), ?_⟩
  rintro DE σ H1 ⟨d, g0, U, i, ⟨fx, q, z, es, m, kt, dm, ml, v2, v3, v6, v9, v10, v11, v12, rfl⟩, ii, hE⟩
  have dfew := fx.hk.dm
  obtain ⟨dx, hm, sc, pa, hx⟩ := kt.lv.ob
  refine ⟨_, rfl, U.x, dx, _, rfl, hx, U.x, U.h, z, 1, 1, "asleep", es, m, rfl, kt.lv, _, rfl, by omega, by omega, _, rfl, .ref q, ((TX U.h 0 m).map V.str).length, rfl, .inl ⟨_, SqL.of kt.hq, rfl⟩, rfl, _, rfl, ?_⟩
  rw [List.length_map, TX.length]
  rw [show (!decide (V.int ((m.length : Nat) : Int) = V.int ((m.length : Nat) : Int))) = false by rw [decide_eq_true rfl]; rfl]
  refine iteF ⟨_, rfl, U.x, U.h, z, 1, 1, "asleep", es, m, rfl, kt.lv, dm.dn.lvok (by omega) (by omega), dm.dn.sw fx.hk fx.mem, fun H2 s2 => ?_⟩
  refine ⟨_, rfl, iteF ?_⟩
  exact hE _ _ ⟨fx, q, z, es, m, kt.same s2, dm, ml, _, _, _, _, _, _, _, rfl⟩
end
end Lw
set_option Elab.async false
set_option linter.all false
set_option maxRecDepth 100000
set_option maxHeartbeats 4000000
namespace Lw
open PySem PySem.Spec PyProof.Rows L2 Hb
section
variable {P : Program} {w : World} {K : PySem.W.Frag} {mg : Str → Option Value} {base : Heap}
theorem partB0 (T : Tx K mg) (C : Cs P w K mg base) {f : Addr} {cdv : Value} {s : Shared} {H0 : Hp} (hr : RmL s f cdv) {a : Addr} (next : Part (XL P w K mg base f cdv s H0) (bodB.drop 1) (RJ K a)) : Part (XL P w K mg base f cdv s H0) (bodB.drop 0) (RB K a) := by
  have hu := hu_of hr
  have h64 := room64 hr
  have line := sizeLine_eq
  have hg : (XL P w K mg base f cdv s H0).A.guards = some [] := rfl
  obtain ⟨c_deal, c_draw, c_words, c_drawn_house, c_drawn_sleeper, c_house_of, c_sleeper_of, c_step, c_is_played, c_look, m_Live, c_do, c_undo, c_llen, c_wlen, g_walk⟩ := C
  obtain ⟨tN, hN, next⟩ := next
  refine ⟨_, (pss_cons (ps_if (pt_cmpR op_eq (C8.pe_c c_draw hr (by decide) rfl (pa_cons (pv 1) (pa_cons pe_int pa_nil))) pe_int (by first | exact nomark _ | rfl))
 (pss_cons (ps_if (pt_cmpR op_ne (C8.pe_mt0 c_undo hr (by decide) (pv 7)) (pe_cmpR (op_neD hr.units) (pv 8) (pe_lst pa_nil) (by first | exact nomark _ | rfl)) (by first | exact nomark _ | rfl))
 (pss_one (ps_ret pe_bl))
 pss_nil)
 (pss_cons (ps_if (PW.pt (pw_and (pt_cmpR (op_neD hr.units) (pv 8) (pe_lst pa_nil) (by first | exact nomark _ | rfl)) (pw_and1 (pt_cmpR op_ne (Hb.pe_cG hg c_look hr (by decide) rfl (pa_cons (pv 7) pa_nil)) (pe_ix ix_list (pv 8) (pe_un un_neg pe_int) (fun _ _ => rfl)) (by first | exact nomark _ | rfl)))))
 (pss_one (ps_ret pe_bl))
 pss_nil)
 (pss_one (ps_set (i := 8) sc_law.nd rfl (Or.inl rfl) (pe_slice sl_list (pv 8) po_none (po_some (pe_un un_neg pe_int)))))))
 (pss_cons (ps_expr (pe_bm PySem.F.plainAttrs_list PySem.F.slot_list_append PySem.F.type_list_append mt_append (pv 8) (pa_cons (Hb.pe_cG hg c_look hr (by decide) rfl (pa_cons (pv 7) pa_nil)) pa_nil)))
 (pss_one (ps_expr (C8.pe_c c_step hr (by decide) rfl (pa_cons (pv 1) (pa_cons (pv 7) (pa_cons (pv 4) (pa_cons (pv 5) pa_nil)))))))))
 hN), ?_⟩
  rintro DE σ H1 ⟨d, g0, U, i, ⟨fx, q, z, es, m, kt, dm, ml, v2, v3, v6, v9, v10, v11, v12, rfl⟩, ii, hE⟩
  have dfew := fx.hk.dm
  refine ⟨_, rfl, d, g0, 4, rfl, kt.dl, by decide, by decide, fun H2 c dl2 k2 c0 c1 => ⟨rfl, _, rfl, ?_⟩⟩
  have kt2 := kt.kp k2 dl2
  clear kt k2 dl2
  obtain ⟨dx, hm, sc, pa, hx⟩ := kt2.lv.ob
  have okT := TX.ok fx.hk fx.mem m 0 dm.al
  refine ite2 (fun qc => ?_) (fun qc => ?_)
  · -- taken back
    by_cases em : m = []
    · subst em
      refine ⟨_, rfl, U.x, dx, _, rfl, hx, rfl, U.x, U.h, z, 1, 1, "asleep", es, [], rfl, kt2.lv, by simp, fun _ => ?_, fun z' es' m' e => by simp at e⟩
      refine ⟨_, rfl, Nat.zero_le _, fun l0 nl0 => ?_⟩
      have s3 : Same H2 (upd H2 l0 (.lst [])) := Same.new nl0
      have hl3 : upd H2 l0 (.lst []) l0 = some (.lst []) := upd_same
      generalize upd H2 l0 (.lst []) = H3 at s3 hl3 ⊢
      have kt3 := kt2.same s3
      refine ne_nilL (SqL.of kt3.hq) (tds_strs _) (SqL.of hl3) (shaped_txL okT) ⟨rfl, _, rfl, iteF ?_⟩
      refine ⟨_, rfl, Nat.zero_le _, fun l1 nl1 => ?_⟩
      have s4 : Same H3 (upd H3 l1 (.lst [])) := Same.new nl1
      have hl4 : upd H3 l1 (.lst []) l1 = some (.lst []) := upd_same
      generalize upd H3 l1 (.lst []) = H4 at s4 hl4 ⊢
      have kt4 := kt3.same s4
      refine ne_nilL (SqL.of kt4.hq) (tds_strs _) (SqL.of hl4) (shaped_txL okT) ⟨_, rfl, iteF ?_⟩
      refine iteF ⟨_, rfl, 1, rfl, _, rfl, q, _, rfl, SqL.of kt4.hq, fun q2 nq2 => ?_⟩
      rw [show cutV ((TX U.h 0 []).map V.str) none (some (-1)) = (TX U.h 0 []).map V.str from rfl]
      exact next _ _ _ ⟨d, g0, U, i, ⟨fx, q2, z, es, [], kt4.new nq2, dm.mono (by omega), Nat.zero_le _, _, _, _, _, _, _, _, rfl⟩, ii, hE⟩
    · obtain ⟨m', ⟨z', es'⟩, rfl⟩ := ne_nil_back em
      have tx : TX U.h 0 (m' ++ [(z', es')]) = TX U.h 0 m' ++ [(lookD U.h z' 1 1 "asleep" es' m'.length).shown] := by rw [TX.app, Nat.zero_add]
      have ml2 : m'.length + 1 ≤ i := by rw [List.length_append] at ml; exact ml
      refine ⟨_, rfl, U.x, dx, _, rfl, hx, rfl, U.x, U.h, z, 1, 1, "asleep", es, _, rfl, kt2.lv, by rw [List.length_append]; show m'.length + 1 ≤ 1000; omega, fun e => by simp at e, fun z1 es1 m1 e H3 kx3 lv3 => ?_⟩
      obtain ⟨rfl, eq2⟩ := List.append_inj' e rfl
      injection eq2 with eq2 _
      injection eq2 with e1 e2
      subst e1 e2
      have kt3 := kt2.kx kx3 lv3
      have dm3 := dm.back
      refine ⟨_, rfl, Nat.zero_le _, fun l0 nl0 => ?_⟩
      have s4 : Same H3 (upd H3 l0 (.lst [])) := Same.new nl0
      have hl4 : upd H3 l0 (.lst []) l0 = some (.lst []) := upd_same
      generalize upd H3 l0 (.lst []) = H4 at s4 hl4 ⊢
      have kt4 := kt3.same s4
      have ne : ((TX U.h 0 (m' ++ [(z', es')])).map PyData.str).isEmpty = false := by
        rw [tx, List.map_append]
        simp
      refine ne_nilL (SqL.of kt4.hq) (tds_strs _) (SqL.of hl4) (shaped_txL okT) ⟨rfl, _, rfl, ?_⟩
      rw [ne, show (!decide (V.bl true = V.bl (!false))) = false by rw [decide_eq_true (show V.bl true = V.bl (!false) from rfl)]; rfl]
      refine iteF ?_
      refine ⟨_, rfl, Nat.zero_le _, fun l1 nl1 => ?_⟩
      have s5 : Same H4 (upd H4 l1 (.lst [])) := Same.new nl1
      have hl5 : upd H4 l1 (.lst []) l1 = some (.lst []) := upd_same
      generalize upd H4 l1 (.lst []) = H5 at s5 hl5 ⊢
      have kt5 := kt4.same s5
      refine ne_nilL (SqL.of kt5.hq) (tds_strs _) (SqL.of hl5) (shaped_txL okT) ⟨_, rfl, ?_⟩
      rw [ne]
      refine iteT ?_
      have hq5 := kt5.hq
      rw [tx, List.map_append] at hq5
      refine ⟨_, rfl, U.x, U.h, z', 1, 1, "asleep", es', m', rfl, kt5.lv, dm3.dn.lk fx.hk fx.mem (by omega) (by omega), fun H6 s6 => ?_⟩
      have hq6 := s6 _ _ hq5
      refine ⟨_, rfl, 1, rfl, q, _, -1, _, rfl, rfl, SqL.of hq6, atI_last _ _, rfl, _, rfl, ?_⟩
      rw [show (!decide (V.str (lookD U.h z' 1 1 "asleep" es' m'.length).shown = V.str (lookD U.h z' 1 1 "asleep" es' m'.length).shown)) = false by rw [decide_eq_true rfl]; rfl]
      refine iteF ⟨_, rfl, 1, rfl, _, rfl, q, _, rfl, SqL.of hq6, fun q2 nq2 => ?_⟩
      rw [show cutV ((TX U.h 0 m').map V.str ++ List.map V.str [(lookD U.h z' 1 1 "asleep" es' m'.length).shown]) none (some (-1)) = (TX U.h 0 m').map V.str from cut_back _ _]
      exact next _ _ _ ⟨d, g0, U, i, ⟨fx, q2, z', es', m', (kt5.same s6).new nq2, dm3.mono (by omega), by omega, _, _, _, _, _, _, _, rfl⟩, ii, hE⟩
  · have lk := dm.dn.lk fx.hk fx.mem (by omega) (m := m.length) (by omega)
    refine ⟨_, rfl, .inl ⟨rfl, _, SqL.of kt2.hq⟩, _, rfl, U.x, U.h, z, 1, 1, "asleep", es, m, rfl, kt2.lv, lk, fun H3 s3 => ?_⟩
    have kt3 := kt2.same s3
    refine ⟨q, _, _, rfl, rfl, kt3.hq, by rw [List.length_map, TX.length]; omega, ?_⟩
    have kt4 := kt3.more (lookD U.h z 1 1 "asleep" es m.length).shown
    generalize upd H3 q (.lst ((TX U.h 0 m).map V.str ++ [.str (lookD U.h z 1 1 "asleep" es m.length).shown])) = H4 at kt4 ⊢
    have tx : TX U.h 0 m ++ [(lookD U.h z 1 1 "asleep" es m.length).shown] = TX U.h 0 (m ++ [(z, es)]) := by rw [TX.app, Nat.zero_add]
    rw [tx] at kt4
    refine ⟨_, rfl, _, rfl, _, rfl, _, rfl, d, g0, U.x, U.o, U.l, U.oA, U.oB, U.h, z, U.zA, U.zB, U.ws, es, m, 2 * i, rfl, kt4.dl, kt4.lv, kt4.ho, kt4.hl, kt4.lg, kt4.hA, kt4.hB, fx.hk, fx.mem, fx.zA, fx.zB, dm.dn, by omega, by omega, fun H5 z' es' v dl5 kq5 tk5 lv5 dn5 => ?_⟩
    exact next _ _ _ ⟨d, g0, U, i, ⟨fx, q, z', es', m ++ [(z, es)], kt4.kq kq5 tk5 dl5 lv5, (dm.mono (by omega)).put dn5, by rw [List.length_append]; exact Nat.succ_le_succ ml, _, _, _, _, _, _, _, rfl⟩, ii, hE⟩
end
end Lw
set_option Elab.async false
set_option linter.all false
set_option maxRecDepth 100000
set_option maxHeartbeats 4000000
namespace Lw
open PySem PySem.Spec PyProof.Rows L2 Hb
section
variable {P : Program} {w : World} {K : PySem.W.Frag} {mg : Str → Option Value} {base : Heap}
theorem part2 (T : Tx K mg) (C : Cs P w K mg base) {f : Addr} {cdv : Value} {s : Shared} {H0 : Hp} (hr : RmL s f cdv) {a : Addr} (body : Part (XL P w K mg base f cdv s H0) bodB (RB K a)) (next : Part (XL P w K mg base f cdv s H0) (lawB.drop 4) (R3 K a)) : Part (XL P w K mg base f cdv s H0) (lawB.drop 3) (R2 K a) := by
  have hu := hu_of hr
  have h64 := room64 hr
  have line := sizeLine_eq
  have hg : (XL P w K mg base f cdv s H0).A.guards = some [] := rfl
  obtain ⟨c_deal, c_draw, c_words, c_drawn_house, c_drawn_sleeper, c_house_of, c_sleeper_of, c_step, c_is_played, c_look, m_Live, c_do, c_undo, c_llen, c_wlen, g_walk⟩ := C
  obtain ⟨tN, hN, next⟩ := next
  obtain ⟨tB, hB, kB⟩ := body
  refine ⟨_, (pss_cons (ps_for PassesOwn.never rfl (pi_range1 (by rfl) T.n_range (pa_cons (C8.pe_c c_draw hr (by decide) rfl (pa_cons (pv 1) (pa_cons pe_int pa_nil))) pa_nil)) (pg_name (i := 9) sc_law.nd rfl (Or.inl rfl))
 hB)
 hN), ?_⟩
  rintro DE σ H1 ⟨d, g0, U, hE, fx, q, z, es, m, kt, dm, ml, v2, v3, v6, v9, v10, v11, v12, rfl⟩
  refine ⟨_, rfl, d, g0, 26, rfl, kt.dl, by decide, by decide, fun H2 mny dl2 k2 c0 c1 => ⟨mny, rfl, by omega, by omega, for_range (lo := 0) (n := mny.toNat) (fun i σ H' => LI K a d g0 U i σ H') ?_ ?_ ?_⟩⟩
  · exact ⟨fx, q, z, es, m, kt.kp k2 dl2, dm, ml, _, _, _, _, _, _, _, rfl⟩
  · rintro i σ' H3 hi li3
    refine kB _ _ _ ⟨d, g0, U, i, ?_, by omega, fun σ2 H4 li4 => li4⟩
    obtain ⟨fx, q, z, es, m, kt, dm, ml, v2, v3, v6, v9, v10, v11, v12, rfl⟩ := li3
    exact ⟨fx, q, z, es, m, kt, dm, ml, _, _, _, _, _, _, _, rfl⟩
  · rintro σ' H3 li3
    exact next _ _ _ ⟨d, g0, U, mny.toNat, hE, li3, by omega⟩
end
end Lw
set_option Elab.async false
set_option linter.all false
set_option maxRecDepth 100000
set_option maxHeartbeats 4000000
namespace Lw
open PySem PySem.Spec PyProof.Rows L2 Hb
section
variable {P : Program} {w : World} {K : PySem.W.Frag} {mg : Str → Option Value} {base : Heap}
theorem part3 (T : Tx K mg) (C : Cs P w K mg base) {f : Addr} {cdv : Value} {s : Shared} {H0 : Hp} (hr : RmL s f cdv) {a : Addr} (next : Part (XL P w K mg base f cdv s H0) (lawB.drop 9) (R3 K a)) : Part (XL P w K mg base f cdv s H0) (lawB.drop 4) (R3 K a) := by
  have hu := hu_of hr
  have h64 := room64 hr
  have line := sizeLine_eq
  have hg : (XL P w K mg base f cdv s H0).A.guards = some [] := rfl
  obtain ⟨c_deal, c_draw, c_words, c_drawn_house, c_drawn_sleeper, c_house_of, c_sleeper_of, c_step, c_is_played, c_look, m_Live, c_do, c_undo, c_llen, c_wlen, g_walk⟩ := C
  obtain ⟨tN, hN, next⟩ := next
  refine ⟨_, (pss_cons (ps_set (i := 10) sc_law.nd rfl (Or.inl rfl) (Hb.pe_cG hg c_look hr (by decide) rfl (pa_cons (pv 7) pa_nil)))
 (pss_cons (ps_set (i := 11) sc_law.nd rfl (Or.inl rfl) (C8.pe_mt c_do hr (by decide) (pv 7) (pa_cons pe_str pa_nil)))
 (pss_cons (ps_set (i := 12) sc_law.nd rfl (Or.inl rfl) (Hb.pe_cG hg c_look hr (by decide) rfl (pa_cons (pv 7) pa_nil)))
 (pss_cons (ps_if (PW.pt (pw_or (pt_cmpR op_isnot_bl (C8.pe_mt0 c_undo hr (by decide) (pv 7)) pe_bl (by first | exact nomark _ | rfl)) (pw_or (pt_cmpR op_ne (Hb.pe_cG hg c_look hr (by decide) rfl (pa_cons (pv 7) pa_nil)) (pv 10) (by first | exact nomark _ | rfl)) (pw_or (pt_cmpR (op_neD hr.units) (C8.pe_mt c_do hr (by decide) (pv 7) (pa_cons pe_str pa_nil)) (pv 11) (by first | exact nomark _ | rfl)) (pw_or1 (pt_cmpR op_ne (Hb.pe_cG hg c_look hr (by decide) rfl (pa_cons (pv 7) pa_nil)) (pv 12) (by first | exact nomark _ | rfl)))))))
 (pss_one (ps_ret pe_bl))
 pss_nil)
 (pss_cons (ps_if (pt_cmpR op_isnot_bl (C8.pe_mt0 c_undo hr (by decide) (pv 7)) pe_bl (by first | exact nomark _ | rfl))
 (pss_one (ps_ret pe_bl))
 pss_nil)
 hN))))), ?_⟩
  rintro DE σ H1 ⟨d, g0, U, i, hE, ⟨fx, q, z, es, m, kt, dm, ml, v2, v3, v6, v9, v10, v11, v12, rfl⟩, i26⟩
  have dfew := fx.hk.dm
  have lk := dm.dn.lk fx.hk fx.mem (by omega) (m := m.length) (by omega)
  refine ⟨_, rfl, U.x, U.h, z, 1, 1, "asleep", es, m, rfl, kt.lv, lk, fun H2 s2 => ?_⟩
  have kt2 := kt.same s2
  obtain ⟨dx, hm, sc, pa, hx⟩ := kt2.lv.ob
  have dnT := dm.dn.put (e := .tick) trivial trivial
  have lo := dm.dn.lvok (by omega) (by omega)
  have loT := dnT.lvok (by omega) (by omega)
  refine ⟨_, rfl, U.x, dx, _, rfl, hx, rfl, U.x, U.h, z, 1, 1, "asleep", es, m, .tick, by rw [tick_T]; rfl, kt2.lv, by omega, lo, loT, fun H3 v3' kx3 lv3 hv3 => ?_⟩
  have kt3 := kt2.kx kx3 lv3
  have lkT := dnT.lk fx.hk fx.mem (by omega) (m := (m ++ [(z, es)]).length) (by rw [List.length_append]; show m.length + 1 ≤ 1000; omega)
  refine ⟨_, rfl, U.x, U.h, z, 1, 1, "asleep", es ++ [.tick], m ++ [(z, es)], rfl, lv3, lkT, fun H4 s4 => ?_⟩
  have kt4 := kt3.same s4
  have hv4 := hv3.keep (Same.tk s4)
  clear lv3 kt3 kx3 hv3 kt2 hx kt
  obtain ⟨dx, hm, sc, pa, hx⟩ := kt4.lv.ob
  refine ⟨_, rfl, U.x, dx, _, rfl, hx, rfl, U.x, U.h, z, 1, 1, "asleep", es ++ [.tick], _, rfl, kt4.lv, by rw [List.length_append]; show m.length + 1 ≤ 1000; omega, fun e => by simp at e, fun z1 es1 m1 e H5 kx5 lv5 => ?_⟩
  obtain ⟨rfl, eq2⟩ := List.append_inj' e rfl
  injection eq2 with eq2 _
  injection eq2 with e1 e2
  subst e1 e2
  have kt5 := kt4.kx kx5 lv5
  have hv5 := hv4.keep (kx5.tk hx)
  refine ⟨true, true, rfl, rfl, _, rfl, ?_⟩
  rw [show (!decide (true = true)) = false by rfl]
  refine iteF ?_
  refine ⟨_, rfl, U.x, U.h, z, 1, 1, "asleep", es, m, rfl, lv5, lk, fun H6 s6 => ?_⟩
  have kt6 := kt5.same s6
  have hv6 := hv5.keep (Same.tk s6)
  refine ⟨_, rfl, rfl, _, rfl, ?_⟩
  rw [show (!decide (V.str (lookD U.h z 1 1 "asleep" es m.length).shown = V.str (lookD U.h z 1 1 "asleep" es m.length).shown)) = false by rw [decide_eq_true rfl]; rfl]
  refine iteF ?_
  clear kt4 hv4 hx lv5 kt5 hv5 kx5
  obtain ⟨dx, hm, sc, pa, hx⟩ := kt6.lv.ob
  refine ⟨_, rfl, U.x, dx, _, rfl, hx, rfl, U.x, U.h, z, 1, 1, "asleep", es, m, .tick, by rw [tick_T]; rfl, kt6.lv, by omega, lo, loT, fun H7 v7 kx7 lv7 hv7 => ?_⟩
  have kt7 := kt6.kx kx7 lv7
  have hv67 := hv6.keep (kx7.tk hx)
  refine ⟨_, rfl, ?_⟩
  have so := InS.sok dnT.zk (InS.run dnT.zk (h := U.h) (es := es ++ [.tick]) (w := wd0 z (1 + 1) "asleep") (InS.first dnT.zk "asleep"))
  refine ne_data (TD.dp hv7.td) (TD.dp hv67.td) (S0.shp so).shaped ⟨_, rfl, iteF ?_⟩
  refine ⟨_, rfl, U.x, U.h, z, 1, 1, "asleep", es ++ [.tick], m ++ [(z, es)], rfl, lv7, lkT, fun H8 s8 => ?_⟩
  refine ⟨_, rfl, rfl, _, rfl, ?_⟩
  rw [show (!decide (V.str (lookD U.h z 1 1 "asleep" (es ++ [.tick]) (m ++ [(z, es)]).length).shown = V.str (lookD U.h z 1 1 "asleep" (es ++ [.tick]) (m ++ [(z, es)]).length).shown)) = false by rw [decide_eq_true rfl]; rfl]
  refine iteF ?_
  have kt8 := kt7.same s8
  clear lv7 hv7 hv67 kt7 kx7 hx kt6 hv6
  obtain ⟨dx, hm, sc, pa, hx⟩ := kt8.lv.ob
  refine ⟨_, rfl, U.x, dx, _, rfl, hx, rfl, U.x, U.h, z, 1, 1, "asleep", es ++ [.tick], _, rfl, kt8.lv, by rw [List.length_append]; show m.length + 1 ≤ 1000; omega, fun e => by simp at e, fun z1 es1 m1 e H9 kx9 lv9 => ?_⟩
  obtain ⟨rfl, eq2⟩ := List.append_inj' e rfl
  injection eq2 with eq2 _
  injection eq2 with e1 e2
  subst e1 e2
  refine ⟨true, true, rfl, rfl, _, rfl, ?_⟩
  rw [show (!decide (true = true)) = false by rfl]
  refine iteF ?_
  exact next _ _ _ ⟨d, g0, U, i, hE, ⟨fx, q, z, es, m, kt8.kx kx9 lv9, dm, ml, _, _, _, _, _, _, _, rfl⟩, i26⟩
end
end Lw
set_option Elab.async false
set_option linter.all false
set_option maxRecDepth 100000
set_option maxHeartbeats 4000000
namespace Lw
open PySem PySem.Spec PyProof.Rows L2 Hb
section
variable {P : Program} {w : World} {K : PySem.W.Frag} {mg : Str → Option Value} {base : Heap}
theorem idx_back : ∀ n : Fin 31, sliceRange (sliceBounds none none (some (0 - 1)) n.val).1 (sliceBounds none none (some (0 - 1)) n.val).2.1 (sliceBounds none none (some (0 - 1)) n.val).2.2 = (List.range n.val).reverse := by decide +kernel
theorem fm_range {α : Type} (xs : List α) : ∀ n, n ≤ xs.length → (List.range n).filterMap (xs[·]?) = xs.take n
  | 0, _ => rfl
  | n + 1, h => by
    rw [List.range_succ, List.filterMap_append, fm_range xs n (by omega), List.take_add_one, List.filterMap_cons, List.filterMap_nil]
    cases e : xs[n]? with
    | none => have := List.getElem?_eq_none_iff.mp e; omega
    | some v => rfl
theorem pick_back {α : Type} (xs : List α) (h : xs.length ≤ 30) : pickV xs none none (some (0 - 1)) = xs.reverse := by
  unfold pickV
  rw [idx_back ⟨xs.length, by omega⟩, List.filterMap_reverse, fm_range xs xs.length (Nat.le_refl _), List.take_length]
def PC (K : PySem.W.Frag) (a d g0 : Addr) (U : Bx) (m : Hs) (q r : Addr) (v2 v3 v6 v9 v11 v12 : Option V) (i : Nat) (σ : L2.St) (H : Hp) : Prop := ∃ (z : Zz) (es : List Ev) (v10 : Option V), Kt K d g0 U q (TX U.h 0 m) z es (m.take (m.length - i)) H ∧ Dmx U 60 z es (m.take (m.length - i)) ∧ H r = some (.lst ((TX U.h 0 m).map V.str).reverse) ∧
  σ = [some (.ref a), some (.ref d), v2, v3, some (.ref U.o), some (.ref U.l), v6, some (.ref U.x), some (.ref q), v9, v10, v11, v12]
theorem PC.next {K : PySem.W.Frag} {a d g0 : Addr} {U : Bx} {m : Hs} {q r : Addr} {v2 v3 v6 v9 v11 v12 : Option V} {i : Nat} {σ : L2.St} {H : Hp} {D : Ends} {x : V} (y : PC K a d g0 U m q r v2 v3 v6 v9 v11 v12 i σ H) (fx : Fx U) (m30 : m.length ≤ 30) (hx : ((TX U.h 0 m).map V.str).reverse[i]? = some x) (hD : D.nx = PC K a d g0 U m q r v2 v3 v6 v9 v11 v12 (i + 1)) : RC K a D (σ.set 10 (some x)) H := by
  obtain ⟨z, es, v10, kt, dm, hr, rfl⟩ := y
  have il : i < m.length := by
    have := (List.getElem?_eq_some_iff.mp hx).1
    rw [List.length_reverse, List.length_map, TX.length] at this
    exact this
  rw [List.getElem?_reverse (by rw [List.length_map, TX.length]; exact il), List.length_map, TX.length, List.getElem?_map] at hx
  obtain ⟨⟨c, cs⟩, hc⟩ : ∃ c, m[m.length - 1 - i]? = some c := ⟨_, List.getElem?_eq_getElem (by omega)⟩
  rw [TX.get m 0 _ hc, Nat.zero_add] at hx
  obtain rfl := Option.some.inj hx
  have e1 : m.take (m.length - i) = m.take (m.length - 1 - i) ++ [(c, cs)] := by
    rw [show m.length - i = (m.length - 1 - i) + 1 by omega, List.take_add_one, hc]
    rfl
  have e2 : m.length - (i + 1) = m.length - 1 - i := by omega
  have el : (m.take (m.length - 1 - i)).length = m.length - 1 - i := by rw [List.length_take]; omega
  rw [e1] at kt dm
  have dm2 := dm.back
  refine ⟨d, g0, U, q, TX U.h 0 m, m.take (m.length - 1 - i), c, z, cs, es, _, _, _, _, _, _, _, fx, kt, dm2.dn, by rw [el]; omega, by rw [el]; rfl, fun H' kx kt' => ?_⟩
  rw [hD]
  obtain ⟨dx, hm, sc, pa, ho⟩ := kt.lv.ob
  refine ⟨c, cs, _, ?_, ?_, lst_kx kx ho hr, rfl⟩
  · rw [e2]; exact kt'
  · rw [e2]; exact dm2
theorem partC (T : Tx K mg) (C : Cs P w K mg base) {f : Addr} {cdv : Value} {s : Shared} {H0 : Hp} (hr : RmL s f cdv) {a : Addr} : Part (XL P w K mg base f cdv s H0) ((nthB lawB 9).drop 0) (RC K a) := by
  have hu := hu_of hr
  have h64 := room64 hr
  have line := sizeLine_eq
  have hg : (XL P w K mg base f cdv s H0).A.guards = some [] := rfl
  obtain ⟨c_deal, c_draw, c_words, c_drawn_house, c_drawn_sleeper, c_house_of, c_sleeper_of, c_step, c_is_played, c_look, m_Live, c_do, c_undo, c_llen, c_wlen, g_walk⟩ := C
  refine ⟨_, (pss_one (ps_if (PW.pt (pw_or (pt_cmpR op_isnot_bl (C8.pe_mt0 c_undo hr (by decide) (pv 7)) pe_bl (by first | exact nomark _ | rfl)) (pw_or1 (pt_cmpR op_ne (Hb.pe_cG hg c_look hr (by decide) rfl (pa_cons (pv 7) pa_nil)) (pv 10) (by first | exact nomark _ | rfl)))))
 (pss_one (ps_ret pe_bl))
 pss_nil)), ?_⟩
  rintro DE σ H1 ⟨d, g0, U, q, ts, rs, c, z, cs, es, v2, v3, v6, v8, v9, v11, v12, fx, kt, dn, rl, rfl, hE⟩
  obtain ⟨dx, hm, sc, pa, hx⟩ := kt.lv.ob
  refine ⟨_, rfl, U.x, dx, _, rfl, hx, rfl, U.x, U.h, z, 1, 1, "asleep", es, _, rfl, kt.lv, by rw [List.length_append]; show rs.length + 1 ≤ 1000; omega, fun e => by simp at e, fun z1 es1 m1 e H2 kx2 lv2 => ?_⟩
  obtain ⟨rfl, eq2⟩ := List.append_inj' e rfl
  injection eq2 with eq2 _
  injection eq2 with e1 e2
  subst e1 e2
  refine ⟨true, true, rfl, rfl, _, rfl, ?_⟩
  rw [show (!decide (true = true)) = false by rfl]
  refine iteF ?_
  have kt2 := kt.kx kx2 lv2
  refine ⟨_, rfl, U.x, U.h, c, 1, 1, "asleep", cs, rs, rfl, lv2, dn.lk fx.hk fx.mem (by omega) (by omega), fun H3 s3 => ?_⟩
  refine ⟨_, rfl, rfl, _, rfl, ?_⟩
  rw [show (!decide (V.str (lookD U.h c 1 1 "asleep" cs rs.length).shown = V.str (lookD U.h c 1 1 "asleep" cs rs.length).shown)) = false by rw [decide_eq_true rfl]; rfl]
  exact iteF (hE _ (kx2.trans (Hb.Same.kx s3)) (kt2.same s3))
theorem part4 (T : Tx K mg) (C : Cs P w K mg base) {f : Addr} {cdv : Value} {s : Shared} {H0 : Hp} (hr : RmL s f cdv) {a : Addr} (bodyC : Part (XL P w K mg base f cdv s H0) (nthB lawB 9) (RC K a)) (next : Part (XL P w K mg base f cdv s H0) (lawB.drop 10) (R5 K a)) : Part (XL P w K mg base f cdv s H0) (lawB.drop 9) (R3 K a) := by
  have hu := hu_of hr
  have h64 := room64 hr
  have line := sizeLine_eq
  have hg : (XL P w K mg base f cdv s H0).A.guards = some [] := rfl
  obtain ⟨c_deal, c_draw, c_words, c_drawn_house, c_drawn_sleeper, c_house_of, c_sleeper_of, c_step, c_is_played, c_look, m_Live, c_do, c_undo, c_llen, c_wlen, g_walk⟩ := C
  obtain ⟨tN, hN, next⟩ := next
  obtain ⟨tC, hC, kC⟩ := bodyC
  refine ⟨_, (pss_cons (ps_for PassesOwn.never rfl (pi_list (Hb.pe_slice3 (pv 8) po_none po_none (po_some (pe_op op_sub pe_int pe_int)))) (pg_name (i := 10) sc_law.nd rfl (Or.inl rfl))
 hC)
 hN), ?_⟩
  rintro DE σ H1 ⟨d, g0, U, i, hE, ⟨fx, q, z, es, m, kt, dm, ml, v2, v3, v6, v9, v10, v11, v12, rfl⟩, i26⟩
  have tl : ((TX U.h 0 m).map V.str).length = m.length := by rw [List.length_map, TX.length]
  refine ⟨_, rfl, 0, 1, rfl, rfl, _, rfl, q, _, rfl, SqL.of kt.hq, by simp, ?_⟩
  rw [pick_back _ (by rw [tl]; omega)]
  refine ⟨by rw [List.length_reverse, tl]; omega, fun r nr => ?_⟩
  have s2 : Same H1 (upd H1 r (.lst ((TX U.h 0 m).map V.str).reverse)) := Same.new nr
  have hr2 : upd H1 r (.lst ((TX U.h 0 m).map V.str).reverse) r = some (.lst ((TX U.h 0 m).map V.str).reverse) := upd_same
  generalize upd H1 r (.lst ((TX U.h 0 m).map V.str).reverse) = H2 at s2 hr2 ⊢
  refine ⟨r, rfl, ⟨_, SqL.of hr2⟩, for_list (K := K) (a := r) (xs := ((TX U.h 0 m).map V.str).reverse) (PC K a d g0 U m q r v2 v3 v6 v9 v11 v12) ⟨z, es, v10, ?_, ?_, hr2, rfl⟩ (fun i σ H' _ p => by
    obtain ⟨_, _, _, _, _, h, _⟩ := p
    exact SqL.of h) ?_ ?_⟩
  · rw [Nat.sub_zero, List.take_length]
    exact kt.same s2
  · rw [Nat.sub_zero, List.take_length]
    exact dm.mono (by omega)
  · rintro i x σ H hx pv
    exact kC _ _ _ (pv.next fx (by omega) hx rfl)
  · rintro σ H ⟨z', es', v10', kt', dm', _, rfl⟩
    rw [List.length_reverse, tl, Nat.sub_self, List.take_zero] at kt' dm'
    have e0 : es' = [] := dm'.hd (z', es') rfl
    subst e0
    exact next _ _ _ ⟨d, g0, U, q, _, z', _, _, _, _, _, _, _, _, hE, fx, kt', rfl⟩
theorem part5 (T : Tx K mg) (C : Cs P w K mg base) {f : Addr} {cdv : Value} {s : Shared} {H0 : Hp} (hr : RmL s f cdv) {a : Addr} : Part (XL P w K mg base f cdv s H0) (lawB.drop 10) (R5 K a) := by
  have hu := hu_of hr
  have h64 := room64 hr
  have line := sizeLine_eq
  have hg : (XL P w K mg base f cdv s H0).A.guards = some [] := rfl
  obtain ⟨c_deal, c_draw, c_words, c_drawn_house, c_drawn_sleeper, c_house_of, c_sleeper_of, c_step, c_is_played, c_look, m_Live, c_do, c_undo, c_llen, c_wlen, g_walk⟩ := C
  refine ⟨_, (pss_one (ps_if (PW.pt (pw_or (pt_cmpR op_isnot_bl (C8.pe_mt0 c_undo hr (by decide) (pv 7)) pe_bl (by first | exact nomark _ | rfl)) (pw_or (pt_cmpR op_ne (pe_callB (call_lenOwn c_llen hr (by decide)) (by rfl) T.n_len (by decide +kernel) (pa_cons (pv 7) pa_nil)) pe_int (by first | exact nomark _ | rfl)) (pw_or1 (pt_cmpR op_ne (pe_callB (call_lenOwn c_wlen hr (by decide)) (by rfl) T.n_len (by decide +kernel) (pa_cons (pe_get g_walk T.cls_Live hr (by decide) (pv 7)) pa_nil)) pe_int (by first | exact nomark _ | rfl))))))
 (pss_one (ps_ret pe_bl))
 pss_nil)), ?_⟩
  rintro DE σ H1 ⟨d, g0, U, q, ts, z, v2, v3, v6, v8, v9, v10, v11, v12, hE, fx, kt, rfl⟩
  obtain ⟨dx, hm, sc, pa, hx⟩ := kt.lv.ob
  refine ⟨_, rfl, U.x, dx, _, rfl, hx, rfl, U.x, U.h, z, 1, 1, "asleep", [], [], rfl, kt.lv, by simp, fun _ => ?_, fun z' es' m' e => by simp at e⟩
  refine ⟨false, false, rfl, rfl, _, rfl, ?_⟩
  rw [show (!decide (false = false)) = false by rfl]
  refine iteF ?_
  refine ⟨_, rfl, U.x, dx, _, rfl, hx, U.x, U.h, z, 1, 1, "asleep", [], [], rfl, kt.lv, _, rfl, by omega, by show ((0 : Nat) : Int) < 2 ^ 63; decide, rfl, _, rfl, ?_⟩
  rw [show (!decide (V.int ((([] : Hs).length : Nat) : Int) = V.int 0)) = false by rw [decide_eq_true (show V.int ((([] : Hs).length : Nat) : Int) = V.int 0 from rfl)]; rfl]
  refine iteF ?_
  refine ⟨_, rfl, U.x, dx, _, rfl, hx, U.x, U.h, z, 1, 1, "asleep", [], [], rfl, kt.lv, fun wq hw => ?_⟩
  obtain ⟨dw, tw, hwO, hwt⟩ := id hw
  refine ⟨wq, dw, _, rfl, hwO, wq, _, rfl, hw, wk_ok (by decide) (by decide) (by decide) (by simp) (fun e he => nomatch he) (by decide), _, rfl, by omega, by show ((0 : Nat) : Int) < 2 ^ 63; decide, rfl, _, rfl, ?_⟩
  rw [show (!decide (V.int (((List.map evT []).length : Nat) : Int) = V.int 0)) = false by rw [decide_eq_true (show V.int (((List.map evT []).length : Nat) : Int) = V.int 0 from rfl)]; rfl]
  exact iteF (hE _ _ ⟨kt.dl, _, _, _, _, _, _, _, _, _, _, _, rfl⟩)
end
end Lw
set_option Elab.async false
set_option linter.all false
set_option maxRecDepth 100000
set_option maxHeartbeats 4000000
namespace Lw
open PySem PySem.Spec PyProof.Rows L2 Hb
section
variable {P : Program} {w : World} {K : PySem.W.Frag} {mg : Str → Option Value} {base : Heap}
theorem ok_law (T : Tx K mg) (C : Cs P w K mg base)
    (f a : Addr) (cdv : Value) (s : Shared) (H : Hp) (ns : List Int) (few : ns.length ≤ 63) (hS : SqL K H a (ns.map V.int)) (hr : Room 12 (callerA.deeper (envOfC "law" (defScope s_law) s.heap.objs.size f cdv))) :
    ∃ t, PSs (cxOf CX0 P w K mg base N_law "law" (defScope s_law) f cdv callerA [] s H E0).nox (defBody s_law) t ∧ t { nx := fun _ _ => False, rt := fun v _ => v = .bl true } (start N_law [.ref a]) H := by
  have hr' : RmL s f cdv := hr
  have c_deal := C.c_deal
  obtain ⟨t1, h1, k1⟩ : Part (XL P w K mg base f cdv s H) (lawB.drop 0) (R1 a) := part1 T C hr' (part2 T C hr' (partB0 T C hr' (partB1 T C hr')) (part3 T C hr' (part4 T C hr' (partC T C hr') (part5 T C hr'))))
  refine ⟨_, (pss_cons (ps_set (i := 1) sc_law.nd rfl (Or.inr rfl) (C8.pe_c c_deal hr (by decide) rfl (pa_cons (pv 0) (pa_cons pe_int pa_nil))))
 (pss_cons (ps_for PassesOwn.never rfl (pi_range1 (by rfl) T.n_range (pa_cons pe_int pa_nil)) (pg_name (i := 2) sc_law.nd rfl (Or.inl rfl))
 h1)
 (pss_one (ps_ret pe_bl)))), ?_⟩
  refine ⟨_, rfl, a, ns, rfl, hS, few, fun H0 d g0 dl0 s0 nd ng => ?_⟩
  refine ⟨4, rfl, by decide, by decide, for_range (lo := 0) (n := 4) (fun _ σ H' => Deal d g0 H' ∧ ∃ v2 v3 v4 v5 v6 v7 v8 v9 v10 v11 v12, σ = [some (.ref a), some (.ref d), v2, v3, v4, v5, v6, v7, v8, v9, v10, v11, v12])
    ⟨dl0, _, _, _, _, _, _, _, _, _, _, _, rfl⟩ ?_ (fun σ H' _ => rfl)⟩
  rintro turn σ H1 _ ⟨dl1, v2, v3, v4, v5, v6, v7, v8, v9, v10, v11, v12, rfl⟩
  exact k1 _ _ _ ⟨d, g0, fun σ' H' q => q, dl1, _, _, _, _, _, _, _, _, _, _, _, rfl⟩
end
end Lw
set_option Elab.async false
set_option linter.all false
set_option maxRecDepth 100000
set_option maxHeartbeats 0
namespace Lw
open PySem PySem.Spec PyProof.Rows L2 Hb
section
variable {P : Program} {w : World} {K : PySem.W.Frag} {h : Heap} {mg : Str → Option Value}
theorem tx_of (X : K.In h) (G : h.Ns mainGlobals mg) (cd : He.SaysD fa fn K) (cx : ex K = true) : Tx K mg :=
  ⟨He.free_ok X G (cd.fact 60 rfl),
   He.free_ok X G (cd.fact 61 rfl),
   He.free_ok X G (cd.fact 62 rfl),
   He.free_ok X G (cd.fact 63 rfl),
   He.free_ok X G (cd.fact 64 rfl),
   He.free_ok X G (cd.fact 65 rfl),
   He.free_ok X G (cd.fact 66 rfl),
   He.free_ok X G (cd.fact 67 rfl),
   He.free_ok X G (cd.fact 68 rfl),
   He.free_ok X G (cd.fact 69 rfl),
   He.free_ok X G (cd.fact 70 rfl),
   He.free_ok X G (cd.fact 71 rfl),
   He.free_ok X G (cd.fact 72 rfl),
   He.free_ok X G (cd.fact 73 rfl),
   He.free_ok X G (cd.fact 74 rfl),
   He.free_ok X G (cd.fact 75 rfl),
   He.str_ok X G (cd.fact 76 rfl),
   He.str_ok X G (cd.fact 77 rfl),
   He.glo_ok X G (cd.fact 78 rfl),
   fun H => He.tupB_ok (EX0 cx) H,
   He.glo_ok X G (cd.fact 79 rfl),
   fun H => He.tupB_ok (EX1 cx) H,
   He.glo_ok X G (cd.fact 80 rfl),
   fun H => He.tupB_ok (EX2 cx) H,
   He.glo_ok X G (cd.fact 81 rfl),
   fun H => He.tupB_ok (EX3 cx) H,
   He.glo_ok X G (cd.fact 82 rfl),
   fun H => He.tupB_ok (EX4 cx) H,
   He.glo_ok X G (cd.fact 83 rfl),
   fun H => He.tupB_ok (EX5 cx) H,
   He.glo_ok X G (cd.fact 84 rfl),
   fun H => He.tupB_ok (EX6 cx) H,
   He.nilB_ok (EX7 cx),
   He.glo_ok X G (cd.fact 85 rfl),
   fun t ht => of_decide_eq_true (List.all_eq_true.mp (EX8 cx) t ht),
   He.eqO_ok (EX9 cx),
   of_decide_eq_true (EX10 cx),
   He.eqO_ok (EX11 cx),
   He.glo_ok X G (cd.fact 86 rfl),
   fun t ht => of_decide_eq_true (List.all_eq_true.mp (EX12 cx) t ht),
   He.eqO_ok (EX13 cx),
   of_decide_eq_true (EX14 cx),
   He.eqO_ok (EX15 cx),
   He.eqO_ok (EX16 cx),
   of_decide_eq_true (EX17 cx),
   He.cls_ok (cd.fact 87 rfl),
   He.noat_ok (cd.fact 88 rfl),
   He.noat_ok (cd.fact 89 rfl),
   He.noat_ok (cd.fact 90 rfl),
   He.noat_ok (cd.fact 91 rfl),
   He.cls_ok (cd.fact 92 rfl),
   He.noat_ok (cd.fact 93 rfl),
   He.noat_ok (cd.fact 94 rfl),
   He.noat_ok (cd.fact 95 rfl),
   He.noat_ok (cd.fact 96 rfl),
   He.noat_ok (cd.fact 97 rfl),
   He.cls_ok (cd.fact 98 rfl),
   He.noat_ok (cd.fact 99 rfl),
   He.noat_ok (cd.fact 100 rfl),
   He.noat_ok (cd.fact 101 rfl),
   He.noat_ok (cd.fact 102 rfl),
   He.cls_ok (cd.fact 103 rfl),
   He.noat_ok (cd.fact 104 rfl),
   He.noat_ok (cd.fact 105 rfl),
   He.noat_ok (cd.fact 106 rfl),
   He.noat_ok (cd.fact 107 rfl),
   He.noat_ok (cd.fact 108 rfl),
   He.noat_ok (cd.fact 109 rfl),
   He.noat_ok (cd.fact 110 rfl),
   He.noat_ok (cd.fact 111 rfl),
   He.cls_ok (cd.fact 112 rfl),
   He.noat_ok (cd.fact 113 rfl),
   He.noat_ok (cd.fact 114 rfl),
   He.noat_ok (cd.fact 115 rfl),
   He.noat_ok (cd.fact 116 rfl),
   He.noat_ok (cd.fact 117 rfl),
   He.cls_ok (cd.fact 118 rfl),
   He.noat_ok (cd.fact 119 rfl),
   He.noat_ok (cd.fact 120 rfl),
   He.noat_ok (cd.fact 121 rfl)⟩
theorem df_is_whole (X : K.In h) (G : h.Ns mainGlobals mg) (cd : He.SaysD fa fn K) : Df K mg "is_whole" s_is_whole := by
  obtain ⟨fd, F⟩ := cd.def_ 0 (d := d_is_whole) rfl
  exact ⟨fd, F, He.glo_ok X G (cd.fact 14 rfl)⟩
theorem df_is_number (X : K.In h) (G : h.Ns mainGlobals mg) (cd : He.SaysD fa fn K) : Df K mg "is_number" s_is_number := by
  obtain ⟨fd, F⟩ := cd.def_ 1 (d := d_is_number) rfl
  exact ⟨fd, F, He.glo_ok X G (cd.fact 15 rfl)⟩
theorem df_is_positive (X : K.In h) (G : h.Ns mainGlobals mg) (cd : He.SaysD fa fn K) : Df K mg "is_positive" s_is_positive := by
  obtain ⟨fd, F⟩ := cd.def_ 2 (d := d_is_positive) rfl
  exact ⟨fd, F, He.glo_ok X G (cd.fact 16 rfl)⟩
theorem df_is_name (X : K.In h) (G : h.Ns mainGlobals mg) (cd : He.SaysD fa fn K) : Df K mg "is_name" s_is_name := by
  obtain ⟨fd, F⟩ := cd.def_ 3 (d := d_is_name) rfl
  exact ⟨fd, F, He.glo_ok X G (cd.fact 17 rfl)⟩
theorem df_is_row (X : K.In h) (G : h.Ns mainGlobals mg) (cd : He.SaysD fa fn K) : Df K mg "is_row" s_is_row := by
  obtain ⟨fd, F⟩ := cd.def_ 4 (d := d_is_row) rfl
  exact ⟨fd, F, He.glo_ok X G (cd.fact 18 rfl)⟩
theorem df_is_tuple_of (X : K.In h) (G : h.Ns mainGlobals mg) (cd : He.SaysD fa fn K) : Df K mg "is_tuple_of" s_is_tuple_of := by
  obtain ⟨fd, F⟩ := cd.def_ 5 (d := d_is_tuple_of) rfl
  exact ⟨fd, F, He.glo_ok X G (cd.fact 19 rfl)⟩
theorem df_are_unlike (X : K.In h) (G : h.Ns mainGlobals mg) (cd : He.SaysD fa fn K) : Df K mg "are_unlike" s_are_unlike := by
  obtain ⟨fd, F⟩ := cd.def_ 6 (d := d_are_unlike) rfl
  exact ⟨fd, F, He.glo_ok X G (cd.fact 20 rfl)⟩
theorem df_is_numeral (X : K.In h) (G : h.Ns mainGlobals mg) (cd : He.SaysD fa fn K) : Df K mg "is_numeral" s_is_numeral := by
  obtain ⟨fd, F⟩ := cd.def_ 7 (d := d_is_numeral) rfl
  exact ⟨fd, F, He.glo_ok X G (cd.fact 21 rfl)⟩
theorem df_is_room (X : K.In h) (G : h.Ns mainGlobals mg) (cd : He.SaysD fa fn K) : Df K mg "is_room" s_is_room := by
  obtain ⟨fd, F⟩ := cd.def_ 8 (d := d_is_room) rfl
  exact ⟨fd, F, He.glo_ok X G (cd.fact 22 rfl)⟩
theorem df_is_door (X : K.In h) (G : h.Ns mainGlobals mg) (cd : He.SaysD fa fn K) : Df K mg "is_door" s_is_door := by
  obtain ⟨fd, F⟩ := cd.def_ 9 (d := d_is_door) rfl
  exact ⟨fd, F, He.glo_ok X G (cd.fact 23 rfl)⟩
theorem df_is_floor (X : K.In h) (G : h.Ns mainGlobals mg) (cd : He.SaysD fa fn K) : Df K mg "is_floor" s_is_floor := by
  obtain ⟨fd, F⟩ := cd.def_ 10 (d := d_is_floor) rfl
  exact ⟨fd, F, He.glo_ok X G (cd.fact 24 rfl)⟩
theorem df_are_doors (X : K.In h) (G : h.Ns mainGlobals mg) (cd : He.SaysD fa fn K) : Df K mg "are_doors" s_are_doors := by
  obtain ⟨fd, F⟩ := cd.def_ 11 (d := d_are_doors) rfl
  exact ⟨fd, F, He.glo_ok X G (cd.fact 25 rfl)⟩
theorem df_are_floors (X : K.In h) (G : h.Ns mainGlobals mg) (cd : He.SaysD fa fn K) : Df K mg "are_floors" s_are_floors := by
  obtain ⟨fd, F⟩ := cd.def_ 12 (d := d_are_floors) rfl
  exact ⟨fd, F, He.glo_ok X G (cd.fact 26 rfl)⟩
theorem df_are_cradles (X : K.In h) (G : h.Ns mainGlobals mg) (cd : He.SaysD fa fn K) : Df K mg "are_cradles" s_are_cradles := by
  obtain ⟨fd, F⟩ := cd.def_ 13 (d := d_are_cradles) rfl
  exact ⟨fd, F, He.glo_ok X G (cd.fact 27 rfl)⟩
theorem df_door_line (X : K.In h) (G : h.Ns mainGlobals mg) (cd : He.SaysD fa fn K) : Df K mg "door_line" s_door_line := by
  obtain ⟨fd, F⟩ := cd.def_ 14 (d := d_door_line) rfl
  exact ⟨fd, F, He.glo_ok X G (cd.fact 28 rfl)⟩
theorem df_House_init (X : K.In h) (G : h.Ns mainGlobals mg) (cd : He.SaysD fa fn K) : Df1d K mg "House" "House.__init__" s_House_init 1 := by
  obtain ⟨fd, F⟩ := cd.def_ 15 (d := d_House_init) rfl
  exact ⟨He.mkr_ok (cd.fact 122 rfl), He.glo_ok X G (cd.fact 85 rfl), fd, _, rfl, F⟩
theorem df_House_str (X : K.In h) (G : h.Ns mainGlobals mg) (cd : He.SaysD fa fn K) : Dm K "House" "__str__" "House.__str__" s_House_str := ⟨He.meth_ok (cd.fact 0 rfl), cd.def_ 16 (d := d_House_str) rfl⟩
theorem df_is_sorted_name (X : K.In h) (G : h.Ns mainGlobals mg) (cd : He.SaysD fa fn K) : Df K mg "is_sorted_name" s_is_sorted_name := by
  obtain ⟨fd, F⟩ := cd.def_ 17 (d := d_is_sorted_name) rfl
  exact ⟨fd, F, He.glo_ok X G (cd.fact 29 rfl)⟩
theorem df_are_sorts (X : K.In h) (G : h.Ns mainGlobals mg) (cd : He.SaysD fa fn K) : Df K mg "are_sorts" s_are_sorts := by
  obtain ⟨fd, F⟩ := cd.def_ 18 (d := d_are_sorts) rfl
  exact ⟨fd, F, He.glo_ok X G (cd.fact 30 rfl)⟩
theorem df_Sleeper_init (X : K.In h) (G : h.Ns mainGlobals mg) (cd : He.SaysD fa fn K) : Df1 K mg "Sleeper" "Sleeper.__init__" s_Sleeper_init := ⟨He.mkr_ok (cd.fact 123 rfl), He.glo_ok X G (cd.fact 86 rfl), cd.def_ 19 (d := d_Sleeper_init) rfl⟩
theorem df_Sleeper_str (X : K.In h) (G : h.Ns mainGlobals mg) (cd : He.SaysD fa fn K) : Dm K "Sleeper" "__str__" "Sleeper.__str__" s_Sleeper_str := ⟨He.meth_ok (cd.fact 1 rfl), cd.def_ 20 (d := d_Sleeper_str) rfl⟩
theorem df_first_state (X : K.In h) (G : h.Ns mainGlobals mg) (cd : He.SaysD fa fn K) : Df K mg "first_state" s_first_state := by
  obtain ⟨fd, F⟩ := cd.def_ 21 (d := d_first_state) rfl
  exact ⟨fd, F, He.glo_ok X G (cd.fact 31 rfl)⟩
theorem df_heard (X : K.In h) (G : h.Ns mainGlobals mg) (cd : He.SaysD fa fn K) : Df K mg "heard" s_heard := by
  obtain ⟨fd, F⟩ := cd.def_ 22 (d := d_heard) rfl
  exact ⟨fd, F, He.glo_ok X G (cd.fact 32 rfl)⟩
theorem df_heard_all (X : K.In h) (G : h.Ns mainGlobals mg) (cd : He.SaysD fa fn K) : Df K mg "heard_all" s_heard_all := by
  obtain ⟨fd, F⟩ := cd.def_ 23 (d := d_heard_all) rfl
  exact ⟨fd, F, He.glo_ok X G (cd.fact 33 rfl)⟩
theorem df_ticked (X : K.In h) (G : h.Ns mainGlobals mg) (cd : He.SaysD fa fn K) : Df K mg "ticked" s_ticked := by
  obtain ⟨fd, F⟩ := cd.def_ 24 (d := d_ticked) rfl
  exact ⟨fd, F, He.glo_ok X G (cd.fact 34 rfl)⟩
theorem df_hummed (X : K.In h) (G : h.Ns mainGlobals mg) (cd : He.SaysD fa fn K) : Df K mg "hummed" s_hummed := by
  obtain ⟨fd, F⟩ := cd.def_ 25 (d := d_hummed) rfl
  exact ⟨fd, F, He.glo_ok X G (cd.fact 35 rfl)⟩
theorem df_dozing_anew (X : K.In h) (G : h.Ns mainGlobals mg) (cd : He.SaysD fa fn K) : Df K mg "dozing_anew" s_dozing_anew := by
  obtain ⟨fd, F⟩ := cd.def_ 26 (d := d_dozing_anew) rfl
  exact ⟨fd, F, He.glo_ok X G (cd.fact 36 rfl)⟩
theorem df_sort_of (X : K.In h) (G : h.Ns mainGlobals mg) (cd : He.SaysD fa fn K) : Df K mg "sort_of" s_sort_of := by
  obtain ⟨fd, F⟩ := cd.def_ 27 (d := d_sort_of) rfl
  exact ⟨fd, F, He.glo_ok X G (cd.fact 37 rfl)⟩
theorem df_heard_asleep (X : K.In h) (G : h.Ns mainGlobals mg) (cd : He.SaysD fa fn K) : Df K mg "heard_asleep" s_heard_asleep := by
  obtain ⟨fd, F⟩ := cd.def_ 28 (d := d_heard_asleep) rfl
  exact ⟨fd, F, He.glo_ok X G (cd.fact 38 rfl)⟩
theorem df_heard_loud_dozing (X : K.In h) (G : h.Ns mainGlobals mg) (cd : He.SaysD fa fn K) : Df K mg "heard_loud_dozing" s_heard_loud_dozing := by
  obtain ⟨fd, F⟩ := cd.def_ 29 (d := d_heard_loud_dozing) rfl
  exact ⟨fd, F, He.glo_ok X G (cd.fact 39 rfl)⟩
theorem df_is_person (X : K.In h) (G : h.Ns mainGlobals mg) (cd : He.SaysD fa fn K) : Df K mg "is_person" s_is_person := by
  obtain ⟨fd, F⟩ := cd.def_ 30 (d := d_is_person) rfl
  exact ⟨fd, F, He.glo_ok X G (cd.fact 40 rfl)⟩
theorem df_is_event (X : K.In h) (G : h.Ns mainGlobals mg) (cd : He.SaysD fa fn K) : Df K mg "is_event" s_is_event := by
  obtain ⟨fd, F⟩ := cd.def_ 31 (d := d_is_event) rfl
  exact ⟨fd, F, He.glo_ok X G (cd.fact 41 rfl)⟩
theorem df_Walk_init (X : K.In h) (G : h.Ns mainGlobals mg) (cd : He.SaysD fa fn K) : Df1v K mg "Walk" "Walk.__init__" s_Walk_init [.ref (He.dflAt ("Walk", some "__init__") 0 K)] := by
  obtain ⟨fd, F⟩ := cd.def_ 32 (d := d_Walk_init) rfl
  exact ⟨He.mkr_ok (cd.fact 124 rfl), He.glo_ok X G (cd.fact 125 rfl), fd, F⟩
theorem df_Walk_further (X : K.In h) (G : h.Ns mainGlobals mg) (cd : He.SaysD fa fn K) : Dm K "Walk" "further" "Walk.further" s_Walk_further := ⟨He.meth_ok (cd.fact 2 rfl), cd.def_ 33 (d := d_Walk_further) rfl⟩
theorem df_Walk_len (X : K.In h) (G : h.Ns mainGlobals mg) (cd : He.SaysD fa fn K) : Dm K "Walk" "__len__" "Walk.__len__" s_Walk_len := ⟨He.meth_ok (cd.fact 3 rfl), cd.def_ 34 (d := d_Walk_len) rfl⟩
theorem df_beyond (X : K.In h) (G : h.Ns mainGlobals mg) (cd : He.SaysD fa fn K) : Df K mg "beyond" s_beyond := by
  obtain ⟨fd, F⟩ := cd.def_ 35 (d := d_beyond) rfl
  exact ⟨fd, F, He.glo_ok X G (cd.fact 42 rfl)⟩
theorem df_floor_noise (X : K.In h) (G : h.Ns mainGlobals mg) (cd : He.SaysD fa fn K) : Df K mg "floor_noise" s_floor_noise := by
  obtain ⟨fd, F⟩ := cd.def_ 36 (d := d_floor_noise) rfl
  exact ⟨fd, F, He.glo_ok X G (cd.fact 43 rfl)⟩
theorem df_noises_of_step (X : K.In h) (G : h.Ns mainGlobals mg) (cd : He.SaysD fa fn K) : Df K mg "noises_of_step" s_noises_of_step := by
  obtain ⟨fd, F⟩ := cd.def_ 37 (d := d_noises_of_step) rfl
  exact ⟨fd, F, He.glo_ok X G (cd.fact 44 rfl)⟩
theorem df_Night_init (X : K.In h) (G : h.Ns mainGlobals mg) (cd : He.SaysD fa fn K) : Df1 K mg "Night" "Night.__init__" s_Night_init := ⟨He.mkr_ok (cd.fact 126 rfl), He.glo_ok X G (cd.fact 127 rfl), cd.def_ 38 (d := d_Night_init) rfl⟩
theorem df_Night_allows (X : K.In h) (G : h.Ns mainGlobals mg) (cd : He.SaysD fa fn K) : Dm K "Night" "allows" "Night.allows" s_Night_allows := ⟨He.meth_ok (cd.fact 4 rfl), cd.def_ 39 (d := d_Night_allows) rfl⟩
theorem df_Night_follow (X : K.In h) (G : h.Ns mainGlobals mg) (cd : He.SaysD fa fn K) : Dm K "Night" "follow" "Night.follow" s_Night_follow := ⟨He.meth_ok (cd.fact 5 rfl), cd.def_ 40 (d := d_Night_follow) rfl⟩
theorem df_Night_tick (X : K.In h) (G : h.Ns mainGlobals mg) (cd : He.SaysD fa fn K) : Dm K "Night" "tick" "Night.tick" s_Night_tick := ⟨He.meth_ok (cd.fact 6 rfl), cd.def_ 41 (d := d_Night_tick) rfl⟩
theorem df_Night_step (X : K.In h) (G : h.Ns mainGlobals mg) (cd : He.SaysD fa fn K) : Dm K "Night" "step" "Night.step" s_Night_step := ⟨He.meth_ok (cd.fact 7 rfl), cd.def_ 42 (d := d_Night_step) rfl⟩
theorem df_Played_init (X : K.In h) (G : h.Ns mainGlobals mg) (cd : He.SaysD fa fn K) : Df1 K mg "Played" "Played.__init__" s_Played_init := ⟨He.mkr_ok (cd.fact 128 rfl), He.glo_ok X G (cd.fact 129 rfl), cd.def_ 43 (d := d_Played_init) rfl⟩
theorem df_play (X : K.In h) (G : h.Ns mainGlobals mg) (cd : He.SaysD fa fn K) : Df K mg "play" s_play := by
  obtain ⟨fd, F⟩ := cd.def_ 44 (d := d_play) rfl
  exact ⟨fd, F, He.glo_ok X G (cd.fact 45 rfl)⟩
theorem df_led_on (X : K.In h) (G : h.Ns mainGlobals mg) (cd : He.SaysD fa fn K) : Df K mg "led_on" s_led_on := by
  obtain ⟨fd, F⟩ := cd.def_ 45 (d := d_led_on) rfl
  exact ⟨fd, F, He.glo_ok X G (cd.fact 46 rfl)⟩
theorem df_Live_init (X : K.In h) (G : h.Ns mainGlobals mg) (cd : He.SaysD fa fn K) : Df1 K mg "Live" "Live.__init__" s_Live_init := ⟨He.mkr_ok (cd.fact 130 rfl), He.glo_ok X G (cd.fact 131 rfl), cd.def_ 46 (d := d_Live_init) rfl⟩
theorem df_Live_house (cx : ex K = true) (cp : fp.map (fun p => He.fnP K (p.1 K)) = fp.map fun p => p.2.val) : Dprop K "Live" "house" "Live.house" s_Live_house := ⟨He.prop_ok (EX18 cx), He.def_p cp 0 rfl (EX19 cx)⟩
theorem df_Live_sleeper (cx : ex K = true) (cp : fp.map (fun p => He.fnP K (p.1 K)) = fp.map fun p => p.2.val) : Dprop K "Live" "sleeper" "Live.sleeper" s_Live_sleeper := ⟨He.prop_ok (EX20 cx), He.def_p cp 1 rfl (EX21 cx)⟩
theorem df_Live_walk (cx : ex K = true) (cp : fp.map (fun p => He.fnP K (p.1 K)) = fp.map fun p => p.2.val) : Dprop K "Live" "walk" "Live.walk" s_Live_walk := ⟨He.prop_ok (EX22 cx), He.def_p cp 2 rfl (EX23 cx)⟩
theorem df_Live_played (cx : ex K = true) (cp : fp.map (fun p => He.fnP K (p.1 K)) = fp.map fun p => p.2.val) : Dprop K "Live" "played" "Live.played" s_Live_played := ⟨He.prop_ok (EX24 cx), He.def_p cp 3 rfl (EX25 cx)⟩
theorem df_Live_do (X : K.In h) (G : h.Ns mainGlobals mg) (cd : He.SaysD fa fn K) : Dm K "Live" "do" "Live.do" s_Live_do := ⟨He.meth_ok (cd.fact 8 rfl), cd.def_ 47 (d := d_Live_do) rfl⟩
theorem df_Live_become (X : K.In h) (G : h.Ns mainGlobals mg) (cd : He.SaysD fa fn K) : Dm K "Live" "become" "Live.become" s_Live_become := ⟨He.meth_ok (cd.fact 9 rfl), cd.def_ 48 (d := d_Live_become) rfl⟩
theorem df_Live_len (X : K.In h) (G : h.Ns mainGlobals mg) (cd : He.SaysD fa fn K) : Dm K "Live" "__len__" "Live.__len__" s_Live_len := ⟨He.meth_ok (cd.fact 10 rfl), cd.def_ 49 (d := d_Live_len) rfl⟩
theorem df_Live_several (X : K.In h) (G : h.Ns mainGlobals mg) (cd : He.SaysD fa fn K) : Dm K "Live" "several" "Live.several" s_Live_several := ⟨He.meth_ok (cd.fact 11 rfl), cd.def_ 50 (d := d_Live_several) rfl⟩
theorem df_Live_change (X : K.In h) (G : h.Ns mainGlobals mg) (cd : He.SaysD fa fn K) : Dm K "Live" "change" "Live.change" s_Live_change := ⟨He.meth_ok (cd.fact 12 rfl), cd.def_ 51 (d := d_Live_change) rfl⟩
theorem df_Live_undo (X : K.In h) (G : h.Ns mainGlobals mg) (cd : He.SaysD fa fn K) : Dm K "Live" "undo" "Live.undo" s_Live_undo := ⟨He.meth_ok (cd.fact 13 rfl), cd.def_ 52 (d := d_Live_undo) rfl⟩
theorem df_deal (X : K.In h) (G : h.Ns mainGlobals mg) (cd : He.SaysD fa fn K) : Df K mg "_law_deal" s_deal := by
  obtain ⟨fd, F⟩ := cd.def_ 53 (d := d_deal) rfl
  exact ⟨fd, F, He.glo_ok X G (cd.fact 47 rfl)⟩
theorem df_draw (X : K.In h) (G : h.Ns mainGlobals mg) (cd : He.SaysD fa fn K) : Df K mg "_law_draw" s_draw := by
  obtain ⟨fd, F⟩ := cd.def_ 54 (d := d_draw) rfl
  exact ⟨fd, F, He.glo_ok X G (cd.fact 48 rfl)⟩
theorem df_pick (X : K.In h) (G : h.Ns mainGlobals mg) (cd : He.SaysD fa fn K) : Df K mg "_law_pick" s_pick := by
  obtain ⟨fd, F⟩ := cd.def_ 55 (d := d_pick) rfl
  exact ⟨fd, F, He.glo_ok X G (cd.fact 49 rfl)⟩
theorem df_mixed (X : K.In h) (G : h.Ns mainGlobals mg) (cd : He.SaysD fa fn K) : Df K mg "_law_mixed" s_mixed := by
  obtain ⟨fd, F⟩ := cd.def_ 56 (d := d_mixed) rfl
  exact ⟨fd, F, He.glo_ok X G (cd.fact 50 rfl)⟩
theorem df_words (X : K.In h) (G : h.Ns mainGlobals mg) (cd : He.SaysD fa fn K) : Df K mg "_law_words" s_words := by
  obtain ⟨fd, F⟩ := cd.def_ 57 (d := d_words) rfl
  exact ⟨fd, F, He.glo_ok X G (cd.fact 51 rfl)⟩
theorem df_drawn_house (X : K.In h) (G : h.Ns mainGlobals mg) (cd : He.SaysD fa fn K) : Df K mg "_law_drawn_house" s_drawn_house := by
  obtain ⟨fd, F⟩ := cd.def_ 58 (d := d_drawn_house) rfl
  exact ⟨fd, F, He.glo_ok X G (cd.fact 52 rfl)⟩
theorem df_house_of (X : K.In h) (G : h.Ns mainGlobals mg) (cd : He.SaysD fa fn K) : Df K mg "_law_house_of" s_house_of := by
  obtain ⟨fd, F⟩ := cd.def_ 59 (d := d_house_of) rfl
  exact ⟨fd, F, He.glo_ok X G (cd.fact 53 rfl)⟩
theorem df_drawn_sleeper (X : K.In h) (G : h.Ns mainGlobals mg) (cd : He.SaysD fa fn K) : Df K mg "_law_drawn_sleeper" s_drawn_sleeper := by
  obtain ⟨fd, F⟩ := cd.def_ 60 (d := d_drawn_sleeper) rfl
  exact ⟨fd, F, He.glo_ok X G (cd.fact 54 rfl)⟩
theorem df_sleeper_of (X : K.In h) (G : h.Ns mainGlobals mg) (cd : He.SaysD fa fn K) : Df K mg "_law_sleeper_of" s_sleeper_of := by
  obtain ⟨fd, F⟩ := cd.def_ 61 (d := d_sleeper_of) rfl
  exact ⟨fd, F, He.glo_ok X G (cd.fact 55 rfl)⟩
theorem df_look (X : K.In h) (G : h.Ns mainGlobals mg) (cd : He.SaysD fa fn K) : Df K mg "_law_look" s_look := by
  obtain ⟨fd, F⟩ := cd.def_ 62 (d := d_look) rfl
  exact ⟨fd, F, He.glo_ok X G (cd.fact 56 rfl)⟩
theorem df_step (X : K.In h) (G : h.Ns mainGlobals mg) (cd : He.SaysD fa fn K) : Df K mg "_law_step" s_step := by
  obtain ⟨fd, F⟩ := cd.def_ 63 (d := d_step) rfl
  exact ⟨fd, F, He.glo_ok X G (cd.fact 57 rfl)⟩
theorem df_is_played (X : K.In h) (G : h.Ns mainGlobals mg) (cd : He.SaysD fa fn K) : Df K mg "_law_is_played" s_is_played := by
  obtain ⟨fd, F⟩ := cd.def_ 64 (d := d_is_played) rfl
  exact ⟨fd, F, He.glo_ok X G (cd.fact 58 rfl)⟩
theorem facts {f : Addr} (X : K.In h) (G : h.Ns mainGlobals mg) (hfa : mg ("law" : Str) = some (.ref f)) (cd : He.SaysD fa fn K) (cx : ex K = true) (cp : fp.map (fun p => He.fnP K (p.1 K)) = fp.map fun p => p.2.val) :
    ∃ fd : FuncData, FunD K "law" "law" (defArgs s_law) (defBody s_law) (defScope s_law) [] [] f fd ∧ (∀ (s : Shared) (v : Value), BindsTo s fd ⟨[v], []⟩ [("_law_script", v)]) ∧ BodyG P w K mg N_law (defScope s_law) (defBody s_law) 12 63 := by
  obtain ⟨fd, F⟩ := cd.def_ 65 (d := d_law) rfl
  have T := tx_of X G cd cx
  have e := hfa.symm.trans (He.glo_ok X G (cd.fact 59 rfl))
  cases e
  have b := FunD.bindsA (ps := ["_law_script"]) F bd_law
  refine ⟨fd, F, fun s v => b s [v] rfl, fun base f a cdv s H ns few hS hr => ?_⟩
  have c_draw := c_draw (P := P) (w := w) (base := base) (df_draw X G cd) T
  have c_pick := c_pick (df_pick X G cd) T c_draw
  have c_mixed := c_mixed (df_mixed X G cd) T c_draw
  have c_words := c_words (df_words X G cd) T c_mixed
  have c_deal := c_deal (P := P) (w := w) (base := base) (df_deal X G cd) T
  have c_drawn_sleeper := c_drawn_sleeper (df_drawn_sleeper X G cd) T c_draw c_pick
  have c_is_whole := c_is_whole (P := P) (w := w) (base := base) (df_is_whole X G cd) T
  have c_is_positive := c_is_positive (df_is_positive X G cd) T c_is_whole
  have c_is_name := c_is_name (P := P) (w := w) (base := base) (df_is_name X G cd) T
  have c_is_row := c_is_row (P := P) (w := w) (base := base) (df_is_row X G cd) T
  have c_is_tuple_of := c_is_tuple_of (P := P) (w := w) (base := base) (df_is_tuple_of X G cd) T
  have c_are_unlike := c_are_unlike (P := P) (w := w) (base := base) (df_are_unlike X G cd) T
  have c_is_room := c_is_room (df_is_room X G cd) T c_is_whole
  have c_is_door := c_is_door (df_is_door X G cd) T c_is_tuple_of c_is_room c_is_name
  have c_is_floor := c_is_floor (df_is_floor X G cd) T c_is_tuple_of c_is_room c_is_name
  have c_are_doors := c_are_doors (df_are_doors X G cd) T c_is_row c_is_door
  have c_are_floors := c_are_floors (df_are_floors X G cd) T c_is_row c_is_floor c_are_unlike
  have c_are_cradles := c_are_cradles (df_are_cradles X G cd) T c_is_row c_is_room c_are_unlike
  have c_House := m_House_mk (df_House_init X G cd) T c_is_positive c_are_doors c_are_floors c_are_cradles
  have c_drawn_house := c_drawn_house (df_drawn_house X G cd) T c_draw c_pick c_mixed
  have c_house_of := c_house_of (df_house_of X G cd) T c_House
  have c_is_sorted_name := c_is_sorted_name (df_is_sorted_name X G cd) T c_is_tuple_of c_is_name
  have c_are_sorts := c_are_sorts (df_are_sorts X G cd) T c_is_row c_is_sorted_name c_are_unlike
  have c_Sleeper := m_Sleeper_mk (df_Sleeper_init X G cd) T c_are_sorts c_is_positive
  have c_sort_of := c_sort_of (P := P) (w := w) (base := base) (df_sort_of X G cd) T
  have c_dozing_anew := c_dozing_anew (P := P) (w := w) (base := base) (df_dozing_anew X G cd) T
  have c_heard_loud_dozing := c_heard_loud_dozing (df_heard_loud_dozing X G cd) T c_dozing_anew
  have c_heard_asleep := c_heard_asleep (P := P) (w := w) (base := base) (df_heard_asleep X G cd) T
  have c_heard := c_heard (df_heard X G cd) T c_sort_of c_heard_asleep c_heard_loud_dozing
  have c_ticked := c_ticked (P := P) (w := w) (base := base) (df_ticked X G cd) T
  have c_hummed := c_hummed (df_hummed X G cd) T c_dozing_anew
  have c_first_state := c_first_state (df_first_state X G cd) T c_dozing_anew
  have c_sleeper_of := c_sleeper_of (df_sleeper_of X G cd) T c_Sleeper
  have c_is_number := c_is_number (df_is_number X G cd) T c_is_whole
  have c_is_numeral := c_is_numeral (P := P) (w := w) (base := base) (df_is_numeral X G cd) T
  have c_is_person := c_is_person (df_is_person X G cd) T c_is_numeral
  have c_is_event := c_is_event (df_is_event X G cd) T c_is_numeral c_is_person
  have c_Walk2 := m_Walk_mk (df_Walk_init X G cd) T c_is_number c_is_row c_is_event
  have c_Walk := c_Walk2.1
  have c_Walk0 := c_Walk2.2
  have c_further := met_ (P := P) (w := w) (mg := mg) (base := base) (df_Walk_further X G cd) T.cls_Walk bd_Walk_further fun F => ok_further F T c_is_row c_Walk
  have c_len := lenOf_ (P := P) (w := w) (mg := mg) (base := base) (df_Walk_len X G cd) bd_Walk_len fun F => ok_len F T
  have c_beyond := c_beyond (P := P) (w := w) (base := base) (df_beyond X G cd) T
  have c_floor_noise := c_floor_noise (P := P) (w := w) (base := base) (df_floor_noise X G cd) T
  have c_noises_of_step := c_noises_of_step (df_noises_of_step X G cd) T c_floor_noise
  have c_heard_all := c_heard_all (df_heard_all X G cd) T c_heard
  have c_Night := m_Night_mk (df_Night_init X G cd) T c_first_state
  have c_tick := met_ (P := P) (w := w) (mg := mg) (base := base) (df_Night_tick X G cd) T.cls_Night bd_Night_tick fun F => ok_tick F T c_ticked
  have c_step := met_ (P := P) (w := w) (mg := mg) (base := base) (df_Night_step X G cd) T.cls_Night bd_Night_step fun F => ok_step F T c_beyond c_noises_of_step c_heard_all
  have c_allows := met_ (P := P) (w := w) (mg := mg) (base := base) (df_Night_allows X G cd) T.cls_Night bd_Night_allows fun F => ok_allows F T c_beyond
  have c_follow := met_ (P := P) (w := w) (mg := mg) (base := base) (df_Night_follow X G cd) T.cls_Night bd_Night_follow fun F => ok_follow F T c_hummed c_tick c_step
  have c_Played := m_Played_mk (P := P) (w := w) (base := base) (df_Played_init X G cd) T
  have c_play := c_play (df_play X G cd) T c_Night c_Played c_allows c_follow
  have c_door_line := c_door_line (P := P) (w := w) (base := base) (df_door_line X G cd) T
  have c_strH := strOf_ (P := P) (w := w) (mg := mg) (base := base) (df_House_str X G cd) bd_House_str fun F => ok_strH F T c_door_line
  have c_strS := strOf_ (P := P) (w := w) (mg := mg) (base := base) (df_Sleeper_str X G cd) bd_Sleeper_str fun F => ok_strS F T
  have c_led_on := c_led_on (df_led_on X G cd) T c_further c_play
  have c_Live := m_Live_mk (df_Live_init X G cd) T c_Walk0 c_play
  have c_become := met_ (P := P) (w := w) (mg := mg) (base := base) (df_Live_become X G cd) T.cls_Live bd_Live_become fun F => ok_become F T
  have c_do := met_ (P := P) (w := w) (mg := mg) (base := base) (df_Live_do X G cd) T.cls_Live bd_Live_do fun F => ok_do F T c_led_on c_become
  have c_llen := lenOf_ (P := P) (w := w) (mg := mg) (base := base) (df_Live_len X G cd) bd_Live_len fun F => ok_llen F T
  have c_lhouse := getOf_ (P := P) (w := w) (mg := mg) (base := base) (df_Live_house cx cp) bd_Live_house fun F => ok_house F T
  have c_lsleeper := getOf_ (P := P) (w := w) (mg := mg) (base := base) (df_Live_sleeper cx cp) bd_Live_sleeper fun F => ok_sleeper F T
  have c_lwalk := getOf_ (P := P) (w := w) (mg := mg) (base := base) (df_Live_walk cx cp) bd_Live_walk fun F => ok_walk F T
  have c_lplayed := getOf_ (P := P) (w := w) (mg := mg) (base := base) (df_Live_played cx cp) bd_Live_played fun F => ok_played F T
  have c_several := met_ (P := P) (w := w) (mg := mg) (base := base) (df_Live_several X G cd) T.cls_Live bd_Live_several fun F => ok_several F T c_is_row c_led_on c_become
  have c_change := met_ (P := P) (w := w) (mg := mg) (base := base) (df_Live_change X G cd) T.cls_Live bd_Live_change fun F => ok_change F T c_lwalk c_play c_become
  have c_undo := met_ (P := P) (w := w) (mg := mg) (base := base) (df_Live_undo X G cd) T.cls_Live bd_Live_undo fun F => ok_undo F T
  have c_look := c_look (P := P) (ww := w) (base := base) (df_look X G cd) T c_lhouse c_lsleeper c_lwalk c_lplayed c_llen c_strH c_strS
  have c_lstep := Lw.c_step (P := P) (ww := w) (base := base) (df_step X G cd) T c_draw c_pick c_sleeper_of c_do c_several c_change c_undo c_lplayed
  have c_is_played := c_is_played (P := P) (ww := w) (base := base) (df_is_played X G cd) T c_lhouse c_lsleeper c_lwalk c_lplayed c_play
  exact ok_law T ⟨c_deal, c_draw, c_words, c_drawn_house, c_drawn_sleeper, c_house_of, c_sleeper_of, c_lstep, c_is_played, c_look, c_Live, c_do, c_undo, c_llen, c_len, c_lwalk⟩ f a cdv s H ns few hS hr
end
end Lw
open PySem PySem.W PySem.Calls PyProof.Rows
theorem PySem.Challenge.cw_hushsteps_k66_whole_deeds_taken_back_holds : PySem.Challenge.rw_hushsteps_k66_whole_deeds_taken_back.Holds := by
  w_on; o_law
  refine HandSHeadRun.head_any (r := OpenLaw.row PySem.Challenge.rw_hushsteps_k66_whole_deeds_taken_back) (q := view (OpenLaw.row PySem.Challenge.rw_hushsteps_k66_whole_deeds_taken_back).prog [86]) (H := Lw.hk) (ob := Lw.ob) (M := 12000) (loose := Lw.names) (d := HandSHeadRun.topDef (OpenLaw.row PySem.Challenge.rw_hushsteps_k66_whole_deeds_taken_back).prog 86) (kwd := []) Lw.ob_eq
    (by kernel_rfl) (fun s => by kernel_rfl) Lw.run (by kernel_rfl) (by kernel_rfl) (by kernel_rfl) (by rfl) (by first | assumption | decide +kernel) (by decide +kernel) ⟨rfl, rfl, rfl, rfl, rfl, by decide +kernel⟩ ?hw ?hc
  case hw => w_witness2
  case hc =>
    refine Hb.walk_ofG (l := PySem.Challenge.rw_hushsteps_k66_whole_deeds_taken_back) (n := 63) (k := 12) (x := "_law_script") rfl (by decide) (by kernel_rfl) ⟨rfl, by decide, by decide⟩ ?F
    intro w mg fa h Y G hmg0
    obtain ⟨K, KX, c⟩ := Y
    have hmg : mg ("law" : PySem.Str) = some (.ref fa) := by
      have e : (HandSHeadRun.topDef (OpenLaw.row PySem.Challenge.rw_hushsteps_k66_whole_deeds_taken_back).prog 86).name = ("law" : PySem.Str) := by kernel_rfl
      rw [← e]
      exact hmg0
    obtain ⟨fd, hF, hb, hB⟩ := Lw.facts (P := (PySem.Challenge.rw_hushsteps_k66_whole_deeds_taken_back).prog) (w := w) KX G hmg c.x.t.d c.x.more c.p
    exact ⟨K, fd, _, _, _, _, KX, hF, Lw.sc_law, hb, hB⟩
