import PyProof.Rows.All
import Wide.All
import OpenK.AllK
import Wide.FinOn
import HandS.ForMost
import HandS.Strs
import HandS.Zip
import KE.SortData
import HandS.Codes
import HandS.Defaults
import HandS.IsInst
import HandS.Deep
import HandS.Style
import HandS.TupAny
import HandS.RaiseMore
import HandS.HeadHook1
import HandS.HeadHook2
import HandS.Walk
import KE.SortLaws
import HandS.SetFor
import HandS.Conv
import HandS.OwnEq
import HandS.SlotsOwn
import HandS.More
import PyProof.InstNe
import PyProof.CallStr
import HandS.Set
import HandS.Property
import HandS.HeadHook3
import HandS.HeadHook4
import HandS.ClsMeth
import PyProof.Rows.StrMeet
import PyProof.Rows.SortStr
import KE.GoesMore
import HandS.Ends
import HandS.HeadEnd
import PyProof.ReprRoads
import HandS.TupMul
import HandS.ForExc
import HandS.ExcInit
import HandS.ExcField
import HandS.ExcIs
import KE.KExcIs
import PyProof.CallFns
import HandS.Head0
import Wide.Once
import HandS.Head1
import HandS.Head2
import HandS.FStr
import HandS.Text
import HandS.TupLe
import PySem.Challenge.RW_hushsteps_k60_whole_noises_of_walks
set_option Elab.async false
set_option linter.all false
set_option maxRecDepth 100000
set_option maxHeartbeats 4000000
/-! Sets of unlike texts told by their length; sorted lists of pairs of texts. -/
namespace Hb
open PySem PySem.Spec PyProof.Rows L2

theorem grown_text (xs : List Str) (nd : xs.Nodup) {i : Nat} (hi : i < xs.length) : ((xs.take i).any (· == xs.getD i Str.empty)) = false := by
  have e1 : xs.getD i Str.empty = xs[i] := by rw [List.getD_eq_getElem?_getD, List.getElem?_eq_getElem hi] <;> rfl
  rw [e1, Bool.eq_false_iff]
  intro hb
  obtain ⟨y, hy, ey⟩ := List.any_eq_true.mp hb
  rw [eq_of_beq ey] at hy
  obtain ⟨j, hj, ej⟩ := List.mem_iff_getElem.mp hy
  rw [List.length_take] at hj
  rw [List.getElem_take] at ej
  exact absurd ej (List.pairwise_iff_getElem.mp nd j i (by omega) hi (by omega))
theorem more_text (xs : List Str) {i : Nat} (hi : i < xs.length) : xs.take (i + 1) = xs.take i ++ [xs.getD i Str.empty] := by
  have e1 : xs.getD i Str.empty = xs[i] := by rw [List.getD_eq_getElem?_getD, List.getElem?_eq_getElem hi] <;> rfl
  rw [e1, List.take_add_one, List.getElem?_eq_getElem hi] <;> rfl

section
variable {prog : Program} {w : World} {A : Around} {R : Result → Shared → Prop} {I : Addr} {fp wr : List Addr} {G : Array GenState → Array GenState → Prop} {n : Nat} {P : Nat → Value → Prop} {Z : Nat → Shared → Prop}
/-- the turns of set.update over unlike texts -/
theorem turns_text (W : WalksS prog w A.in1 I fp wr G n P Z) (S : Addr) (apart : S ∉ fp) (xs : List Str) (len : xs.length = n) (nd : xs.Nodup) (few : n + 1 < scanBound)
    (told : ∀ i v, P i v → ∃ t, v = .str (xs.getD i Str.empty) t) : ∀ (left i : Nat) (s : Shared), n - i = left → i ≤ n → Z i s →
      s.heap.SetOf (PySem.strKind prog w) S (fun z => (xs.take i).any (· == z)) i →
      (∀ s', Moved (S :: wr) G s s' → s'.heap.SetOf (PySem.strKind prog w) S (fun z => (xs.take n).any (· == z)) n → R (.ok (.ret .none)) s') →
      codeAny (model prog w) A (.builtin "set.update.loop" ⟨[.ref S, .ref I], []⟩) R s := by
  have nwr : S ∉ wr := fun h => apart (W.sub _ h)
  have up : ∀ b ∈ wr, b ∈ S :: wr := fun b hb => List.mem_cons_of_mem _ hb
  intro left
  induction left with
  | zero =>
    intro i s hk hi hst hS hR
    obtain rfl : i = n := by omega
    refine codeAny_builtin PyProof.Rows.F.entry_set_update_loop (by
      rw [Around.under_plainId PyProof.Rows.F.plain_set_update_loop _]; show wpAny _ A.in1 (pyNext (.ref I) >>= _) _ _ s
      refine wpAny_bind (W.done s _ _ hst fun s' hm => ?_); show wpAny _ A.in1 (ret Value.none) _ _ s'
      refine wpAny_pure (hR s' (hm.mono up) ?_); obtain ⟨o, es, ep, t, ho, rest⟩ := hS; exact ⟨o, es, ep, t, hm.heap S _ nwr ho, rest⟩)
  | succ left ih =>
    intro i s hk hi hst hS hR
    have lt : i < n := by omega
    have lt2 : i < xs.length := by omega
    refine codeAny_builtin PyProof.Rows.F.entry_set_update_loop (by
      rw [Around.under_plainId PyProof.Rows.F.plain_set_update_loop _]; show wpAny _ A.in1 (pyNext (.ref I) >>= _) _ _ s
      refine wpAny_bind (W.item i s _ _ lt hst fun v s' hP hst' hm => ?_)
      obtain ⟨t, rfl⟩ := told i v hP
      have hS' : s'.heap.SetOf (PySem.strKind prog w) S (fun z => (xs.take i).any (· == z)) i := by
        obtain ⟨o, es, ep, tb, ho, rest⟩ := hS; exact ⟨o, es, ep, tb, hm.heap S _ nwr ho, rest⟩
      show wpAny _ A.in1 (holding [Value.str (xs.getD i Str.empty) t] (setAdd S (.str (xs.getD i Str.empty) t)) >>= _) _ _ s'
      refine wpAny_bind (wpAny_holding ?_); unfold setAdd
      refine wpAny_holding (wpAny_bind ((PySem.strKind prog w).pyHash (k := xs.getD i Str.empty) (strKind_is _ _ _ _) ?_))
      refine wpAny_setAddHashed_of (knd := PySem.strKind prog w) (s := { s' with toks := s'.toks + 1 }) (strKind_is prog w _ _) rfl hS' (by omega) fun h' same hS2 => ?_
      have hS3 : h'.SetOf (PySem.strKind prog w) S (fun z => (xs.take (i + 1)).any (· == z)) (i + 1) := PyProof.Rows.SetOf_congr hS2 (fun z => by
        rw [more_text xs lt2, List.any_append]
        by_cases e : z = xs.getD i Str.empty
        · subst e; simp
        · have q : (xs.getD i Str.empty == z) = false := beq_eq_false_iff_ne.mpr fun h => e h.symm
          simp only [List.any_cons, List.any_nil, q, Bool.or_false, e, decide_false]) (by rw [if_neg (by rw [grown_text xs nd lt2]; decide)])
      refine wpAny_pure ⟨plainId_quiet PyProof.Rows.F.plain_set_update_loop _, ih (i + 1) _ (by omega) lt (W.frame _ s' _ _ hst' (Nat.le_succ _) fun b hb o e => ?_) hS3 fun s'' hm2 hS4 => ?_⟩
      · rw [same.2 b (fun h : b = S => apart (h ▸ hb))]; exact e
      · refine hR s'' (Moved.trans W.gtrans ((hm.mono up).then_heap (Nat.le_succ _) fun b o hb e => ?_) hm2) hS4
        rw [same.2 b (fun h : b = S => hb (by rw [h]; exact List.mem_cons_self))]; exact e)
end
end Hb
set_option Elab.async false
set_option linter.all false
set_option maxRecDepth 100000
set_option maxHeartbeats 8000000
namespace Hb
open PySem PySem.Spec PyProof.Rows L2
section
variable {prog : Program} {w : World} {A : Around} {E : Value → Shared → Prop} {s : Shared}
/-- the new empty set, as the model makes it -/
abbrev bareSet (led : Bool) : Obj := { cls := .type "set", dict := none, data := .set #[] 0 (.fresh 0 0 led) }
/-- set(xs) of a list of unlike texts -/
theorem set_texts {l : Addr} {its : Array Value} {xs : List Str} {Q : Value → Shared → Prop} (calm : A.handled = none) (at_ : s.heap.IsList l its) (are : StrsAre its.toList xs) (nd : xs.Nodup) (few : xs.length + 1 < scanBound)
    (k : ∀ (h' : Heap) (tk : Nat), h'.SetOf (PySem.strKind prog w) s.heap.objs.size (fun z => (xs.take xs.length).any (· == z)) xs.length → (∀ b o, s.heap.get? b = some o → h'.get? b = some o) → Q (.ref s.heap.objs.size) { s with heap := h', toks := tk }) :
    wpAny (model prog w) A (call (.type "set") [.ref l]) Q E s := by
  have size : its.size = xs.length := by have q := are.length; rw [Array.length_toList] at q; exact q
  obtain ⟨c, tl, mro⟩ := F.called_set.mro
  have f1 := F.called_set.made; have f2 := F.called_set.sub; have f3 := F.called_set.notType; have f4 := F.called_set.canCreate; have f5 := F.typeCall_set_1 (.ref l)
  refine wpAny_call (codeAny_of_tree (by
    show wpAny _ _ (callAny (.type "set") _) _ _ _
    refine wpAny_pure ⟨Code.quiet_builtin _ (by decide +kernel), codeAny_builtin F.entry_type_call ?_⟩
    rw [Around.under_plain (weight_type_call_type "set" [.ref l] []) rfl]
    repeat (any_goals (first | assumption | wp_step))
    refine codeAny_mono (code_set_new_1 (.ref l) (E := E) (Q₁ := fun v z => ∃ led : Bool, v = .ref s.heap.objs.size ∧ z = { s with heap := s.heap.push (bareSet led) }) fun led => ⟨led, rfl, rfl⟩) fun r z hr => ?_
    match r, hr with
    | .error e, hr => exact hr
    | .ok .next, hr => exact hr.elim
    | .ok .brk, hr => exact hr.elim
    | .ok .cont, hr => exact hr.elim
    | .ok (.ret v), ⟨led, e1, e2⟩ =>
      subst e1 e2
      have mine : (s.heap.push (bareSet led)).get? s.heap.objs.size = some (bareSet led) := Heap.get?_push_size _ rfl
      have kind : Shared.TypeIs { s with heap := s.heap.push (bareSet led) } (.ref s.heap.objs.size) "set" := ⟨_, mine, rfl⟩
      have f6 := F.called_set.init.lookup; have f7 := F.called_set.init.bind (.ref s.heap.objs.size)
      repeat (any_goals (first | assumption | wp_step))
      refine codeAny_mono (codeAny_call_builtin (R := wants (fun r z => r = .none ∧ ∃ h' tk, z = { s with heap := h', toks := tk } ∧
        h'.SetOf (PySem.strKind prog w) s.heap.objs.size (fun z => (xs.take xs.length).any (· == z)) xs.length ∧ ∀ b o, s.heap.get? b = some o → h'.get? b = some o) E) F.called_set.init.plain F.entry_set_init (check_set_init_1 kind ?_)) fun r2 z2 hr2 => ?_
      · obtain ⟨⟨ocls, odict, odata, oslots⟩, ho, hc, nl, hd⟩ := at_
        simp only at hc hd; subst hc hd
        have ho2 : (s.heap.push (bareSet led)).get? l = some { cls := .type "list", dict := odict, data := .seq its nl, slots := oslots } := Heap.get?_push_of_some _ ho
        have g1 := F.sub_list_set; have g2 := F.sub_list_frozenset; have g3 : (Value.type "list" == Value.type "dict") = false := by decide
        have ml : (s.heap.push (bareSet led)).IsList l its := ⟨_, ho2, rfl, nl, rfl⟩
        unfold Builtin.«set.__init__» noKeywords Builtin.Frozenset.updateFrom
        generalize hI : pyIter = It
        wp_walk
        subst hI
        have lo : l < s.heap.objs.size := Heap.lt_size ho
        have far : l ≠ (s.heap.push (bareSet led)).objs.size := by rw [Heap.size_push]; exact Nat.ne_of_lt (Nat.lt_succ_of_lt lo)
        refine wpAny_pyIter_list ml (wpAny_bind (wpAny_runValue (turns_text ((Walks.list (by simp [calm]) _ l far its).toS) s.heap.objs.size (by
            rw [Heap.size_push]; simp only [List.mem_cons, List.not_mem_nil, or_false, not_or]
            exact ⟨Nat.ne_of_lt (Nat.lt_succ_self _), Nat.ne_of_gt lo⟩) xs size.symm nd (by omega) (fun i v hv => SS.strs_at are i v (by rw [Array.getElem?_toList]; exact hv)) (its.size - 0) 0 _ (by omega) (Nat.zero_le _)
          ⟨⟨_, Heap.get?_push_size _ rfl, rfl, rfl⟩, (ml.push _)⟩ ?zer ?fin1)))
        case zer =>
          have e0 : ((s.heap.push (bareSet led)).push { cls := .type "list_iterator", data := .fields #[.ref l, .int 0 0] }).get? s.heap.objs.size = some (bareSet led) := Heap.get?_push_of_some _ mine
          exact SetOf_congr ((setObjOf_fresh (knd := PySem.strKind prog w) led).setOf e0 (by unfold scanBound; omega)) (fun _ => rfl) rfl
        case fin1 =>
          rintro ⟨h', g', d', tk', os'⟩ hm hS
          obtain rfl : g' = s.gens := hm.gens
          obtain rfl : d' = s.drawn := hm.drawn
          obtain rfl : os' = s.os := hm.os
          show wpAny _ _ _ _ _ _
          refine wpAny_pure (by
            show wpAny _ _ (ret Value.none) _ _ _
            rw [size] at hS
            refine wpAny_pure ⟨rfl, h', tk', rfl, hS, fun b o e => hm.heap b o ?_ (Heap.get?_push_of_some _ (Heap.get?_push_of_some _ e))⟩
            have lb := Heap.lt_size e
            rw [Heap.size_push]; simp only [List.mem_cons, List.not_mem_nil, or_false, not_or]
            exact ⟨Nat.ne_of_lt lb, Nat.ne_of_lt (Nat.lt_succ_of_lt lb)⟩)
      · match r2, hr2 with
        | .error e, h => exact h
        | .ok .next, h => exact h.elim
        | .ok .brk, h => exact h.elim
        | .ok .cont, h => exact h.elim
        | .ok (.ret v), ⟨e1, h', tk, e2, hS, hk⟩ =>
          subst e1 e2
          repeat (any_goals (first | assumption | wp_step))
          exact k _ _ hS hk))
end
end Hb
namespace Hb
open PySem PySem.Spec PyProof.Rows L2
/-- len(set(xs)), xs a list of unlike texts, or of unlike ints -/
def tLenSet2 (K : PySem.W.Frag) (ta : TE) : TE := fun σ H Q => ta σ H fun x H1 => ∃ l : Addr, x = .ref l ∧
  ((∃ xs : List Str, SqL K H1 l (xs.map V.str) ∧ xs.Nodup ∧ xs.length ≤ 4000 ∧ Q (.int xs.length) H1) ∨ ∃ ns : List Int, SqL K H1 l (ns.map V.int) ∧ ns.Nodup ∧ ns.length ≤ 4000 ∧ Q (.int ns.length) H1)
theorem pe_lenSet2 {X : Cx} {a : Expr} {ta : TE} {p p2 q pos : Pos} (hg : Gl X "len") (hm : X.mg "len" = none) (hg2 : Gl X "set") (hm2 : X.mg "set" = none) (ha : PE X a ta) (calm : X.calm = true := by rfl)
    (na : starEach [a] X.env = (false, eval a X.env) :: starEach [] X.env := by rfl) : PE X (.Call (.Name "len" p) [.Call (.Name "set" p2) [a] [] q] [] pos) (tLenSet2 X.K ta) := by
  refine ⟨fun pins s σ H Q I h => Call_ (ld_blt I hg hm boot_len (callWith_builtin1 (args_cons (Call_ (ld_blt I hg2 hm2 boot_set
    (callWith_type1 (args_cons (thn (ha.run pins s σ H _ I h) fun v z ⟨x, H1, J, r, q⟩ => args_nil ?_) na) na rfl))) rfl) rfl rfl))⟩
  obtain ⟨l, rfl, q⟩ := q
  cases r
  have fin : ∀ (n : Nat) (h' : Heap) (tk : Nat) (κ : Type) (i1 : DecidableEq κ) (i2 : BEq κ) (i3 : LawfulBEq κ) (kd : KeyKind X.prog X.w κ) (S : κ → Bool), n ≤ 4000 → h'.SetOf kd z.heap.objs.size S n → (∀ b o, z.heap.get? b = some o → h'.get? b = some o) → Q (.int n) H1 →
      wpAny (model X.prog X.w) X.A (spliced (backTo pos (starEach [] X.env))) (fun vs y => wpAny (model X.prog X.w) X.A (call (.builtin "len") (Value.ref z.heap.objs.size :: vs)) (EP X pins σ Q) X.xe y) X.xe { z with heap := h', toks := tk } := by
    intro n h' tk κ i1 i2 i3 kd S hn hS hk q
    refine args_nil ?_
    obtain ⟨o, es, ep, t, ho, hex, hd, _, _, _, hf, e⟩ := hS
    have J2 : Inv X pins σ H1 { z with heap := h', toks := tk } := J.kept hk
    exact call_len_set ho hex hd hf (by rw [e] <;> omega) ⟨.int n, H1, J2.tok _, ⟨_, by rw [e]⟩, q⟩
  rcases q with ⟨xs, hq, nd, few, q⟩ | ⟨ns, hq, nd, few, q⟩
  · obtain ⟨its, r, pl, hz⟩ := J.list hq
    exact set_texts (J.ok.hd calm) pl.isList (by simpa using strsAre_of r) nd (by unfold scanBound; omega) fun h' tk hS hk => fin _ h' tk _ inferInstance inferInstance inferInstance _ _ few hS hk q
  · obtain ⟨its, r, pl, hz⟩ := J.list hq
    have size : its.toArray.size = ns.length := by rw [List.size_toArray, ← r.length, List.length_map]
    refine call_set_list (J.ok.hd calm) pl.isList (by simpa using RZ.intsAre_vals r) (by rw [size]; unfold scanBound; omega) fun h' tk hS hk => ?_
    rw [size, RZ.firstMet_nodup nd ns.length (Nat.le_refl _)] at hS
    rw [List.take_length] at hS
    exact fin _ h' tk _ inferInstance inferInstance inferInstance _ _ few hS (fun b o e => hk b o (Heap.lt_size e) e) q
end Hb
set_option Elab.async false
set_option linter.all false
set_option maxRecDepth 100000
set_option maxHeartbeats 8000000
namespace Hb
open PySem PySem.Spec PyProof.Rows L2
section
variable {prog : Program} {w : World} {A : Around} {E : Value → Shared → Prop} {s : Shared}
/-- what it holds, taken into a list that nobody keeps: the heap behind it, exactly -/
theorem taken {Q : List Value → Shared → Prop} (it : Addr) {T : String} {o : Obj} {vs : List Value} {n : Nat} (hT : T = "list" ∨ T = "tuple") (ho : s.heap.get? it = some o) (hc : o.cls = .type T) (hd : o.data = .seq vs.toArray n) (hL : vs.length ≤ sizeLine)
    (k : Q vs { s with heap := (s.heap.push (seqObj "list" #[] 0)).update s.heap.objs.size (Obj.mapSeq (· ++ vs.toArray)) }) : wpAny (model prog w) A (collect (.ref it)) Q E s := by
  have e1 : (s.heap.push (seqObj "list" #[] 0)).get? s.heap.objs.size = some { cls := .type "list", data := .seq #[] 0 } := Heap.get?_push_size _ rfl
  have e2 := Heap.get?_update_self (Obj.mapSeq (· ++ vs.toArray)) e1 rfl
  have last : wpAny (model prog w) A (match Value.ref s.heap.objs.size with
      | Value.ref a => (do match (← load a).data with
          | Data.seq xs _ => pure xs.toList
          | _ => unsupported "internal:collect")
      | _ => unsupported "internal:collect") Q E { s with heap := (s.heap.push (seqObj "list" #[] 0)).update s.heap.objs.size (Obj.mapSeq (· ++ vs.toArray)) } := by
    show wpAny _ A (load s.heap.objs.size >>= _) _ _ _
    refine wpAny_bind (wpAny_load e2 (wpAny_pure ?_)); show Q ((#[] : Array Value) ++ vs.toArray).toList _
    rw [show ((#[] : Array Value) ++ vs.toArray).toList = vs by simp]; exact k
  unfold collect
  refine wpAny_bind (wpAny_runValue (codeAny_builtin F.entry_proto_collect (by
    rw [Around.under_plainId F.plain_proto_collect _]; show wpAny _ A.in1 (newList [] >>= fun l => again (.builtin "list.__iadd__" ⟨[l, .ref it], []⟩)) _ _ s
    refine wpAny_bind (wpAny_newObj_type (wpAny_pure ⟨plainId_quiet F.plain_list_iadd _, codeAny_builtin F.entry_list_iadd (by
      rw [Around.under_plainId F.plain_list_iadd _]; show wpAny _ A.in1 (Builtin.List.listExtendWith (.ref s.heap.objs.size) (.ref it) (.ref s.heap.objs.size)) _ _ _
      refine wpAny_mono (wpAny_extend_seq (hsz := by rw [List.size_toArray]; exact hL) (A := A) (R := fun r z => r = .ok (.ret (.ref s.heap.objs.size)) ∧ z = { s with heap := (s.heap.push (seqObj "list" #[] 0)).update s.heap.objs.size (Obj.mapSeq (· ++ vs.toArray)) })
        (s := { s with heap := s.heap.push (seqObj "list" #[] 0) }) _ it _ 0 hT e1 (Heap.get?_push_of_some _ ho) hc hd ⟨rfl, rfl⟩) (fun f z h => ?_) (fun e z h => absurd h.1 (by simp))
      cases f with
      | done f => obtain ⟨e, rfl⟩ := h; cases e; exact last
      | again c => exact ⟨h.1, codeAny_mono h.2 fun r z2 hr => by obtain ⟨rfl, rfl⟩ := hr; exact last⟩)⟩)))))
/-- sorted(it) of a list or a tuple whose items read as data -/
theorem sorted_any {β : Type} {it : Addr} {T : String} {o : Obj} {vs : List Value} {n : Nat} {bs : List β} {enc : β → PyData} {R : Value → β → Prop} {Q : Value → Shared → Prop} (hT : T = "list" ∨ T = "tuple")
    (ho : s.heap.get? it = some o) (hc : o.cls = .type T) (hd : o.data = .seq vs.toArray n) (e : PySem.W.EachIs R vs bs) (er : PySem.W.EachIs (fun v b => ∃ as, Reads s.heap v (enc b) as) vs bs)
    (hal : PySem.W.AllAlike (bs.map enc)) (hk : PySem.W.Sortable (bs.map enc)) (hL : bs.length ≤ sizeLine) (hu : ∀ b, b ∈ bs → A.units + 2 + (enc b).depth < cLine)
    (k : ∀ (h' : Heap) (p : Addr) (out : List Value) (c : Nat), s.heap.objs.size ≤ p → (∀ b u, s.heap.get? b = some u → h'.get? b = some u) → h'.get? p = some (seqObj "list" out.toArray c) →
      PySem.W.EachIs R out (bs.mergeSort (PySem.W.dataLe false enc)) → Q (.ref p) { s with heap := h' }) :
    wpAny (model prog w) A (call (.builtin "sorted") [.ref it]) Q E s := by
  have len : vs.length = bs.length := e.length
  refine Calls.call_function_entry kind_sorted plain_sorted entry_sorted (args_sorted1 _) (by
    unfold Builtin.«sorted»
    refine wpAny_bind (m := checkCount "sorted" 1 1 _) (wpAny_pure (wpAny_bind (taken it hT ho hc hd (by rw [len]; exact hL) (wpAny_bind (wpAny_newList ?_ (by rw [len]; exact hL))))))
    have h1s : ((s.heap.push (seqObj "list" #[] 0)).update s.heap.objs.size (Obj.mapSeq (· ++ vs.toArray))).objs.size = s.heap.objs.size + 1 := by rw [Heap.size_update, size_push']
    have k1 : ∀ b u, s.heap.get? b = some u → ((s.heap.push (seqObj "list" #[] 0)).update s.heap.objs.size (Obj.mapSeq (· ++ vs.toArray))).get? b = some u := fun b u q =>
      (Heap.get?_update_other _ _ (Nat.ne_of_gt (Heap.lt_size q))).trans (Heap.get?_push_of_some _ q)
    show wpAny _ _ _ _ _ { s with heap := ((s.heap.push (seqObj "list" #[] 0)).update s.heap.objs.size (Obj.mapSeq (· ++ vs.toArray))).push (seqObj "list" vs.toArray 0) }
    generalize ((s.heap.push (seqObj "list" #[] 0)).update s.heap.objs.size (Obj.mapSeq (· ++ vs.toArray))) = h1 at h1s k1 ⊢
    have le1 : s.heap.objs.size ≤ h1.objs.size := by omega
    have at2 : (h1.push (seqObj "list" vs.toArray 0)).get? h1.objs.size = some (seqObj "list" vs.toArray 0) := Heap.get?_push_size _ rfl
    have k2 : ∀ b u, s.heap.get? b = some u → (PySem.W.sortingHeap (h1.push (seqObj "list" vs.toArray 0)) h1.objs.size vs).get? b = some u := fun b u q =>
      PySem.W.sortingHeap_old (Nat.ne_of_lt (Heap.lt_size (k1 b u q))) (Heap.get?_push_of_some _ (k1 b u q))
    have er2 : PySem.W.EachIs (fun v b => ∃ as, Reads (PySem.W.sortingHeap (h1.push (seqObj "list" vs.toArray 0)) h1.objs.size vs) v (enc b) as) vs bs := er.mono fun _ _ ⟨as, r⟩ => ⟨as, PyProof.Rows.Reads.keeps k2 r⟩
    obtain ⟨c, e2⟩ := sortedHeap_at (vs := vs) (out := (PySem.W.sortVals (PySem.W.dataKind (PySem.W.sortingHeap (h1.push (seqObj "list" vs.toArray 0)) h1.objs.size vs) (bs.map enc)) false vs vs).toArray) at2
    have k3 : ∀ b u, s.heap.get? b = some u → (sortedHeap (h1.push (seqObj "list" vs.toArray 0)) h1.objs.size vs (PySem.W.sortVals (PySem.W.dataKind (PySem.W.sortingHeap (h1.push (seqObj "list" vs.toArray 0)) h1.objs.size vs) (bs.map enc)) false vs vs).toArray).get? b = some u := fun b u q => by
      have q1 := k1 b u q
      have lt := Heap.lt_size q1
      rw [sortedHeap_old (Nat.ne_of_lt lt) (by rw [size_push']; exact Nat.lt_succ_of_lt lt)]
      exact Heap.get?_push_of_some _ q1
    refine wpAny_bind (wpAny_holding (wpAny_call_entry slot_list_sort ⟨_, at2, rfl⟩ entry_list_sort (PySem.W.list_sort_vals (s := { s with heap := h1.push (seqObj "list" vs.toArray 0) }) at2
      (PySem.W.SortsAt.data (s := { s with heap := PySem.W.sortingHeap (h1.push (seqObj "list" vs.toArray 0)) h1.objs.size vs }) (PySem.W.each_map (R := fun v d => ∃ as, Reads (PySem.W.sortingHeap (h1.push (seqObj "list" vs.toArray 0)) h1.objs.size vs) v d as) enc er2) hal hk (PySem.W.bound_map hu)) (by rw [len]; exact hL) ?_) (args_list_sort _)))
    refine ⟨_, rfl, wpAny_pure ⟨_, rfl, k _ h1.objs.size _ c le1 k3 e2 (PySem.W.sortVals_data false e er2 hal)⟩⟩)
end
end Hb
set_option Elab.async false
set_option linter.all false
set_option maxRecDepth 100000
set_option maxHeartbeats 8000000
namespace Hb
open PySem PySem.Spec PyProof.Rows L2
section
variable {X : Cx} {β : Type}
theorem each_of {R : Value → V × β → Prop} : ∀ {zs : List (V × β)} {us : List Value}, Vals (zs.map (·.1)) us → (∀ u z, z ∈ zs → RelV z.1 u → R u z) → PySem.W.EachIs R us zs
  | [], _, r, _ => by cases r; exact .nil
  | z :: zs, _, r, h => by
    cases r with
    | cons r1 r2 => exact .cons (h _ _ List.mem_cons_self r1) (each_of r2 fun u y m q => h u y (List.mem_cons_of_mem _ m) q)
theorem each_back : ∀ {us : List Value} {zs : List (V × β)}, PySem.W.EachIs (fun u (z : V × β) => RelV z.1 u) us zs → Vals (zs.map (·.1)) us
  | _, _, .nil => .nil
  | _, _, .cons h t => .cons h (each_back t)
/-- sorted(it), it a list or a tuple of data of one kind -/
def rSortedAny (K : PySem.W.Frag) (enc : β → PyData) : List V → Hp → VK → Prop := fun vs H Q => ∃ (a : Addr) (zs : List (V × β)), vs = [.ref a] ∧ (SqL K H a (zs.map (·.1)) ∨ SqT K H a (zs.map (·.1))) ∧
  (∀ z ∈ zs, Dp K H z.1 (enc z.2)) ∧ PySem.W.AllAlike (zs.map fun z => enc z.2) ∧ PySem.W.Sortable (zs.map fun z => enc z.2) ∧ (∀ z ∈ zs, (enc z.2).depth ≤ 60) ∧
  ∀ p, H p = none → Q (.ref p) (upd H p (.lst ((zs.mergeSort (PySem.W.dataLe false fun z => enc z.2)).map (·.1))))
theorem cr_sortedAny (enc : β → PyData) (hu : X.A.units + 64 < cLine) : CallR X (.builtin "sorted") (rSortedAny X.K enc) := by
  intro pins s σ H vs us Q I r h
  obtain ⟨a, zs, rfl, hq, hd, hal, hk, hz, q⟩ := h
  rw [Vals.ref1 r]
  have main : ∀ (T : String) (o : Obj) (its : List Value) (n : Nat), (T = "list" ∨ T = "tuple") → s.heap.get? a = some o → o.cls = .type T → o.data = .seq its.toArray n → Vals (zs.map (·.1)) its → (zs.map (·.1)).length ≤ sizeLine →
      wpAny (model X.prog X.w) X.A (call (.builtin "sorted") [.ref a]) (EP X pins σ Q) X.xe s := by
    intro T o its n hT ho hc hdt rv hL
    rw [List.length_map] at hL
    refine sorted_any (R := fun u (z : V × β) => RelV z.1 u) (enc := fun z => enc z.2) hT ho hc hdt (each_of rv fun u z _ q => q) (each_of rv fun u z m q => Dp.reads I _ _ _ (hd z m) q) hal hk hL (fun z m => by have := hz z m; omega) fun h' p out c hp kp at_ eo => ?_
    have lenO : (zs.mergeSort (PySem.W.dataLe false fun z => enc z.2)).length = zs.length := (List.mergeSort_perm _ _).length_eq
    exact ⟨.ref p, _, I.laid (t' := s.toks) kp hp (show ObjOk X.prog X.w _ h' p (.lst _) from ⟨by rw [List.length_map, lenO]; exact hL, out, c, each_back eo, at_⟩), rfl, q p (I.hok.fresh hp)⟩
  rcases hq with hq | hq
  · obtain ⟨its, rv, ⟨o, n, ho, hc, _, hdt⟩, hL⟩ := I.list hq
    exact main _ o its n (.inl rfl) ho hc hdt rv hL
  · obtain ⟨its, rv, ⟨o, ho, hc, n, hdt⟩, hL⟩ := I.tuple hq
    exact main _ o its n (.inr rfl) ho hc hdt rv hL
end
/-! ### pairs of texts -/
def encP (p : Str × Str) : PyData := .tuple [.str p.1, .str p.2]
theorem alike_P (p q : Str × Str) : PySem.W.alike (encP p) (encP q) = true := by simp [encP, PySem.W.alike, PySem.W.alikeAll]
theorem depth_P (p : Str × Str) : (encP p).depth ≤ 60 := by simp [encP, PyData.depth, PyData.depthAll]
end Hb
set_option Elab.async false
set_option linter.all false
set_option maxRecDepth 100000
set_option maxHeartbeats 4000000
namespace Hb
open PySem PySem.Spec PyProof.Rows L2
/-! ### what stays -/
/-- tuples, and what is locked, stay -/
structure TK (H H' : Hp) : Prop where
  t : ∀ b xs, H b = some (.tup xs) → H' b = some (.tup xs)
  z : ∀ b o u, H b = some (.frz o u) → H' b = some (.frz o u)
theorem TK.refl (H : Hp) : TK H H := ⟨fun _ _ h => h, fun _ _ _ h => h⟩
theorem TK.trans {H H1 H2 : Hp} (a : TK H H1) (b : TK H1 H2) : TK H H2 := ⟨fun c xs h => b.t c xs (a.t c xs h), fun c o u h => b.z c o u (a.z c o u h)⟩
theorem Same.tk {H H' : Hp} (s : Same H H') : TK H H' := ⟨fun b xs h => s b _ h, fun b o u h => s b _ h⟩
theorem Same.new {H : Hp} {p : Addr} {o : HO} (h : H p = none) : Same H (upd H p o) := fun b u e => by
  rw [upd_ne (ne_of_none e h)]
  exact e
theorem TK.put {H : Hp} {p : Addr} {o o' : HO} (h : H p = some o') (h1 : ∀ xs, o' ≠ .tup xs) (h2 : ∀ q u, o' ≠ .frz q u) : TK H (upd H p o) := by
  refine ⟨fun b xs e => ?_, fun b q u e => ?_⟩
  · rw [upd_ne (fun z => by rw [z, h] at e; exact h1 xs (Option.some.inj e))]
    exact e
  · rw [upd_ne (fun z => by rw [z, h] at e; exact h2 q u (Option.some.inj e))]
    exact e
section
variable {K : PySem.W.Frag} {H H' : Hp}
theorem SqT.keep (k : TK H H') {a : Addr} {xs : List V} (h : SqT K H a xs) : SqT K H' a xs := by
  rcases h with (h | ⟨o, h⟩) | h
  · exact .inl (.inl (k.t _ _ h))
  · exact .inl (.inr ⟨o, k.z _ _ _ h⟩)
  · exact .inr h
theorem SqL.keep (k : TK H H') {a : Addr} {xs : List V} (h : SqL K H a xs) (hl : H a = some (.lst xs) → H' a = some (.lst xs)) : SqL K H' a xs := by
  rcases h with (h | ⟨o, h⟩) | h
  · exact .inl (.inl (hl h))
  · exact .inl (.inr ⟨o, k.z _ _ _ h⟩)
  · exact .inr h
end
/-! ### data of tuples alone -/
mutual
inductive TD (K : PySem.W.Frag) (H : Hp) : V → PyData → Prop
  | non : TD K H .non .none
  | bl (b : Bool) : TD K H (.bl b) (.bool b)
  | int (i : Int) : TD K H (.int i) (.int i)
  | str (x : Str) : TD K H (.str x) (.str x)
  | tup {a : Addr} {xs : List V} {ds : List PyData} : SqT K H a xs → TDs K H xs ds → TD K H (.ref a) (.tuple ds)
inductive TDs (K : PySem.W.Frag) (H : Hp) : List V → List PyData → Prop
  | nil : TDs K H [] []
  | cons {v : V} {vs : List V} {d : PyData} {ds : List PyData} : TD K H v d → TDs K H vs ds → TDs K H (v :: vs) (d :: ds)
end
section
variable {K : PySem.W.Frag} {H H' : Hp}
mutual
theorem TD.keep (k : TK H H') : ∀ {v : V} {d : PyData}, TD K H v d → TD K H' v d
  | _, _, .non => .non
  | _, _, .bl b => .bl b
  | _, _, .int i => .int i
  | _, _, .str x => .str x
  | _, _, .tup h hs => .tup (SqT.keep k h) (TDs.keep k hs)
theorem TDs.keep (k : TK H H') : ∀ {vs : List V} {ds : List PyData}, TDs K H vs ds → TDs K H' vs ds
  | _, _, .nil => .nil
  | _, _, .cons h hs => .cons (TD.keep k h) (TDs.keep k hs)
end
mutual
theorem TD.dp : ∀ {v : V} {d : PyData}, TD K H v d → Dp K H v d
  | _, _, .non => .non
  | _, _, .bl b => .bl b
  | _, _, .int i => .int i
  | _, _, .str x => .str x
  | _, _, .tup h hs => .tup h (TDs.dp hs)
theorem TDs.dp : ∀ {vs : List V} {ds : List PyData}, TDs K H vs ds → DpAll K H vs ds
  | _, _, .nil => .nil
  | _, _, .cons h hs => .cons (TD.dp h) (TDs.dp hs)
end
theorem TDs.length : ∀ {vs : List V} {ds : List PyData}, TDs K H vs ds → vs.length = ds.length
  | _, _, .nil => rfl
  | _, _, .cons h hs => congrArg Nat.succ (TDs.length hs)
theorem TDs.app : ∀ {vs ws : List V} {ds es : List PyData}, TDs K H vs ds → TDs K H ws es → TDs K H (vs ++ ws) (ds ++ es)
  | _, _, _, _, .nil, h => h
  | _, _, _, _, .cons h hs, h2 => .cons h (TDs.app hs h2)
theorem TDs.at : ∀ {vs : List V} {ds : List PyData} {i : Nat} {v : V}, TDs K H vs ds → vs[i]? = some v → ∃ d, ds[i]? = some d ∧ TD K H v d
  | _, _, _, _, .nil, e => by simp at e
  | _, _, 0, _, .cons h hs, e => by simp at e; subst e; exact ⟨_, rfl, h⟩
  | _, _, i + 1, _, .cons h hs, e => by
    obtain ⟨d, h1, h2⟩ := TDs.at hs (i := i) (by simpa using e)
    exact ⟨d, by simpa using h1, h2⟩
theorem tds_strs : ∀ xs : List Str, TDs K H (xs.map V.str) (xs.map PyData.str)
  | [] => .nil
  | x :: xs => .cons (.str x) (tds_strs xs)
theorem tds_ints : ∀ xs : List Int, TDs K H (xs.map V.int) (xs.map PyData.int)
  | [] => .nil
  | x :: xs => .cons (.int x) (tds_ints xs)
end
/-! ### a deal: the dict at d, its list at g -/
def dealKV (g : Addr) (now mixed turn : Int) : List (Key × V) := [(.inr "great", .ref g), (.inr "now", .int now), (.inr "mixed", .int mixed), (.inr "turn", .int turn)]
theorem deal_great (g : Addr) (now mixed turn : Int) : valV (dealKV g now mixed turn) (Sum.inr "great") = some (.ref g) := rfl
theorem deal_now (g : Addr) (now mixed turn : Int) : valV (dealKV g now mixed turn) (Sum.inr "now") = some (.int now) := rfl
theorem deal_mixed (g : Addr) (now mixed turn : Int) : valV (dealKV g now mixed turn) (Sum.inr "mixed") = some (.int mixed) := rfl
theorem deal_turn (g : Addr) (now mixed turn : Int) : valV (dealKV g now mixed turn) (Sum.inr "turn") = some (.int turn) := rfl
theorem put_now (g : Addr) (now mixed turn z : Int) : putK (dealKV g now mixed turn) (Sum.inr "now") (.int z) = dealKV g z mixed turn := rfl
theorem put_mixed (g : Addr) (now mixed turn z : Int) : putK (dealKV g now mixed turn) (Sum.inr "mixed") (.int z) = dealKV g now z turn := rfl
theorem put_turn (g : Addr) (now mixed turn z : Int) : putK (dealKV g now mixed turn) (Sum.inr "turn") (.int z) = dealKV g now mixed z := rfl
structure Dl (d g : Addr) (H : Hp) (ns : List Int) (now mixed turn : Int) : Prop where
  d : H d = some (.dK (dealKV g now mixed turn))
  g : H g = some (.lst (ns.map V.int))
  few : ns.length ≤ 63
  pos : ∀ n ∈ ns, 0 ≤ n
  now : 0 ≤ now
def Deal (d g : Addr) (H : Hp) : Prop := ∃ ns now mixed turn, Dl d g H ns now mixed turn
theorem Dl.ne {d g : Addr} {H : Hp} {ns : List Int} {now mixed turn : Int} (x : Dl d g H ns now mixed turn) : d ≠ g := ne_of x.d x.g (by intro e; cases e)
/-- all but the deal stays -/
def Kp (d g : Addr) (H H' : Hp) : Prop := ∀ b o, b ≠ d → b ≠ g → H b = some o → H' b = some o
theorem Kp.refl (d g : Addr) (H : Hp) : Kp d g H H := fun _ _ _ _ h => h
theorem Kp.trans {d g : Addr} {H H1 H2 : Hp} (a : Kp d g H H1) (b : Kp d g H1 H2) : Kp d g H H2 := fun c o n m h => b c o n m (a c o n m h)
theorem Same.kp {d g : Addr} {H H' : Hp} (s : Same H H') : Kp d g H H' := fun b o _ _ h => s b o h
theorem Kp.put_d {d g : Addr} {H : Hp} {o : HO} : Kp d g H (upd H d o) := fun b u n _ h => by rw [upd_ne n]; exact h
theorem Kp.put_g {d g : Addr} {H : Hp} {o : HO} : Kp d g H (upd H g o) := fun b u _ n h => by rw [upd_ne n]; exact h
theorem Deal.tk {d g : Addr} {H H' : Hp} (x : Deal d g H) (k : Kp d g H H') : TK H H' := by
  obtain ⟨ns, now, mixed, turn, x⟩ := x
  exact ⟨fun b xs e => k b _ (ne_of e x.d (by intro q; cases q)) (ne_of e x.g (by intro q; cases q)) e, fun b o u e => k b _ (ne_of e x.d (by intro q; cases q)) (ne_of e x.g (by intro q; cases q)) e⟩
/-- a deal stands behind what leaves all as it is -/
theorem Deal.same {d g : Addr} {H H' : Hp} (x : Deal d g H) (s : Same H H') : Deal d g H' := by
  obtain ⟨ns, now, mixed, turn, x⟩ := x
  exact ⟨ns, now, mixed, turn, s _ _ x.d, s _ _ x.g, x.few, x.pos, x.now⟩
theorem Deal.set {d g p : Addr} {H : Hp} {o : HO} (x : Deal d g H) (n : p ≠ d) (m : p ≠ g) : Deal d g (L2.upd H p o) := by
  obtain ⟨ns, now, mixed, turn, x⟩ := x
  exact ⟨ns, now, mixed, turn, by rw [upd_ne n.symm]; exact x.d, by rw [upd_ne m.symm]; exact x.g, x.few, x.pos, x.now⟩
theorem Deal.new {d g p : Addr} {H : Hp} {o : HO} (x : Deal d g H) (h : H p = none) : Deal d g (L2.upd H p o) := x.same (Same.new h)
theorem Deal.ne_d {d g p : Addr} {H : Hp} {o : HO} (x : Deal d g H) (h : H p = some o) (hk : ∀ kvs, o ≠ .dK kvs) : p ≠ d := by
  obtain ⟨ns, now, mixed, turn, x⟩ := x
  exact ne_of h x.d (hk _)
theorem Deal.ne_g {d g p : Addr} {H : Hp} {o : HO} (x : Deal d g H) (h : H p = some o) (hk : ∀ xs, o ≠ .lst xs) : p ≠ g := by
  obtain ⟨ns, now, mixed, turn, x⟩ := x
  exact ne_of h x.g (hk _)
theorem Deal.free {d g p : Addr} {H : Hp} (x : Deal d g H) (h : H p = none) : p ≠ d ∧ p ≠ g := by
  obtain ⟨ns, now, mixed, turn, x⟩ := x
  exact ⟨(ne_of_none x.d h).symm, (ne_of_none x.g h).symm⟩
/-- what is not there now was not there ahead -/
theorem Kp.free {d g : Addr} {H H' : Hp} (k : Kp d g H H') (x : Deal d g H') {b : Addr} (h : H' b = none) : H b = none := by
  obtain ⟨n, m⟩ := x.free h
  cases e : H b with
  | none => rfl
  | some o =>
    rw [k b o n m e] at h
    cases h
end Hb
set_option Elab.async false
set_option linter.all false
set_option maxRecDepth 100000
set_option maxHeartbeats 4000000
namespace Hb
open PySem PySem.Spec PyProof.Rows L2
section
variable {P : Program} {w : World} {K : PySem.W.Frag} {mg : Str → Option Value} {base : Heap}
/-- a def of the module without defaults, under its name -/
def Df (K : PySem.W.Frag) (mg : Str → Option Value) (x : Str) (st : Stmt) : Prop := ∃ fd, FunD K x x (defArgs st) (defBody st) (defScope st) [] [] (He.ga K x) fd ∧ mg x = some (.ref (He.ga K x))
theorem fn_mk {x : Str} {st : Stmt} {f : Addr} {fd : FuncData} {N ps : List Str} {k : Nat} {sp : Sp} (F : FunD K x x (defArgs st) (defBody st) (defScope st) [] [] f fd) (S : FnScope N ps (defScope st))
    (len : ∀ vs H Q E, sp vs H Q E → vs.length = ps.length)
    (hbody : ∀ (f : Addr) (cdv : Value) (A : Around) (outer : List Env) (s : Shared) (H : Hp) (vs : List V) (Q : VK) (E : XK), Room k (A.deeper (envOfC x (defScope st) s.heap.objs.size f cdv)) → sp vs H Q E →
      ∃ t, PSs (cxOf CX0 P w K mg base N x (defScope st) f cdv A outer s H E).nox (defBody st) t ∧ t { nx := fun _ H' => Q .non H', rt := Q } (start N vs) H) : FnOk P w K mg base CX0 (k + 1) f fd ps sp :=
  F.ok S len fun cdv A outer s H vs Q E hr h => by
    obtain ⟨t, h1, h2⟩ := hbody _ cdv A outer s H vs Q E hr h
    exact ⟨t, h1.nox, h2⟩
theorem cal_mk {x : Str} {st : Stmt} {N ps : List Str} {k : Nat} {sp : Sp} (D : Df K mg x st) (S : FnScope N ps (defScope st))
    (bd : ∀ (kV doc pm : Value) (an : Option Addr) (cdv ct : Value) (us : List Value), us.length = ps.length → bindArgs (PySem.W.fnOf x x (defArgs st) (defBody st) (defScope st) .none kV doc pm an cdv ct) ⟨us, []⟩ = pure (ps.zip us))
    (len : ∀ vs H Q E, sp vs H Q E → vs.length = ps.length)
    (hbody : ∀ (f : Addr) (cdv : Value) (A : Around) (outer : List Env) (s : Shared) (H : Hp) (vs : List V) (Q : VK) (E : XK), Room k (A.deeper (envOfC x (defScope st) s.heap.objs.size f cdv)) → sp vs H Q E →
      ∃ t, PSs (cxOf CX0 P w K mg base N x (defScope st) f cdv A outer s H E).nox (defBody st) t ∧ t { nx := fun _ H' => Q .non H', rt := Q } (start N vs) H) : C8.Cal P w K mg base (k + 1) x sp [] := by
  obtain ⟨fd, F, hm⟩ := D
  exact ⟨⟨_, fd, ps, [], F.ok S len fun cdv A outer s H vs Q E hr h => by
    obtain ⟨t, h1, h2⟩ := hbody _ cdv A outer s H vs Q E hr h
    exact ⟨t, h1.nox, h2⟩, hm, F.kp, F.bindsN bd, .nil⟩⟩
/-- a class with an __init__ of its own -/
def Df1 (K : PySem.W.Frag) (mg : Str → Option Value) (C qual : Str) (st : Stmt) : Prop := Mk K (He.ga K C) (He.ma K (He.ga K C) "__init__") ∧ mg C = some (.ref (He.ga K C)) ∧ ∃ fd, FunD K "__init__" qual (defArgs st) (defBody st) (defScope st) [] [] (He.ma K (He.ga K C) "__init__") fd
theorem mak_mk {C qual : Str} {st : Stmt} {N ps : List Str} {k : Nat} {sp : Sp} (D : Df1 K mg C qual st) (S : FnScope N ps (defScope st))
    (bd : ∀ (kV doc pm : Value) (an : Option Addr) (cdv ct : Value) (us : List Value), us.length = ps.length → bindArgs (PySem.W.fnOf "__init__" qual (defArgs st) (defBody st) (defScope st) .none kV doc pm an cdv ct) ⟨us, []⟩ = pure (ps.zip us))
    (len : ∀ vs H Q E, sp vs H Q E → vs.length = ps.length)
    (hbody : ∀ (f : Addr) (cdv : Value) (A : Around) (outer : List Env) (s : Shared) (H : Hp) (vs : List V) (Q : VK) (E : XK), Room k (A.deeper (envOfC qual (defScope st) s.heap.objs.size f cdv)) → sp vs H Q E →
      ∃ t, PSs (cxOf CX0 P w K mg base N qual (defScope st) f cdv A outer s H E).nox (defBody st) t ∧ t { nx := fun _ H' => Q .non H', rt := Q } (start N vs) H) : C8.Mak P w K mg base (k + 1) C (He.ga K C) sp [] := by
  obtain ⟨M, hm, fd, F⟩ := D
  exact ⟨⟨_, fd, ps, [], M, F.ok S len fun cdv A outer s H vs Q E hr h => by
    obtain ⟨t, h1, h2⟩ := hbody _ cdv A outer s H vs Q E hr h
    exact ⟨t, h1.nox, h2⟩, hm, F.bindsN bd, .nil⟩⟩
end
/-- a word between two statements: the rest is read once -/
theorem cut_seq {t u : TS} {D : Ends} {σ : L2.St} {H : Hp} (R : L2.St → Hp → Prop) (h2 : ∀ σ H, R σ H → u D σ H) (h1 : (∀ σ H, R σ H → u D σ H) → t { D with nx := u D } σ H) : tSeq t u D σ H := h1 h2
end Hb
set_option Elab.async false
set_option linter.all false
set_option maxRecDepth 100000
set_option maxHeartbeats 4000000
namespace Hb
open PySem PySem.Spec PyProof.Rows L2
/-- data that may be compared -/
def Shp (d : PyData) : Prop := d.canLay0 = true ∧ d.depth ≤ 60
theorem Shp.shaped {d : PyData} (h : Shp d) : SeqAt.shaped d = true := Bool.and_eq_true_iff.mpr ⟨h.1, decide_eq_true (by have := h.2; omega)⟩
theorem shps_all : ∀ {ds : List PyData}, (∀ d ∈ ds, Shp d) → PyData.canLayAll0 ds = true ∧ PyData.depthAll ds ≤ 60
  | [], _ => ⟨by simp [PyData.canLayAll0], by simp [PyData.depthAll]⟩
  | d :: ds, h => by
    obtain ⟨h1, h2⟩ := shps_all (ds := ds) fun e he => h e (List.mem_cons_of_mem _ he)
    obtain ⟨h3, h4⟩ := h d List.mem_cons_self
    exact ⟨by simp [PyData.canLayAll0, h1, h3], by simp only [PyData.depthAll]; omega⟩
theorem shaped_list {ds : List PyData} (h : ∀ d ∈ ds, Shp d) : SeqAt.shaped (.list ds) = true := by
  obtain ⟨h1, h2⟩ := shps_all h
  exact Bool.and_eq_true_iff.mpr ⟨by simp only [PyData.canLay0]; exact h1, decide_eq_true (by simp only [PyData.depth]; omega)⟩
theorem shaped_tup {ds : List PyData} (h : ∀ d ∈ ds, Shp d) : SeqAt.shaped (.tuple ds) = true := by
  obtain ⟨h1, h2⟩ := shps_all h
  exact Bool.and_eq_true_iff.mpr ⟨by simp only [PyData.canLay0]; exact h1, decide_eq_true (by simp only [PyData.depth]; omega)⟩
/-- flat things, and tuples of such -/
theorem shp_tup {ds : List PyData} (h : ∀ d ∈ ds, d.canLay0 = true ∧ d.depth ≤ 50) : Shp (.tuple ds) := by
  have g : PyData.canLayAll0 ds = true ∧ PyData.depthAll ds ≤ 50 := by
    induction ds with
    | nil => exact ⟨by simp [PyData.canLayAll0], by simp [PyData.depthAll]⟩
    | cons d ds ih =>
      obtain ⟨h1, h2⟩ := ih fun e he => h e (List.mem_cons_of_mem _ he)
      obtain ⟨h3, h4⟩ := h d List.mem_cons_self
      exact ⟨by simp [PyData.canLayAll0, h1, h3], by simp only [PyData.depthAll]; omega⟩
  exact ⟨by simp only [PyData.canLay0]; exact g.1, by simp only [PyData.depth]; have := g.2; omega⟩
theorem eqv_nil (ds : List PyData) : PyData.eqv (.list ds) (.list []) = ds.isEmpty := by
  cases ds <;> simp [PyData.eqv, PyData.eqvAll]
/-- data of tuples, small enough -/
def Good (K : PySem.W.Frag) (H : Hp) (v : V) : Prop := ∃ d, TD K H v d ∧ Shp d
theorem Good.keep {K : PySem.W.Frag} {H H' : Hp} {v : V} (k : TK H H') (h : Good K H v) : Good K H' v := by
  obtain ⟨d, h1, h2⟩ := h
  exact ⟨d, TD.keep k h1, h2⟩
theorem goods {K : PySem.W.Frag} {H : Hp} : ∀ {xs : List V}, (∀ v ∈ xs, Good K H v) → ∃ ds, TDs K H xs ds ∧ ∀ d ∈ ds, Shp d
  | [], _ => ⟨[], .nil, fun d h => by cases h⟩
  | v :: xs, h => by
    obtain ⟨ds, h1, h2⟩ := goods (xs := xs) fun u hu => h u (List.mem_cons_of_mem _ hu)
    obtain ⟨d, h3, h4⟩ := h v List.mem_cons_self
    exact ⟨d :: ds, .cons h3 h1, fun e he => (List.mem_cons.mp he).elim (fun q => by rw [q]; exact h4) (h2 e)⟩
theorem seqIx {r : Int} {n : Nat} (h0 : 0 ≤ r) (h1 : r < n) : seqIndex? r n = some r.toNat := by
  have a : ¬ r < 0 := by omega
  simp [seqIndex?, a, h0, h1]
theorem perm_erase {α : Type} : ∀ {xs : List α} {k : Nat} {y : α}, xs[k]? = some y → (y :: xs.eraseIdx k).Perm xs
  | [], k, y, h => by simp at h
  | x :: xs, 0, y, h => by
    simp at h
    subst h
    simp
  | x :: xs, k + 1, y, h => by
    have ih := perm_erase (xs := xs) (k := k) (y := y) (by simpa using h)
    show (y :: x :: xs.eraseIdx k).Perm (x :: xs)
    exact (List.Perm.swap x y _).trans (ih.cons x)
end Hb
set_option Elab.async false
set_option linter.all false
set_option maxRecDepth 100000
set_option maxHeartbeats 4000000
namespace Hb
open PySem PySem.Spec PyProof.Rows L2
theorem take_next {α β : Type} (f : α → Option β) {xs : List α} {i : Nat} {x : α} (h : xs[i]? = some x) : (xs.take (i + 1)).filterMap f = (xs.take i).filterMap f ++ (f x).toList := by
  rw [List.take_add_one, h, List.filterMap_append]
  cases q : f x <;> simp [q]
theorem take_len {α β : Type} (f : α → Option β) (xs : List α) (i : Nat) : ((xs.take i).filterMap f).length ≤ xs.length :=
  Nat.le_trans (List.length_filterMap_le _ _) (by rw [List.length_take]; exact Nat.min_le_right _ _)
section
variable {K : PySem.W.Frag} {a : Addr} {xs : List V} {g : TG} {tt : TT} {te : TE} {vs : List Nat} {σ : L2.St} {H1 : Hp} {D : Addr} {Qd : Hp → Prop}
/-- one turn of a comprehension whose parts leave the heap as it is -/
def Turn (f : V → Option V) (x : V) (g : TG) (tt : TT) (te : TE) (vs : List Nat) (σ : L2.St) (H1 : Hp) (D : Addr) : Prop :=
  ∀ (acc : List V) (N : Hp → Prop), acc.length < sizeLine → (∀ y, f x = some y → N (upd H1 D (.lst (acc ++ [y])))) → (f x = none → N (upd H1 D (.lst acc))) →
    g x (wipe σ vs) (upd H1 D (.lst acc)) fun σ2 H2 => wipe σ2 vs = wipe σ vs ∧ tt σ2 H2 fun b H3 => if b = true then te σ2 H3 fun y H4 => ∃ acc', H4 D = some (.lst acc') ∧ acc'.length < sizeLine ∧ N (upd H4 D (.lst (acc' ++ [y]))) else N H3
theorem turn_at {f : V → Option V} {i : Nat} {x : V} {H : Hp} (hx : xs[i]? = some x) (e : H = upd H1 D (.lst ((xs.take i).filterMap f))) (few : xs.length < sizeLine) (h : Turn f x g tt te vs σ H1 D) :
    g x (wipe σ vs) H fun σ2 H2 => wipe σ2 vs = wipe σ vs ∧ tt σ2 H2 fun b H3 => if b = true then te σ2 H3 fun y H4 => ∃ acc', H4 D = some (.lst acc') ∧ acc'.length < sizeLine ∧ (fun z => z = upd H1 D (.lst ((xs.take (i + 1)).filterMap f))) (upd H4 D (.lst (acc' ++ [y]))) else (fun z => z = upd H1 D (.lst ((xs.take (i + 1)).filterMap f))) H3 := by
  subst e
  refine h _ _ (Nat.lt_of_le_of_lt (take_len f xs i) few) (fun y hy => ?_) (fun hn => ?_)
  · show upd H1 D _ = upd H1 D _
    rw [take_next f hx, hy]
    rfl
  · show upd H1 D _ = upd H1 D _
    rw [take_next f hx, hn]
    simp
theorem lc_listP (f : V → Option V) (few : xs.length < sizeLine) (hl : ∀ acc, SqL K (upd H1 D (.lst acc)) a xs) (hs : ∀ x ∈ xs, Turn f x g tt te vs σ H1 D) (hd : Qd (upd H1 D (.lst (xs.filterMap f)))) :
    ∃ W : Nat → Nat → Hp → Prop, (∃ m, W 0 m (upd H1 D (.lst []))) ∧ ∀ i m H, W i m H →
      ((Itl K a).stop i H ∧ Qd H) ∨ ((Itl K a).go i H ∧ ∃ Nx : Hp → Prop, (∀ H', Nx H' → ∃ m', m' < m ∧ W (i + 1) m' H') ∧ ∀ x H', (Itl K a).yld i H x H' → g x (wipe σ vs) H' fun σ2 H2 => wipe σ2 vs = wipe σ vs ∧ tt σ2 H2 fun b H3 =>
        if b = true then te σ2 H3 fun y H4 => ∃ acc, H4 D = some (.lst acc) ∧ acc.length < sizeLine ∧ Nx (upd H4 D (.lst (acc ++ [y]))) else Nx H3) :=
  lc_list (xs := xs) (fun i H => H = upd H1 D (.lst ((xs.take i).filterMap f))) rfl (fun i H _ e => by rw [e]; exact hl _) (fun i x H hx e => turn_at hx e few (hs x (List.mem_of_getElem? hx)))
    (fun H e => by rw [e, List.take_length]; exact hd)
theorem lc_tupP (f : V → Option V) (few : xs.length < sizeLine) (hl : ∀ acc, SqT K (upd H1 D (.lst acc)) a xs) (hs : ∀ x ∈ xs, Turn f x g tt te vs σ H1 D) (hd : Qd (upd H1 D (.lst (xs.filterMap f)))) :
    ∃ W : Nat → Nat → Hp → Prop, (∃ m, W 0 m (upd H1 D (.lst []))) ∧ ∀ i m H, W i m H →
      ((Itt K a).stop i H ∧ Qd H) ∨ ((Itt K a).go i H ∧ ∃ Nx : Hp → Prop, (∀ H', Nx H' → ∃ m', m' < m ∧ W (i + 1) m' H') ∧ ∀ x H', (Itt K a).yld i H x H' → g x (wipe σ vs) H' fun σ2 H2 => wipe σ2 vs = wipe σ vs ∧ tt σ2 H2 fun b H3 =>
        if b = true then te σ2 H3 fun y H4 => ∃ acc, H4 D = some (.lst acc) ∧ acc.length < sizeLine ∧ Nx (upd H4 D (.lst (acc ++ [y]))) else Nx H3) :=
  lc_tup (xs := xs) (fun i H => H = upd H1 D (.lst ((xs.take i).filterMap f))) rfl (fun i H _ e => by rw [e]; exact hl _) (fun i x H hx e => turn_at hx e few (hs x (List.mem_of_getElem? hx)))
    (fun H e => by rw [e, List.take_length]; exact hd)
theorem SqL.laid {H : Hp} {p : Addr} {o : HO} (h : SqL K H a xs) (n : H p = none) : SqL K (upd H p o) a xs := Same.seq (Same.new n) h
theorem SqT.laid {H : Hp} {p : Addr} {o : HO} (h : SqT K H a xs) (n : H p = none) : SqT K (upd H p o) a xs := SqT.keep (Same.tk (Same.new n)) h
end
theorem yes_ {σ : L2.St} {H : Hp} {f g : Hp → Prop} (h : f H) : tYes σ H fun b H3 => if b = true then f H3 else g H3 := (if_pos rfl : (if true = true then f H else g H) = f H).mpr h
theorem filterMap_ints (f : Int → Option Int) (ns : List Int) (h : V → Option V) (e : ∀ n, h (.int n) = (f n).map V.int) : (ns.map V.int).filterMap h = (ns.filterMap f).map V.int := by
  rw [List.filterMap_map]
  induction ns with
  | nil => rfl
  | cons n ns ih =>
    simp only [List.filterMap_cons, Function.comp, e]
    cases q : f n <;> simp [ih]
theorem filterMap_strs (f : Str → Option Str) (ns : List Str) (h : V → Option V) (e : ∀ n, h (.str n) = (f n).map V.str) : (ns.map V.str).filterMap h = (ns.filterMap f).map V.str := by
  rw [List.filterMap_map]
  induction ns with
  | nil => rfl
  | cons n ns ih =>
    simp only [List.filterMap_cons, Function.comp, e]
    cases q : f n <;> simp [ih]
end Hb
set_option Elab.async false
set_option linter.all false
set_option maxRecDepth 100000
set_option maxHeartbeats 4000000
namespace Hb
open PySem PySem.Spec PyProof.Rows L2
section
variable {K : PySem.W.Frag} {H : Hp}
theorem TD.tup_inv {v : V} {ds : List PyData} (h : TD K H v (.tuple ds)) : ∃ a xs, v = .ref a ∧ SqT K H a xs ∧ TDs K H xs ds := by
  cases h with
  | tup h1 h2 => exact ⟨_, _, rfl, h1, h2⟩
theorem TD.int_inv {v : V} {i : Int} (h : TD K H v (.int i)) : v = .int i := by cases h; rfl
theorem TD.str_inv {v : V} {x : Str} (h : TD K H v (.str x)) : v = .str x := by cases h; rfl
theorem TDs.nil_inv {vs : List V} (h : TDs K H vs []) : vs = [] := by cases h; rfl
theorem TDs.cons_inv {vs : List V} {d : PyData} {ds : List PyData} (h : TDs K H vs (d :: ds)) : ∃ v ws, vs = v :: ws ∧ TD K H v d ∧ TDs K H ws ds := by
  cases h with
  | cons h1 h2 => exact ⟨_, _, rfl, h1, h2⟩
theorem TDs.strs_inv : ∀ {vs : List V} {xs : List Str}, TDs K H vs (xs.map PyData.str) → vs = xs.map V.str
  | _, [], h => TDs.nil_inv h
  | _, x :: xs, h => by
    obtain ⟨v, ws, rfl, h1, h2⟩ := TDs.cons_inv h
    rw [TD.str_inv h1, TDs.strs_inv h2]
    rfl
theorem TDs.ints_inv : ∀ {vs : List V} {xs : List Int}, TDs K H vs (xs.map PyData.int) → vs = xs.map V.int
  | _, [], h => TDs.nil_inv h
  | _, x :: xs, h => by
    obtain ⟨v, ws, rfl, h1, h2⟩ := TDs.cons_inv h
    rw [TD.int_inv h1, TDs.ints_inv h2]
    rfl
end
/-! ### names -/
def isLetter (c : Nat) : Bool := decide (c ∈ ("abcdefghijklmnopqrstuvwxyz" : Str).cps.toList)
def nameB (x : Str) : Bool := decide (1 ≤ x.length ∧ x.length ≤ 4) && x.cps.toList.all isLetter
/-! ### a sleeper, told as data -/
structure Zz where
  sorts : List (Str × Str)
  stir : Int
  doze : Int
  near : Int
  loud : Str
def encZ (z : Zz) : PyData := .tuple [.tuple (z.sorts.map encP), .int z.stir, .int z.doze, .int z.near, .str z.loud]
def fourS : List Str := ["faint", "loud", "soft", "sudden"]
def threeS : List Str := ["again", "nothing", "wake"]
def OneAt (K : PySem.W.Frag) (H : Hp) (p : Addr) (z : Zz) : Prop := TD K H (.ref p) (encZ z)
/-- what stands in it -/
structure OneIs (K : PySem.W.Frag) (H : Hp) (p : Addr) (z : Zz) (t : Addr) (xs : List V) : Prop where
  all : SqT K H p [.ref t, .int z.stir, .int z.doze, .int z.near, .str z.loud]
  srt : SqT K H t xs
  its : TDs K H xs (z.sorts.map encP)
theorem OneAt.inv {K : PySem.W.Frag} {H : Hp} {p : Addr} {z : Zz} (h : OneAt K H p z) : ∃ t xs, OneIs K H p z t xs := by
  obtain ⟨a, xs, e, h1, h2⟩ := TD.tup_inv h
  cases e
  obtain ⟨v1, w1, rfl, a1, h2⟩ := TDs.cons_inv h2
  obtain ⟨v2, w2, rfl, a2, h2⟩ := TDs.cons_inv h2
  obtain ⟨v3, w3, rfl, a3, h2⟩ := TDs.cons_inv h2
  obtain ⟨v4, w4, rfl, a4, h2⟩ := TDs.cons_inv h2
  obtain ⟨v5, w5, rfl, a5, h2⟩ := TDs.cons_inv h2
  obtain rfl := TDs.nil_inv h2
  obtain rfl := TD.int_inv a2
  obtain rfl := TD.int_inv a3
  obtain rfl := TD.int_inv a4
  obtain rfl := TD.str_inv a5
  obtain ⟨t, ys, rfl, h3, h4⟩ := TD.tup_inv a1
  exact ⟨t, ys, h1, h3, h4⟩
theorem OneIs.one {K : PySem.W.Frag} {H : Hp} {p : Addr} {z : Zz} {t : Addr} {xs : List V} (h : OneIs K H p z t xs) : OneAt K H p z :=
  .tup h.all (.cons (.tup h.srt h.its) (.cons (.int _) (.cons (.int _) (.cons (.int _) (.cons (.str _) .nil)))))
/-- a sleeper that is drawn, its words among ws -/
structure Zok (z : Zz) (ws : List Str) : Prop where
  nd : (z.sorts.map Prod.fst).Nodup
  inw : ∀ p ∈ z.sorts, p.1 ∈ ws
  ok : ∀ p ∈ z.sorts, PyData.strOk p.1 = true ∧ nameB p.1 = true
  srt : ∀ p ∈ z.sorts, p.2 ∈ fourS
  few : z.sorts.length ≤ 8
  s1 : 1 ≤ z.stir
  s5 : z.stir ≤ 5
  d1 : 1 ≤ z.doze
  d5 : z.doze ≤ 5
  n1 : 1 ≤ z.near
  n2 : z.near ≤ 2
  lo : z.loud ∈ threeS
end Hb
set_option Elab.async false
set_option linter.all false
set_option maxRecDepth 100000
set_option maxHeartbeats 4000000
namespace Hb
open PySem PySem.Spec PyProof.Rows L2
section
variable {K : PySem.W.Frag} {H : Hp} {a : Addr} {xs : List V}
theorem ty_tup (h : SqT K H a xs) : TyX K H (.ref a) (.type "tuple") := by
  rcases h with (h | ⟨o, h⟩) | ⟨o, its, n, h, hc, _⟩
  · exact .base (.tup h)
  · exact .fTuple h
  · exact .kTuple h hc
theorem ty_lst (h : SqL K H a xs) : TyX K H (.ref a) (.type "list") := by
  rcases h with (h | ⟨o, h⟩) | ⟨o, its, n, h, hc, _⟩
  · exact .base (.lst h)
  · exact .base (.frz h)
  · exact .kList h hc
end
theorem inV_strs (y : Str) : ∀ xs : List Str, inV (.str y) (xs.map V.str) = decide (y ∈ xs)
  | [] => by simp [inV]
  | x :: xs => by
    have ih := inV_strs y xs
    unfold inV at ih ⊢
    rw [List.map_cons, List.any_cons, ih]
    by_cases e : x = y
    · subst e
      simp [eqV]
    · have e2 : ¬ y = x := fun z => e z.symm
      simp [eqV, e, e2]
/-- a list or a tuple, walked: whatever walks so -/
def iSeq (K : PySem.W.Frag) (tl : TE) : TI := fun σ H R => tl σ H fun x H1 => ∃ a xs, x = .ref a ∧ (SqL K H1 a xs ∨ SqT K H1 a xs) ∧ ∀ (J : It) (G : Hp → Prop), (∀ H', Same H1 H' → G H') → Walk J xs.length G (YAt xs) → R J H1
theorem pi_seq {X : Cx} {tg l : Expr} {tl : TE} (hl : PE X l tl) : PI X tg l (iSeq X.K tl) := by
  refine ⟨fun pins s σ H R I h => thn (hl.run pins s σ H _ I h) fun v z ⟨x, H1, J, r, a, xs, e, hq, q⟩ => ?_⟩
  subst e
  cases r
  have far : ∀ b ∈ [z.heap.objs.size], FpOk X pins H1 b := fun b hb => by
    rw [List.mem_singleton.mp hb]; exact J.fpOk (Nat.le_refl _) (J.hok.fresh (Nat.le_refl _))
  rcases hq with hq | hq
  · have q2 := q _ _ (fun H' s => Same.seq s hq) walk_list
    obtain ⟨its, rv, p, hz⟩ := J.list hq
    exact wpAny_pyIter_list p.isList ⟨_, [z.heap.objs.size], _, _, H1, rfl, J.kept (t' := z.toks) (fun b o e => Heap.get?_push_of_some _ e), turn_list a _, ⟨_, Heap.get?_push_size _ rfl, rfl, rfl⟩, (by exact far), q2⟩
  · have q2 := q _ _ (fun H' s => SqT.keep (Same.tk s) hq) walk_tup
    obtain ⟨its, rv, p, hz⟩ := J.tuple hq
    exact wpAny_pyIter_tuple (show z.heap.IsTuple a its.toArray from p) ⟨_, [z.heap.objs.size], _, _, H1, rfl, J.kept (t' := z.toks) (fun b o e => Heap.get?_push_of_some _ e), turn_tuple a _, ⟨_, Heap.get?_push_size _ rfl, rfl, rfl⟩, (by exact far), q2⟩
/-- a comprehension's list, put anew -/
theorem Same.acc {H H' : Hp} {D : Addr} {o : HO} (s : Same H H') (n : H D = none) : Same H (upd H' D o) := fun b u e => by
  rw [upd_ne (ne_of_none e n)]
  exact s b u e
end Hb
set_option Elab.async false
set_option linter.all false
set_option maxRecDepth 100000
set_option maxHeartbeats 4000000
namespace Hb
open PySem PySem.Spec PyProof.Rows L2
/-- pairs of texts in Python's order -/
def sortP (ps : List (Str × Str)) : List (Str × Str) := ps.mergeSort (PySem.W.dataLe false encP)
theorem sortP_perm (ps : List (Str × Str)) : (sortP ps).Perm ps := List.mergeSort_perm _ _
theorem zip_fst {α β : Type} : ∀ {xs : List α} {ys : List β}, xs.length = ys.length → (xs.zip ys).map (·.1) = xs
  | [], [], _ => rfl
  | x :: xs, y :: ys, h => congrArg (x :: ·) (zip_fst (xs := xs) (ys := ys) (by simpa using h))
theorem zip_snd {α β : Type} : ∀ {xs : List α} {ys : List β}, xs.length = ys.length → (xs.zip ys).map (·.2) = ys
  | [], [], _ => rfl
  | x :: xs, y :: ys, h => congrArg (y :: ·) (zip_snd (xs := xs) (ys := ys) (by simpa using h))
section
variable {K : PySem.W.Frag} {H : Hp}
theorem zip_td : ∀ {xs : List V} {ps : List (Str × Str)}, TDs K H xs (ps.map encP) → ∀ z ∈ xs.zip ps, TD K H z.1 (encP z.2)
  | [], [], _, z, h => by cases h
  | _ :: _, [], t, _, _ => by cases t
  | [], _ :: _, t, _, _ => by cases t
  | x :: xs, p :: ps, t, z, h => by
    obtain ⟨v, ws, e, h1, h2⟩ := TDs.cons_inv t
    cases e
    rcases List.mem_cons.mp h with h | h
    · rw [h]; exact h1
    · exact zip_td h2 z h
theorem td_zip : ∀ {zs : List (V × (Str × Str))}, (∀ z ∈ zs, TD K H z.1 (encP z.2)) → TDs K H (zs.map (·.1)) ((zs.map (·.2)).map encP)
  | [], _ => .nil
  | z :: zs, h => .cons (h z List.mem_cons_self) (td_zip fun y hy => h y (List.mem_cons_of_mem _ hy))
end
theorem sort_zip (zs : List (V × (Str × Str))) : (zs.mergeSort (PySem.W.dataLe false fun z => encP z.2)).map (·.2) = sortP (zs.map (·.2)) :=
  PySem.W.sort_maps (fun z : V × (Str × Str) => z.2) fun _ _ _ _ => rfl
/-! ### a Sleeper -/
def slpFs (t : Addr) (z : Zz) : List (Str × V) := [("sorts", .ref t), ("stir", .int z.stir), ("doze", .int z.doze), ("near", .int z.near), ("loud", .str z.loud)]
/-- a Sleeper of the class at C -/
def SlpAt (K : PySem.W.Frag) (C : Addr) (H : Hp) (p : Addr) (z : Zz) : Prop := ∃ dx t xs, H p = some (.ins C dx (slpFs t z)) ∧ SqT K H t xs ∧ TDs K H xs ((sortP z.sorts).map encP)
theorem SlpAt.keep {K : PySem.W.Frag} {C : Addr} {H H' : Hp} {p : Addr} {z : Zz} (h : SlpAt K C H p z) (k : TK H H') (e : ∀ o, H p = some o → H' p = some o) : SlpAt K C H' p z := by
  obtain ⟨dx, t, xs, h1, h2, h3⟩ := h
  exact ⟨dx, t, xs, e _ h1, SqT.keep k h2, TDs.keep k h3⟩
theorem SlpAt.same {K : PySem.W.Frag} {C : Addr} {H H' : Hp} {p : Addr} {z : Zz} (h : SlpAt K C H p z) (s : Same H H') : SlpAt K C H' p z := h.keep (Same.tk s) fun o e => s _ _ e
theorem SlpAt.kp {K : PySem.W.Frag} {C d g : Addr} {H H' : Hp} {p : Addr} {z : Zz} (h : SlpAt K C H p z) (dl : Deal d g H) (k : Kp d g H H') : SlpAt K C H' p z :=
  h.keep (dl.tk k) fun o e => by
    obtain ⟨dx, t, xs, h1, h2, h3⟩ := h
    exact k _ _ (dl.ne_d h1 (by intro kvs q; cases q)) (dl.ne_g h1 (by intro kvs q; cases q)) e
end Hb
set_option Elab.async false
set_option linter.all false
set_option maxRecDepth 100000
set_option maxHeartbeats 4000000
namespace Hb
open PySem PySem.Spec PyProof.Rows L2
/-! ### states -/
inductive S0 where
  | up | doz (t : Int) | asl | kept (n : Str) (a : Int) | stir (t : Int) | wok
  deriving DecidableEq
def S0.vals : S0 → List V
  | .up => [.str "up"]
  | .doz t => [.str "dozing", .int t]
  | .asl => [.str "asleep"]
  | .kept n a => [.str "asleep", .str n, .int a]
  | .stir t => [.str "stirring", .int t]
  | .wok => [.str "woken"]
def S0.ds : S0 → List PyData
  | .up => [.str "up"]
  | .doz t => [.str "dozing", .int t]
  | .asl => [.str "asleep"]
  | .kept n a => [.str "asleep", .str n, .int a]
  | .stir t => [.str "stirring", .int t]
  | .wok => [.str "woken"]
def S0.word : S0 → Str
  | .up => "up"
  | .doz _ => "dozing"
  | .asl => "asleep"
  | .kept _ _ => "asleep"
  | .stir _ => "stirring"
  | .wok => "woken"
theorem S0.head (s : S0) : atI s.vals 0 = some (.str s.word) := by cases s <;> rfl
def StAt (K : PySem.W.Frag) (H : Hp) (v : V) (s : S0) : Prop := ∃ a, v = .ref a ∧ SqT K H a s.vals
theorem StAt.keep {K : PySem.W.Frag} {H H' : Hp} {v : V} {s : S0} (k : TK H H') (h : StAt K H v s) : StAt K H' v s := by
  obtain ⟨a, e, h⟩ := h
  exact ⟨a, e, SqT.keep k h⟩
theorem S0.td (K : PySem.W.Frag) (H : Hp) (s : S0) : TDs K H s.vals s.ds := by
  cases s
  case up => exact .cons (.str _) .nil
  case doz => exact .cons (.str _) (.cons (.int _) .nil)
  case asl => exact .cons (.str _) .nil
  case kept => exact .cons (.str _) (.cons (.str _) (.cons (.int _) .nil))
  case stir => exact .cons (.str _) (.cons (.int _) .nil)
  case wok => exact .cons (.str _) .nil
theorem StAt.td {K : PySem.W.Frag} {H : Hp} {v : V} {s : S0} (h : StAt K H v s) : TD K H v (.tuple s.ds) := by
  obtain ⟨a, rfl, h⟩ := h
  exact .tup h (S0.td K H s)
def soV : Option Str → V
  | none => .non
  | some x => .str x
theorem soV_eq (so : Option Str) (x : Str) : decide (soV so = V.str x) = decide (so = some x) := by
  cases so with
  | none => simp [soV]
  | some y => simp [soV]
theorem soV_scal (so : Option Str) (x : Str) : scal (soV so) (.str x) = true := by cases so <;> rfl
/-- its name may be compared -/
def S0.ok : S0 → Prop
  | .kept n _ => PyData.strOk n = true
  | _ => True
theorem flat_ok : ∀ w ∈ (["up", "dozing", "asleep", "stirring", "woken"] : List Str), PyData.strOk w = true := by decide +kernel
theorem S0.shp {s : S0} (h : s.ok) : Shp (.tuple s.ds) := by
  have w : ∀ x ∈ (["up", "dozing", "asleep", "stirring", "woken"] : List Str), (PyData.str x).canLay0 = true ∧ (PyData.str x).depth ≤ 50 := fun x hx => ⟨by simp only [PyData.canLay0]; exact flat_ok x hx, by simp [PyData.depth]⟩
  have i : ∀ t : Int, (PyData.int t).canLay0 = true ∧ (PyData.int t).depth ≤ 50 := fun t => ⟨by simp [PyData.canLay0], by simp [PyData.depth]⟩
  refine shp_tup fun d hd => ?_
  cases s
  case up => simp only [S0.ds, List.mem_cons, List.not_mem_nil, or_false] at hd; subst hd; exact w _ (by simp)
  case asl => simp only [S0.ds, List.mem_cons, List.not_mem_nil, or_false] at hd; subst hd; exact w _ (by simp)
  case wok => simp only [S0.ds, List.mem_cons, List.not_mem_nil, or_false] at hd; subst hd; exact w _ (by simp)
  case doz => simp only [S0.ds, List.mem_cons, List.not_mem_nil, or_false] at hd; exact hd.elim (fun e => e ▸ w _ (by simp)) (fun e => e ▸ i _)
  case stir => simp only [S0.ds, List.mem_cons, List.not_mem_nil, or_false] at hd; exact hd.elim (fun e => e ▸ w _ (by simp)) (fun e => e ▸ i _)
  case kept n a =>
    simp only [S0.ds, List.mem_cons, List.not_mem_nil, or_false] at hd
    exact hd.elim (fun e => e ▸ w _ (by simp)) fun hd => hd.elim (fun e => e ▸ ⟨by simp only [PyData.canLay0]; exact h, by simp [PyData.depth]⟩) (fun e => e ▸ i _)
theorem words_ne : ("asleep" : Str) ≠ "up" ∧ ("dozing" : Str) ≠ "up" ∧ ("stirring" : Str) ≠ "up" ∧ ("woken" : Str) ≠ "up" ∧ ("asleep" : Str) ≠ "dozing" ∧ ("stirring" : Str) ≠ "dozing" ∧ ("woken" : Str) ≠ "dozing" ∧
    ("stirring" : Str) ≠ "asleep" ∧ ("woken" : Str) ≠ "asleep" ∧ ("woken" : Str) ≠ "stirring" := by decide +kernel
theorem beq_dec {α : Type} [DecidableEq α] [BEq α] [LawfulBEq α] (a b : α) : (a == b) = decide (a = b) := by
  by_cases h : a = b
  · rw [decide_eq_true h, h, beq_self_eq_true]
  · rw [decide_eq_false h, beq_eq_false_iff_ne.mpr h]
/-- states are alike if their data are -/
theorem eqv_st (s t : S0) : PyData.eqv (.tuple s.ds) (.tuple t.ds) = decide (s = t) := by
  obtain ⟨h1, h2, h3, h4, h5, h6, h7, h8, h9, h10⟩ := words_ne
  cases s <;> cases t <;> simp [beq_dec, S0.ds, PyData.eqv, PyData.eqvAll, h1, h2, h3, h4, h5, h6, h7, h8, h9, h10, h1.symm, h2.symm, h3.symm, h4.symm, h5.symm, h6.symm, h7.symm, h8.symm, h9.symm, h10.symm]
/-- what a noise of sort so does -/
def hear (z : Zz) (so : Option Str) (n : Str) : S0 → S0
  | .up => .up
  | .wok => .wok
  | .doz t => if so = some ("loud" : Str) then (if z.loud = "wake" then .wok else if z.loud = "again" then .doz z.doze else .doz t) else .doz t
  | .asl => if so = some ("soft" : Str) then .stir z.stir else if so = some ("loud" : Str) ∨ so = some ("sudden" : Str) then .wok else if so = some ("faint" : Str) then .kept n 0 else .asl
  | .kept m a => if so = some ("soft" : Str) then .stir z.stir else if so = some ("loud" : Str) ∨ so = some ("sudden" : Str) then .wok else if so = some ("faint" : Str) then (if m = n then .kept n 0 else .wok) else .kept m a
  | .stir t => if so = some ("loud" : Str) then .wok else .stir t
def sortOf (z : Zz) (n : Str) : Option Str := (sortP z.sorts).lookup n
def tick (z : Zz) : S0 → S0
  | .up => .up
  | .wok => .wok
  | .doz t => if 1 < t then .doz (t - 1) else .asl
  | .asl => .asl
  | .kept m a => if a < z.near then .kept m (a + 1) else .asl
  | .stir t => if 1 < t then .stir (t - 1) else .wok
def hum (z : Zz) (w : Str) : S0 → S0
  | .wok => .wok
  | _ => if w = "up" then .up else .doz z.doze
end Hb
set_option Elab.async false
set_option linter.all false
set_option maxRecDepth 100000
set_option maxHeartbeats 4000000
namespace Hb
open PySem PySem.Spec PyProof.Rows L2
/-- a list being filled, changed: tuples stay -/
theorem tk_acc {H : Hp} {D : Addr} {xs ys : List V} (h : H D = some (.lst xs)) : TK H (upd H D (.lst ys)) := TK.put h (by intro xs e; cases e) (by intro q u e; cases e)
/-! ### rows of states -/
inductive SsAt (K : PySem.W.Frag) (H : Hp) : List V → List S0 → Prop
  | nil : SsAt K H [] []
  | cons {v : V} {vs : List V} {s : S0} {ss : List S0} : StAt K H v s → SsAt K H vs ss → SsAt K H (v :: vs) (s :: ss)
section
variable {K : PySem.W.Frag} {H H' : Hp}
theorem SsAt.keep (k : TK H H') : ∀ {vs : List V} {ss : List S0}, SsAt K H vs ss → SsAt K H' vs ss
  | _, _, .nil => .nil
  | _, _, .cons h t => .cons (h.keep k) (SsAt.keep k t)
theorem SsAt.app : ∀ {vs ws : List V} {ss ts : List S0}, SsAt K H vs ss → SsAt K H ws ts → SsAt K H (vs ++ ws) (ss ++ ts)
  | _, _, _, _, .nil, h => h
  | _, _, _, _, .cons h t, h2 => .cons h (SsAt.app t h2)
theorem SsAt.length : ∀ {vs : List V} {ss : List S0}, SsAt K H vs ss → vs.length = ss.length
  | _, _, .nil => rfl
  | _, _, .cons _ t => congrArg Nat.succ (SsAt.length t)
theorem SsAt.at : ∀ {vs : List V} {ss : List S0} {i : Nat} {v : V}, SsAt K H vs ss → vs[i]? = some v → ∃ s, ss[i]? = some s ∧ StAt K H v s
  | _, _, _, _, .nil, e => by simp at e
  | _, _, 0, _, .cons h _, e => by simp at e; subst e; exact ⟨_, rfl, h⟩
  | _, _, i + 1, _, .cons _ t, e => by
    obtain ⟨s, h1, h2⟩ := SsAt.at t (i := i) (by simpa using e)
    exact ⟨s, by simpa using h1, h2⟩
theorem SsAt.td : ∀ {vs : List V} {ss : List S0}, SsAt K H vs ss → TDs K H vs (ss.map fun s => .tuple s.ds)
  | _, _, .nil => .nil
  | _, _, .cons h t => .cons h.td (SsAt.td t)
end
/-- a list of states, one put behind -/
theorem SsAt.more {K : PySem.W.Frag} {H1 H H2 : Hp} {D : Addr} {acc : List V} {ss : List S0} {v : V} {s : S0} (nD : H1 D = none) (s1 : Same H1 H) (hD : H D = some (.lst acc)) (hs : SsAt K H acc ss) (s2 : Same H H2) (hv : StAt K H2 v s) :
    Same H1 (upd H2 D (.lst (acc ++ [v]))) ∧ ∃ acc', upd H2 D (.lst (acc ++ [v])) D = some (.lst acc') ∧ SsAt K (upd H2 D (.lst (acc ++ [v]))) acc' (ss ++ [s]) := by
  have k : TK H2 (upd H2 D (.lst (acc ++ [v]))) := tk_acc (s2 _ _ hD)
  exact ⟨Hb.Same.acc (s1.trans s2) nD, _, upd_same, SsAt.app (SsAt.keep k (SsAt.keep (Same.tk s2) hs)) (.cons (hv.keep k) .nil)⟩
theorem range_map (f : Nat → S0) (i : Nat) : (List.range (i + 1)).map f = (List.range i).map f ++ [f i] := by
  rw [List.range_succ, List.map_append]
  rfl
theorem SsAt.more' {K : PySem.W.Frag} {H1 H H2 : Hp} {D : Addr} {acc : List V} {f : Nat → S0} {i : Nat} {v : V} (nD : H1 D = none) (s1 : Same H1 H) (hD : H D = some (.lst acc)) (hs : SsAt K H acc ((List.range i).map f)) (s2 : Same H H2) (hv : StAt K H2 v (f i)) :
    Same H1 (upd H2 D (.lst (acc ++ [v]))) ∧ ∃ acc', upd H2 D (.lst (acc ++ [v])) D = some (.lst acc') ∧ SsAt K (upd H2 D (.lst (acc ++ [v]))) acc' ((List.range (i + 1)).map f) := by
  rw [range_map]
  exact SsAt.more nD s1 hD hs s2 hv
theorem any_st (ss : List S0) (s : S0) : ((ss.map fun s => PyData.tuple s.ds).any fun z => PyData.eqv z (.tuple s.ds)) = decide (s ∈ ss) := by
  induction ss with
  | nil => simp
  | cons t ss ih =>
    rw [List.map_cons, List.any_cons, ih, eqv_st]
    by_cases h : t = s
    · subst h; simp
    · have h2 : ¬ s = t := fun q => h q.symm
      simp [h, h2]
theorem shaped_sts {ss : List S0} (h : ∀ s ∈ ss, s.ok) : SeqAt.shaped (.list (ss.map fun s => .tuple s.ds)) = true := shaped_list fun d hd => by
  obtain ⟨s, hs, rfl⟩ := List.mem_map.mp hd
  exact S0.shp (h s hs)
/-- all states of its form -/
def states (z : Zz) : List S0 := ([.up, .asl, .wok] ++ (List.range z.doze.toNat).map fun i => .doz (1 + (i : Nat))) ++ ((List.range z.stir.toNat).map fun i => .stir (1 + (i : Nat))) ++
  (z.sorts.filter fun p => decide (p.2 = ("faint" : Str))).flatMap fun p => (List.range (z.near + 1).toNat).map fun i => .kept p.1 (0 + (i : Nat))
def rowS (z : Zz) (s : S0) (ns : List Str) : S0 := ns.foldl (fun s n => hear z (sortOf z n) n s) s
end Hb
set_option Elab.async false
set_option linter.all false
set_option maxRecDepth 100000
set_option maxHeartbeats 8000000
namespace Hb
open PySem PySem.Spec PyProof.Rows L2
/-! ### looking up -/
theorem lookup_mem : ∀ {ps : List (Str × Str)} {n x : Str}, ps.lookup n = some x → (n, x) ∈ ps
  | [], _, _, h => by simp at h
  | (m, y) :: ps, n, x, h => by
    rw [List.lookup_cons] at h
    by_cases e : n = m
    · subst e
      simp at h
      subst h
      exact List.mem_cons_self
    · have e2 : (n == m) = false := beq_eq_false_iff_ne.mpr e
      rw [e2] at h
      exact List.mem_cons_of_mem _ (lookup_mem h)
theorem lookup_of : ∀ {ps : List (Str × Str)} {n x : Str}, (ps.map Prod.fst).Nodup → (n, x) ∈ ps → ps.lookup n = some x
  | (m, y) :: ps, n, x, nd, h => by
    rw [List.map_cons, List.nodup_cons] at nd
    rw [List.lookup_cons]
    rcases List.mem_cons.mp h with h | h
    · cases h
      simp
    · have e : n ≠ m := fun q => nd.1 (by rw [← q]; exact List.mem_map.mpr ⟨_, h, rfl⟩)
      rw [beq_eq_false_iff_ne.mpr e]
      exact lookup_of nd.2 h
theorem lookup_none : ∀ {ps : List (Str × Str)} {n : Str}, (∀ x, (n, x) ∉ ps) → ps.lookup n = none
  | [], _, _ => rfl
  | (m, y) :: ps, n, h => by
    have e : n ≠ m := fun q => h y (by rw [q]; exact List.mem_cons_self)
    rw [List.lookup_cons, beq_eq_false_iff_ne.mpr e]
    exact lookup_none fun x hx => h x (List.mem_cons_of_mem _ hx)
theorem lookup_perm {ps qs : List (Str × Str)} (nd : (ps.map Prod.fst).Nodup) (h : qs.Perm ps) (n : Str) : qs.lookup n = ps.lookup n := by
  cases e : ps.lookup n with
  | none =>
    refine lookup_none fun x hx => ?_
    rw [lookup_of nd (h.mem_iff.mp hx)] at e
    cases e
  | some x => exact lookup_of ((h.map Prod.fst).nodup_iff.mpr nd) (h.mem_iff.mpr (lookup_mem e))
theorem sortOf_eq {z : Zz} (nd : (z.sorts.map Prod.fst).Nodup) (n : Str) : sortOf z n = z.sorts.lookup n := lookup_perm nd (sortP_perm _) n
/-! ### a dict of pairs -/
def pkv (p : Str × Str) : Key × V := (Sum.inr p.1, V.str p.2)
theorem putK_new (kvs : List (Key × V)) (k : Key) (v : V) (h : ∀ kv ∈ kvs, kv.1 ≠ k) : putK kvs k v = kvs ++ [(k, v)] := by
  unfold putK
  rw [if_neg]
  intro q
  obtain ⟨kv, h1, h2⟩ := List.any_eq_true.mp q
  exact h kv h1 (of_decide_eq_true h2)
theorem merge_new : ∀ (ps : List (Str × Str)) (acc : List (Key × V)), (ps.map Prod.fst).Nodup → (∀ p ∈ ps, ∀ kv ∈ acc, kv.1 ≠ (Sum.inr p.1 : Key)) → mergeK acc (ps.map pkv) = acc ++ ps.map pkv
  | [], acc, _, _ => by simp [mergeK]
  | p :: ps, acc, nd, h => by
    rw [List.map_cons, List.nodup_cons] at nd
    have e : mergeK acc ((p :: ps).map pkv) = mergeK (putK acc (Sum.inr p.1) (V.str p.2)) (ps.map pkv) := rfl
    rw [e, putK_new acc _ _ (h p List.mem_cons_self), merge_new ps _ nd.2 (fun q hq kv hkv => ?_)]
    · simp [pkv]
    · rcases List.mem_append.mp hkv with hkv | hkv
      · exact h q (List.mem_cons_of_mem _ hq) kv hkv
      · rw [List.mem_singleton.mp hkv]
        intro e2
        have e3 : p.1 = q.1 := Sum.inr.inj e2
        exact nd.1 (by rw [e3]; exact List.mem_map.mpr ⟨q, hq, rfl⟩)
theorem val_pairs : ∀ (ps : List (Str × Str)) (n : Str), valV (ps.map pkv) (Sum.inr n) = (ps.lookup n).map V.str
  | [], n => rfl
  | p :: ps, n => by
    rw [List.map_cons, List.lookup_cons]
    by_cases e : n = p.1
    · rw [valV_pos (p := pkv p) (by show Sum.inr p.1 = Sum.inr n; rw [e])]
      subst e
      simp [pkv]
    · rw [valV_neg (p := pkv p) (fun q => e (Sum.inr.inj (show (Sum.inr p.1 : Key) = Sum.inr n from q)).symm), beq_eq_false_iff_ne.mpr e]
      exact val_pairs ps n
theorem val_dict {ps : List (Str × Str)} (nd : (ps.map Prod.fst).Nodup) (n : Str) : valV (mergeK [] (ps.map pkv)) (Sum.inr n) = (ps.lookup n).map V.str := by
  rw [merge_new ps [] nd (fun _ _ _ h => by cases h), List.nil_append]
  exact val_pairs ps n
theorem pairs_of {K : PySem.W.Frag} {H : Hp} : ∀ {xs : List V} {ps : List (Str × Str)}, TDs K H xs (ps.map encP) → ∃ as : List Addr, xs = as.map V.ref ∧ Paired (fun p (kv : Key × V) => SqT K H p [kV kv.1, kv.2]) as (ps.map pkv)
  | _, [], h => ⟨[], TDs.nil_inv h, .nil⟩
  | _, p :: ps, h => by
    obtain ⟨v, ws, rfl, h1, h2⟩ := TDs.cons_inv h
    obtain ⟨as, rfl, h3⟩ := pairs_of h2
    obtain ⟨a, ys, rfl, h4, h5⟩ := TD.tup_inv h1
    obtain rfl := TDs.strs_inv (xs := [p.1, p.2]) h5
    exact ⟨a :: as, rfl, .cons h4 h3⟩
/-! ### what noises do -/
theorem sorts_ne : ("loud" : Str) ≠ "soft" ∧ ("sudden" : Str) ≠ "soft" ∧ ("faint" : Str) ≠ "soft" ∧ ("sudden" : Str) ≠ "loud" ∧ ("faint" : Str) ≠ "loud" ∧ ("faint" : Str) ≠ "sudden" ∧ ("again" : Str) ≠ "wake" := by decide +kernel
/-- the five kinds of noises -/
theorem kinds (so : Option Str) : so = some ("soft" : Str) ∨ so = some ("loud" : Str) ∨ so = some ("sudden" : Str) ∨ so = some ("faint" : Str) ∨ (so ≠ some ("soft" : Str) ∧ so ≠ some ("loud" : Str) ∧ so ≠ some ("sudden" : Str) ∧ so ≠ some ("faint" : Str)) := by
  by_cases h1 : so = some ("soft" : Str)
  · exact .inl h1
  by_cases h2 : so = some ("loud" : Str)
  · exact .inr (.inl h2)
  by_cases h3 : so = some ("sudden" : Str)
  · exact .inr (.inr (.inl h3))
  by_cases h4 : so = some ("faint" : Str)
  · exact .inr (.inr (.inr (.inl h4)))
  exact .inr (.inr (.inr (.inr ⟨h1, h2, h3, h4⟩)))
theorem hear_soft {z : Zz} {n : Str} (s : S0) : hear z (some ("soft" : Str)) n s = match s with | .asl => .stir z.stir | .kept _ _ => .stir z.stir | s => s := by
  obtain ⟨h1, h2, h3, h4, h5, h6, h7⟩ := sorts_ne
  cases s <;> simp [hear, h1.symm]
theorem hear_loud {z : Zz} {n : Str} (s : S0) : hear z (some ("loud" : Str)) n s = match s with | .up => .up | .doz t => (if z.loud = ("wake" : Str) then .wok else if z.loud = ("again" : Str) then .doz z.doze else .doz t) | _ => .wok := by
  obtain ⟨h1, h2, h3, h4, h5, h6, h7⟩ := sorts_ne
  cases s <;> simp [hear, h1]
theorem hear_sudden {z : Zz} {n : Str} (s : S0) : hear z (some ("sudden" : Str)) n s = match s with | .asl => .wok | .kept _ _ => .wok | s => s := by
  obtain ⟨h1, h2, h3, h4, h5, h6, h7⟩ := sorts_ne
  cases s <;> simp [hear, h2, h4]
theorem hear_faint {z : Zz} {n : Str} (s : S0) : hear z (some ("faint" : Str)) n s = match s with | .asl => .kept n 0 | .kept m _ => (if m = n then .kept n 0 else .wok) | s => s := by
  obtain ⟨h1, h2, h3, h4, h5, h6, h7⟩ := sorts_ne
  cases s <;> simp [hear, h3, h5, h6]
theorem hear_else {z : Zz} {n : Str} {so : Option Str} (h : so ≠ some ("soft" : Str) ∧ so ≠ some ("loud" : Str) ∧ so ≠ some ("sudden" : Str) ∧ so ≠ some ("faint" : Str)) (s : S0) : hear z so n s = s := by
  obtain ⟨h1, h2, h3, h4⟩ := h
  cases s <;> simp [hear, h1, h2, h3, h4]
inductive Kd where
  | soft | loud | sudden | faint | els
  deriving DecidableEq
def act (z : Zz) (n : Str) : Kd → S0 → S0
  | .soft, .asl => .stir z.stir
  | .soft, .kept _ _ => .stir z.stir
  | .loud, .doz t => if z.loud = ("wake" : Str) then .wok else if z.loud = ("again" : Str) then .doz z.doze else .doz t
  | .loud, .asl => .wok
  | .loud, .kept _ _ => .wok
  | .loud, .stir _ => .wok
  | .sudden, .asl => .wok
  | .sudden, .kept _ _ => .wok
  | .faint, .asl => .kept n 0
  | .faint, .kept m _ => if m = n then .kept n 0 else .wok
  | _, s => s
def kd (so : Option Str) : Kd := if so = some ("soft" : Str) then .soft else if so = some ("loud" : Str) then .loud else if so = some ("sudden" : Str) then .sudden else if so = some ("faint" : Str) then .faint else .els
theorem hear_act (z : Zz) (so : Option Str) (n : Str) (s : S0) : hear z so n s = act z n (kd so) s := by
  obtain ⟨h1, h2, h3, h4, h5, h6, h7⟩ := sorts_ne
  rcases kinds so with rfl | rfl | rfl | rfl | h
  · rw [hear_soft]; cases s <;> simp [kd, act]
  · rw [hear_loud]; cases s <;> simp [kd, act, h1]
  · rw [hear_sudden]; cases s <;> simp [kd, act, h2, h4]
  · rw [hear_faint]; cases s <;> simp [kd, act, h3, h5, h6]
  · rw [hear_else h]; obtain ⟨q1, q2, q3, q4⟩ := h; cases s <;> simp [kd, act, q1, q2, q3, q4]
/-- two noises twice are as once -/
theorem twice (z : Zz) (a b : Str) (s : S0) : rowS z (rowS z s [a, b]) [a, b] = rowS z s [a, b] := by
  have key : ∀ ka kb : Kd, (a = b → ka = kb) → ∀ s, act z b kb (act z a ka (act z b kb (act z a ka s))) = act z b kb (act z a ka s) := by
    intro ka kb hab s
    have wa : ("wake" : Str) ≠ "again" := sorts_ne.2.2.2.2.2.2.symm
    by_cases e : a = b
    · subst e
      have e2 := hab rfl
      subst e2
      by_cases hw : z.loud = ("wake" : Str)
      · cases s
        case kept m t => by_cases h1 : m = a <;> cases ka <;> simp [act, hw, h1, wa]
        all_goals (cases ka <;> simp [act, hw, wa])
      · by_cases hg : z.loud = ("again" : Str)
        · cases s
          case kept m t => by_cases h1 : m = a <;> cases ka <;> simp [act, hw, hg, h1]
          all_goals (cases ka <;> simp [act, hg, wa.symm])
        · cases s
          case kept m t => by_cases h1 : m = a <;> cases ka <;> simp [act, hw, hg, h1]
          all_goals (cases ka <;> simp [act, hw, hg])
    · have e2 : ¬ b = a := fun q => e q.symm
      by_cases hw : z.loud = ("wake" : Str)
      · cases s
        case kept m t => by_cases h1 : m = a <;> by_cases h2 : m = b <;> cases ka <;> cases kb <;> simp [act, hw, h1, h2, wa, e, e2]
        all_goals (cases ka <;> cases kb <;> simp [act, hw, wa, e, e2])
      · by_cases hg : z.loud = ("again" : Str)
        · cases s
          case kept m t => by_cases h1 : m = a <;> by_cases h2 : m = b <;> cases ka <;> cases kb <;> simp [act, hg, wa.symm, h1, h2, e, e2]
          all_goals (cases ka <;> cases kb <;> simp [act, hg, wa.symm, e, e2])
        · cases s
          case kept m t => by_cases h1 : m = a <;> by_cases h2 : m = b <;> cases ka <;> cases kb <;> simp [act, hw, hg, h1, h2, e, e2]
          all_goals (cases ka <;> cases kb <;> simp [act, hw, hg, e, e2])
  have h := key (kd (sortOf z a)) (kd (sortOf z b)) (fun e => by rw [e]) s
  simp only [← hear_act] at h
  exact h
end Hb
set_option Elab.async false
set_option linter.all false
set_option maxRecDepth 100000
set_option maxHeartbeats 8000000
namespace Hb
open PySem PySem.Spec PyProof.Rows L2
def InS (z : Zz) : S0 → Prop
  | .doz t => 1 ≤ t ∧ t ≤ z.doze
  | .stir t => 1 ≤ t ∧ t ≤ z.stir
  | .kept n a => (n, ("faint" : Str)) ∈ z.sorts ∧ 0 ≤ a ∧ a ≤ z.near
  | _ => True
theorem mem_states {z : Zz} {s : S0} : s ∈ states z ↔ InS z s := by
  unfold states
  rw [List.mem_append, List.mem_append, List.mem_append]
  constructor
  · rintro (((h | h) | h) | h)
    · simp only [List.mem_cons, List.not_mem_nil, or_false] at h
      rcases h with rfl | rfl | rfl <;> exact trivial
    · obtain ⟨i, hi, rfl⟩ := List.mem_map.mp h
      have := List.mem_range.mp hi
      exact ⟨by omega, by omega⟩
    · obtain ⟨i, hi, rfl⟩ := List.mem_map.mp h
      have := List.mem_range.mp hi
      exact ⟨by omega, by omega⟩
    · obtain ⟨p, hp, h⟩ := List.mem_flatMap.mp h
      obtain ⟨i, hi, rfl⟩ := List.mem_map.mp h
      obtain ⟨h1, h2⟩ := List.mem_filter.mp hp
      have h3 : p.2 = ("faint" : Str) := of_decide_eq_true h2
      have := List.mem_range.mp hi
      refine ⟨?_, by omega, by omega⟩
      rw [← h3]
      exact h1
  · intro h
    cases s with
    | up => exact .inl (.inl (.inl (by simp)))
    | asl => exact .inl (.inl (.inl (by simp)))
    | wok => exact .inl (.inl (.inl (by simp)))
    | doz t =>
      obtain ⟨h1, h2⟩ := h
      exact .inl (.inl (.inr (List.mem_map.mpr ⟨(t - 1).toNat, List.mem_range.mpr (by omega), by rw [show (1 : Int) + ((t - 1).toNat : Nat) = t by omega]⟩)))
    | stir t =>
      obtain ⟨h1, h2⟩ := h
      exact .inl (.inr (List.mem_map.mpr ⟨(t - 1).toNat, List.mem_range.mpr (by omega), by rw [show (1 : Int) + ((t - 1).toNat : Nat) = t by omega]⟩))
    | kept n a =>
      obtain ⟨h0, h1, h2⟩ := h
      exact .inr (List.mem_flatMap.mpr ⟨_, List.mem_filter.mpr ⟨h0, decide_eq_true rfl⟩, List.mem_map.mpr ⟨a.toNat, List.mem_range.mpr (by omega), by rw [show (0 : Int) + (a.toNat : Nat) = a by omega]⟩⟩)
section
variable {z : Zz} {ws : List Str} (zk : Zok z ws)
include zk
theorem Zok.zin : z.sorts.length ≤ 100 := Nat.le_trans zk.few (by decide)
theorem sort_mem {n x : Str} (h : sortOf z n = some x) : (n, x) ∈ z.sorts := by
  rw [sortOf_eq zk.nd] at h
  exact lookup_mem h
theorem InS.sok {s : S0} (h : InS z s) : s.ok := by
  cases s
  case kept n a => exact (Zok.ok zk _ h.1).1
  all_goals trivial
theorem InS.hear {n : Str} {s : S0} (h : InS z s) : InS z (Hb.hear z (sortOf z n) n s) := by
  have f : kd (sortOf z n) = .faint → (n, ("faint" : Str)) ∈ z.sorts := by
    intro e
    unfold kd at e
    split at e
    · cases e
    · split at e
      · cases e
      · split at e
        · cases e
        · split at e
          · rename_i q
            exact sort_mem zk q
          · cases e
  rw [hear_act]
  have d1 := zk.d1
  have s1 := zk.s1
  have n1 := zk.n1
  cases s with
  | up => cases kd (sortOf z n) <;> trivial
  | wok => cases kd (sortOf z n) <;> trivial
  | asl =>
    cases q : kd (sortOf z n)
    case faint => exact ⟨f q, by omega, by omega⟩
    case soft => exact ⟨by omega, by omega⟩
    all_goals trivial
  | kept m a =>
    cases q : kd (sortOf z n)
    case faint =>
      show InS z (if m = n then .kept n 0 else .wok)
      split
      · exact ⟨f q, by omega, by omega⟩
      · trivial
    case soft => exact ⟨by omega, by omega⟩
    case els => exact h
    all_goals trivial
  | doz t =>
    cases q : kd (sortOf z n)
    case loud =>
      show InS z (if z.loud = ("wake" : Str) then .wok else if z.loud = ("again" : Str) then .doz z.doze else .doz t)
      split
      · trivial
      · split
        · exact ⟨by omega, by omega⟩
        · exact h
    all_goals exact h
  | stir t =>
    cases q : kd (sortOf z n)
    case loud => trivial
    all_goals exact h
theorem InS.row : ∀ {ns : List Str} {s : S0}, InS z s → InS z (rowS z s ns)
  | [], _, h => h
  | n :: ns, _, h => InS.row (ns := ns) (InS.hear zk h)
theorem InS.tick {s : S0} (h : InS z s) : InS z (Hb.tick z s) := by
  have n1 := zk.n1
  cases s with
  | up => trivial
  | wok => trivial
  | asl => trivial
  | doz t =>
    show InS z (if 1 < t then .doz (t - 1) else .asl)
    split
    · exact ⟨by omega, by have := h.2; omega⟩
    · trivial
  | stir t =>
    show InS z (if 1 < t then .stir (t - 1) else .wok)
    split
    · exact ⟨by omega, by have := h.2; omega⟩
    · trivial
  | kept m a =>
    obtain ⟨h0, h1, h2⟩ := h
    show InS z (if a < z.near then .kept m (a + 1) else .asl)
    split
    · exact ⟨h0, by omega, by omega⟩
    · trivial
theorem InS.hum {s : S0} {x : Str} (h : InS z s) : InS z (Hb.hum z x s) ∧ (Hb.hum z x s).word ≠ "asleep" := by
  have d1 := zk.d1
  obtain ⟨q1, q2, q3, q4, q5, q6, q7, q8, q9, q10⟩ := words_ne
  by_cases e : s = .wok
  · subst e
    exact ⟨trivial, q9⟩
  · have e2 : Hb.hum z x s = if x = "up" then .up else .doz z.doze := by cases s <;> first | exact absurd rfl e | rfl
    rw [e2]
    split
    · exact ⟨trivial, q1.symm⟩
    · exact ⟨⟨by omega, by omega⟩, q5.symm⟩
end
/-- a noise twice is as once -/
theorem once (z : Zz) (a : Str) (s : S0) : rowS z s [a, a] = rowS z s [a] := by
  show hear z (sortOf z a) a (hear z (sortOf z a) a s) = hear z (sortOf z a) a s
  rw [hear_act, hear_act]
  have wa : ("wake" : Str) ≠ "again" := sorts_ne.2.2.2.2.2.2.symm
  generalize kd (sortOf z a) = k
  by_cases hw : z.loud = ("wake" : Str)
  · cases s
    case kept m t => by_cases h1 : m = a <;> cases k <;> simp [act, hw, h1, wa]
    all_goals (cases k <;> simp [act, hw, wa])
  · by_cases hg : z.loud = ("again" : Str)
    · cases s
      case kept m t => by_cases h1 : m = a <;> cases k <;> simp [act, hg, wa.symm, h1]
      all_goals (cases k <;> simp [act, hg, wa.symm])
    · cases s
      case kept m t => by_cases h1 : m = a <;> cases k <;> simp [act, hw, hg, h1]
      all_goals (cases k <;> simp [act, hw, hg])
theorem unheard_same (z : Zz) (a : Str) (s : S0) (h : sortOf z a = none) : hear z (sortOf z a) a s = s := by
  rw [h, hear_else ⟨by simp, by simp, by simp, by simp⟩]
theorem others_same (z : Zz) (a : Str) (s : S0) (h : sortOf z a = some ("sudden" : Str) ∨ sortOf z a = some ("faint" : Str) ∨ sortOf z a = some ("soft" : Str)) (w : s.word = "stirring" ∨ s.word = "dozing" ∨ s.word = "up") :
    hear z (sortOf z a) a s = s := by
  obtain ⟨q1, q2, q3, q4, q5, q6, q7, q8, q9, q10⟩ := words_ne
  have ns : s ≠ .asl := by rintro rfl; exact w.elim (fun w => q8 w.symm) fun w => w.elim (fun w => q5 w) fun w => q1 w
  have nk : ∀ m t, s ≠ .kept m t := by rintro m t rfl; exact w.elim (fun w => q8 w.symm) fun w => w.elim (fun w => q5 w) fun w => q1 w
  rcases h with h | h | h <;> rw [h]
  · rw [hear_sudden]; cases s <;> first | exact absurd rfl ns | exact absurd rfl (nk _ _) | rfl
  · rw [hear_faint]; cases s <;> first | exact absurd rfl ns | exact absurd rfl (nk _ _) | rfl
  · rw [hear_soft]; cases s <;> first | exact absurd rfl ns | exact absurd rfl (nk _ _) | rfl
/-- a longer stirring is woken no sooner -/
theorem longer (z : Zz) (t : Int) (a : Str) (s : S0) (h : hear { z with stir := t } (sortOf { z with stir := t } a) a s = .wok) : hear z (sortOf z a) a s = .wok := by
  have e : sortOf { z with stir := t } a = sortOf z a := rfl
  rw [e, hear_act] at h
  rw [hear_act]
  revert h
  generalize kd (sortOf z a) = k
  cases k <;> cases s <;> simp [act]
end Hb
set_option Elab.async false
set_option linter.all false
set_option maxRecDepth 100000
set_option maxHeartbeats 4000000
namespace Hb
open PySem PySem.Spec PyProof.Rows L2
section
variable {K : PySem.W.Frag} {H : Hp} {x y : V} {s t : S0} {Q : VK}
theorem ne_st (hx : StAt K H x s) (hy : StAt K H y t) (os : s.ok) (ot : t.ok) (q : Q (.bl (!decide (s = t))) H) : rNeD K x y H Q :=
  ⟨_, _, TD.dp hx.td, TD.dp hy.td, (S0.shp os).shaped, (S0.shp ot).shaped, by rw [eqv_st]; exact q⟩
theorem eq_st (hx : StAt K H x s) (hy : StAt K H y t) (os : s.ok) (ot : t.ok) (q : Q (.bl (decide (s = t))) H) : rEqD K x y H Q :=
  ⟨_, _, TD.dp hx.td, TD.dp hy.td, (S0.shp os).shaped, (S0.shp ot).shaped, by rw [eqv_st]; exact q⟩
theorem notin_st {S : Addr} {us : List V} {ss : List S0} (hx : StAt K H x s) (os : s.ok) (hS : H S = some (.lst us)) (hs : SsAt K H us ss) (ok : ∀ s ∈ ss, s.ok) (q : Q (.bl (!decide (s ∈ ss))) H) : rNotInD K x (.ref S) H Q :=
  ⟨_, _, TD.dp hx.td, .lst (SqL.of hS) (TDs.dp hs.td), (S0.shp os).shaped, shaped_sts ok, by rw [any_st]; exact q⟩
end
theorem hear_ok {z : Zz} {so : Option Str} {n : Str} {s : S0} (h : s.ok) (hn : PyData.strOk n = true) : (hear z so n s).ok := by
  rw [hear_act]
  generalize kd so = k
  cases s with
  | kept m t =>
    cases k with
    | faint =>
      show (if m = n then S0.kept n 0 else S0.wok).ok
      split
      · exact hn
      · trivial
    | els => exact h
    | soft => trivial
    | loud => trivial
    | sudden => trivial
  | asl => cases k <;> first | exact hn | trivial
  | doz t =>
    cases k with
    | loud =>
      show (if z.loud = ("wake" : Str) then S0.wok else if z.loud = ("again" : Str) then S0.doz z.doze else S0.doz t).ok
      split
      · trivial
      · split <;> trivial
    | soft => trivial
    | faint => trivial
    | sudden => trivial
    | els => trivial
  | up => cases k <;> trivial
  | wok => cases k <;> trivial
  | stir t => cases k <;> trivial
theorem str_mem_map {x : Str} {xs : List Str} (h : x ∈ xs) : V.str x ∈ xs.map V.str := List.mem_map.mpr ⟨x, h, rfl⟩
end Hb
set_option Elab.async false
set_option linter.all false
set_option maxRecDepth 100000
set_option maxHeartbeats 4000000
namespace Hb
open PySem PySem.Spec PyProof.Rows L2
/-! ### houses -/
def nzD : Option Str → PyData
  | none => .none
  | some n => .str n
def nzV : Option Str → V
  | none => .non
  | some n => .str n
abbrev Dr := Int × Int × Option Str
abbrev Fl := Int × Str
structure Hz where
  rooms : Int
  doors : List Dr
  floors : List Fl
  cradles : List Int
def encD (x : Dr) : PyData := .tuple [.int x.1, .int x.2.1, nzD x.2.2]
def encF (x : Fl) : PyData := .tuple [.int x.1, .str x.2]
def encH (h : Hz) : PyData := .tuple [.int h.rooms, .tuple (h.doors.map encD), .tuple (h.floors.map encF), .tuple (h.cradles.map PyData.int)]
section
variable {K : PySem.W.Frag} {H : Hp}
theorem TD.nz_inv {v : V} {n : Option Str} (h : TD K H v (nzD n)) : v = nzV n := by
  cases n with
  | none => cases h; rfl
  | some n => cases h; rfl
theorem TD.nz (n : Option Str) : TD K H (nzV n) (nzD n) := by
  cases n with
  | none => exact .non
  | some n => exact .str n
theorem TD.door_inv {v : V} {x : Dr} (h : TD K H v (encD x)) : ∃ t, v = .ref t ∧ SqT K H t [.int x.1, .int x.2.1, nzV x.2.2] := by
  obtain ⟨t, ys, e, h1, h2⟩ := TD.tup_inv h
  obtain ⟨v1, w1, rfl, a1, h3⟩ := TDs.cons_inv h2
  obtain ⟨v2, w2, rfl, a2, h4⟩ := TDs.cons_inv h3
  obtain ⟨v3, w3, rfl, a3, h5⟩ := TDs.cons_inv h4
  obtain rfl := TDs.nil_inv h5
  rw [TD.int_inv a1, TD.int_inv a2, TD.nz_inv a3] at h1
  exact ⟨t, e, h1⟩
theorem TD.floor_inv {v : V} {x : Fl} (h : TD K H v (encF x)) : ∃ t, v = .ref t ∧ SqT K H t [.int x.1, .str x.2] := by
  obtain ⟨t, ys, e, h1, h2⟩ := TD.tup_inv h
  obtain ⟨v1, w1, rfl, a1, h3⟩ := TDs.cons_inv h2
  obtain ⟨v2, w2, rfl, a2, h4⟩ := TDs.cons_inv h3
  obtain rfl := TDs.nil_inv h4
  rw [TD.int_inv a1, TD.str_inv a2] at h1
  exact ⟨t, e, h1⟩
theorem TD.door {t : Addr} {x : Dr} (h : SqT K H t [.int x.1, .int x.2.1, nzV x.2.2]) : TD K H (.ref t) (encD x) := .tup h (.cons (.int _) (.cons (.int _) (.cons (TD.nz _) .nil)))
theorem TD.floor {t : Addr} {x : Fl} (h : SqT K H t [.int x.1, .str x.2]) : TD K H (.ref t) (encF x) := .tup h (.cons (.int _) (.cons (.str _) .nil))
theorem TDs.at_map {α : Type} {enc : α → PyData} {vs : List V} {xs : List α} {i : Nat} {v : V} (h : TDs K H vs (xs.map enc)) (e : vs[i]? = some v) : ∃ x, xs[i]? = some x ∧ TD K H v (enc x) := by
  obtain ⟨d, h1, h2⟩ := TDs.at h e
  rw [List.getElem?_map] at h1
  obtain ⟨p, h3, h4⟩ := Option.map_eq_some_iff.mp h1
  subst h4
  exact ⟨p, h3, h2⟩
end
structure HIs (K : PySem.W.Frag) (H : Hp) (p : Addr) (h : Hz) (a b c : Addr) (xs ys : List V) : Prop where
  all : SqT K H p [.int h.rooms, .ref a, .ref b, .ref c]
  da : SqT K H a xs
  dx : TDs K H xs (h.doors.map encD)
  fb : SqT K H b ys
  fx : TDs K H ys (h.floors.map encF)
  cc : SqT K H c (h.cradles.map V.int)
def HOne (K : PySem.W.Frag) (H : Hp) (p : Addr) (h : Hz) : Prop := TD K H (.ref p) (encH h)
theorem HOne.inv {K : PySem.W.Frag} {H : Hp} {p : Addr} {h : Hz} (x : HOne K H p h) : ∃ a b c xs ys, HIs K H p h a b c xs ys := by
  obtain ⟨t, ws, e, h1, h2⟩ := TD.tup_inv x
  cases e
  obtain ⟨v1, w1, rfl, a1, h3⟩ := TDs.cons_inv h2
  obtain ⟨v2, w2, rfl, a2, h4⟩ := TDs.cons_inv h3
  obtain ⟨v3, w3, rfl, a3, h5⟩ := TDs.cons_inv h4
  obtain ⟨v4, w4, rfl, a4, h6⟩ := TDs.cons_inv h5
  obtain rfl := TDs.nil_inv h6
  obtain rfl := TD.int_inv a1
  obtain ⟨a, xs, rfl, s1, s2⟩ := TD.tup_inv a2
  obtain ⟨b, ys, rfl, s3, s4⟩ := TD.tup_inv a3
  obtain ⟨c, zs, rfl, s5, s6⟩ := TD.tup_inv a4
  obtain rfl := TDs.ints_inv s6
  exact ⟨a, b, c, xs, ys, h1, s1, s2, s3, s4, s5⟩
theorem HIs.one {K : PySem.W.Frag} {H : Hp} {p : Addr} {h : Hz} {a b c : Addr} {xs ys : List V} (x : HIs K H p h a b c xs ys) : HOne K H p h :=
  .tup x.all (.cons (.int _) (.cons (.tup x.da x.dx) (.cons (.tup x.fb x.fx) (.cons (.tup x.cc (tds_ints _)) .nil))))
def inR (r v : Int) : Prop := 0 ≤ v ∧ v < r
def DrOk (r : Int) (x : Dr) : Prop := inR r x.1 ∧ inR r x.2.1 ∧ x.1 ≠ x.2.1 ∧ ∀ n, x.2.2 = some n → nameB n = true
def FlOk (r : Int) (x : Fl) : Prop := inR r x.1 ∧ nameB x.2 = true
/-- what may be handed to House -/
structure Hin (h : Hz) : Prop where
  r1 : 1 ≤ h.rooms
  d : ∀ x ∈ h.doors, DrOk h.rooms x
  f : ∀ x ∈ h.floors, FlOk h.rooms x
  fnd : (h.floors.map Prod.fst).Nodup
  c : ∀ x ∈ h.cradles, inR h.rooms x
  cnd : h.cradles.Nodup
  fewd : h.doors.length ≤ 1000
  fewf : h.floors.length ≤ 1000
  fewc : h.cradles.length ≤ 1000
def sortF (xs : List Fl) : List Fl := xs.mergeSort (PySem.W.dataLe false encF)
def sortI (xs : List Int) : List Int := xs.mergeSort (PySem.W.dataLe false PyData.int)
theorem sortF_perm (xs : List Fl) : (sortF xs).Perm xs := List.mergeSort_perm _ _
theorem sortI_perm (xs : List Int) : (sortI xs).Perm xs := List.mergeSort_perm _ _
def hFs (a b c : Addr) (h : Hz) : List (Str × V) := [("rooms", .int h.rooms), ("doors", .ref a), ("floors", .ref b), ("cradles", .ref c)]
/-- an object of House -/
def HAt (K : PySem.W.Frag) (C : Addr) (H : Hp) (p : Addr) (h : Hz) : Prop := ∃ dx a b c xs ys, H p = some (.ins C dx (hFs a b c h)) ∧ SqT K H a xs ∧ TDs K H xs (h.doors.map encD) ∧ SqT K H b ys ∧ TDs K H ys ((sortF h.floors).map encF) ∧ SqT K H c ((sortI h.cradles).map V.int)
theorem HAt.keep {K : PySem.W.Frag} {C : Addr} {H H' : Hp} {p : Addr} {h : Hz} (x : HAt K C H p h) (k : TK H H') (e : ∀ o, H p = some o → H' p = some o) : HAt K C H' p h := by
  obtain ⟨dx, a, b, c, xs, ys, h1, h2, h3, h4, h5, h6⟩ := x
  exact ⟨dx, a, b, c, xs, ys, e _ h1, SqT.keep k h2, TDs.keep k h3, SqT.keep k h4, TDs.keep k h5, SqT.keep k h6⟩
theorem HAt.same {K : PySem.W.Frag} {C : Addr} {H H' : Hp} {p : Addr} {h : Hz} (x : HAt K C H p h) (s : Same H H') : HAt K C H' p h := x.keep (Same.tk s) fun o e => s _ _ e
theorem HAt.kp {K : PySem.W.Frag} {C d g : Addr} {H H' : Hp} {p : Addr} {h : Hz} (x : HAt K C H p h) (dl : Deal d g H) (k : Kp d g H H') : HAt K C H' p h := by
  have x2 := x
  obtain ⟨dx, a, b, c, xs, ys, h1, _⟩ := x2
  exact x.keep (dl.tk k) fun o e => k _ _ (dl.ne_d h1 (by intro kvs e; cases e)) (dl.ne_g h1 (by intro xs e; cases e)) e
/-! sorting of what is held in places -/
theorem zip_tdE {K : PySem.W.Frag} {H : Hp} {α : Type} {enc : α → PyData} : ∀ {xs : List V} {ps : List α}, TDs K H xs (ps.map enc) → ∀ z ∈ xs.zip ps, TD K H z.1 (enc z.2)
  | _, [], h => by
    obtain rfl := TDs.nil_inv h
    intro z hz
    cases hz
  | _, p :: ps, h => by
    obtain ⟨v, w, rfl, h1, h2⟩ := TDs.cons_inv h
    intro z hz
    rcases List.mem_cons.mp hz with rfl | hz
    · exact h1
    · exact zip_tdE h2 z hz
theorem tdE_zip {K : PySem.W.Frag} {H : Hp} {α : Type} {enc : α → PyData} : ∀ {zs : List (V × α)}, (∀ z ∈ zs, TD K H z.1 (enc z.2)) → TDs K H (zs.map (·.1)) ((zs.map (·.2)).map enc)
  | [], _ => .nil
  | z :: zs, h => .cons (h z List.mem_cons_self) (tdE_zip fun y hy => h y (List.mem_cons_of_mem _ hy))
theorem sort_zipE {α : Type} (enc : α → PyData) (zs : List (V × α)) : (zs.mergeSort (PySem.W.dataLe false fun z => enc z.2)).map (·.2) = (zs.map (·.2)).mergeSort (PySem.W.dataLe false enc) :=
  PySem.W.sort_maps (fun z : V × α => z.2) fun _ _ _ _ => rfl
theorem alike_F (p q : Fl) : PySem.W.alike (encF p) (encF q) = true := by simp [encF, PySem.W.alike, PySem.W.alikeAll]
theorem depth_F (p : Fl) : (encF p).depth ≤ 60 := by simp [encF, PyData.depth, PyData.depthAll]
end Hb
set_option Elab.async false
set_option linter.all false
set_option maxRecDepth 100000
set_option maxHeartbeats 8000000
namespace Hb
open PySem PySem.Spec PyProof.Rows L2
/-- len(set(xs)), xs a list of unlike texts, or a list or a tuple of unlike ints -/
def tLenSet3 (K : PySem.W.Frag) (ta : TE) : TE := fun σ H Q => ta σ H fun x H1 => ∃ l : Addr, x = .ref l ∧
  ((∃ xs : List Str, SqL K H1 l (xs.map V.str) ∧ xs.Nodup ∧ xs.length ≤ 4000 ∧ Q (.int xs.length) H1) ∨ ∃ ns : List Int, (SqL K H1 l (ns.map V.int) ∨ SqT K H1 l (ns.map V.int)) ∧ ns.Nodup ∧ ns.length ≤ 4000 ∧ Q (.int ns.length) H1)
theorem pe_lenSet3 {X : Cx} {a : Expr} {ta : TE} {p p2 q pos : Pos} (hg : Gl X "len") (hm : X.mg "len" = none) (hg2 : Gl X "set") (hm2 : X.mg "set" = none) (ha : PE X a ta) (calm : X.calm = true := by rfl)
    (na : starEach [a] X.env = (false, eval a X.env) :: starEach [] X.env := by rfl) : PE X (.Call (.Name "len" p) [.Call (.Name "set" p2) [a] [] q] [] pos) (tLenSet3 X.K ta) := by
  refine ⟨fun pins s σ H Q I h => Call_ (ld_blt I hg hm boot_len (callWith_builtin1 (args_cons (Call_ (ld_blt I hg2 hm2 boot_set
    (callWith_type1 (args_cons (thn (ha.run pins s σ H _ I h) fun v z ⟨x, H1, J, r, q⟩ => args_nil ?_) na) na rfl))) rfl) rfl rfl))⟩
  obtain ⟨l, rfl, q⟩ := q
  cases r
  have fin : ∀ (n : Nat) (h' : Heap) (tk : Nat) (κ : Type) (i1 : DecidableEq κ) (i2 : BEq κ) (i3 : LawfulBEq κ) (kd : KeyKind X.prog X.w κ) (S : κ → Bool), n ≤ 4000 → h'.SetOf kd z.heap.objs.size S n → (∀ b o, z.heap.get? b = some o → h'.get? b = some o) → Q (.int n) H1 →
      wpAny (model X.prog X.w) X.A (spliced (backTo pos (starEach [] X.env))) (fun vs y => wpAny (model X.prog X.w) X.A (call (.builtin "len") (Value.ref z.heap.objs.size :: vs)) (EP X pins σ Q) X.xe y) X.xe { z with heap := h', toks := tk } := by
    intro n h' tk κ i1 i2 i3 kd S hn hS hk q
    refine args_nil ?_
    obtain ⟨o, es, ep, t, ho, hex, hd, _, _, _, hf, e⟩ := hS
    have J2 : Inv X pins σ H1 { z with heap := h', toks := tk } := J.kept hk
    exact call_len_set ho hex hd hf (by rw [e] <;> omega) ⟨.int n, H1, J2.tok _, ⟨_, by rw [e]⟩, q⟩
  rcases q with ⟨xs, hq, nd, few, q⟩ | ⟨ns, hq, nd, few, q⟩
  · obtain ⟨its, r, pl, hz⟩ := J.list hq
    exact set_texts (J.ok.hd calm) pl.isList (by simpa using strsAre_of r) nd (by unfold scanBound; omega) fun h' tk hS hk => fin _ h' tk _ inferInstance inferInstance inferInstance _ _ few hS hk q
  · rcases hq with hq | hq
    · obtain ⟨its, r, pl, hz⟩ := J.list hq
      have size : its.toArray.size = ns.length := by rw [List.size_toArray, ← r.length, List.length_map]
      refine call_set_list (J.ok.hd calm) pl.isList (by simpa using RZ.intsAre_vals r) (by rw [size]; unfold scanBound; omega) fun h' tk hS hk => ?_
      rw [size, RZ.firstMet_nodup nd ns.length (Nat.le_refl _)] at hS
      rw [List.take_length] at hS
      exact fin _ h' tk _ inferInstance inferInstance inferInstance _ _ few hS (fun b o e => hk b o (Heap.lt_size e) e) q
    · obtain ⟨its, r, pl, hz⟩ := J.tuple hq
      refine L2.call_set_tupI ns (J.ok.hd calm) (show z.heap.IsTuple l its.toArray from pl) (by simpa using RZ.intsAre_vals r) (by unfold scanBound; omega) fun h' tk c hS hc hk => ?_
      obtain ⟨o, es, ep, t, ho, hex, hd, _, kn, ks, _, hf, e, _⟩ := hS
      have pm : (es.toList.map L2.keyOf).Perm ns := (List.perm_ext_iff_of_nodup kn nd).mpr fun k => by rw [← ks k, decide_eq_true_iff]
      have n1 : es.size = ns.length := by have q := pm.length_eq; rw [List.length_map, Array.length_toList] at q; exact q
      refine args_nil ?_
      have J2 : Inv X pins σ H1 { z with heap := h', toks := tk } := J.kept hk
      exact call_len_set ho hex hd hf (by rw [n1] <;> omega) ⟨.int ns.length, H1, J2.tok _, ⟨_, by rw [n1]⟩, q⟩
end Hb
set_option Elab.async false
set_option linter.all false
set_option maxRecDepth 100000
set_option maxHeartbeats 4000000
namespace Hb
open PySem PySem.Spec PyProof.Rows L2
section
variable {P : Program} {w : World} {K : PySem.W.Frag} {mg : Str → Option Value} {base : Heap}
/-- a class whose __init__ has j + 1 defaults, every argument written -/
def Df1d (K : PySem.W.Frag) (mg : Str → Option Value) (C qual : Str) (st : Stmt) (j : Nat) : Prop := Mk K (He.ga K C) (He.ma K (He.ga K C) "__init__") ∧ mg C = some (.ref (He.ga K C)) ∧
  ∃ fd dvs, dvs.length = j + 1 ∧ FunD K "__init__" qual (defArgs st) (defBody st) (defScope st) dvs [] (He.ma K (He.ga K C) "__init__") fd
theorem mak_mkD {C qual : Str} {st : Stmt} {N ps : List Str} {k j : Nat} {sp : Sp} (D : Df1d K mg C qual st j) (S : FnScope N ps (defScope st))
    (bd : ∀ (T : Addr) (kV doc pm : Value) (an : Option Addr) (cdv ct : Value) (us its : List Value), us.length = ps.length → its.length = j + 1 →
      ∃ k, bindArgs (PySem.W.fnOf "__init__" qual (defArgs st) (defBody st) (defScope st) (.ref T) kV doc pm an cdv ct) ⟨us, []⟩ = seqItems? (.ref T) >>= k ∧ k (some its.toArray) = pure (ps.zip us))
    (len : ∀ vs H Q E, sp vs H Q E → vs.length = ps.length)
    (hbody : ∀ (f : Addr) (cdv : Value) (A : Around) (outer : List Env) (s : Shared) (H : Hp) (vs : List V) (Q : VK) (E : XK), Room k (A.deeper (envOfC qual (defScope st) s.heap.objs.size f cdv)) → sp vs H Q E →
      ∃ t, PSs (cxOf CX0 P w K mg base N qual (defScope st) f cdv A outer s H E).nox (defBody st) t ∧ t { nx := fun _ H' => Q .non H', rt := Q } (start N vs) H) : C8.Mak P w K mg base (k + 1) C (He.ga K C) sp [] := by
  obtain ⟨M, hm, fd, dvs, dl, F⟩ := D
  obtain ⟨ds, r, b⟩ := F.binds1 ps.length (j + 1) (by intro e; rw [e] at dl; cases dl) (by rw [dl, Nat.sub_self, Nat.add_zero]) fun T kV doc pm an cdv ct us its h1 h2 => by
    obtain ⟨k, e1, e2⟩ := bd T kV doc pm an cdv ct us its h1 (by rw [h2, dl])
    exact ⟨k, e1, by rw [e2, List.drop_of_length_le (by rw [h2, dl] <;> exact Nat.le_refl _), List.append_nil]⟩
  rw [List.drop_of_length_le (by rw [dl] <;> exact Nat.le_refl _)] at r
  cases r
  exact ⟨⟨_, fd, ps, [], M, F.ok S len fun cdv A outer s H vs Q E hr h => by
    obtain ⟨t, h1, h2⟩ := hbody _ cdv A outer s H vs Q E hr h
    exact ⟨t, h1.nox, h2⟩, hm, b, .nil⟩⟩
end
end Hb
namespace Hb
open PySem PySem.Spec PyProof.Rows L2
/-- all but the object at x stays -/
def KX (x : Addr) (H H' : Hp) : Prop := ∀ b o, b ≠ x → H b = some o → H' b = some o
theorem KX.refl (x : Addr) (H : Hp) : KX x H H := fun _ _ _ e => e
theorem KX.trans {x : Addr} {H H1 H2 : Hp} (a : KX x H H1) (b : KX x H1 H2) : KX x H H2 := fun c o n e => b c o n (a c o n e)
theorem Same.kx {x : Addr} {H H' : Hp} (s : Same H H') : KX x H H' := fun b o _ e => s b o e
theorem KX.put {x : Addr} {H : Hp} {o : HO} : KX x H (upd H x o) := fun b u n e => by rw [upd_ne n]; exact e
section
variable {K : PySem.W.Frag} {H H' : Hp} {x C dx a : Addr} {fs : List (Str × V)} {xs : List V}
theorem KX.tk (k : KX x H H') (e : H x = some (.ins C dx fs)) : TK H H' :=
  ⟨fun b ys h => k b _ (by rintro rfl; rw [e] at h; cases h) h, fun b o u h => k b _ (by rintro rfl; rw [e] at h; cases h) h⟩
theorem KX.seq (k : KX x H H') (e : H x = some (.ins C dx fs)) (h : SqL K H a xs) : SqL K H' a xs :=
  SqL.keep (k.tk e) h fun q => k a _ (by rintro rfl; rw [e] at q; cases q) q
end
end Hb
set_option Elab.async false
set_option linter.all false
set_option maxRecDepth 100000
set_option maxHeartbeats 4000000
namespace Hb
open PySem PySem.Spec PyProof.Rows L2
/-- a drawn house -/
structure Hok (h : Hz) (r m : Int) (ws : List Str) : Prop where
  r1 : 1 ≤ h.rooms
  r2 : h.rooms ≤ r
  d : ∀ x ∈ h.doors, inR h.rooms x.1 ∧ inR h.rooms x.2.1 ∧ x.1 ≠ x.2.1 ∧ ∀ n, x.2.2 = some n → n ∈ ws
  dm : (h.doors.length : Int) ≤ m
  f : ∀ x ∈ h.floors, inR h.rooms x.1 ∧ x.2 ∈ ws
  fs : (h.floors.map Prod.fst).Pairwise (· < ·)
  fm : (h.floors.length : Int) ≤ h.rooms
  c : ∀ x ∈ h.cradles, inR h.rooms x
  cs : h.cradles.Pairwise (· < ·)
  cm : (h.cradles.length : Int) ≤ h.rooms
theorem nodup_of_lt {xs : List Int} (h : xs.Pairwise (· < ·)) : xs.Nodup := h.imp fun {a b} q e => by subst e; exact absurd q (Int.lt_irrefl _)
theorem Hok.hin {h : Hz} {r m : Int} {ws : List Str} (x : Hok h r m ws) (hr : r ≤ 1000) (hm : m ≤ 1000) (hw : ∀ w ∈ ws, nameB w = true) : Hin h :=
  ⟨x.r1, fun y hy => by obtain ⟨a, b, c, e⟩ := x.d y hy; exact ⟨a, b, c, fun n hn => hw n (e n hn)⟩, fun y hy => ⟨(x.f y hy).1, hw _ (x.f y hy).2⟩, nodup_of_lt x.fs, x.c, nodup_of_lt x.cs,
    by have := x.dm; omega, by have := x.fm; have := x.r2; omega, by have := x.cm; have := x.r2; omega⟩
theorem perm_td {K : PySem.W.Frag} {H : Hp} {α : Type} {enc : α → PyData} {ys vs : List V} (h : ys.Perm vs) : ∀ {ds : List α}, TDs K H vs (ds.map enc) → ∃ es : List α, es.Perm ds ∧ TDs K H ys (es.map enc) := by
  induction h with
  | nil => exact fun {ds} t => ⟨ds, .refl _, t⟩
  | cons x p ih =>
    intro ds t
    cases ds with
    | nil => cases t
    | cons d ds =>
      obtain ⟨v, w, e, t1, t2⟩ := TDs.cons_inv t
      cases e
      obtain ⟨es, pe, te⟩ := ih t2
      exact ⟨d :: es, pe.cons d, .cons t1 te⟩
  | swap x y l =>
    intro ds t
    match ds, t with
    | [], t => cases t
    | [d], t =>
      obtain ⟨v, w, e, t1, t2⟩ := TDs.cons_inv t
      cases e
      cases t2
    | d :: d2 :: ds, t =>
      obtain ⟨v, w, e, t1, t2⟩ := TDs.cons_inv t
      cases e
      obtain ⟨v, w, e, t3, t4⟩ := TDs.cons_inv t2
      cases e
      exact ⟨d2 :: d :: ds, .swap _ _ _, .cons t3 (.cons t1 t4)⟩
  | trans p q ih1 ih2 =>
    intro ds t
    obtain ⟨es, pe, te⟩ := ih2 t
    obtain ⟨fs, pf, tf⟩ := ih1 te
    exact ⟨fs, pf.trans pe, tf⟩
theorem shp_door {x : Dr} (h : ∀ n, x.2.2 = some n → PyData.strOk n = true) : Shp (encD x) := by
  refine shp_tup fun d hd => ?_
  simp only [List.mem_cons, List.not_mem_nil, or_false] at hd
  rcases hd with rfl | rfl | rfl
  · exact ⟨by simp [PyData.canLay0], by simp [PyData.depth]⟩
  · exact ⟨by simp [PyData.canLay0], by simp [PyData.depth]⟩
  · cases e : x.2.2 with
    | none => exact ⟨by simp [nzD, PyData.canLay0], by simp [nzD, PyData.depth]⟩
    | some n => exact ⟨by simp only [nzD, PyData.canLay0]; exact h n e, by simp [nzD, PyData.depth]⟩
end Hb
namespace Hb
open PySem PySem.Spec PyProof.Rows L2
theorem Kp.acc {d g : Addr} {H H' : Hp} {D : Addr} {o : HO} (k : Kp d g H H') (n : H D = none) : Kp d g H (upd H' D o) := fun b u n1 n2 e => by
  rw [upd_ne (ne_of_none e n)]
  exact k b u n1 n2 e
theorem perm_two {α : Type} {ys : List α} {x y : α} (h : ys.Perm [x, y]) : ys = [x, y] ∨ ys = [y, x] := by
  have l := h.length_eq
  match ys, l with
  | [a, b], _ =>
    have m : a ∈ [x, y] := h.mem_iff.mp (by simp)
    simp only [List.mem_cons, List.not_mem_nil, or_false] at m
    rcases m with rfl | rfl
    · have q := (List.perm_cons a).mp h
      have e := List.perm_singleton.mp q
      rw [e]; exact .inl rfl
    · have h2 : [a, b].Perm [a, x] := h.trans (List.Perm.swap _ _ _)
      have q := (List.perm_cons a).mp h2
      have e := List.perm_singleton.mp q
      rw [e]; exact .inr rfl
theorem good_int {K : PySem.W.Frag} {H : Hp} (i : Int) : Good K H (.int i) := ⟨.int i, .int i, by simp [PyData.canLay0], by simp [PyData.depth]⟩
/-- a door's noise, as it is picked -/
theorem noise_of {ws : List Str} {v : V} (h : v ∈ ws.map V.str ++ [V.non]) : ∃ n : Option Str, v = nzV n ∧ ∀ w, n = some w → w ∈ ws := by
  rcases List.mem_append.mp h with h | h
  · obtain ⟨w, hw, rfl⟩ := List.mem_map.mp h
    exact ⟨some w, rfl, fun w' e => by cases e; exact hw⟩
  · rw [List.mem_singleton.mp h]
    exact ⟨none, rfl, fun w e => by cases e⟩
def DrW (r : Int) (ws : List Str) (x : Dr) : Prop := inR r x.1 ∧ inR r x.2.1 ∧ x.1 ≠ x.2.1 ∧ ∀ n, x.2.2 = some n → n ∈ ws
end Hb
namespace Hb
open PySem PySem.Spec PyProof.Rows L2
end Hb
set_option Elab.async false
set_option linter.all false
set_option maxRecDepth 100000
set_option maxHeartbeats 4000000
namespace Hb
open PySem PySem.Spec PyProof.Rows L2
theorem rg_mem {M : Int} {v : V} (h : v ∈ rgV 0 M) : ∃ A : Int, v = .int A ∧ inR M A := by
  obtain ⟨i, hi, rfl⟩ := List.mem_map.mp h
  have := List.mem_range.mp hi
  exact ⟨_, rfl, by omega, by omega⟩
theorem rg_nodup (M : Int) : (rgV 0 M).Nodup := by
  unfold rgV
  refine List.Pairwise.map _ (fun a b h e => h ?_) List.nodup_range
  injection e with e
  omega
theorem take_two {ys : List V} {M : Int} (pm : ys.Perm (rgV 0 M)) (h : 2 ≤ M) : ∃ A B : Int, ys.take 2 = [.int A, .int B] ∧ inR M A ∧ inR M B ∧ A ≠ B := by
  have l := pm.length_eq
  rw [rgV_length] at l
  have nd := pm.nodup_iff.mpr (rg_nodup M)
  match ys, l with
  | [], l => exact absurd l (by simp; omega)
  | [x], l => exact absurd l (by simp; omega)
  | x :: y :: r, _ =>
    obtain ⟨A, rfl, a⟩ := rg_mem (pm.mem_iff.mp (List.mem_cons_self (a := x)))
    obtain ⟨B, rfl, b⟩ := rg_mem (pm.mem_iff.mp (List.mem_cons_of_mem _ (List.mem_cons_self (a := y))))
    refine ⟨A, B, rfl, a, b, fun e => ?_⟩
    subst e
    exact (List.nodup_cons.mp nd).1 List.mem_cons_self
end Hb
set_option Elab.async false
set_option linter.all false
set_option maxRecDepth 100000
set_option maxHeartbeats 4000000
/-! == by a def of the class, whatever stands at its right. -/
namespace Hb
open PySem PySem.Spec PyProof.Rows L2
/-- the class at C has an __eq__ of its own -/
structure EqOf (P : Program) (w : World) (K : PySem.W.Frag) (mg : Str → Option Value) (base : Heap) (k : Nat) (C : Addr) (sp : Sp) : Prop where
  ex : ∃ (f : Addr) (fd : FuncData) (ps : List Str), PySem.W.findIn K (.ref C) "__eq__" = some (some (.ref f)) ∧ PySem.W.isFn K (.ref f) = true ∧ FnOk P w K mg base CX0 k f fd ps sp ∧ Binds K fd ps []
/-- x == y, x of the class at C, y of a type that is known and not below C -/
def rEqOwn (K : PySem.W.Frag) (C : Addr) (sp : Sp) : R2 := fun x y H Q => ∃ (a dx : Addr) (fs : List (Str × V)) (tb : Value), x = .ref a ∧ H a = some (.ins C dx fs) ∧ TyX K H y tb ∧ PySem.W.notFirst K C tb = true ∧ sp [x, y] H Q C8.E0
section
variable {X : Cx} {C : Addr} {k j : Nat} {sp : Sp}
theorem op_eqOwn (c : EqOf X.prog X.w X.K X.mg X.base k C sp) (hr : Room j X.A) (hk : k ≤ j) : OpR X (compareOp .Eq) (rEqOwn X.K C sp) := by
  intro pins s σ H x y v u Q I rx ry h
  obtain ⟨f, fd, ps, hs, hf, F, hb⟩ := c.ex
  obtain ⟨a, dx, fs, tb, rfl, ha, ty, nf, q⟩ := h
  cases (show v = Value.ref a from rx)
  obtain ⟨mA, J, _⟩ := ins_get I.hok ha
  obtain ⟨od, J, _⟩ := J.look
  obtain ⟨m, hF⟩ := I.fr
  obtain ⟨Ph, kit, hP, _⟩ := kit_of I ry ty
  have hj := hr.mono hk
  show wpAny _ _ (richCompare .Eq (.ref a) u) _ _ _
  refine PySem.W.cmp_K (op := .Eq) (tb := tb) hj.units0 hF I.ok.mod.kin J (kit.ty _ _ I.kIn hP) nf hs hf ?_
  refine wpAny_mono (L2.run_fn (dvs := []) (ds := []) F hj hb .nil C8.pass0 I (us := [.ref a, u]) (vs := [.ref a, y]) (.cons rfl (.cons ry .nil)) (by simpa using q)) (fun w s' z => ?_) fun _ _ e => e
  obtain ⟨z', H', I', rz, qz⟩ := z
  exact SlX.cmpback rz ⟨z', H', I', rz, qz⟩
end
section
variable {prog : Program} {w : World} {A : Around} {E : Value → Shared → Prop} {s : Shared} {K : PySem.W.Frag} {x C f : Addr} {b : Value} {ox : Obj} {od : Option Obj}
/-- object's != asks the class's own == -/
theorem ne_body {Q : Fin → Shared → Prop} (hu : A.units < cLine) (X : K.In s.heap) (I : PySem.W.InstAt s.heap x ox C od) (hs : PySem.W.findIn K (.ref C) "__eq__" = some (some (.ref f))) (hf : PySem.W.isFn K (.ref f) = true)
    (h : wpAny (model prog w) A (call (.ref f) [.ref x, b]) (fun v s' => ∃ c, v = .bool c ∧ Q (.done (.ret (.bool (!c)))) s') E s) : wpAny (model prog w) A (Builtin.«object.__ne__» ⟨[.ref x, b], []⟩) Q E s := by
  unfold Builtin.«object.__ne__»
  repeat (first
    | (with_reducible refine wpAny_cRoomFor hu ?_)
    | (refine wpAny_bind (m := callSpecialIfBound? (.ref x) (Str.ofString "__eq__") [b]) (PySem.W.ifBound_K X I hs hf (wpAny_mono h (fun v z hv => by
        obtain ⟨c, rfl, q⟩ := hv
        repeat (first | exact q | exact wpAny_pure q | (refine wpAny_bind (m := truthy (.bool _)) (wpAny_truthy_bool ?_)) | wp_step)) fun _ _ e => e)))
    | wp_step)
theorem ne_bound {Q : Option Value → Shared → Prop} (X : K.In s.heap) (I : PySem.W.InstAt s.heap x ox C od) (hn : PySem.W.findIn K (.ref C) "__ne__" = some (some (.builtin "object.__ne__")))
    (h : wpAny (model prog w) A (call (.builtin "object.__ne__") [.ref x, b]) (fun v => Q (some v)) E s) : wpAny (model prog w) A (callSpecialIfBound? (.ref x) "__ne__" [b]) Q E s := by
  have last : wpAny (model prog w) A (call (.builtin "object.__ne__") ([.ref x] ++ [b]) >>= fun v => pure (some v)) Q E s := wpAny_bind (wpAny_mono h (fun _ _ q => wpAny_pure q) fun _ _ e => e)
  simp only [callSpecialIfBound?, bindSpecialIfBound?]
  refine wpAny_holding (wpAny_bind (wpAny_bind (wpAny_bind (I.type.here ((PySem.W.looks_findIn X hn).here (wpAny_bind (wpAny_askSetting (wpAny_ite ?_))))))))
  split
  · exact wpAny_bind (wpAny_of_eq (F.cmp_object.ne.bind _) (wpAny_pure last))
  · exact wpAny_tryCatch (wpAny_bind (wpAny_of_eq (F.cmp_object.ne.bind _) (wpAny_pure last)))
end
/-- x != y likewise -/
def rNeOwn (K : PySem.W.Frag) (C : Addr) (sp : Sp) : R2 := fun x y H Q => ∃ (a dx : Addr) (fs : List (Str × V)) (tb : Value), x = .ref a ∧ H a = some (.ins C dx fs) ∧ TyX K H y tb ∧ PySem.W.notFirst K C tb = true ∧ sp [x, y] H (fun v H' => ∃ b, v = .bl b ∧ Q (.bl (!b)) H') C8.E0
section
variable {X : Cx} {C : Addr} {k j : Nat} {sp : Sp}
theorem op_neOwn (c : EqOf X.prog X.w X.K X.mg X.base k C sp) (hn : PySem.W.findIn X.K (.ref C) "__ne__" = some (some (.builtin "object.__ne__"))) (hm : PySem.W.mroIn X.K C (.type "object") = some true) (hr : Room j X.A) (hk : k + 1 ≤ j) :
    OpR X (compareOp .NotEq) (rNeOwn X.K C sp) := by
  intro pins s σ H x y v u Q I rx ry h
  obtain ⟨f, fd, ps, hs, hf, FO, hb⟩ := c.ex
  obtain ⟨a, dx, fs, tb, rfl, ha, ty, nf, q⟩ := h
  cases (show v = Value.ref a from rx)
  obtain ⟨mA, J, _⟩ := ins_get I.hok ha
  obtain ⟨od, J, _⟩ := J.look
  obtain ⟨Ph, kit, hP, _⟩ := kit_of I ry ty
  have hj : Room (k + 1) X.A := hr.mono hk
  have X0 := I.kIn
  have tyb := kit.ty (model X.prog X.w) _ X0 hP
  have r2 : Vals [V.ref a, y] [Value.ref a, u] := .cons rfl (.cons ry .nil)
  have go : wpAny (model X.prog X.w) X.A.in1 (call (.ref f) [.ref a, u]) (fun v s' => ∃ b, v = .bool b ∧ EP X pins σ Q (.bool (!b)) s') X.xe s := by
    refine wpAny_call (codeAny_mono (FO.run X.A.in1 X.stack s H ⟨[.ref a, u], []⟩ [.ref a, u] [.ref a, y] _ C8.E0 hj.in1 I.env0.in1 (by
      have l := FO.len _ _ _ _ q
      have z := hb s [.ref a, u] X0 (by simpa using l)
      simpa using z) r2 q) fun r s' hq => ?_)
    cases r with
    | error e => exact (C8.pass0 (E := C8.E0) pins σ H s e s' I hq)
    | ok fl =>
      cases fl with
      | ret w2 =>
        obtain ⟨z, H', I', rz, b, ez, qz⟩ := I.after hq
        subst ez
        cases (show w2 = Value.bool b from rz)
        exact ⟨b, rfl, .bl (!b), H', I', rfl, qz⟩
      | next => exact False.elim hq
      | brk => exact False.elim hq
      | cont => exact False.elim hq
  have one : wpAny (model X.prog X.w) X.A (tryCompare (.ref a) "__ne__" u) (fun r s' => ∃ v, r = some v ∧ EP X pins σ Q v s') X.xe s := by
    unfold tryCompare
    refine wpAny_bind (ne_bound X0 J hn (wpAny_call (codeAny_call_builtin F.cmp_object.ne.plain F.cmpEntry_ne (PySem.W.check_slot F.cmpKind_ne F.cmpSplit_ne (J.type.andThen (PySem.W.looks_mroIn X0 hm)) (F.cmpArgs_ne _ _)
      (ne_body hj.in1.units0 X0 J hs hf (wpAny_mono go (fun v s' hv => ?_) fun _ _ e => e))))))
    obtain ⟨b, rfl, hq⟩ := hv
    exact ⟨b, rfl, wpAny_pure ⟨_, rfl, hq⟩⟩
  show wpAny _ _ (richCompare .NotEq (.ref a) u) _ _ _
  unfold richCompare
  simp only [cmpInfo, oneThing_ref]
  refine wpAny_holding (wpAny_bind (wpAny_cRoomFor hj.units0 (wpAny_bind (J.type.here (wpAny_bind (tyb.here ?_))))))
  split
  · rename_i ne
    have e : PySem.W.subIn X.K tb (.ref C) = some false := by
      have z := nf
      unfold PySem.W.notFirst at z
      rcases Bool.or_eq_true_iff.mp z with z | z
      · exfalso
        have z2 := eq_of_beq z
        subst z2
        simp at ne
      · exact eq_of_beq z
    refine wpAny_bind ((PySem.W.looks_subIn X0 e).here ?_)
    simp only [Bool.false_eq_true, if_false]
    refine wpAny_bind (wpAny_mono one (fun r s1 z => ?_) fun _ _ e => e)
    obtain ⟨v, rfl, z⟩ := z
    exact wpAny_pure z
  · refine wpAny_bind (wpAny_pure ?_)
    simp only [Bool.false_eq_true, if_false]
    refine wpAny_bind (wpAny_mono one (fun r s1 z => ?_) fun _ _ e => e)
    obtain ⟨v, rfl, z⟩ := z
    exact wpAny_pure z
end
end Hb
set_option Elab.async false
set_option linter.all false
set_option maxRecDepth 100000
set_option maxHeartbeats 4000000
/-! str(x) by a def of the class. -/
namespace Hb
open PySem PySem.Spec PyProof.Rows
section
variable {prog : Program} {w : World} {A : Around} {E : Value → Shared → Prop} {s : Shared} {K : PySem.W.Frag} {x C f : Addr} {ox : Obj} {od : Option Obj}
theorem strOf_own {Q : Value → Shared → Prop} (hu : A.units < cLine) (X : K.In s.heap) (I : PySem.W.InstAt s.heap x ox C od) (hs : PySem.W.findIn K (.ref C) "__str__" = some (some (.ref f))) (hf : PySem.W.isFn K (.ref f) = true)
    (h : wpAny (model prog w) A (call (.ref f) [.ref x]) (fun r z => ∃ y t, r = Value.str y t ∧ Q r z) E s) : wpAny (model prog w) A (Builtin.Str.strOf (.ref x)) Q E s := by
  unfold Builtin.Str.strOf
  refine PySem.W.KFB.if_not rfl (wpAny_bind (m := cRoomFor _ _) (wpAny_cRoomFor hu (wpAny_bind (m := callSpecial? (.ref x) (Str.ofString "__str__")) (PySem.W.special_fn X I hs (beq_iff_eq.mp hf) (wpAny_mono h (fun r z hr => ?_) fun _ _ e => e)))))
  obtain ⟨y, t, rfl, q⟩ := hr
  exact wpAny_pure q
theorem call_str_own {Q : Value → Shared → Prop} (hu : A.in1.in1.units < cLine) (X : K.In s.heap) (I : PySem.W.InstAt s.heap x ox C od) (hs : PySem.W.findIn K (.ref C) "__str__" = some (some (.ref f))) (hf : PySem.W.isFn K (.ref f) = true)
    (h : wpAny (model prog w) A.in1.in1 (call (.ref f) [.ref x]) (fun r z => ∃ y t, r = Value.str y t ∧ Q r z) E s) : wpAny (model prog w) A (call (.type "str") [.ref x]) Q E s := by
  refine callType_codes (T := "str") (Bi := Builtin.«object.__init__») (Q₁ := fun r z => ∃ y t, r = Value.str y t ∧ Q r z) PySem.F.called_str (PySem.F.typeCall_str_1 _) PySem.F.entry_object_init ?_ ?_
  · refine codeAny_of_tree ?_
    show wpAny _ A.in1.in1 (do checkBuiltinCall "str.__new__" ⟨[.type "str", .ref x], []⟩; again (.builtin "str.__new__" ⟨[.type "str", .ref x], []⟩)) _ _ s
    refine wpAny_bind (wpAny_of_eq (PySem.F.newCall_str_1 _) (wpAny_pure ⟨plainId_quiet (by decide +kernel) _, codeAny_builtin PySem.F.entry_str_new ?_⟩))
    rw [Around.under_plainId (by decide +kernel) _, str_new_tree (.ref x)]
    refine wpAny_bind (wpAny_pure (wpAny_bind (wpAny_of_eq isSubtype_str_str (wpAny_bind (wpAny_mono (strOf_own hu X I hs hf (wpAny_mono h (fun r z hr => ?_) fun _ _ e => e)) (fun r z q => wpAny_pure q) fun _ _ e => e)))))
    obtain ⟨y, t, rfl, q⟩ := hr
    exact ⟨y, t, rfl, y, t, rfl, q⟩
  · rintro obj z ⟨y, t, rfl, q⟩
    exact ⟨typeIs_str _ _ _, PySem.F.args_object_init_2 _ _, object_init_meets PySem.F.called_str.init.lookup PySem.F.called_str.made (by decide) prog w A.in1 _ z ⟨typeIs_str _ _ _, rfl, q⟩⟩
end
end Hb
namespace Hb
open PySem PySem.Spec PyProof.Rows L2
/-- the class at C has a __str__ of its own -/
structure StrOf (P : Program) (w : World) (K : PySem.W.Frag) (mg : Str → Option Value) (base : Heap) (k : Nat) (C : Addr) (sp : Sp) : Prop where
  ex : ∃ (f : Addr) (fd : FuncData) (ps : List Str), PySem.W.findIn K (.ref C) "__str__" = some (some (.ref f)) ∧ PySem.W.isFn K (.ref f) = true ∧ FnOk P w K mg base CX0 k f fd ps sp ∧ Binds K fd ps []
def rStrOwn (C : Addr) (sp : Sp) : List V → Hp → VK → Prop := fun xs H Q => ∃ (a dx : Addr) (fs : List (Str × V)), xs = [.ref a] ∧ H a = some (.ins C dx fs) ∧ sp [.ref a] H (fun v H' => ∃ y, v = .str y ∧ Q v H') C8.E0
section
variable {X : Cx} {C : Addr} {k j : Nat} {sp : Sp}
theorem call_strOwn (c : StrOf X.prog X.w X.K X.mg X.base k C sp) (hr : Room j X.A) (hk : k + 2 ≤ j) : CallR X (.type "str") (rStrOwn C sp) := by
  intro pins s σ H xs us Q I r h
  obtain ⟨f, fd, ps, hs, hf, FO, hb⟩ := c.ex
  obtain ⟨a, dx, fs, rfl, ha, q⟩ := h
  rw [Vals.ref1 r]
  obtain ⟨mA, J, _⟩ := ins_get I.hok ha
  obtain ⟨od, J, _⟩ := J.look
  have X0 := I.kIn
  have hj : Room (k + 2) X.A := hr.mono hk
  have h2 : Room k X.A.in1.in1 := (show Room (k + 1) X.A.in1 from hj.in1).in1
  have r2 : Vals [V.ref a] [Value.ref a] := .cons rfl .nil
  refine call_str_own h2.units0 X0 J hs hf (wpAny_call (codeAny_mono (FO.run X.A.in1.in1 X.stack s H ⟨[.ref a], []⟩ [.ref a] [.ref a] _ C8.E0 h2 I.env0.in1.in1 (by
      have l := FO.len _ _ _ _ q
      have z := hb s [.ref a] X0 (by simpa using l)
      simpa using z) r2 q) fun r s' hq => ?_))
  cases r with
  | error e => exact (C8.pass0 (E := C8.E0) pins σ H s e s' I hq)
  | ok fl =>
    cases fl with
    | ret w2 =>
      obtain ⟨z, H', I', rz, y, ez, qz⟩ := I.after hq
      subst ez
      obtain ⟨t, e⟩ := (show ∃ t, w2 = Value.str y t from rz)
      subst e
      exact ⟨y, t, rfl, .str y, H', I', ⟨t, rfl⟩, qz⟩
    | next => exact False.elim hq
    | brk => exact False.elim hq
    | cont => exact False.elim hq
end
end Hb
set_option Elab.async false
set_option linter.all false
set_option maxRecDepth 100000
set_option maxHeartbeats 4000000
namespace Hb
open PySem PySem.Spec PyProof.Rows L2
/-! ### any values: data whose lists are not the deal's -/
mutual
inductive VD (K : PySem.W.Frag) (N : Addr → Prop) (H : Hp) : V → PyData → Prop
  | non : VD K N H .non .none
  | bl (b : Bool) : VD K N H (.bl b) (.bool b)
  | int (i : Int) : VD K N H (.int i) (.int i)
  | str (x : Str) : VD K N H (.str x) (.str x)
  | lst {a : Addr} {xs : List V} {ds : List PyData} : H a = some (.lst xs) → N a → VDs K N H xs ds → VD K N H (.ref a) (.list ds)
  | tup {a : Addr} {xs : List V} {ds : List PyData} : SqT K H a xs → VDs K N H xs ds → VD K N H (.ref a) (.tuple ds)
inductive VDs (K : PySem.W.Frag) (N : Addr → Prop) (H : Hp) : List V → List PyData → Prop
  | nil : VDs K N H [] []
  | cons {v : V} {vs : List V} {e : PyData} {ds : List PyData} : VD K N H v e → VDs K N H vs ds → VDs K N H (v :: vs) (e :: ds)
end
section
variable {K : PySem.W.Frag} {N M : Addr → Prop} {H H' : Hp}
/-- the lists stay -/
def LK (N : Addr → Prop) (H H' : Hp) : Prop := ∀ a xs, N a → H a = some (.lst xs) → H' a = some (.lst xs)
mutual
theorem VD.keep (t : TK H H') (k : LK N H H') (m : ∀ a o, H a = some o → N a → M a) : ∀ {v : V} {e : PyData}, VD K N H v e → VD K M H' v e
  | _, _, .non => .non
  | _, _, .bl b => .bl b
  | _, _, .int i => .int i
  | _, _, .str x => .str x
  | _, _, .lst h n hs => .lst (k _ _ n h) (m _ _ h n) (VDs.keep t k m hs)
  | _, _, .tup h hs => .tup (SqT.keep t h) (VDs.keep t k m hs)
theorem VDs.keep (t : TK H H') (k : LK N H H') (m : ∀ a o, H a = some o → N a → M a) : ∀ {vs : List V} {ds : List PyData}, VDs K N H vs ds → VDs K M H' vs ds
  | _, _, .nil => .nil
  | _, _, .cons h hs => .cons (VD.keep t k m h) (VDs.keep t k m hs)
end
mutual
theorem VD.dp : ∀ {v : V} {e : PyData}, VD K N H v e → Dp K H v e
  | _, _, .non => .non
  | _, _, .bl b => .bl b
  | _, _, .int i => .int i
  | _, _, .str x => .str x
  | _, _, .lst h _ hs => .lst (SqL.of h) (VDs.dp hs)
  | _, _, .tup h hs => .tup h (VDs.dp hs)
theorem VDs.dp : ∀ {vs : List V} {ds : List PyData}, VDs K N H vs ds → DpAll K H vs ds
  | _, _, .nil => .nil
  | _, _, .cons h hs => .cons (VD.dp h) (VDs.dp hs)
end
theorem VDs.app : ∀ {vs ws : List V} {ds es : List PyData}, VDs K N H vs ds → VDs K N H ws es → VDs K N H (vs ++ ws) (ds ++ es)
  | _, _, _, _, .nil, h => h
  | _, _, _, _, .cons h hs, h2 => .cons h (VDs.app hs h2)
theorem VDs.length : ∀ {vs : List V} {ds : List PyData}, VDs K N H vs ds → vs.length = ds.length
  | _, _, .nil => rfl
  | _, _, .cons _ hs => congrArg Nat.succ (VDs.length hs)
theorem depthAll_le {n : Nat} : ∀ {ds : List PyData}, (∀ e ∈ ds, e.depth ≤ n) → PyData.depthAll ds ≤ n
  | [], _ => by simp [PyData.depthAll]
  | d :: ds, h => by
    have h1 := h d List.mem_cons_self
    have h2 := depthAll_le (ds := ds) fun e he => h e (List.mem_cons_of_mem _ he)
    simp only [PyData.depthAll]
    omega
/-- the types that any values have -/
def anyTy : List String := ["NoneType", "bool", "int", "str", "list", "tuple"]
theorem VD.ty {v : V} {e : PyData} (h : VD K N H v e) : ∃ t ∈ anyTy, TyX K H v (.type t) := by
  cases h with
  | non => exact ⟨"NoneType", by decide, .base .non⟩
  | bl b => exact ⟨"bool", by decide, .base (.bl b)⟩
  | int i => exact ⟨"int", by decide, .base (.int i)⟩
  | str x => exact ⟨"str", by decide, .base (.str x)⟩
  | lst h => exact ⟨"list", by decide, ty_lst (SqL.of h)⟩
  | tup h => exact ⟨"tuple", by decide, ty_tup h⟩
end
theorem sub_any {K : PySem.W.Frag} {C : Addr} : ∀ t ∈ anyTy, PySem.W.notFirst K C (.type t) = true := by
  have one : ∀ (t : String) (ts : List Value), fastBuiltinMro t = some ts → ts.contains (Value.ref C) = false → PySem.W.notFirst K C (.type t) = true := fun t ts e n => by
    have q : PySem.W.subIn K (.type t) (.ref C) = some false := by
      show (fastBuiltinMro t).map (·.contains (.ref C)) = some false
      rw [e]
      exact congrArg some n
    unfold PySem.W.notFirst
    rw [q]
    simp
  intro t h
  simp only [anyTy, List.mem_cons, List.not_mem_nil, or_false] at h
  rcases h with rfl | rfl | rfl | rfl | rfl | rfl
  · exact one "NoneType" [.type "NoneType", .type "object"] (by decide +kernel) (by first | rfl | simp)
  · exact one "bool" [.type "bool", .type "int", .type "object"] (by decide +kernel) (by first | rfl | simp)
  · exact one "int" [.type "int", .type "object"] (by decide +kernel) (by first | rfl | simp)
  · exact one "str" [.type "str", .type "object"] (by decide +kernel) (by first | rfl | simp)
  · exact one "list" [.type "list", .type "object"] (by decide +kernel) (by first | rfl | simp)
  · exact one "tuple" [.type "tuple", .type "object"] (by decide +kernel) (by first | rfl | simp)
end Hb
set_option Elab.async false
set_option linter.all false
set_option maxRecDepth 100000
set_option maxHeartbeats 4000000
/-! A class that a local name holds, called. -/
namespace Hb
open PySem PySem.Spec PyProof.Rows L2
/-- c(..), the i-th place holds the class at C -/
def tMakeL (i : Nat) (C : Addr) (sp : Sp) (t : TA) : TE := fun σ H Q => σ[i]? = some (some (.ref C)) ∧ tMake C sp [] C8.E0 t σ H Q
section
variable {X : Cx} {k j i : Nat} {C : Addr} {sp : Sp} {x y : Str} {p pos : Pos} {e : Expr} {es : List Expr} {t : TA}
theorem pe_mkL (c : C8.Mak X.prog X.w X.K X.mg X.base k y C sp []) (hr : Room j X.A) (hk : k + 1 ≤ j) (hN : X.N[i]? = some x) (hv : Vis X.env.scope x) (ha : PA X (e :: es) t) (d1 : (x == ("__debug__" : Str)) = false := by decide) (d2 : (x == ("__classdict__" : Str)) = false := by decide)
    (n1 : starEach (e :: es) X.env = (false, eval e X.env) :: starEach es X.env := by rfl) (n2 : (backTo pos (starEach es X.env)).any (·.1) = false := by rfl) : PE X (.Call (.Name x p) (e :: es) [] pos) (tMakeL i C sp t) := by
  obtain ⟨f, fd, ps, ds, M, F, _, b, d⟩ := c.ex
  refine ⟨fun pins s σ H Q I ⟨at_, q⟩ => wpAny_Call_Name_kw (thn ((pe_var (pos := p) hN hv d1 d2).run pins s σ H (fun v G => v = .ref C ∧ G = H) I ⟨_, at_, rfl, rfl⟩) ?_)⟩
  rintro u s1 ⟨v, G, J, r, rfl, rfl⟩
  obtain rfl : u = Value.ref C := r
  exact PySem.W.callWith_K (h₀ := X.base) J.ok.mod.kin M.kp (thn (ha.run pos pins s1 σ _ _ J q) fun us s2 ⟨vs, H2, J2, r2, q2⟩ => ⟨J2.kIn, run_make M F (hr.mono hk) b d C8.pass0 J2 r2 q2⟩) n1 n2
end
end Hb
set_option Elab.async false
set_option linter.all false
set_option maxRecDepth 100000
set_option maxHeartbeats 4000000
/-! xs[a:b:c] of a list. -/
namespace Hb
open PySem PySem.Spec PyProof.Rows L2
/-- what such a slice picks -/
def pickV {α : Type} (xs : List α) (lo hi st : Option Int) : List α := (sliceRange (sliceBounds lo hi st xs.length).1 (sliceBounds lo hi st xs.length).2.1 (sliceBounds lo hi st xs.length).2.2).filterMap (xs[·]?)
theorem vals_pick {xs : List V} {us : List Value} (r : Vals xs us) : ∀ is : List Nat, Vals (is.filterMap (xs[·]?)) (is.filterMap (us[·]?))
  | [] => .nil
  | i :: is => by
    have ih := vals_pick r is
    cases h : xs[i]? with
    | none =>
      have l := r.length
      have h2 : us[i]? = none := List.getElem?_eq_none_iff.mpr (by have := List.getElem?_eq_none_iff.mp h; omega)
      rw [List.filterMap_cons, List.filterMap_cons]
      simp only [h, h2]
      exact ih
    | some x =>
      obtain ⟨u, hu, ru⟩ := r.get h
      rw [List.filterMap_cons, List.filterMap_cons]
      simp only [h, hu]
      exact .cons ru ih
def tSl3 (K : PySem.W.Frag) (te : TE) (tl th tc : TO) : TE := fun σ H Q => te σ H fun x H1 => tl σ H1 fun lo H2 => th σ H2 fun hi H3 => tc σ H3 fun st H4 => ∃ (a : Addr) (xs : List V), x = .ref a ∧ SqL K H4 a xs ∧ st ≠ some 0 ∧ (pickV xs lo hi st).length ≤ sizeLine ∧
  ∀ p, H4 p = none → Q (.ref p) (upd H4 p (.lst (pickV xs lo hi st)))
section
variable {X : Cx} {e c : Expr} {lo hi : Option Expr} {te : TE} {tl th tc : TO} {p2 pos : Pos}
theorem pe_slice3 (he : PE X e te) (hl : PO X lo tl) (hu : PO X hi th) (hc : PO X (some c) tc) : PE X (.Subscript e (.Slice lo hi (some c) p2) pos) (tSl3 X.K te tl th tc) := by
  refine ⟨fun pins s σ H Q I h => Subscript_ (thn (he.run pins s σ H _ I h) fun v s1 ⟨x, H1, I1, r1, q1⟩ => wpAny_Slice (thn (hl.run pins s1 σ H1 _ I1 q1) fun vl s2 ⟨l, H2, I2, pl, q2⟩ => thn (hu.run pins s2 σ H2 _ I2 q2) fun vu s3 ⟨u, H3, I3, pu, q3⟩ => thn (hc.run pins s3 σ H3 _ I3 q3) fun vt s4 ⟨st, H4, I4, pt, q4⟩ => ?_))⟩
  obtain ⟨a, xs, rfl, hx, n0, few, q⟩ := q4
  obtain rfl : v = Value.ref a := r1
  have J : Inv X pins σ H4 { s4 with heap := s4.heap.push { cls := .type "slice", data := .fields #[vl, vu, vt] } } := I4.kept (t' := s4.toks) fun b ob z => Heap.get?_push_of_some _ z
  obtain ⟨its, r, ht, hz⟩ := J.list hx
  have len := r.length
  show wpAny (model X.prog X.w) X.A (subscriptTail e (.Slice lo hi (some c) p2) (.ref a) (.ref s4.heap.objs.size)) (EP X pins σ Q) X.xe { s4 with heap := s4.heap.push { cls := .type "slice", data := .fields #[vl, vu, vt] } }
  refine tail_any (T := "list") (ops := [.ref a, .ref s4.heap.objs.size]) ht.isList.typeIs slot_list_getitem.lookup (wpAny_getItem_list_slice ht.isList (Heap.IsSliceOf.new ..) pl pu pt n0 ?_ (by rw [List.size_toArray] <;> omega)) (by first | rfl | (unfold subscripted; rfl) | simp [subscripted])
  have e1 : slicePick its.toArray l u st = (pickV its l u st).toArray := by
    unfold slicePick pickV
    simp only [List.size_toArray, List.getElem?_toArray]
  have vp : Vals (pickV xs l u st) (pickV its l u st) := by
    unfold pickV
    rw [len]
    exact vals_pick r _
  rw [e1]
  refine ⟨.ref _, _, J.laid (t' := s4.toks) (o := .lst (pickV xs l u st)) (fun b ob z => Heap.get?_push_of_some _ z) (Nat.le_refl _) ?_, rfl, q _ (J.hok.fresh (Nat.le_refl _))⟩
  exact ⟨few, _, 0, vp, Heap.get?_push_size _ rfl⟩
end
end Hb
set_option Elab.async false
set_option linter.all false
set_option maxRecDepth 100000
set_option maxHeartbeats 8000000
/-! Sets of texts, with the order of their table. -/
namespace Hb
open PySem PySem.Spec PyProof.Rows L2
def keyS (e : Int × Value) : Str := match e.2 with | .str k _ => k | _ => Str.empty
def GoodS (P : Program) (w : World) (e : Int × Value) : Prop := ∃ k tk, e.2 = Value.str k tk ∧ e.1 = (PySem.strKind P w).hash k
/-- the set of texts at a: its members are l, unlike ones -/
structure SetTx (P : Program) (w : World) (h : Heap) (a : Addr) (l : List Str) (o : Obj) (es : Array (Int × Value)) (ep : Nat) (t : SetTable) : Prop where
  ho : h.get? a = some o
  ex : o.ExactSet
  hd : o.data = .set es ep t
  good : ∀ e ∈ es.toList, GoodS P w e
  mem : (es.toList.map keyS).Perm l
  few : es.size < scanBound
  fits : t.fits es.size = true
  ris : Ris t.place.toList
  led : w.params.followText "set-order" = true ∨ t.led = true
def SetT (P : Program) (w : World) (h : Heap) (a : Addr) (l : List Str) : Prop := ∃ o es ep t, SetTx P w h a l o es ep t
section
variable {P : Program} {w : World} {A : Around} {E : Value → Shared → Prop} {s : Shared} {h h' : Heap} {a : Addr} {l m : List Str}
theorem SetT.at (R : SetT P w h a l) (k : ∀ o, h.get? a = some o → h'.get? a = some o) : SetT P w h' a l := by
  obtain ⟨o, es, ep, t, x⟩ := R
  exact ⟨o, es, ep, t, k o x.ho, x.ex, x.hd, x.good, x.mem, x.few, x.fits, x.ris, x.led⟩
theorem SetT.perm (R : SetT P w h a l) (p : l.Perm m) : SetT P w h a m := by
  obtain ⟨o, es, ep, t, x⟩ := R
  exact ⟨o, es, ep, t, x.ho, x.ex, x.hd, x.good, x.mem.trans p, x.few, x.fits, x.ris, x.led⟩
theorem goodS_is {e : Int × Value} (g : GoodS P w e) (k : Str) : (PySem.strKind P w).is k e.2 = true ↔ keyS e = k := by
  obtain ⟨j, tk, e1, _⟩ := g
  have z := strKind_is P w j tk
  unfold keyS
  rw [e1]
  constructor
  · intro q
    exact (PySem.strKind P w).inj _ _ _ z q
  · rintro rfl
    exact z
theorem elemsS {l : List (Int × Value)} (g : ∀ e ∈ l, GoodS P w e) : ElemsOf (PySem.strKind P w) l := fun e he => by
  obtain ⟨k, tk, e1, e2⟩ := g e he
  exact ⟨⟨k, by rw [e1]; exact strKind_is P w k tk, e2⟩, by rw [e1] <;> rfl⟩
/-- what is laid into the table, and the table laid anew where it is too full -/
theorem add_text_tail {g : Bool → Sem Unit} (hg : ∀ (b : Bool) (z : Shared) (Q' : Unit → Shared → Prop), Q' () z → wpAny (model P w) A (g b) Q' E z) {o : Obj} {es : Array (Int × Value)} {ep : Nat} {t : SetTable} (ho : s.heap.get? a = some o) (hex : o.ExactSet) (hd : o.data = .set es ep t)
    {es1 : Array (Int × Value)} {t2 : SetTable} (g1 : ∀ e ∈ es1.toList, GoodS P w e) (m1 : (es1.toList.map keyS).Perm l) (b1 : es1.size < scanBound) (f2 : t2.fits es1.size = true) (r2 : Ris t2.place.toList) (l2 : w.params.followText "set-order" = true ∨ t2.led = true) {dummy : Bool} {R : Option Bool → Shared → Prop}
    (hR : ∀ h', Heap.SameBut a s.heap h' → SetT P w h' a l → R (some true) { s with heap := h' }) :
    wpAny (model P w) A (do
        storeSet a es1 t2
        if (!dummy && t2.tooFull) = true then do
            g (relayAll t2 es1 (SetTable.grown es1.size)).2.2
            storeSet a (relayAll t2 es1 (SetTable.grown es1.size)).1 (relayAll t2 es1 (SetTable.grown es1.size)).2.1
            pure (some true)
          else pure (some true)) R E s := by
  have o1 := store_at (es' := es1) (t' := t2) ho hd
  have same1 := Heap.SameBut.update s.heap a (Obj.putSet es1 t2)
  refine wpAny_bind (wpAny_storeSet_of ho hd (?_ : wpAny _ _ _ _ _ _) (fits_of_scanBound b1))
  split
  · have z1 := relayAll_perm t2 es1 (SetTable.grown es1.size)
    have z2 := relayAll_fits t2 es1 (SetTable.grown es1.size)
    have z3 := relayAll_ris t2 es1 (SetTable.grown es1.size)
    have z4 := relayAll_led t2 es1 (SetTable.grown es1.size)
    generalize relayAll t2 es1 (SetTable.grown es1.size) = Y at z1 z2 z3 z4 ⊢
    obtain ⟨es2, t3, gave⟩ := Y
    simp only at z1 z2 z3 z4 ⊢
    have sz : es2.size = es1.size := by rw [← Array.length_toList, z1.length_eq, Array.length_toList]
    have b2 : es2.size < scanBound := sz ▸ b1
    refine wpAny_bind (hg _ _ _ (wpAny_bind (wpAny_storeSet_of o1 rfl (wpAny_pure (hR _ (same1.trans (Heap.SameBut.update _ a _)) ?_)) (fits_of_scanBound b2))))
    exact ⟨_, es2, _, t3, store_at (es' := es2) (t' := t3) o1 rfl, hex, rfl, fun e he => g1 e (z1.mem_iff.mp he), (z1.map keyS).trans m1, b2, z2, z3, l2.imp id fun z => by rw [z4]; exact z⟩
  · exact wpAny_pure (hR _ same1 ⟨_, es1, _, t2, o1, hex, rfl, g1, m1, b1, f2, r2, l2⟩)
theorem add_text {k : Str} {tk : Tok} {Q : Bool → Shared → Prop} (R : SetT P w s.heap a l) (nd : l.Nodup) (room : l.length + 1 < scanBound) (hQ : ∀ h' b, Heap.SameBut a s.heap h' → SetT P w h' a (if k ∈ l then l else k :: l) → Q b { s with heap := h' }) :
    wpAny (model P w) A (setAddHashed a (.str k tk) ((PySem.strKind P w).hash k)) Q E s := by
  obtain ⟨o, es, ep, t, ho, hex, hd, g, pm, hb, hf, hr, hl⟩ := R
  have key : (PySem.strKind P w).is k (.str k tk) = true := strKind_is P w k tk
  have hsc : (Value.str k tk).scannable = true := rfl
  have hel := elemsS g
  unfold setAddHashed setAddHashedIn
  refine wpAny_holding (wpAny_bind (wpAny_setState_of ho hd hf (?_ : wpAny _ _ _ _ _ _)))
  dsimp only
  rw [byScan_of hsc hb hel]
  simp only [↓reduceIte]
  unfold setAddByScan
  refine wpAny_bind (wpAny_bind (wpAny_rule (wpAny_bind (wpAny_setScan_of key ho hd hf hel ?_))))
  cases fi : List.findIdx? (fun e => (PySem.strKind P w).is k e.2) es.toList with
  | some j =>
    dsimp only
    obtain ⟨hj, pj, _⟩ := List.findIdx?_eq_some_iff_getElem.mp fi
    have inl : k ∈ l := pm.mem_iff.mp (List.mem_map.mpr ⟨_, List.getElem_mem hj, (goodS_is (g _ (List.getElem_mem hj)) k).mp pj⟩)
    refine wpAny_pure (wpAny_pure (hQ s.heap _ (Heap.SameBut.refl a s.heap) ?_))
    rw [if_pos inl]
    exact ⟨o, es, ep, t, ho, hex, hd, g, pm, hb, hf, hr, hl⟩
  | none =>
    dsimp only
    have notl : k ∉ l := fun z => by
      obtain ⟨e, he, q⟩ := List.mem_map.mp (pm.mem_iff.mpr z)
      have c := List.findIdx?_eq_none_iff.mp fi e he
      rw [(goodS_is (g e he) k).mpr q] at c
      cases c
    have gw : ∀ (b : Bool) {z : Shared} {Q' : Unit → Shared → Prop}, Q' () z → wpAny (model P w) A (match b with | true => rule "set.scan.the-table-gave-way" | false => pure ()) Q' E z := fun b z Q' q => by
      cases b
      · exact wpAny_pure q
      · exact wpAny_rule q
    have y1 := layNew_perm t es ((PySem.strKind P w).hash k) (.str k tk)
    have y2 := layNew_fits t es ((PySem.strKind P w).hash k) (.str k tk)
    have y3 := layNew_ris t es ((PySem.strKind P w).hash k) (.str k tk) hr
    have y4 := layNew_led t es ((PySem.strKind P w).hash k) (.str k tk)
    generalize layNew t es ((PySem.strKind P w).hash k) (.str k tk) = Y at y1 y2 y3 y4 ⊢
    obtain ⟨es1, t1, dummy, gave⟩ := Y
    simp only at y1 y2 y3 y4 ⊢
    rw [Array.toList_push] at y1
    have pc : es1.toList.Perm (((PySem.strKind P w).hash k, Value.str k tk) :: es.toList) := y1.trans (List.perm_append_singleton _ _)
    have g1 : ∀ e ∈ es1.toList, GoodS P w e := fun e he => (List.mem_cons.mp (pc.mem_iff.mp he)).elim (fun z => by rw [z]; exact ⟨k, tk, rfl, rfl⟩) (g e)
    have m1 : (es1.toList.map keyS).Perm (k :: l) := (pc.map keyS).trans (pm.cons k)
    have lenl : es.size = l.length := by rw [← pm.length_eq, List.length_map, Array.length_toList]
    have b1 : es1.size < scanBound := by rw [← Array.length_toList, pc.length_eq, List.length_cons, Array.length_toList, lenl]; exact room
    have l1 : w.params.followText "set-order" = true ∨ t1.led = true := hl.imp id fun z => by rw [y4]; exact z
    have fin : ∀ h', Heap.SameBut a s.heap h' → SetT P w h' a (k :: l) → Q true { s with heap := h' } := fun h' sb r => hQ h' true sb (by rw [if_neg notl]; exact r)
    refine wpAny_bind (gw _ ?_)
    split
    · refine wpAny_bind ?_
      rw [hashByValue_scannable 8 hsc]
      refine wpAny_pure (add_text_tail (fun b z Q' q => gw b q) ho hex hd g1 m1 b1 ?_ ?_ ?_ fun h' sb r => ?_)
      · first | (split <;> first | exact y2 | exact SetTable.fits_plain_off y2) | exact y2
      · first | (split <;> exact y3) | exact y3
      · first | (split <;> exact l1) | exact l1
      · dsimp only
        exact wpAny_pure (fin h' sb r)
    · refine wpAny_bind (wpAny_pure ?_)
      simp only [↓reduceIte]
      refine add_text_tail (fun b z Q' q => gw b q) ho hex hd g1 m1 b1 y2 y3 l1 fun h' sb r => ?_
      dsimp only
      exact wpAny_pure (fin h' sb r)
end
end Hb
set_option Elab.async false
set_option linter.all false
set_option maxRecDepth 100000
set_option maxHeartbeats 8000000
/-! set(texts) with repeats; sorted of such a set. -/
namespace Hb
open PySem PySem.Spec PyProof.Rows
/-- the unlike ones -/
def Uniq (l xs : List Str) : Prop := l.Nodup ∧ l.length ≤ xs.length ∧ ∀ k, k ∈ l ↔ k ∈ xs
theorem Uniq.more {l xs : List Str} {k : Str} (u : Uniq l xs) : Uniq (if k ∈ l then l else k :: l) (xs ++ [k]) := by
  obtain ⟨a, b, c⟩ := u
  by_cases h : k ∈ l
  · rw [if_pos h]
    refine ⟨a, by rw [List.length_append]; exact Nat.le_trans b (Nat.le_add_right _ _), fun j => ?_⟩
    rw [List.mem_append, List.mem_singleton, c j]
    exact ⟨.inl, fun z => z.elim id fun e => by rw [e]; exact (c k).mp h⟩
  · rw [if_neg h]
    refine ⟨List.nodup_cons.mpr ⟨h, a⟩, by rw [List.length_append]; exact Nat.succ_le_succ b, fun j => ?_⟩
    rw [List.mem_append, List.mem_singleton, List.mem_cons, c j]
    exact Or.comm
section
variable {prog : Program} {w : World} {A : Around} {R : Result → Shared → Prop} {I : Addr} {fp wr : List Addr} {G : Array GenState → Array GenState → Prop} {n : Nat} {P : Nat → Value → Prop} {Z : Nat → Shared → Prop}
theorem turns_any (W : WalksS prog w A.in1 I fp wr G n P Z) (S : Addr) (apart : S ∉ fp) (xs : List Str) (len : xs.length = n) (few : n + 1 < scanBound)
    (told : ∀ i v, P i v → ∃ t, v = .str (xs.getD i Str.empty) t) : ∀ (left i : Nat) (s : Shared), n - i = left → i ≤ n → Z i s →
      (∃ l, SetT prog w s.heap S l ∧ Uniq l (xs.take i)) →
      (∀ s' l, Moved (S :: wr) G s s' → SetT prog w s'.heap S l → Uniq l xs → R (.ok (.ret .none)) s') →
      codeAny (model prog w) A (.builtin "set.update.loop" ⟨[.ref S, .ref I], []⟩) R s := by
  have nwr : S ∉ wr := fun h => apart (W.sub _ h)
  have up : ∀ b ∈ wr, b ∈ S :: wr := fun b hb => List.mem_cons_of_mem _ hb
  intro left
  induction left with
  | zero =>
    intro i s hk hi hst ⟨l, hS, u⟩ hR
    obtain rfl : i = n := by omega
    refine codeAny_builtin PyProof.Rows.F.entry_set_update_loop (by
      rw [Around.under_plainId PyProof.Rows.F.plain_set_update_loop _]; show wpAny _ A.in1 (pyNext (.ref I) >>= _) _ _ s
      refine wpAny_bind (W.done s _ _ hst fun s' hm => ?_); show wpAny _ A.in1 (ret Value.none) _ _ s'
      refine wpAny_pure (hR s' l (hm.mono up) (hS.at fun o e => hm.heap S o nwr e) ?_)
      rw [← len, List.take_length] at u
      exact u)
  | succ left ih =>
    intro i s hk hi hst ⟨l, hS, u⟩ hR
    have lt : i < n := by omega
    have lt2 : i < xs.length := by omega
    refine codeAny_builtin PyProof.Rows.F.entry_set_update_loop (by
      rw [Around.under_plainId PyProof.Rows.F.plain_set_update_loop _]; show wpAny _ A.in1 (pyNext (.ref I) >>= _) _ _ s
      refine wpAny_bind (W.item i s _ _ lt hst fun v s' hP hst' hm => ?_)
      obtain ⟨t, rfl⟩ := told i v hP
      have hS' : SetT prog w s'.heap S l := hS.at fun o e => hm.heap S o nwr e
      have ll := u.2.1
      rw [List.length_take] at ll
      show wpAny _ A.in1 (holding [Value.str (xs.getD i Str.empty) t] (setAdd S (.str (xs.getD i Str.empty) t)) >>= _) _ _ s'
      refine wpAny_bind (wpAny_holding ?_); unfold setAdd
      refine wpAny_holding (wpAny_bind ((PySem.strKind prog w).pyHash (k := xs.getD i Str.empty) (strKind_is _ _ _ _) ?_))
      refine add_text (s := { s' with toks := s'.toks + 1 }) (l := l) hS' u.1 (by omega) fun h' b same hS2 => ?_
      have u2 : Uniq (if xs.getD i Str.empty ∈ l then l else xs.getD i Str.empty :: l) (xs.take (i + 1)) := by
        rw [more_text xs lt2]
        exact u.more
      refine wpAny_pure ⟨plainId_quiet PyProof.Rows.F.plain_set_update_loop _, ih (i + 1) _ (by omega) lt (W.frame _ s' _ _ hst' (Nat.le_succ _) fun b hb o e => ?_) ⟨_, hS2, u2⟩ fun s'' l2 hm2 hS4 u4 => ?_⟩
      · rw [same.2 b (fun h : b = S => apart (h ▸ hb))]; exact e
      · refine hR s'' l2 (Moved.trans W.gtrans ((hm.mono up).then_heap (Nat.le_succ _) fun b o hb e => ?_) hm2) hS4 u4
        rw [same.2 b (fun h : b = S => hb (by rw [h]; exact List.mem_cons_self))]; exact e)
end
section
variable {prog : Program} {w : World} {A : Around} {E : Value → Shared → Prop} {s : Shared}
abbrev newSet (w : World) : Obj := { cls := .type "set", dict := none, data := .set #[] 0 (.fresh 0 0 (!w.params.followText "set-order")) }
theorem setT_new {h : Heap} {a : Addr} (ho : h.get? a = some (newSet w)) : SetT prog w h a [] :=
  ⟨_, #[], 0, _, ho, ⟨rfl, rfl, rfl⟩, rfl, (fun e he => by simp at he), List.Perm.refl _, (by decide), (by rfl), List.Pairwise.nil, by
    show _ ∨ (!w.params.followText "set-order") = true
    cases w.params.followText "set-order" <;> simp⟩
/-- set(xs) of a list of texts -/
theorem set_textsR {l : Addr} {its : Array Value} {xs : List Str} {Q : Value → Shared → Prop} (calm : A.handled = none) (at_ : s.heap.IsList l its) (are : StrsAre its.toList xs) (few : xs.length + 1 < scanBound)
    (k : ∀ (h' : Heap) (tk : Nat) (us : List Str), SetT prog w h' s.heap.objs.size us → Uniq us xs → (∀ b o, s.heap.get? b = some o → h'.get? b = some o) → Q (.ref s.heap.objs.size) { s with heap := h', toks := tk }) :
    wpAny (model prog w) A (call (.type "set") [.ref l]) Q E s := by
  have size : its.size = xs.length := by have q := are.length; rw [Array.length_toList] at q; exact q
  obtain ⟨c, tl, mro⟩ := F.called_set.mro
  have f1 := F.called_set.made; have f2 := F.called_set.sub; have f3 := F.called_set.notType; have f4 := F.called_set.canCreate; have f5 := F.typeCall_set_1 (.ref l)
  refine wpAny_call (codeAny_of_tree (by
    show wpAny _ _ (callAny (.type "set") _) _ _ _
    refine wpAny_pure ⟨Code.quiet_builtin _ (by decide +kernel), codeAny_builtin F.entry_type_call ?_⟩
    rw [Around.under_plain (weight_type_call_type "set" [.ref l] []) rfl]
    repeat (any_goals (first | assumption | wp_step))
    refine codeAny_mono (L2.code_set_led1 (.ref l) (E := E) (Q₁ := fun v z => v = .ref s.heap.objs.size ∧ z = { s with heap := s.heap.push (newSet w) }) ⟨rfl, rfl⟩) fun r z hr => ?_
    match r, hr with
    | .error e, hr => exact hr
    | .ok .next, hr => exact hr.elim
    | .ok .brk, hr => exact hr.elim
    | .ok .cont, hr => exact hr.elim
    | .ok (.ret v), ⟨e1, e2⟩ =>
      subst e1 e2
      have mine : (s.heap.push (newSet w)).get? s.heap.objs.size = some (newSet w) := Heap.get?_push_size _ rfl
      have kind : Shared.TypeIs { s with heap := s.heap.push (newSet w) } (.ref s.heap.objs.size) "set" := ⟨_, mine, rfl⟩
      have f6 := F.called_set.init.lookup; have f7 := F.called_set.init.bind (.ref s.heap.objs.size)
      repeat (any_goals (first | assumption | wp_step))
      refine codeAny_mono (codeAny_call_builtin (R := wants (fun r z => r = .none ∧ ∃ h' tk us, z = { s with heap := h', toks := tk } ∧
        SetT prog w h' s.heap.objs.size us ∧ Uniq us xs ∧ ∀ b o, s.heap.get? b = some o → h'.get? b = some o) E) F.called_set.init.plain F.entry_set_init (check_set_init_1 kind ?_)) fun r2 z2 hr2 => ?_
      · obtain ⟨⟨ocls, odict, odata, oslots⟩, ho, hc, nl, hd⟩ := at_
        simp only at hc hd; subst hc hd
        have ho2 : (s.heap.push (newSet w)).get? l = some { cls := .type "list", dict := odict, data := .seq its nl, slots := oslots } := Heap.get?_push_of_some _ ho
        have g1 := F.sub_list_set; have g2 := F.sub_list_frozenset; have g3 : (Value.type "list" == Value.type "dict") = false := by decide
        have ml : (s.heap.push (newSet w)).IsList l its := ⟨_, ho2, rfl, nl, rfl⟩
        unfold Builtin.«set.__init__» noKeywords Builtin.Frozenset.updateFrom
        generalize hI : pyIter = It
        wp_walk
        subst hI
        have lo : l < s.heap.objs.size := Heap.lt_size ho
        have far : l ≠ (s.heap.push (newSet w)).objs.size := by rw [Heap.size_push]; exact Nat.ne_of_lt (Nat.lt_succ_of_lt lo)
        refine wpAny_pyIter_list ml (wpAny_bind (wpAny_runValue (turns_any ((Walks.list (by simp [calm]) _ l far its).toS) s.heap.objs.size (by
            rw [Heap.size_push]; simp only [List.mem_cons, List.not_mem_nil, or_false, not_or]
            exact ⟨Nat.ne_of_lt (Nat.lt_succ_self _), Nat.ne_of_gt lo⟩) xs size.symm (by omega) (fun i v hv => SS.strs_at are i v (by rw [Array.getElem?_toList]; exact hv)) (its.size - 0) 0 _ (by omega) (Nat.zero_le _)
          ⟨⟨_, Heap.get?_push_size _ rfl, rfl, rfl⟩, (ml.push _)⟩ ?zer ?fin1)))
        case zer =>
          have e0 : ((s.heap.push (newSet w)).push { cls := .type "list_iterator", data := .fields #[.ref l, .int 0 0] }).get? s.heap.objs.size = some (newSet w) := Heap.get?_push_of_some _ mine
          exact ⟨[], setT_new e0, List.nodup_nil, Nat.zero_le _, fun k => by simp⟩
        case fin1 =>
          rintro ⟨h', g', d', tk', os'⟩ us hm hS hu
          obtain rfl : g' = s.gens := hm.gens
          obtain rfl : d' = s.drawn := hm.drawn
          obtain rfl : os' = s.os := hm.os
          show wpAny _ _ _ _ _ _
          refine wpAny_pure (by
            show wpAny _ _ (ret Value.none) _ _ _
            refine wpAny_pure ⟨rfl, h', tk', us, rfl, hS, hu, fun b o e => hm.heap b o ?_ (Heap.get?_push_of_some _ (Heap.get?_push_of_some _ e))⟩
            have lb := Heap.lt_size e
            rw [Heap.size_push]; simp only [List.mem_cons, List.not_mem_nil, or_false, not_or]
            exact ⟨Nat.ne_of_lt lb, Nat.ne_of_lt (Nat.lt_succ_of_lt lb)⟩)
      · match r2, hr2 with
        | .error e, h => exact h
        | .ok .next, h => exact h.elim
        | .ok .brk, h => exact h.elim
        | .ok .cont, h => exact h.elim
        | .ok (.ret v), ⟨e1, h', tk, us, e2, hS, hu, hk⟩ =>
          subst e1 e2
          repeat (any_goals (first | assumption | wp_step))
          exact k _ _ _ hS hu hk))
end
end Hb
set_option Elab.async false
set_option linter.all false
set_option maxRecDepth 100000
set_option maxHeartbeats 8000000
/-! sorted(set(texts)). -/
namespace Hb
open PySem PySem.Spec PyProof.Rows
section
variable {P : Program} {w : World} {A : Around} {E : Value → Shared → Prop} {s : Shared} {a : Addr} {l : List Str}
theorem strs_of : ∀ vs : List Value, (∀ v ∈ vs, ∃ k tk, v = Value.str k tk) → ∃ ss, StrsAre vs ss ∧ vs.map (fun v => match v with | .str k _ => k | _ => Str.empty) = ss
  | [], _ => ⟨[], .nil, rfl⟩
  | v :: vs, h => by
    obtain ⟨k, tk, rfl⟩ := h v List.mem_cons_self
    obtain ⟨ss, h1, h2⟩ := strs_of vs fun u hu => h u (List.mem_cons_of_mem _ hu)
    exact ⟨k :: ss, .cons k tk h1, by rw [List.map_cons, h2]⟩
theorem sorted_setT {Q : Value → Shared → Prop} (R : SetT P w s.heap a l) (calm : A.handled = none) (few : l.length < 64)
    (hQ : ∀ s' p (out : Array Value) (c : Nat) (ns : List Str), (∀ b o, s.heap.get? b = some o → s'.heap.get? b = some o) → s'.gens = s.gens → s'.os = s.os → s.heap.objs.size ≤ p →
      s'.heap.get? p = some (seqObj "list" out c) → StrsAre out.toList ns → sortedS ns = true → ns.Perm l → Q (.ref p) s') : wpAny (model P w) A (call (.builtin "sorted") [.ref a]) Q E s := by
  obtain ⟨o, es, ep, t, x⟩ := R
  have lenl : es.size = l.length := by rw [← x.mem.length_eq, List.length_map, Array.length_toList]
  refine Calls.call_function_entry kind_sorted plain_sorted entry_sorted (args_sorted1 _) ?_
  unfold Builtin.«sorted»
  refine wpAny_bind (m := checkCount "sorted" 1 1 _) (wpAny_pure (wpAny_bind (L2.collect_set (A := A.in1) calm ⟨o, x.ho, x.ex.1, x.hd⟩ x.fits x.few x.ris x.led fun s1 vs k1 hz g1 o1 pm => ?_)))
  have hvl : vs.length = l.length := by rw [pm.length_eq, List.length_map, Array.length_toList]; exact lenl
  obtain ⟨ss, hS, e⟩ := strs_of vs fun v hv => by
    obtain ⟨e, he, q⟩ := List.mem_map.mp (pm.mem_iff.mp hv)
    obtain ⟨k, tk, h1, _⟩ := x.good e he
    exact ⟨k, tk, by rw [← q]; exact h1⟩
  have ps : ss.Perm l := by
    have q := pm.map (fun v => match v with | Value.str k _ => k | _ => Str.empty)
    rw [e, List.map_map] at q
    exact q.trans x.mem
  have v64 : vs.length < 64 := by rw [hvl]; exact few
  refine wpAny_bind (wpAny_newList ?_ (by rw [hvl, sizeLine_eq]; omega))
  have hoL : (s1.heap.push (seqObj "list" vs.toArray 0)).get? s1.heap.objs.size = some (seqObj "list" vs.toArray 0) := Heap.get?_push_size _ rfl
  refine wpAny_bind (wpAny_holding (wpAny_call_entry slot_list_sort ⟨_, hoL, rfl⟩ entry_list_sort (list_sort_treeK strKind_oneLt hoL hS.keysOf (fun v₁ v₂ rest e => keyKind_strs (by rw [← e]; exact hS)) v64 fun st' a1 a2 => ⟨_, rfl, ?_⟩) (args_list_sort _)))
  obtain ⟨ss', b1, b2, b3⟩ := sorted_out_str hS a1 a2
  obtain ⟨c, hc⟩ := sortedHeap_at (vs := vs) (out := (arrOf st').map (·.2)) hoL
  refine wpAny_pure ⟨_, rfl, hQ _ s1.heap.objs.size _ c ss' (fun b u e => ?_) g1 o1 hz hc b1 b3 (b2.trans ps)⟩
  have q := k1 b u e
  have lt := Heap.lt_size q
  show (sortedHeap (s1.heap.push (seqObj "list" vs.toArray 0)) s1.heap.objs.size vs _).get? b = some u
  rw [sortedHeap_old (Nat.ne_of_lt lt) (by rw [size_push']; exact Nat.lt_succ_of_lt lt)]
  exact Heap.get?_push_of_some _ q
end
end Hb
namespace Hb
open PySem PySem.Spec PyProof.Rows L2
/-- sorted(set(xs)), xs a list of texts -/
def tSortSet (K : PySem.W.Frag) (ta : TE) : TE := fun σ H Q => ta σ H fun x H1 => ∃ (l : Addr) (xs : List Str), x = .ref l ∧ SqL K H1 l (xs.map V.str) ∧ xs.length < 64 ∧
  ∀ (ns : List Str) (p : Addr), ns.Nodup → (∀ k, k ∈ ns ↔ k ∈ xs) → sortedS ns = true → H1 p = none → Q (.ref p) (upd H1 p (.lst (ns.map V.str)))
theorem pe_sortSet {X : Cx} {a : Expr} {ta : TE} {p p2 q pos : Pos} (hg : Gl X "sorted") (hm : X.mg "sorted" = none) (hg2 : Gl X "set") (hm2 : X.mg "set" = none) (ha : PE X a ta) (calm : X.calm = true := by rfl)
    (na : starEach [a] X.env = (false, eval a X.env) :: starEach [] X.env := by rfl) : PE X (.Call (.Name "sorted" p) [.Call (.Name "set" p2) [a] [] q] [] pos) (tSortSet X.K ta) := by
  refine ⟨fun pins s σ H Q I h => Call_ (ld_blt I hg hm boot_sorted (callWith_builtin1 (args_cons (Call_ (ld_blt I hg2 hm2 boot_set
    (callWith_type1 (args_cons (thn (ha.run pins s σ H _ I h) fun v z ⟨x, H1, J, r, q⟩ => args_nil ?_) na) na rfl))) rfl) rfl rfl))⟩
  obtain ⟨l, xs, rfl, hq, few, q⟩ := q
  cases r
  obtain ⟨its, rv, pl, hz⟩ := J.list hq
  refine set_textsR (J.ok.hd calm) pl.isList (by simpa using strsAre_of rv) (by unfold scanBound; omega) fun h' tk us hS hu hk => args_nil ?_
  have J2 : Inv X pins σ H1 { z with heap := h', toks := tk } := J.kept hk
  refine sorted_setT hS (J.ok.hd calm) (Nat.lt_of_le_of_lt hu.2.1 few) fun s' p out c ns k1 g1 o1 lt at_ hs so pm => ?_
  have nl : (ns.map V.str).length ≤ sizeLine := by rw [List.length_map, pm.length_eq, sizeLine_eq]; have := hu.2.1; omega
  have free : H1 p = none := J2.hok.fresh lt
  have J3 : Inv X pins σ (upd H1 p (.lst (ns.map V.str))) { { z with heap := h', toks := tk } with heap := s'.heap, gens := s'.gens, drawn := s'.drawn, toks := s'.toks } :=
    J2.call (ch := []) (Un.laid k1 lt free) (J2.hok.laid k1 lt ⟨nl, out.toList, c, vals_of_strs hs, at_⟩) (by rw [g1]; exact J2.bare) fun _ y => nomatch y
  have e : s' = { { z with heap := h', toks := tk } with heap := s'.heap, gens := s'.gens, drawn := s'.drawn, toks := s'.toks } := by
    cases s'
    cases z
    cases o1
    rfl
  rw [e]
  exact ⟨.ref p, _, J3, rfl, q ns p (pm.nodup_iff.mpr hu.1) (fun k => pm.mem_iff.trans (hu.2.2 k)) so free⟩
end Hb
set_option Elab.async false
set_option linter.all false
set_option maxRecDepth 100000
set_option maxHeartbeats 4000000
/-! len(x) by a def of the class. -/
namespace Hb
open PySem PySem.Spec PyProof.Rows
section
variable {prog : Program} {w : World} {A : Around} {E : Value → Shared → Prop} {s : Shared} {K : PySem.W.Frag} {x C f : Addr} {ox : Obj} {od : Option Obj}
theorem lenBody_own {Q : Value → Shared → Prop} (X : K.In s.heap) (I : PySem.W.InstAt s.heap x ox C od) (hs : PySem.W.findIn K (.ref C) "__len__" = some (some (.ref f))) (hf : PySem.W.isFn K (.ref f) = true)
    (h : wpAny (model prog w) A (call (.ref f) [.ref x]) (fun r z => ∃ (n : Int) (t : Tok), r = Value.int n t ∧ 0 ≤ n ∧ n < 2 ^ 63 ∧ ∀ t' tk, Q (.int n t') { z with toks := tk }) E s) : wpAny (model prog w) A (Builtin.«len» ⟨[.ref x], []⟩) (fun fin s' => ∃ r, fin = .done (.ret r) ∧ Q r s') E s := by
  unfold Builtin.«len»
  refine wpAny_bind (m := oneArg "len" _) (wpAny_pure ?_)
  refine wpAny_bind (m := callSpecial? (.ref x) (Str.ofString "__len__")) (PySem.W.special_fn X I hs (beq_iff_eq.mp hf) (wpAny_mono h (fun r z hr => ?_) fun _ _ e => e))
  obtain ⟨n, t, rfl, h0, h1, q⟩ := hr
  refine wpAny_bind (wpAny_holding (wpAny_pure ?_))
  refine wpAny_bind (wpAny_letGo ?_)
  show wpAny _ _ (if n < 0 then _ else _) _ _ _
  rw [if_neg (by omega)]
  show wpAny _ _ (if n ≥ 2 ^ 63 then _ else _) _ _ _
  rw [if_neg (by omega)]
  exact wpAny_bind (wpAny_mkInt (wpAny_pure ⟨_, rfl, q _ _⟩))
end
end Hb
namespace Hb
open PySem PySem.Spec PyProof.Rows L2
/-- the class at C has a __len__ of its own -/
structure LenOf (P : Program) (w : World) (K : PySem.W.Frag) (mg : Str → Option Value) (base : Heap) (k : Nat) (C : Addr) (sp : Sp) : Prop where
  ex : ∃ (f : Addr) (fd : FuncData) (ps : List Str), PySem.W.findIn K (.ref C) "__len__" = some (some (.ref f)) ∧ PySem.W.isFn K (.ref f) = true ∧ FnOk P w K mg base CX0 k f fd ps sp ∧ Binds K fd ps []
def rLenOwn (C : Addr) (sp : Sp) : List V → Hp → VK → Prop := fun xs H Q => ∃ (a dx : Addr) (fs : List (Str × V)), xs = [.ref a] ∧ H a = some (.ins C dx fs) ∧ sp [.ref a] H (fun v H' => ∃ n : Int, v = .int n ∧ 0 ≤ n ∧ n < 2 ^ 63 ∧ Q v H') C8.E0
section
variable {X : Cx} {C : Addr} {k j : Nat} {sp : Sp}
theorem call_lenOwn (c : LenOf X.prog X.w X.K X.mg X.base k C sp) (hr : Room j X.A) (hk : k + 1 ≤ j) : CallR X (.builtin "len") (rLenOwn C sp) := by
  intro pins s σ H xs us Q I r h
  obtain ⟨f, fd, ps, hs, hf, FO, hb⟩ := c.ex
  obtain ⟨a, dx, fs, rfl, ha, q⟩ := h
  rw [Vals.ref1 r]
  obtain ⟨mA, J, _⟩ := ins_get I.hok ha
  obtain ⟨od, J, _⟩ := J.look
  have X0 := I.kIn
  have hj : Room (k + 1) X.A := hr.mono hk
  have h2 : Room k X.A.in1 := hj.in1
  have r2 : Vals [V.ref a] [Value.ref a] := .cons rfl .nil
  refine Calls.call_function_entry kind_len plain_len entry_len (args_len1 _) ?_
  refine lenBody_own X0 J hs hf (wpAny_call (codeAny_mono (FO.run X.A.in1 X.stack s H ⟨[.ref a], []⟩ [.ref a] [.ref a] _ C8.E0 h2 I.env0.in1 (by
      have l := FO.len _ _ _ _ q
      have z := hb s [.ref a] X0 (by simpa using l)
      simpa using z) r2 q) fun r s' hq => ?_))
  cases r with
  | error e => exact (C8.pass0 (E := C8.E0) pins σ H s e s' I hq)
  | ok fl =>
    cases fl with
    | ret w2 =>
      obtain ⟨z, H', I', rz, n, ez, n0, n1, qz⟩ := I.after hq
      subst ez
      obtain ⟨t, e⟩ := (show ∃ t, w2 = Value.int n t from rz)
      subst e
      exact ⟨n, t, rfl, n0, n1, fun t' tk => ⟨.int n, H', I'.tok tk, ⟨t', rfl⟩, qz⟩⟩
    | next => exact False.elim hq
    | brk => exact False.elim hq
    | cont => exact False.elim hq
end
end Hb
set_option Elab.async false
set_option linter.all false
set_option maxRecDepth 100000
set_option maxHeartbeats 4000000
/-! Defs that stand behind a record of a class (a property's getter, a classmethod's def), in a head's facts. -/
namespace He
open PySem PySem.Spec PyProof.Rows L2
def fnP (K : PySem.W.Frag) (a : Addr) : FnW := match K.lookup a with
  | some ⟨_, _, .func fd, _⟩ => some (fd.name, fd.qualname, fd.params, fd.body, fd.scope, fd.globals, fd.closure, fd.builtins)
  | _ => none
/-- the first thing of the record of the class T at C.m -/
def rp (K : PySem.W.Frag) (T : String) (C : Addr) (m : Str) : Addr := match PySem.W.recIn K (ma K C m) T with
  | some (.ref g :: _) => g
  | _ => 0
def okP (K : PySem.W.Frag) (a : Addr) (d : DefD) : Bool := PySem.W.keepIn K (.ref a) && (match K.lookup a with
  | some ⟨_, _, .func fd, _⟩ => PySem.W.codeIn K fd.code d.qual && (dflB K fd.defaults (d.dvs K) && kwdB K fd.kwdefaults (d.kws K))
  | _ => false)
theorem funP {K : PySem.W.Frag} {a : Addr} {d : DefD} (e : fnP K a = d.val) (c : okP K a d = true) : ∃ fd, FunD K d.name d.qual d.params d.body d.scope (d.dvs K) (d.kws K) a fd := by
  obtain ⟨kp, c2⟩ := ba c
  unfold fnP at e
  cases q : K.lookup a with
  | none =>
    rw [q] at c2
    cases c2
  | some o =>
    obtain ⟨oc, od, dt, osl⟩ := o
    rw [q] at c2 e
    cases dt with
    | func fd =>
      obtain ⟨n1, n2, n3, n4, n5, n6, n7, n8, n9, n10, n11, n12, n13, n14, n15⟩ := fd
      have e2 : (some (n1, n2, n3, n4, n5, n6, n7, n15) : FnW) = some (d.name, d.qual, d.params, .stmts d.body, d.scope, mainGlobals, [], builtinsNs) := e
      simp only [Option.some.injEq, Prod.mk.injEq] at e2
      obtain ⟨h1, h2, h3, h4, h5, h6, h7, h8⟩ := e2
      subst h1 h2 h3 h4 h5 h6 h7 h8
      have c3 : (PySem.W.codeIn K n13 d.qual && (dflB K n8 (d.dvs K) && kwdB K n9 (d.kws K))) = true := c2
      obtain ⟨k1, k2⟩ := ba c3
      obtain ⟨k3, k4⟩ := ba k2
      exact ⟨_, ⟨oc, od, n8, n9, n10, n11, n12, n13, n14, osl, rfl, q, k1, dflB_ok k3, kwdB_ok k4⟩, kp⟩
    | _ => cases e
abbrev Dp := (PySem.W.Frag → Addr) × DefD
abbrev AlY : Type := AlX × List FnW
def obsY (n : Nat) (fa : List Fa) (fn : List DefD) (ex : PySem.W.Frag → Bool) (fp : List Dp) (g : Addr → Option Obj) : AlY := (obsX n fa fn [] [] ex g, fp.map fun p => fnP (frT g (asD g n)) (p.1 (frT g (asD g n))))
def valY (fn : List DefD) (fp : List Dp) (w : World) : AlY := (valX fn [] w, fp.map fun p => p.2.val)
structure SaysY (fa : List Fa) (fn : List DefD) (ex : PySem.W.Frag → Bool) (fp : List Dp) (w : World) (h : Heap) (K : PySem.W.Frag) : Prop where
  x : SaysX fa fn [] [] ex w h K
  p : fp.map (fun p => fnP K (p.1 K)) = fp.map fun p => p.2.val
def hookY (n : Nat) (fa : List Fa) (fn : List DefD) (ex : PySem.W.Frag → Bool) (fp : List Dp) : PySem.W.Hook where
  α := AlY
  obs := fun s => obsY n fa fn ex fp s.heap.get?
  val := fun w => valY fn fp w
  says := fun w h => ∃ K : PySem.W.Frag, K.In h ∧ SaysY fa fn ex fp w h K
  of := fun _ _ e => ⟨_, frT_in, saysX_of (congrArg (fun z : AlY => z.1) e), congrArg (fun z : AlY => z.2) e⟩
  keeps := fun _ _ _ ⟨K, hK, c⟩ k => ⟨K, PySem.W.Frag.In.keeps hK k, ⟨⟨c.x.t, c.x.more, c.x.hd, c.x.out, fun p hp => k _ _ (c.x.empty p hp)⟩, c.p⟩⟩
theorem obsY_eq {n : Nat} {fa : List Fa} {fn : List DefD} {ex : PySem.W.Frag → Bool} {fp : List Dp} {g : Addr → Option Obj} {s : Shared} (h : ∀ a, g a = s.heap.get? a) : obsY n fa fn ex fp g = (hookY n fa fn ex fp).obs s := by
  have e : g = s.heap.get? := funext h
  rw [e] <;> rfl
/-- the i-th of them -/
theorem def_p {K : PySem.W.Frag} {fp : List Dp} (c : fp.map (fun p => fnP K (p.1 K)) = fp.map fun p => p.2.val) (i : Nat) {p : Dp} (h : fp[i]? = some p) (ok : okP K (p.1 K) p.2 = true) :
    ∃ fd, FunD K p.2.name p.2.qual p.2.params p.2.body p.2.scope (p.2.dvs K) (p.2.kws K) (p.1 K) fd := by
  have e2 : (fp.map fun p => fnP K (p.1 K))[i]? = (fp.map fun p => p.2.val)[i]? := by rw [c]
  rw [List.getElem?_map, List.getElem?_map, h] at e2
  exact funP (Option.some.inj e2) ok
/-! what the class must have -/
def propB (K : PySem.W.Frag) (C : Addr) (f : Str) : Bool := eqO (PySem.W.findIn K (.ref C) f) (some (some (.ref (ma K C f)))) && (eqO (PySem.W.specialIn K (.ref (ma K C f)) "__get__") (some (some (.builtin "property.__get__"))) && (decide (PySem.W.takesIn K (.ref (ma K C f)) = some true) &&
  (match PySem.W.recIn K (ma K C f) "property" with
  | some (.ref g :: _) => true
  | _ => false)))
theorem prop_ok {K : PySem.W.Frag} {C : Addr} {f : Str} (h : propB K C f = true) : PropOf K C f (ma K C f) (rp K "property" C f) := by
  obtain ⟨h1, h⟩ := ba h
  obtain ⟨h2, h⟩ := ba h
  obtain ⟨h3, h4⟩ := ba h
  refine ⟨eqO_ok h1, eqO_ok h2, of_decide_eq_true h3, ?_⟩
  unfold rp
  split at h4
  · rename_i g rest e
    rw [e]
    exact ⟨_, rfl⟩
  · cases h4
end He
set_option Elab.async false
set_option linter.all false
set_option maxRecDepth 100000
set_option maxHeartbeats 4000000
/-! Mathematics of houses: sorted things, shown things, mended houses. -/
namespace Hb
open PySem PySem.Spec PyProof.Rows L2
abbrev leS (a b : Str) : Prop := ltCps b.cps.toList a.cps.toList = false
theorem ltS_iff (a b : Str) : ltCps a.cps.toList b.cps.toList = true ↔ a.cps.toList < b.cps.toList := by rw [ltCps_eq]; exact decide_eq_true_iff
theorem leS_iff (a b : Str) : leS a b ↔ ¬ b.cps.toList < a.cps.toList := by unfold leS; rw [ltCps_eq]; exact decide_eq_false_iff_not
theorem leS_trans {a b c : Str} (h1 : leS a b) (h2 : leS b c) : leS a c := by
  rw [leS_iff] at *
  rw [List.not_lt] at *
  exact List.le_trans h1 h2
theorem leS_antisymm {a b : Str} (h1 : leS a b) (h2 : leS b a) : a = b := by
  rw [leS_iff] at *
  rw [List.not_lt] at *
  have e := List.le_antisymm h1 h2
  obtain ⟨⟨x⟩⟩ := a
  obtain ⟨⟨y⟩⟩ := b
  simp only at e
  subst e
  rfl
theorem leS_total (a b : Str) : leS a b ∨ leS b a := by
  rw [leS_iff, leS_iff, List.not_lt, List.not_lt]
  exact List.le_total _ _
theorem risingS_pw : ∀ (p : Str) (l : List Str), risingS p l = true → (p :: l).Pairwise leS
  | p, [], _ => List.pairwise_singleton _ _
  | p, x :: r, h => by
    have h2 : (!ltCps x.cps.toList p.cps.toList && risingS x r) = true := h
    obtain ⟨h3, h4⟩ := Bool.and_eq_true_iff.mp h2
    have h5 : leS p x := by simpa using h3
    have ih := risingS_pw x r h4
    refine List.pairwise_cons.mpr ⟨fun y hy => ?_, ih⟩
    rcases List.mem_cons.mp hy with rfl | hy
    · exact h5
    · exact leS_trans h5 (List.rel_of_pairwise_cons ih hy)
theorem sortedS_pw : ∀ {l : List Str}, sortedS l = true → l.Pairwise leS
  | [], _ => .nil
  | x :: r, h => risingS_pw x r h
theorem pw_unique {α : Type} {r : α → α → Prop} (anti : ∀ a b, r a b → r b a → a = b) : ∀ {l m : List α}, l.Pairwise r → m.Pairwise r → l.Nodup → m.Nodup → (∀ k, k ∈ l ↔ k ∈ m) → l = m
  | [], m, _, _, _, _, h => by
    cases m with
    | nil => rfl
    | cons y m => exact absurd ((h y).mpr List.mem_cons_self) (by simp)
  | x :: l, [], _, _, _, _, h => absurd ((h x).mp List.mem_cons_self) (by simp)
  | x :: l, y :: m, p1, p2, n1, n2, h => by
    obtain ⟨a1, b1⟩ := List.pairwise_cons.mp p1
    obtain ⟨a2, b2⟩ := List.pairwise_cons.mp p2
    obtain ⟨c1, d1⟩ := List.nodup_cons.mp n1
    obtain ⟨c2, d2⟩ := List.nodup_cons.mp n2
    have e : x = y := by
      rcases List.mem_cons.mp ((h x).mp List.mem_cons_self) with e | hx
      · exact e
      · rcases List.mem_cons.mp ((h y).mpr List.mem_cons_self) with e | hy
        · exact e.symm
        · exact anti x y (a1 y hy) (a2 x hx)
    subst e
    have ih := pw_unique anti b1 b2 d1 d2 fun k => by
      have hk := h k
      simp only [List.mem_cons] at hk
      by_cases e : k = x
      · subst e; exact ⟨fun q => absurd q c1, fun q => absurd q c2⟩
      · exact ⟨fun q => (hk.mp (.inr q)).resolve_left e, fun q => (hk.mpr (.inr q)).resolve_left e⟩
    rw [ih]
theorem sorted_unique {l m : List Str} (h1 : sortedS l = true) (h2 : sortedS m = true) (n1 : l.Nodup) (n2 : m.Nodup) (h : ∀ k, k ∈ l ↔ k ∈ m) : l = m :=
  pw_unique (fun _ _ => leS_antisymm) (sortedS_pw h1) (sortedS_pw h2) n1 n2 h
/-! what is sorted stays -/
theorem sort_id {α : Type} {le : α → α → Bool} {l : List α} (h : l.Pairwise fun a b => le a b = true) : l.mergeSort le = l := List.mergeSort_of_pairwise h
theorem leF {a b : Fl} (h : a.1 < b.1) : PySem.W.dataLe false encF a b = true := by
  have n : ¬ b.1 < a.1 := by omega
  simp [PySem.W.dataLe, PySem.W.sortLe, encF, PySem.W.keyToks, PySem.W.keyToksAll, PyProof.Rows.listOrd, PyProof.Rows.lexLt, PyProof.Rows.itemOrd, PyProof.Rows.itemLt, n, h]
theorem leI {a b : Int} (h : a < b) : PySem.W.dataLe false PyData.int a b = true := by
  have n : ¬ b < a := by omega
  simp [PySem.W.dataLe, PySem.W.sortLe, PySem.W.keyToks, PyProof.Rows.listOrd, PyProof.Rows.lexLt, PyProof.Rows.itemOrd, PyProof.Rows.itemLt, n, h]
theorem sortF_id {l : List Fl} (h : (l.map Prod.fst).Pairwise (· < ·)) : sortF l = l := sort_id ((List.pairwise_map.mp h).imp fun q => leF q)
theorem sortI_id {l : List Int} (h : l.Pairwise (· < ·)) : sortI l = l := sort_id (h.imp fun q => leI q)
theorem sortF_sortF (l : List Fl) : sortF (sortF l) = sortF l := sort_id (List.pairwise_mergeSort (PySem.W.sortLe_total _ _ _).trans (fun a b => Bool.or_eq_true_iff.mpr ((PySem.W.sortLe_total _ _ _).total a b)) l)
/-! what is shown is short -/
theorem piled_le {n : Nat} : ∀ {ts : List Str}, (∀ t ∈ ts, t.length ≤ n) → piled ts ≤ (n + 2) * ts.length
  | [], _ => by simp [piled]
  | t :: ts, h => by
    have h1 := h t List.mem_cons_self
    have h2 := piled_le (ts := ts) fun x hx => h x (List.mem_cons_of_mem _ hx)
    rw [piled_cons, List.length_cons, Nat.mul_add]
    omega
theorem tupleText_le (ts : List Str) : (tupleText ts).length ≤ piled ts + 3 := by
  unfold tupleText
  rw [Str.length_append, Str.length_append]
  have a : (("(" : Str)).length = 1 := rfl
  have b : ((if ts.length == 1 then ",)" else ")" : String) : Str).length ≤ 2 := by split <;> decide
  cases ts with
  | nil => rw [a]; simp only [piled_nil]; have : (Str.join ", " ([] : List Str)).length = 0 := rfl; omega
  | cons t r =>
    have := join_length_add (t :: r) (by simp)
    rw [a]
    omega
theorem shownAll_len : ∀ ds : List PyData, (PyData.shownAll ds).length = ds.length
  | [] => rfl
  | d :: ds => by simp only [PyData.shownAll, List.length_cons, shownAll_len ds]
theorem shownAll_le {n : Nat} : ∀ {ds : List PyData}, (∀ d ∈ ds, d.shown.length ≤ n) → ∀ t ∈ PyData.shownAll ds, t.length ≤ n
  | [], _, t, h => by simp [PyData.shownAll] at h
  | d :: ds, h0, t, h => by
    simp only [PyData.shownAll, List.mem_cons] at h
    rcases h with rfl | h
    · exact h0 d List.mem_cons_self
    · exact shownAll_le (fun e he => h0 e (List.mem_cons_of_mem _ he)) t h
theorem tup_le {n m : Nat} {ds : List PyData} (h : ∀ d ∈ ds, d.shown.length ≤ n) (hm : ds.length ≤ m) : (PyData.tuple ds).shown.length ≤ (n + 2) * m + 3 := by
  simp only [PyData.shown]
  have a := tupleText_le (PyData.shownAll ds)
  have b := piled_le (shownAll_le h)
  rw [shownAll_len] at b
  have c := Nat.mul_le_mul_left (n + 2) hm
  omega
end Hb
set_option Elab.async false
set_option linter.all false
set_option maxRecDepth 100000
set_option maxHeartbeats 4000000
/-! Methods, comparisons, properties of a class, from the head's facts. -/
namespace Hb
open PySem PySem.Spec PyProof.Rows L2
section
variable {P : Program} {w : World} {K : PySem.W.Frag} {mg : Str → Option Value} {base : Heap}
/-- a method without defaults -/
def Dm (K : PySem.W.Frag) (C m qual : Str) (st : Stmt) : Prop := Meth K (He.ga K C) m (He.ma K (He.ga K C) m) ∧ ∃ fd, FunD K m qual (defArgs st) (defBody st) (defScope st) [] [] (He.ma K (He.ga K C) m) fd
/-- a property -/
def Dprop (K : PySem.W.Frag) (C m qual : Str) (st : Stmt) : Prop := PropOf K (He.ga K C) m (He.ma K (He.ga K C) m) (He.rp K "property" (He.ga K C) m) ∧ ∃ fd, FunD K m qual (defArgs st) (defBody st) (defScope st) [] [] (He.rp K "property" (He.ga K C) m) fd
variable {C m qual : Str} {st : Stmt} {ps : List Str} {k : Nat} {sp : Sp}
abbrev BdN (m qual : Str) (st : Stmt) (ps : List Str) : Prop := ∀ (kV doc pm : Value) (an : Option Addr) (cdv ct : Value) (us : List Value), us.length = ps.length → bindArgs (PySem.W.fnOf m qual (defArgs st) (defBody st) (defScope st) .none kV doc pm an cdv ct) ⟨us, []⟩ = pure (ps.zip us)
theorem met_ (D : Dm K C m qual st) (c : Cls K (He.ga K C)) (bd : BdN m qual st ps) (ok : ∀ {f : Addr} {fd : FuncData}, FunD K m qual (defArgs st) (defBody st) (defScope st) [] [] f fd → FnOk P w K mg base CX0 k f fd ps sp) : C8.Met P w K mg base k (He.ga K C) m sp [] := by
  obtain ⟨hm, fd, F⟩ := D
  exact ⟨⟨_, fd, ps, [], c, hm, ok F, F.bindsN bd, .nil⟩⟩
theorem eqOf_ (D : Dm K C "__eq__" qual st) (bd : BdN "__eq__" qual st ps) (ok : ∀ {f : Addr} {fd : FuncData}, FunD K "__eq__" qual (defArgs st) (defBody st) (defScope st) [] [] f fd → FnOk P w K mg base CX0 k f fd ps sp) : EqOf P w K mg base k (He.ga K C) sp := by
  obtain ⟨hm, fd, F⟩ := D
  exact ⟨⟨_, fd, ps, hm.at_, hm.fn, ok F, F.bindsN bd⟩⟩
theorem lenOf_ (D : Dm K C "__len__" qual st) (bd : BdN "__len__" qual st ps) (ok : ∀ {f : Addr} {fd : FuncData}, FunD K "__len__" qual (defArgs st) (defBody st) (defScope st) [] [] f fd → FnOk P w K mg base CX0 k f fd ps sp) : LenOf P w K mg base k (He.ga K C) sp := by
  obtain ⟨hm, fd, F⟩ := D
  exact ⟨⟨_, fd, ps, hm.at_, hm.fn, ok F, F.bindsN bd⟩⟩
theorem strOf_ (D : Dm K C "__str__" qual st) (bd : BdN "__str__" qual st ps) (ok : ∀ {f : Addr} {fd : FuncData}, FunD K "__str__" qual (defArgs st) (defBody st) (defScope st) [] [] f fd → FnOk P w K mg base CX0 k f fd ps sp) : StrOf P w K mg base k (He.ga K C) sp := by
  obtain ⟨hm, fd, F⟩ := D
  exact ⟨⟨_, fd, ps, hm.at_, hm.fn, ok F, F.bindsN bd⟩⟩
/-- the class at C has a property -/
structure GetOf (P : Program) (w : World) (K : PySem.W.Frag) (mg : Str → Option Value) (base : Heap) (k : Nat) (C : Addr) (m : Str) (sp : Sp) : Prop where
  ex : ∃ (p g : Addr) (fd : FuncData) (ps : List Str), PropOf K C m p g ∧ FnOk P w K mg base CX0 k g fd ps sp ∧ Binds K fd ps []
theorem getOf_ (D : Dprop K C m qual st) (bd : BdN m qual st ps) (ok : ∀ {f : Addr} {fd : FuncData}, FunD K m qual (defArgs st) (defBody st) (defScope st) [] [] f fd → FnOk P w K mg base CX0 k f fd ps sp) : GetOf P w K mg base k (He.ga K C) m sp := by
  obtain ⟨hp, fd, F⟩ := D
  exact ⟨⟨_, _, fd, ps, hp, ok F, F.bindsN bd⟩⟩
end
theorem pe_get {X : Cx} {C : Addr} {m : Str} {k j : Nat} {sp : Sp} (c : GetOf X.prog X.w X.K X.mg X.base k C m sp) (cl : Cls X.K C) (hr : Room j X.A) (hk : k + 1 ≤ j) {e : Expr} {ta : TE} {pos : Pos} (he : PE X e ta)
    (hab : attributeBase e m X.env (eval e X.env) = eval e X.env := by rfl) : PE X (.Attribute e m pos) (tProp C sp [] C8.E0 ta) := by
  obtain ⟨p, g, fd, ps, hp, F, b⟩ := c.ex
  exact pe_prop he cl hp F (hr.mono hk) b .nil C8.pass0 hab
end Hb
set_option Elab.async false
set_option linter.all false
set_option maxRecDepth 100000
set_option maxHeartbeats 4000000
/-! A class whose __init__ has defaults, called with all arguments and with none of these; sorted permutations. -/
namespace He
open PySem PySem.Spec PyProof.Rows L2
def nilB (K : PySem.W.Frag) (a : Addr) : Bool := match K.lookup a with
  | some ⟨.type c, _, .seq its _, _⟩ => decide (c = "tuple") && its.isEmpty
  | _ => false
theorem nilB_ok {K : PySem.W.Frag} {a : Addr} (h : nilB K a = true) (H : Hp) : SqT K H a [] := by
  unfold nilB at h
  split at h
  · rename_i c d its n sl e
    obtain ⟨h1, h2⟩ := ba h
    have e1 : c = "tuple" := of_decide_eq_true h1
    have e2 : its = #[] := Array.isEmpty_iff.mp h2
    subst e1 e2
    exact .inr ⟨_, #[], n, e, rfl, rfl, Nat.zero_le _, .nil⟩
  · cases h
end He
namespace Hb
open PySem PySem.Spec PyProof.Rows L2
section
variable {P : Program} {w : World} {K : PySem.W.Frag} {mg : Str → Option Value} {base : Heap}
def Df1v (K : PySem.W.Frag) (mg : Str → Option Value) (C qual : Str) (st : Stmt) (dvs : List V) : Prop := Mk K (He.ga K C) (He.ma K (He.ga K C) "__init__") ∧ mg C = some (.ref (He.ga K C)) ∧
  ∃ fd, FunD K "__init__" qual (defArgs st) (defBody st) (defScope st) dvs [] (He.ma K (He.ga K C) "__init__") fd
theorem mak_mkD2 {C qual : Str} {st : Stmt} {N ps : List Str} {k n : Nat} {sp : Sp} {dvs : List V} (hd : dvs ≠ []) (hn : n + dvs.length = ps.length) (D : Df1v K mg C qual st dvs) (S : FnScope N ps (defScope st))
    (bd : ∀ (T : Addr) (kV doc pm : Value) (an : Option Addr) (cdv ct : Value) (us its : List Value), us.length = ps.length → its.length = dvs.length →
      ∃ k, bindArgs (PySem.W.fnOf "__init__" qual (defArgs st) (defBody st) (defScope st) (.ref T) kV doc pm an cdv ct) ⟨us, []⟩ = seqItems? (.ref T) >>= k ∧ k (some its.toArray) = pure (ps.zip us))
    (bp : ∀ (T : Addr) (kV doc pm : Value) (an : Option Addr) (cdv ct : Value) (us its : List Value), us.length = n → its.length = dvs.length →
      ∃ k, bindArgs (PySem.W.fnOf "__init__" qual (defArgs st) (defBody st) (defScope st) (.ref T) kV doc pm an cdv ct) ⟨us, []⟩ = seqItems? (.ref T) >>= k ∧ k (some its.toArray) = pure (ps.zip (us ++ its)))
    (len : ∀ vs H Q E, sp vs H Q E → vs.length = ps.length)
    (hbody : ∀ (f : Addr) (cdv : Value) (A : Around) (outer : List Env) (s : Shared) (H : Hp) (vs : List V) (Q : VK) (E : XK), Room k (A.deeper (envOfC qual (defScope st) s.heap.objs.size f cdv)) → sp vs H Q E →
      ∃ t, PSs (cxOf CX0 P w K mg base N qual (defScope st) f cdv A outer s H E).nox (defBody st) t ∧ t { nx := fun _ H' => Q .non H', rt := Q } (start N vs) H) :
    C8.Mak P w K mg base (k + 1) C (He.ga K C) sp [] ∧ C8.Mak P w K mg base (k + 1) C (He.ga K C) sp dvs := by
  obtain ⟨M, hm, fd, F⟩ := D
  have ok : FnOk P w K mg base CX0 (k + 1) (He.ma K (He.ga K C) "__init__") fd ps sp := F.ok S len fun cdv A outer s H vs Q E hr h => by
    obtain ⟨t, h1, h2⟩ := hbody _ cdv A outer s H vs Q E hr h
    exact ⟨t, h1.nox, h2⟩
  constructor
  · obtain ⟨ds, r, b⟩ := F.binds1 ps.length dvs.length hd (by rw [Nat.sub_self, Nat.add_zero]) fun T kV doc pm an cdv ct us its h1 h2 => by
      obtain ⟨k, e1, e2⟩ := bd T kV doc pm an cdv ct us its h1 h2
      exact ⟨k, e1, by rw [e2, List.drop_of_length_le (by rw [h2] <;> exact Nat.le_refl _), List.append_nil]⟩
    rw [List.drop_of_length_le (Nat.le_refl _)] at r
    cases r
    exact ⟨⟨_, fd, ps, [], M, ok, hm, b, .nil⟩⟩
  · obtain ⟨ds, r, b⟩ := F.binds1 n 0 hd (by rw [Nat.sub_zero]; exact hn) fun T kV doc pm an cdv ct us its h1 h2 => by
      obtain ⟨k, e1, e2⟩ := bp T kV doc pm an cdv ct us its h1 h2
      exact ⟨k, e1, by rw [e2, List.drop_zero]⟩
    rw [List.drop_zero] at r
    exact ⟨⟨_, fd, ps, ds, M, ok, hm, b, r⟩⟩
end
/-! sorted permutations -/
theorem data_total {a b : PyData} (h1 : (listOrd itemOrd).blt (PySem.W.keyToks b) (PySem.W.keyToks a) = false) (h2 : (listOrd itemOrd).blt (PySem.W.keyToks a) (PySem.W.keyToks b) = false) : PySem.W.keyToks a = PySem.W.keyToks b := (listOrd itemOrd).total _ _ h2 h1
theorem le_blt {α : Type} {enc : α → PyData} {a b : α} (h : PySem.W.dataLe false enc a b = true) : (listOrd itemOrd).blt (PySem.W.keyToks (enc b)) (PySem.W.keyToks (enc a)) = false := by
  have z : (!(listOrd itemOrd).blt (PySem.W.keyToks (enc b)) (PySem.W.keyToks (enc a))) = true := h
  simpa using z
theorem sort_pw {α : Type} (enc : α → PyData) (l : List α) : (l.mergeSort (PySem.W.dataLe false enc)).Pairwise fun a b => PySem.W.dataLe false enc a b = true :=
  List.pairwise_mergeSort (PySem.W.sortLe_total _ _ _).trans (fun a b => Bool.or_eq_true_iff.mpr ((PySem.W.sortLe_total _ _ _).total a b)) l
theorem encF_toks {a b : Fl} (e : PySem.W.keyToks (encF a) = PySem.W.keyToks (encF b)) : a = b := by
  obtain ⟨a1, ⟨⟨a2⟩⟩⟩ := a
  obtain ⟨b1, ⟨⟨b2⟩⟩⟩ := b
  simp [encF, PySem.W.keyToks, PySem.W.keyToksAll] at e
  rw [e.1, e.2]
theorem sortF_perm_eq {es fs : List Fl} (p : es.Perm fs) (a : (fs.map Prod.fst).Pairwise (· < ·)) : sortF es = fs := by
  have nd : fs.Nodup := (List.pairwise_map.mp a).imp fun {x y} q e => by subst e; exact absurd q (Int.lt_irrefl _)
  have ps := (sortF_perm es).trans p
  exact pw_unique (r := fun x y => PySem.W.dataLe false encF x y = true) (fun x y h1 h2 => encF_toks (data_total (le_blt h1) (le_blt h2))) (sort_pw encF es) ((List.pairwise_map.mp a).imp fun q => leF q) (ps.nodup_iff.mpr nd) nd fun k => ps.mem_iff
theorem sortI_perm_eq {es fs : List Int} (p : es.Perm fs) (a : fs.Pairwise (· < ·)) : sortI es = fs := by
  have nd : fs.Nodup := a.imp fun {x y} q e => by subst e; exact absurd q (Int.lt_irrefl _)
  have ps := (sortI_perm es).trans p
  refine pw_unique (r := fun x y => PySem.W.dataLe false PyData.int x y = true) (fun x y h1 h2 => ?_) (sort_pw PyData.int es) (a.imp fun q => leI q) (ps.nodup_iff.mpr nd) nd fun k => ps.mem_iff
  have e := data_total (le_blt h1) (le_blt h2)
  simp [PySem.W.keyToks] at e
  exact e
end Hb
set_option Elab.async false
set_option linter.all false
set_option maxRecDepth 100000
set_option maxHeartbeats 4000000
/-! Calls without arguments; data that equals itself. -/
namespace Hb
open PySem PySem.Spec PyProof.Rows L2
theorem pe_c0 {X : Cx} {k j : Nat} {x : Str} {sp : Sp} {dvs : List V} {p pos : Pos} (c : C8.Cal X.prog X.w X.K X.mg X.base k x sp dvs) (hr : Room j X.A) (hk : k ≤ j) (hg : Gl X x) (hdb : (x == ("__debug__" : Str)) = false := by decide) :
    PE X (.Call (.Name x p) [] [] pos) (tCall sp dvs C8.E0 tNil) := by
  obtain ⟨f, fd, ps, ds, F, hm, kp, b, d⟩ := c.ex
  exact pe_call0 F (hr.mono hk) hg hm kp b d C8.pass0 hdb
mutual
theorem alike_self : ∀ d : PyData, d.canLay0 = true → PySem.W.alike d d = true
  | .none, _ => rfl
  | .bool _, _ => rfl
  | .int _, _ => rfl
  | .str _, _ => rfl
  | .list xs, h => by
    simp only [PyData.canLay0] at h
    simp only [PySem.W.alike]
    exact alikeAll_self xs h
  | .tuple xs, h => by
    simp only [PyData.canLay0] at h
    simp only [PySem.W.alike]
    exact alikeAll_self xs h
  | .dict _, h => by simp [PyData.canLay0] at h
theorem alikeAll_self : ∀ ds : List PyData, PyData.canLayAll0 ds = true → PySem.W.alikeAll ds ds = true
  | [], _ => rfl
  | d :: ds, h => by
    simp only [PyData.canLayAll0, Bool.and_eq_true] at h
    simp only [PySem.W.alikeAll, alike_self d h.1, alikeAll_self ds h.2, Bool.and_self]
end
theorem eqv_self {d : PyData} (h : SeqAt.shaped d = true) : PyData.eqv d d = true := PySem.W.eqv_refl_alike d (alike_self d (SeqAt.canLay_of_shaped h))
section
variable {K : PySem.W.Frag} {H : Hp} {Q : VK} {x y : V} {d : PyData}
theorem ne_data (hx : Dp K H x d) (hy : Dp K H y d) (s : SeqAt.shaped d = true) (q : Q (.bl false) H) : rNeD K x y H Q := ⟨d, d, hx, hy, s, s, by rw [eqv_self s]; exact q⟩
theorem eq_data (hx : Dp K H x d) (hy : Dp K H y d) (s : SeqAt.shaped d = true) (q : Q (.bl true) H) : rEqD K x y H Q := ⟨d, d, hx, hy, s, s, by rw [eqv_self s]; exact q⟩
end
theorem shaped_of {d : PyData} (h : Shp d) : SeqAt.shaped d = true := h.shaped
/-- tuples and lists of such -/
theorem Shp.tup {n : Nat} {ds : List PyData} (h : ∀ d ∈ ds, d.canLay0 = true ∧ d.depth ≤ n) (hn : n + 1 ≤ 60) : (PyData.tuple ds).canLay0 = true ∧ (PyData.tuple ds).depth ≤ n + 1 := by
  have g : PyData.canLayAll0 ds = true ∧ PyData.depthAll ds ≤ n := by
    induction ds with
    | nil => exact ⟨by simp [PyData.canLayAll0], by simp [PyData.depthAll]⟩
    | cons d ds ih =>
      obtain ⟨h1, h2⟩ := ih fun e he => h e (List.mem_cons_of_mem _ he)
      obtain ⟨h3, h4⟩ := h d List.mem_cons_self
      exact ⟨by simp [PyData.canLayAll0, h1, h3], by simp only [PyData.depthAll]; omega⟩
  exact ⟨by simp only [PyData.canLay0]; exact g.1, by simp only [PyData.depth]; have := g.2; omega⟩
theorem Shp.lst {n : Nat} {ds : List PyData} (h : ∀ d ∈ ds, d.canLay0 = true ∧ d.depth ≤ n) (hn : n + 1 ≤ 60) : (PyData.list ds).canLay0 = true ∧ (PyData.list ds).depth ≤ n + 1 := by
  obtain ⟨a, b⟩ := Shp.tup h hn
  simp only [PyData.canLay0, PyData.depth] at a b ⊢
  exact ⟨a, b⟩
end Hb
set_option Elab.async false
set_option linter.all false
set_option maxRecDepth 100000
set_option maxHeartbeats 4000000
/-! A head with a table of texts, properties and classmethods. -/
namespace He
open PySem PySem.Spec PyProof.Rows L2
abbrev AlZ : Type := AlX × List FnW
/-- what the names reach, and the table of the interpreter's own statics -/
def frZ (n : Nat) (g : Addr → Option Obj) : PySem.W.Frag := frT g (asD g n ++ [cStatics])
def obsZ (n : Nat) (fa : List Fa) (fn : List DefD) (ts : List Tab) (ex : PySem.W.Frag → Bool) (fp : List Dp) (g : Addr → Option Obj) : AlZ := ((obsT fa fn ts (frZ n g), ex (frZ n g)), fp.map fun p => fnP (frZ n g) (p.1 (frZ n g)))
def valZ (fn : List DefD) (ts : List Tab) (fp : List Dp) (w : World) : AlZ := (valX fn ts w, fp.map fun p => p.2.val)
structure SaysZ (fa : List Fa) (fn : List DefD) (ts : List Tab) (ex : PySem.W.Frag → Bool) (fp : List Dp) (w : World) (h : Heap) (K : PySem.W.Frag) : Prop where
  x : SaysX fa fn ts [] ex w h K
  p : fp.map (fun p => fnP K (p.1 K)) = fp.map fun p => p.2.val
def hookZ (n : Nat) (fa : List Fa) (fn : List DefD) (ts : List Tab) (ex : PySem.W.Frag → Bool) (fp : List Dp) : PySem.W.Hook where
  α := AlZ
  obs := fun s => obsZ n fa fn ts ex fp s.heap.get?
  val := fun w => valZ fn ts fp w
  says := fun w h => ∃ K : PySem.W.Frag, K.In h ∧ SaysZ fa fn ts ex fp w h K
  of := fun _ _ e => ⟨_, frT_in, ⟨congrArg (fun z : AlZ => z.1.1) e, congrArg (fun z : AlZ => z.1.2) e, fun _ h => (nomatch h), fun _ h => (nomatch h), fun _ h => (nomatch h)⟩, congrArg (fun z : AlZ => z.2) e⟩
  keeps := fun _ _ _ ⟨K, hK, c⟩ k => ⟨K, PySem.W.Frag.In.keeps hK k, ⟨⟨c.x.t, c.x.more, c.x.hd, c.x.out, fun p hp => k _ _ (c.x.empty p hp)⟩, c.p⟩⟩
theorem obsZ_eq {n : Nat} {fa : List Fa} {fn : List DefD} {ts : List Tab} {ex : PySem.W.Frag → Bool} {fp : List Dp} {g : Addr → Option Obj} {s : Shared} (h : ∀ a, g a = s.heap.get? a) : obsZ n fa fn ts ex fp g = (hookZ n fa fn ts ex fp).obs s := by
  have e : g = s.heap.get? := funext h
  rw [e] <;> rfl
/-! the tuples that a table holds -/
def tabAt (x k : Str) (K : PySem.W.Frag) : Addr := match PySem.W.nsIn K (ga K x) k with
  | some (some (.ref a)) => a
  | _ => 0
def tupA (K : PySem.W.Frag) (a : Addr) (vs : List V) : Bool := match K.lookup a with
  | some ⟨.type c, _, .seq its _, _⟩ => decide (c = "tuple") && (decide (its.size ≤ sizeLine) && relAll vs its.toList)
  | _ => false
theorem tupA_ok {K : PySem.W.Frag} {a : Addr} {vs : List V} (h : tupA K a vs = true) (H : Hp) : SqT K H a vs := by
  unfold tupA at h
  split at h
  · rename_i c d its n sl e
    obtain ⟨h1, h2⟩ := ba h
    obtain ⟨h3, h4⟩ := ba h2
    have e1 : c = "tuple" := of_decide_eq_true h1
    subst e1
    exact .inr ⟨_, its, n, e, rfl, rfl, of_decide_eq_true h3, relAll_ok h4⟩
  · cases h
/-- a table of tuples of texts: each key's tuple -/
def tabB (K : PySem.W.Frag) (x : Str) (L : List (Str × List Str)) : Bool := L.all fun q => eqO (PySem.W.nsIn K (ga K x) q.1) (some (some (.ref (tabAt x q.1 K)))) && tupA K (tabAt x q.1 K) (q.2.map V.str)
theorem tabB_ok {K : PySem.W.Frag} {w : World} {x : Str} {L : List (Str × List Str)} (h : tabB K x L = true) {es : Array DictEntry} {n : Nat} (D : KDict K w (ga K x) es n) {q : Str × List Str} (hq : q ∈ L) :
    KDct K w (ga K x) q.1 (.ref (tabAt x q.1 K)) ∧ ∀ H, SqT K H (tabAt x q.1 K) (q.2.map V.str) := by
  obtain ⟨h1, h2⟩ := ba (List.all_eq_true.mp h q hq)
  exact ⟨⟨es, n, _, D.at_, D.lit, eqO_ok h1, rfl⟩, tupA_ok h2⟩
/-! a classmethod -/
def cmB (K : PySem.W.Frag) (C : Addr) (m : Str) : Bool := PySem.W.readsIn K C (.type "type") && (eqO (PySem.W.specialIn K (.ref C) "__getattribute__") (some (some (.builtin "type.__getattribute__"))) &&
  ((match PySem.W.findCls K (.ref C) (.type "type") m with
  | some (.get (.builtin b) (.ref p) .none (.ref C')) => decide (b = "classmethod.__get__") && (decide (p = ma K C m) && decide (C' = C))
  | _ => false) && ((match PySem.W.recIn K (ma K C m) "classmethod" with
  | some (.ref g :: _) => true
  | _ => false) && PySem.W.fnIn K (rp K "classmethod" C m))))
theorem cm_ok {K : PySem.W.Frag} {C : Addr} {m : Str} (h : cmB K C m = true) : ClX.CRead K C (.type "type") ∧ ClX.CMet K C (.type "type") m (ma K C m) (rp K "classmethod" C m) := by
  obtain ⟨h1, h⟩ := ba h
  obtain ⟨h2, h⟩ := ba h
  obtain ⟨h3, h⟩ := ba h
  obtain ⟨h4, h5⟩ := ba h
  refine ⟨⟨h1, eqO_ok h2⟩, ?_, ?_, h5⟩
  · split at h3
    · rename_i b p C' e
      obtain ⟨x1, x2⟩ := ba h3
      obtain ⟨x3, x4⟩ := ba x2
      rw [e, of_decide_eq_true x1, of_decide_eq_true x3, of_decide_eq_true x4]
    · cases h3
  · unfold rp
    split at h4
    · rename_i g rest e
      rw [e]
      exact ⟨_, rfl⟩
    · cases h4
end He
namespace Hb
open PySem PySem.Spec PyProof.Rows L2
/-- with all arguments, and with but the first n (the defaults from the j-th on fill up) -/
theorem mak_mkDj {P : Program} {w : World} {K : PySem.W.Frag} {mg : Str → Option Value} {base : Heap} {C qual : Str} {st : Stmt} {N ps : List Str} {k n j : Nat} {sp : Sp} {dvs : List V} (hd : dvs ≠ []) (hn : n + (dvs.length - j) = ps.length) (D : Df1v K mg C qual st dvs) (S : FnScope N ps (defScope st))
    (bd : ∀ (T : Addr) (kV doc pm : Value) (an : Option Addr) (cdv ct : Value) (us its : List Value), us.length = ps.length → its.length = dvs.length →
      ∃ k, bindArgs (PySem.W.fnOf "__init__" qual (defArgs st) (defBody st) (defScope st) (.ref T) kV doc pm an cdv ct) ⟨us, []⟩ = seqItems? (.ref T) >>= k ∧ k (some its.toArray) = pure (ps.zip us))
    (bp : ∀ (T : Addr) (kV doc pm : Value) (an : Option Addr) (cdv ct : Value) (us its : List Value), us.length = n → its.length = dvs.length →
      ∃ k, bindArgs (PySem.W.fnOf "__init__" qual (defArgs st) (defBody st) (defScope st) (.ref T) kV doc pm an cdv ct) ⟨us, []⟩ = seqItems? (.ref T) >>= k ∧ k (some its.toArray) = pure (ps.zip (us ++ its.drop j)))
    (len : ∀ vs H Q E, sp vs H Q E → vs.length = ps.length)
    (hbody : ∀ (f : Addr) (cdv : Value) (A : Around) (outer : List Env) (s : Shared) (H : Hp) (vs : List V) (Q : VK) (E : XK), Room k (A.deeper (envOfC qual (defScope st) s.heap.objs.size f cdv)) → sp vs H Q E →
      ∃ t, PSs (cxOf CX0 P w K mg base N qual (defScope st) f cdv A outer s H E).nox (defBody st) t ∧ t { nx := fun _ H' => Q .non H', rt := Q } (start N vs) H) :
    C8.Mak P w K mg base (k + 1) C (He.ga K C) sp [] ∧ C8.Mak P w K mg base (k + 1) C (He.ga K C) sp (dvs.drop j) := by
  obtain ⟨M, hm, fd, F⟩ := D
  have ok : FnOk P w K mg base CX0 (k + 1) (He.ma K (He.ga K C) "__init__") fd ps sp := F.ok S len fun cdv A outer s H vs Q E hr h => by
    obtain ⟨t, h1, h2⟩ := hbody _ cdv A outer s H vs Q E hr h
    exact ⟨t, h1.nox, h2⟩
  constructor
  · obtain ⟨ds, r, b⟩ := F.binds1 ps.length dvs.length hd (by rw [Nat.sub_self, Nat.add_zero]) fun T kV doc pm an cdv ct us its h1 h2 => by
      obtain ⟨k, e1, e2⟩ := bd T kV doc pm an cdv ct us its h1 h2
      exact ⟨k, e1, by rw [e2, List.drop_of_length_le (by rw [h2] <;> exact Nat.le_refl _), List.append_nil]⟩
    rw [List.drop_of_length_le (Nat.le_refl _)] at r
    cases r
    exact ⟨⟨_, fd, ps, [], M, ok, hm, b, .nil⟩⟩
  · obtain ⟨ds, r, b⟩ := F.binds1 n j hd hn bp
    exact ⟨⟨_, fd, ps, ds, M, ok, hm, b, r⟩⟩
/-- a classmethod of the class C, without defaults -/
def Dcm (K : PySem.W.Frag) (C m qual : Str) (st : Stmt) : Prop := (ClX.CRead K (He.ga K C) (.type "type") ∧ ClX.CMet K (He.ga K C) (.type "type") m (He.ma K (He.ga K C) m) (He.rp K "classmethod" (He.ga K C) m)) ∧
  ∃ fd, FunD K m qual (defArgs st) (defBody st) (defScope st) [] [] (He.rp K "classmethod" (He.ga K C) m) fd
structure CmOf (P : Program) (w : World) (K : PySem.W.Frag) (mg : Str → Option Value) (base : Heap) (k : Nat) (C : Addr) (m : Str) (sp : Sp) : Prop where
  ex : ∃ p g, ClX.CRead K C (.type "type") ∧ ClX.CMet K C (.type "type") m p g ∧ FnR P w K mg base CX0 k g sp
theorem cmOf_ {P : Program} {w : World} {K : PySem.W.Frag} {mg : Str → Option Value} {base : Heap} {C m qual : Str} {st : Stmt} {ps : List Str} {k : Nat} {sp : Sp} (D : Dcm K C m qual st) (bd : BdN m qual st ps)
    (ok : ∀ {f : Addr} {fd : FuncData}, FunD K m qual (defArgs st) (defBody st) (defScope st) [] [] f fd → FnOk P w K mg base CX0 k f fd ps sp) : CmOf P w K mg base k (He.ga K C) m sp := by
  obtain ⟨⟨h1, h2⟩, fd, F⟩ := D
  refine ⟨⟨_, _, h1, h2, ?_⟩⟩
  have z := FnOk.raw (ok F) (F.bindsN bd) .nil
  exact z.imp fun vs H Q E q => by simpa using q
theorem pe_cm {X : Cx} {C : Addr} {m : Str} {k j : Nat} {sp : Sp} {o e : Expr} {es : List Expr} {pos apos : Pos} {ta : TE} {t : TA} {pl : Sem Bool} (c : CmOf X.prog X.w X.K X.mg X.base k C m sp) (hr : Room j X.A) (hk : k ≤ j) (he : PE X o ta) (ha : PA X (e :: es) t)
    (hst : starEach (e :: es) X.env = (false, eval e X.env) :: starEach es X.env := by rfl) (hpl : (backTo pos (starEach es X.env)).any (·.1) = false := by rfl)
    (ht : eval (.Call (.Attribute o m apos) (e :: es) [] pos) X.env = (do
      let ov ← eval o X.env
      standAt apos.atName
      let (f, first) ← holding [ov] (getMethod ov m pl)
      callWith pos f first (backTo pos (starEach (e :: es) X.env)) (backToKw pos (keywordEach [] X.env))) := by rfl) :
    PE X (.Call (.Attribute o m apos) (e :: es) [] pos) (ClX.tCMeth C sp C8.E0 ta t) := by
  obtain ⟨p, g, h1, h2, F⟩ := c.ex
  exact ClX.pe_cmeth he h1 h2 F (hr.mono hk) C8.pass0 ha hst hpl ht
end Hb
set_option Elab.async false
set_option linter.all false
set_option maxRecDepth 100000
set_option maxHeartbeats 4000000
/-! enumerate of a list or a tuple. -/
namespace Hb
open PySem PySem.Spec PyProof.Rows L2
theorem meets_enum1 {v : Value} {o : Obj} {B0 : Heap → Prop} (B : Begins v o B0) :
    Meets (Builtin.«enumerate.__new__» ⟨[.type "enumerate", v], []⟩) (fun _ R s => B0 s.heap ∧
      R (.ok (.ret (.ref (s.heap.push o).objs.size))) { s with heap := (s.heap.push o).push { cls := .type "enumerate", data := .fields #[.none, .bool false, .ref s.heap.objs.size, rawInt 0, .none, .none] } }) :=
  .of_wp fun prog w A R s h => by
    obtain ⟨hp, g, d, tk, os⟩ := s; obtain ⟨h1, h⟩ := h
    have hsub := sub_enumerate
    have q1 : ∀ {A' : Around} {E : Value → Shared → Prop} {Q : Value → Shared → Prop}, Q (.ref hp.objs.size) ⟨hp.push o, g, d, tk, os⟩ → wpAny (model prog w) A' (pyIter v) Q E ⟨hp, g, d, tk, os⟩ :=
      fun q => B.iter prog w _ _ ⟨hp, g, d, tk, os⟩ _ h1 q
    wp_walk using q1
    refine wpAny_stack_any fun st => wpAny_pure ?_
    split
    · rename_i c _ _ _ _ _
      cases (c == Value.type "enumerate")
      · wp_walk using q1
        exact ⟨_, rfl, h⟩
      · wp_walk using q1
        exact ⟨_, rfl, h⟩
    · wp_walk using q1
      exact ⟨_, rfl, h⟩
section
variable {prog : Program} {w : World} {A : Around} {E : Value → Shared → Prop} {s : Shared}
theorem call_enum1 {v : Value} {o : Obj} {B0 : Heap → Prop} {Q : Value → Shared → Prop} (B : Begins v o B0) (h1 : B0 s.heap)
    (h : ∀ h', IsEnum h' (s.heap.objs.size + 1) s.heap.objs.size 0 .none → h'.get? s.heap.objs.size = some o → h'.objs.size = s.heap.objs.size + 2 →
      (∀ b o, s.heap.get? b = some o → h'.get? b = some o) → Q (.ref (s.heap.objs.size + 1)) { s with heap := h' }) :
    wpAny (model prog w) A (call (.type "enumerate") [v]) Q E s := by
  refine callType_new F.called_enumerate (by decide) (F.typeCall_enumerate_1 _) (F.newCall_enumerate_1 _) (fun obj => F.args_object_init_2 obj _) F.entry_enumerate_new
    (meets_enum1 B) ⟨h1, ?_⟩
  have hz : (s.heap.push o).objs.size = s.heap.objs.size + 1 := Heap.size_push ..
  show _ ∧ _
  rw [hz]
  have he : IsEnum ((s.heap.push o).push { cls := .type "enumerate", data := .fields #[.none, .bool false, .ref s.heap.objs.size, rawInt 0, .none, .none] }) (s.heap.objs.size + 1) s.heap.objs.size 0 .none := by
    have := Heap.get?_push_size (s.heap.push o) (o := { cls := .type "enumerate", data := .fields #[.none, .bool false, .ref s.heap.objs.size, rawInt 0, .none, .none] }) rfl
    rw [hz] at this; exact this
  refine ⟨⟨_, he, rfl⟩, h _ he (Heap.get?_push_of_some _ (Heap.get?_push_size _ B.free)) (by rw [Heap.size_push, hz]) fun b o x => Heap.get?_push_of_some _ (Heap.get?_push_of_some _ x)⟩
end
/-- the tuple at a, each item in a new pair -/
def Itet (K : PySem.W.Frag) (a : Addr) (xs : List V) : It :=
  ⟨fun i H => SqT K H a xs ∧ ∃ x, xs[i]? = some x, fun i H v H' => ∃ T x, v = .ref T ∧ H T = none ∧ H' = upd H T (.tup [.int (i : Nat), x]) ∧ xs[i]? = some x, fun i H => SqT K H a xs ∧ xs.length ≤ i⟩
theorem turn_enumT {P : Program} {w : World} {K : PySem.W.Frag} {elts : List Expr} {kk : Nat} {tpos : Pos} (a e it : Addr) (xs : List V) (ha : a ≠ it) (hea : e ≠ a) :
    L2.Turn P w K (.Tuple elts kk tpos) (Itet K a xs) [e, it] e (fun i h => (∃ old, IsEnum h e it ((i : Nat) : Int) old) ∧ h.IsTupleIter it a i ∧ e ≠ it) where
  mem := by simp
  obj := fun i h st b hb => by
    obtain ⟨⟨old, he⟩, ⟨o, ho, hc, hd⟩, _⟩ := st
    have e' : b = e ∨ b = it := by simpa using hb
    rcases e' with z | z
    · rw [z]; exact ⟨_, he, fun v q => nomatch q⟩
    · rw [z]; exact ⟨o, ho, fun v q => by rw [hd] at q; cases q⟩
  keep := fun i h h' st k => let ⟨⟨old, he⟩, hi, hne⟩ := st; ⟨⟨old, k e (by simp) _ he⟩, hi.at fun o q => k it (by simp) o q, hne⟩
  item := by
    intro X hP hw hK hc i pins s σ H E I hf st hg
    subst hP hw hK
    obtain ⟨⟨old, he⟩, hit, hne⟩ := st
    obtain ⟨hq, x, hx⟩ := hg
    obtain ⟨its, rv, p, hz⟩ := I.tuple hq
    obtain ⟨u, hu, ru⟩ := rv.get hx
    have hel : e < s.heap.objs.size := Heap.lt_size he
    have hil : it < s.heap.objs.size := by obtain ⟨_, q, _⟩ := hit; exact Heap.lt_size q
    have hlen : its.toArray.size = xs.length := by rw [List.size_toArray]; exact rv.length.symm
    have hix : i < its.toArray.size := by rw [hlen]; exact (List.getElem?_eq_some_iff.mp hx).1
    refine wpAny_pyNext_enum_itemD (Draws.tuple (A := X.A.in1) (I.ok.hd hc) it a ha its.toArray) he ⟨hit, p⟩ hix hne (by simp [hea, hne]) fun u2 h' tk hu2 ho st' hT hsz hk => ?_
    have eu : u2 = u := by
      have e1 : its.toArray[i]? = some u := by simpa using hu
      exact Option.some.inj (hu2.symm.trans e1)
    subst eu
    refine ⟨_, rfl, wpAny_letOwnedTupleGo_enum (s := { s with heap := h', toks := tk + 1 }) ho fun h'' he' sb => ?_⟩
    have hT2 : h''.get? s.heap.objs.size = some { cls := .type "tuple", data := .seq #[.int i tk, u2] } := (sb.2 _ (Nat.ne_of_gt hel)).trans hT
    have new : ObjOk X.prog X.w (upd H s.heap.objs.size (.tup [.int (i : Nat), x])) h'' s.heap.objs.size (.tup [.int (i : Nat), x]) :=
      ⟨by show 2 ≤ sizeLine; decide, [.int i tk, u2], .cons ⟨_, rfl⟩ (.cons ru .nil), ⟨_, hT2, rfl, _, rfl⟩⟩
    have I1 : Inv X pins σ (upd H s.heap.objs.size (.tup [.int (i : Nat), x])) { s with heap := h'', toks := tk + 1 } :=
      I.turnedNew (ch := [e, it]) (fun b ob hb q => (sb.2 b (fun z => hb (by simp [z]))).trans (hk b ob (fun z => hb (by simp [z])) (fun z => hb (by simp [z])) q)) hf (Nat.le_refl _) new
    refine ⟨.ref s.heap.objs.size, _, I1, rfl, ⟨_, x, rfl, I.hok.fresh (Nat.le_refl _), rfl, hx⟩, ⟨⟨u2, ?_⟩, st'.1.at fun o q => (sb.2 it (Ne.symm hne)).trans q, hne⟩, fun b hb => ?_⟩
    · have e1 : ((i + 1 : Nat) : Int) = (i : Int) + 1 := by omega
      rw [e1]; exact he'
    · have hb' : b < s.heap.objs.size := by
        have e' : b = e ∨ b = it := by simpa using hb
        rcases e' with z | z
        · rw [z]; exact hel
        · rw [z]; exact hil
      rw [upd_ne (Nat.ne_of_lt hb')]
      exact (hf b hb).1
  done := by
    intro X hP hw hK hc i pins s σ H E I hf st hg
    subst hP hw hK
    obtain ⟨⟨old, he⟩, hit, hne⟩ := st
    obtain ⟨hq, hx⟩ := hg
    obtain ⟨its, rv, p, hz⟩ := I.tuple hq
    obtain ⟨f0, f1, f2, f3, f4, f5⟩ := hf it (by simp)
    have hlen : its.toArray.size = xs.length := by rw [List.size_toArray]; exact rv.length.symm
    have T : s.TypeIs (.ref e) "enumerate" := ⟨_, he, rfl⟩
    unfold pyNext
    refine wpAny_bind (wpAny_attempt (wpAny_callSpecial?_slot (name := Str.ofString "__next__") T F.slot_enumerate_next
      (wpAny_call_entry F.slot_enumerate_next T F.entry_enumerate_next ?_ (F.args_enumerate_next_1 _))))
    show wpAny _ _ (field (.ref e) 2 >>= _) _ _ _
    refine wpAny_bind (wpAny_field he rfl (x := .ref it) rfl ?_)
    refine wpAny_bind (wpAny_nextOf_tuple_end (I.ok.hd hc) hit p (Array.getElem?_eq_none (by omega)) fun h' x eb hx' => ?_)
    obtain ⟨o, ho, hcl⟩ := hx'
    refine wpAny_bind (wpAny_isInstance (T := "StopIteration") (b := true) ⟨o, ho, hcl⟩ isSubtype_stop ?_)
    exact wpAny_pure ⟨rfl, I.turned (t' := s.toks) (fun b o hb q => eb b o hb q) f0 f1 f3 f4 f5⟩
  self := fun A i s Q E st h => let ⟨⟨_, he⟩, _⟩ := st; wpAny_pyIter_enum he h
theorem walk_enumT {K : PySem.W.Frag} {a : Addr} {xs : List V} : Walk (Itet K a xs) xs.length (fun H => SqT K H a xs) (YPair (fun i => some (.int (i : Nat))) (fun i => xs[i]?)) := by
  refine ⟨fun i _ hi q => ⟨q, xs[i], by simp [hi]⟩, fun _ q => ⟨q, Nat.le_refl _⟩, fun i H v H' _ q y => ?_⟩
  obtain ⟨T, x, h1, h2, h3, h4⟩ := y
  exact ⟨T, .int (i : Nat), x, h1, h2, h3, rfl, h4⟩
/-- a list or a tuple, with numbers -/
def iEnumS (K : PySem.W.Frag) (ta : TA) : TI := fun σ H R => ta σ H fun vs H1 => ∃ a xs, vs = [.ref a] ∧ (SqL K H1 a xs ∨ SqT K H1 a xs) ∧
  ∀ (J : It) (G : Hp → Prop), (∀ H', Same H1 H' → G H') → Walk J xs.length G (YPair (fun i => some (.int (i : Nat))) (fun i => xs[i]?)) → R J H1
theorem pi_enumS {X : Cx} {e : Expr} {ta : TA} {p pos tpos : Pos} {elts : List Expr} {kk : Nat} (hg : Gl X "enumerate") (hm : X.mg "enumerate" = none) (ha : PA X [e] ta) (hs : starEach [e] X.env = [(false, eval e X.env)] := by rfl) :
    PI X (.Tuple elts kk tpos) (.Call (.Name "enumerate" p) [e] [] pos) (iEnumS X.K ta) := by
  refine ⟨fun pins s σ H R I h => ?_⟩
  refine Call_ (ld_blt I hg hm boot_enumerate (PyProof.Rows.callWith_type1 (thn (ha.run pos pins s σ H _ I h) fun us s1 ⟨vs, H1, I1, r1, q1⟩ => ?_) hs rfl))
  obtain ⟨a, xs, ex, hq, q⟩ := q1
  subst ex
  cases r1 with
  | cons r rr =>
    cases rr
    cases r
    have far : ∀ b ∈ [s1.heap.objs.size + 1, s1.heap.objs.size], FpOk X pins H1 b := fun b hb => by
      have e' : b = s1.heap.objs.size + 1 ∨ b = s1.heap.objs.size := by simpa using hb
      have hle : s1.heap.objs.size ≤ b := by
        rcases e' with z | z
        · rw [z]; exact Nat.le_add_right _ _
        · rw [z]; exact Nat.le_refl _
      exact I1.fpOk hle (I1.hok.fresh hle)
    rcases hq with hq | hq
    · obtain ⟨its, rv, p', hz⟩ := I1.list hq
      refine call_enumerate_list p'.isList fun h' he hit hsz hk => wpAny_pyIter_enum he ?_
      exact ⟨s1.heap.objs.size + 1, [s1.heap.objs.size + 1, s1.heap.objs.size], _, _, H1, rfl, I1.kept (t' := s1.toks) hk, turn_enum a (s1.heap.objs.size + 1) s1.heap.objs.size, ⟨⟨.none, he⟩, hit, Nat.succ_ne_self _⟩, far, q _ _ (fun H' s => Same.seq s hq) walk_enum⟩
    · obtain ⟨its, rv, p', hz⟩ := I1.tuple hq
      have hal : a < s1.heap.objs.size := by obtain ⟨o, ho, _⟩ := id p'; exact Heap.lt_size ho
      refine call_enum1 (begins_tuple a its.toArray) p' fun h' he hit hsz hk => wpAny_pyIter_enum he ?_
      exact ⟨s1.heap.objs.size + 1, [s1.heap.objs.size + 1, s1.heap.objs.size], _, _, H1, rfl, I1.kept (t' := s1.toks) hk, turn_enumT a (s1.heap.objs.size + 1) s1.heap.objs.size xs (Nat.ne_of_lt hal) (Nat.ne_of_gt (Nat.lt_succ_of_lt hal)), ⟨⟨.none, he⟩, ⟨_, hit, rfl, rfl⟩, Nat.succ_ne_self _⟩, far, q _ _ (fun H' s => SqT.keep (Same.tk s) hq) walk_enumT⟩
end Hb
set_option Elab.async false
set_option linter.all false
set_option maxRecDepth 100000
set_option maxHeartbeats 4000000
/-! A law's def run where it is called from: nothing is being shown there, so that what repr gives is known. -/
namespace Hb
open PySem PySem.Spec PyProof.Rows L2
/-- a law's body, where the law is called from -/
def BodyG (P : Program) (w : World) (K : PySem.W.Frag) (mg : Str → Option Value) (N : List Str) (sc : Scope) (body : List Stmt) (k n : Nat) : Prop :=
  ∀ (base : Heap) (f a : Addr) (cdv : Value) (s : Shared) (H : Hp) (ns : List Int), ns.length ≤ n → SqL K H a (ns.map V.int) → Room k (callerA.deeper (envOfC "law" sc s.heap.objs.size f cdv)) →
    ∃ t, PSs (cxOf CX0 P w K mg base N "law" sc f cdv callerA [] s H E0).nox body t ∧ t { nx := fun _ _ => False, rt := fun v _ => v = .bl true } (start N [.ref a]) H
section
variable {P : Program} {w : World} {K : PySem.W.Frag} {mg mb : Str → Option Value} {k n : Nat} {fa a : Addr} {fd : FuncData} {x : Str} {N : List Str} {sc : Scope} {body : List Stmt} {params : Arguments} {s1 : Shared} {vs : List Value} {ns : List Int}
/-- from the heap in which the script alone may be tracked -/
theorem run_law {H : Hp} {base : Heap} (F : FunD K "law" "law" params body sc [] [] fa fd) (S : FnScope N [x] sc) (hr : Room (k + 1) callerA) (hbind : ∀ (s : Shared) (u : Value), BindsTo s fd ⟨[u], []⟩ [(x, u)])
    (B : BodyG P w K mg N sc body k n) (e0 : Env0 P w K mg base callerA [] s1 H) (hq : SqL K H a (ns.map V.int)) (hn : ns.length ≤ n) (only : Only H) :
    codeAny (model P w) callerA (.call (.ref fa) ⟨[.ref a], []⟩) (fun r s' => r = .ok (.ret (.bool true)) ∧ OldK s1.heap s'.heap ∧ s'.os = s1.os ∧ AllBare s'.gens) s1 := by
  obtain ⟨oc, od, dV, kV, doc, pm, an, cdv, ct, osl, rfl, lk, hcd, _, _⟩ := F.ex
  have KX : K.In s1.heap := e0.mod.kin.keeps fun b o e => (e0.bs b o e).1
  have lim : s1.heap.NoLimit := e0.mod.nolimit.keeps fun b o e => (e0.bs b o e).1
  have kinds : ∀ y ∈ ([x] : List Str).zip [Value.ref a], sc.names.lookup y.1 = some .local ∨ (sc.names.lookup y.1 = some .cell ∧ ((cellsFrom (s1.heap.objs.size + 1) sc.names []).lookup y.1).isSome = true) := by
    rintro ⟨m, v⟩ hy
    exact (S.par m (List.of_mem_zip hy).1).imp id fun q => ⟨q, PySem.W.cellsFrom_some _ _ _ (.inl q)⟩
  refine codeAny_call_function hr.depth (KX _ _ lk) rfl S.co S.gen rfl (PySem.W.codeRec_of KX hcd) (hbind s1 (.ref a) _ _ _ _ ?_)
  refine wpAny_newFunctionEnv_cells S.kind kinds fun env he z y => ?_
  subst he
  obtain ⟨t, ht, hb⟩ := B base fa a cdv s1 H ns hn hq (hr.deeper _)
  have I : Inv (cxOf CX0 P w K mg base N "law" sc fa cdv callerA [] s1 H E0) [] (start N [.ref a]) H z := inv_start S hr.hd e0 rfl (.cons rfl .nil) y
  refine ⟨lim.keeps y.toInCall.keep, codeAny_func (wpAny_mono (ht.run [] z (start N [.ref a]) H _ (I.wish _) hb) (fun fl s' hs0 => ?_) fun e s' hs => False.elim hs)⟩
  have hs := hs0.unwish
  cases fl with
  | brk => obtain ⟨_, _, _, q⟩ := hs; exact False.elim q
  | cont => obtain ⟨_, _, _, q⟩ := hs; exact False.elim q
  | next => obtain ⟨_, _, _, q⟩ := hs; exact False.elim q
  | ret u =>
    obtain ⟨v, σ', H', J, rv, q⟩ := hs
    have q2 : v = V.bl true := q
    subst q2
    obtain rfl : u = Value.bool true := rv
    refine ⟨rfl, OldK.of_keep fun b o e => ?_, J.os, J.bare⟩
    cases r : H b with
    | none => exact J.base.keep b o e r (by intro z; cases z) (by intro z; cases z)
    | some u =>
      rcases only b with z | ⟨ob, xs, z⟩
      · rw [r] at z; cases z
      · have z2 := J.base.frzs b ob _ z
        obtain ⟨e1, _⟩ := e0.hok b _ z
        obtain ⟨e2, _⟩ := J.hok b _ z2
        rw [e] at e1; cases e1
        exact e2
/-- from the heap behind the top: the script's list alone is tracked, where the written part has it not -/
theorem run_top (F : FunD K "law" "law" params body sc [] [] fa fd) (S : FnScope N [x] sc) (hr : Room (k + 1) callerA) (hbind : ∀ (s : Shared) (u : Value), BindsTo s fd ⟨[u], []⟩ [(x, u)])
    (B : BodyG P w K mg N sc body k n) (KX : K.In s1.heap) (hns : s1.heap.Ns mainGlobals mg) (hb : s1.heap.Ns builtinsNs mb) (hbb : ∀ x : Str, x ≠ "__name__" → mb x = bootBuiltins x) (hlim : s1.heap.NoLimit) (hg : s1.gens = #[])
    (ha : s1.heap.get? a = some { cls := .type "list", data := .seq vs.toArray }) (hi : IntsAre vs ns) (hn : ns.length ≤ n) (hl : n ≤ sizeLine) :
    codeAny (model P w) callerA (.call (.ref fa) ⟨[.ref a], []⟩) (fun r s' => r = .ok (.ret (.bool true)) ∧ OldK s1.heap s'.heap ∧ s'.os = s1.os ∧ AllBare s'.gens) s1 := by
  have rv := vals_ints hi
  have len := hi.length
  have few : ns.length ≤ sizeLine := Nat.le_trans hn hl
  have go : ∀ H : Hp, Only H → SqL K H a (ns.map V.int) → HOk P w H s1.heap → (∀ b, H b ≠ none → b = a ∧ K.lookup a = none) → codeAny (model P w) callerA (.call (.ref fa) ⟨[.ref a], []⟩) (fun r s' => r = .ok (.ret (.bool true)) ∧ OldK s1.heap s'.heap ∧ s'.os = s1.os ∧ AllBare s'.gens) s1 := by
    intro H only hq hok hA
    have none_of : ∀ b : Addr, b ≠ a → H b = none := fun b ne => by
      cases q : H b with
      | none => rfl
      | some u => exact absurd (hA b (by rw [q]; intro z; cases z)).1 ne
    have low : ∀ {b : Addr} {o : Obj}, s1.heap.get? b = some o → H b = none → (hidT s1.heap H).get? b = some o := fun e q => hidT_get e q
    have dct : ∀ {b : Addr} {m : Str → Option Value}, s1.heap.Ns b m → (hidT s1.heap H).Ns b m := by
      rintro b m ⟨o, es, ep, e, d, r⟩
      refine ⟨o, es, ep, low e (none_of b fun q => ?_), d, r⟩
      subst q
      rw [ha] at e
      cases e
      cases d
    have kin : K.In (hidT s1.heap H) := fun b o e => by
      refine low (KX b o e) ?_
      cases q : H b with
      | none => rfl
      | some u =>
        obtain ⟨rfl, z⟩ := hA b (by rw [q]; intro z; cases z)
        rw [z] at e; cases e
    obtain ⟨mc, l1, l2⟩ := hlim
    exact run_law (H := H) (base := hidT s1.heap H) F S hr hbind B ⟨rfl, ⟨kin, dct hns, ⟨mb, dct hb, hbb⟩, ⟨mc, dct l1, l2⟩⟩, fun b o e => of_hidT e, Nat.le_of_eq (hidT_size _ _), trivial, fun b z => (nomatch z), hok, .of_eq hg⟩ hq hn only
  cases lk : K.lookup a with
  | some o =>
    obtain rfl : o = { cls := .type "list", data := .seq vs.toArray } := by
      have e := KX a o lk
      rw [ha] at e
      exact (Option.some.inj e).symm
    exact go (fun _ => none) (fun _ => Or.inl rfl) (Or.inr ⟨_, vs.toArray, _, lk, rfl, rfl, rfl, by rw [List.size_toArray, len]; exact few, by simpa using rv⟩) (fun b u z => nomatch (show (none : Option HO) = some u from z)) fun b z => absurd rfl z
  | none =>
    let u : HO := .frz { cls := .type "list", data := .seq vs.toArray } (.lst (ns.map V.int))
    have at_ : ∀ b, (upd (fun _ => none) a u) b = if b = a then some u else none := fun b => by
      by_cases e : b = a
      · subst e; rw [if_pos rfl]; exact upd_same
      · rw [if_neg e]; exact upd_ne e
    refine go (upd (fun _ => none) a u) (fun b => ?_) (Or.inl (Or.inr ⟨_, upd_same⟩)) (fun b v z => ?_) fun b z => ⟨?_, lk⟩
    · rw [at_]; split
      · exact Or.inr ⟨_, _, rfl⟩
      · exact Or.inl rfl
    · rw [at_] at z
      by_cases e : b = a
      · rw [if_pos e] at z
        cases z
        subst e
        exact ⟨ha, by rw [List.length_map]; exact few, vs, _, rv, ha⟩
      · rw [if_neg e] at z; cases z
    · apply Classical.byContradiction
      intro e
      rw [at_, if_neg e] at z
      exact z rfl
end
open PySem PySem.Spec PyProof.Rows
/-- the walk behind the top, from the body of the law's def -/
theorem walk_ofG {l : PySem.W.OpenLaw} {n k : Nat} {q : Program} {loose : List Str} {XP : (Str → Option Value) → Heap → Prop} {YP : World → Heap → Prop} {d : DefRec} {x : Str}
    (hn : l.most = some n) (hl : n ≤ sizeLine) (hdf : d.params.defaults = []) (hr : Room (k + 1) callerA)
    (F : ∀ (w : World) (mg : Str → Option Value) (fa : Addr) (h : Heap), YP w h → h.Ns mainGlobals mg → mg d.name = some (.ref fa) →
      ∃ (K : PySem.W.Frag) (fd : FuncData) (N : List Str) (sc : Scope) (body : List Stmt) (params : Arguments), K.In h ∧ FunD K "law" "law" params body sc [] [] fa fd ∧ FnScope N [x] sc ∧
        (∀ (s : Shared) (u : Value), BindsTo s fd ⟨[u], []⟩ [(x, u)]) ∧ BodyG l.prog w K mg N sc body k n) :
    PySem.W.WalkO q loose XP YP l.row.toRowW d [] (fun f vs => PySem.call f vs) := by
  refine Att.attach_call hn hdf fun w s0 s1 mg mb fa o pm cd doc a vs ns G Y ho hd hcd hmg hobj hi hlen hg => ?_
  obtain ⟨K, fd, N, sc, body, params, KX, f, S, hb, B⟩ := F w mg fa _ Y G.T.g hmg
  exact run_top f S hr hb B KX G.T.g G.T.b G.T.builtins G.T.nolimit hg hobj hi hlen hl
end Hb
set_option Elab.async false
set_option linter.all false
set_option maxRecDepth 100000
set_option maxHeartbeats 8000000
namespace Hb
open PySem PySem.Spec PyProof.Rows L2
section
variable {X : Cx}
/-- repr of an object that is data -/
def rReprD (K : PySem.W.Frag) : List V → Hp → VK → Prop := fun vs H Q => ∃ (a : Addr) (d : PyData), vs = [.ref a] ∧ Dp K H (.ref a) d ∧ d.showable = true ∧ d.hasDict = false ∧ d.depth ≤ 60 ∧ d.shown.length ≤ sizeLine ∧ Q (.str d.shown) H
theorem cr_reprD (hg : X.A.guards = some []) (hu : X.A.units + 64 < cLine) : CallR X (.builtin "repr") (rReprD X.K) := by
  intro pins s σ H vs us Q I r h
  obtain ⟨a, d, rfl, hd, hs, hk, hz, hl, q⟩ := h
  rw [Vals.ref1 r]
  obtain ⟨as, rd⟩ := L2.Dp.reads I d _ (.ref a) hd rfl
  refine repr_of_reads' rd hs (fun e => by rw [hk] at e; cases e) hg (by omega) (fun _ _ e => e) (fun h' u tk k => ?_) hl
  exact ⟨.str d.shown, H, I.kept k, ⟨u, rfl⟩, q⟩
end
end Hb
set_option Elab.async false
set_option linter.all false
set_option maxRecDepth 100000
set_option maxHeartbeats 4000000
/-! d.update(e) of dicts with int and text keys; a target o[k] of such a dict; str of a text or an int; a def called where nothing is being shown. -/
namespace Hb
open PySem PySem.Spec PyProof.Rows L2
section
variable {X : Cx}
def rDUpd : V → List V → Hp → VK → Prop := fun x vs H Q => ∃ (a b : Addr) (kvs more : List (Key × V)), x = .ref a ∧ vs = [.ref b] ∧ a ≠ b ∧ H a = some (.dK kvs) ∧ H b = some (.dK more) ∧ kvs.length + more.length ≤ sizeLine ∧ Q .non (upd H a (.dK (mergeK kvs more)))
theorem mtd_upd : MtR X "dict.update" rDUpd := by
  intro pins s σ H x vs v us Q I rx rv h
  obtain ⟨a, b, kvs, more, rfl, rfl, ne, ha, hb, hz, q⟩ := h
  obtain rfl : v = Value.ref a := rx
  obtain ⟨u, rfl, ru⟩ := rv.one
  obtain rfl : u = Value.ref b := ru
  obtain ⟨z1, g1, vs1, rel1, dd1⟩ := dk_of I.hok ha
  obtain ⟨z2, g2, vs2, rel2, dd2⟩ := dk_of I.hok hb
  refine call_meetsIn PySem.F.slot_dict_update dd1.typeIs PySem.F.entry_dict_update (PySem.F.args_dict_update_2 _ _) (meets_dict_update (mixKind X.prog X.w) a b ne g2)
    ⟨vs1, vs2, dd1, dd2, by rw [← rel1.length, ← rel2.length]; exact hz, fun h' d1 _ hs => ⟨.non, _, ?_, rfl, q⟩⟩
  have he : ∃ q, h'.get? a = some q := let ⟨q, _, _, hq, _⟩ := d1; ⟨q, hq⟩
  exact d_write (t' := s.toks) I (by rw [ha]; exact True.intro) hs he (dk_new (Nat.le_trans (length_mergeK more kvs) hz) g1 (KV.merge rel2 rel1) d1)
/-- o[k] as a target, o a dict -/
theorem set_dK (hu : X.A.units + 1 < cLine) : PSet X (fun o i v H K => ∃ a H', o = .ref a ∧ DPut H a i v H' ∧ K H') := by
  intro pins s σ H o i v ov iv u K I ro ri rv h
  obtain ⟨a, H', rfl, g, q⟩ := h
  obtain rfl : ov = Value.ref a := ro
  exact d_setItem hu I g ri rv fun s' I' => ⟨H', I', q⟩
/-- str of a text or an int -/
theorem call_strV : CallR X (.type "str") (fun xs H Q => (∃ x, xs = [.str x] ∧ Q (.str x) H) ∨ ∃ i, xs = [.int i] ∧ i.natAbs.log2 < 1920 ∧ Q (.str (toString i)) H) := by
  intro pins s σ H xs us Q I r h
  rcases h with h | h
  · exact SkE.call_str_str pins s σ H xs us Q I r h
  · exact L2.call_str_int pins s σ H xs us Q I r h
end
/-- what a def promises where nothing is being shown -/
structure GOk (P : Program) (w : World) (K : PySem.W.Frag) (mg : Str → Option Value) (base : Heap) (k : Nat) (f : Addr) (fd : FuncData) (ps : List Str) (sp : Sp) : Prop where
  len : ∀ vs H Q E, sp vs H Q E → vs.length = ps.length
  go : ∀ (B : Around) (out : List Env) (s0 : Shared) (G : Hp) (ar : Args) (ws : List Value) (ys : List V) (R : VK) (Z : XK), B.guards = some [] → Room k B → Env0 P w K mg base B out s0 G → BindsTo s0 fd ar (ps.zip ws) → Vals ys ws → sp ys G R Z →
    codeAny (model P w) B (.call (.ref f) ar) (CR CX0 out P w G s0 R Z) s0
section
variable {P : Program} {w : World} {K : PySem.W.Frag} {mg : Str → Option Value} {base : Heap} {k : Nat} {x qual : Str} {f : Addr} {fd : FuncData} {N ps : List Str} {sp : Sp} {params : Arguments} {sc : Scope} {body : List Stmt}
theorem gOk_of (F : FunD K x qual params body sc [] [] f fd) (S : FnScope N ps sc) (len : ∀ vs H Q E, sp vs H Q E → vs.length = ps.length)
    (bodyG : ∀ (cdv : Value) (B : Around) (out : List Env) (s0 : Shared) (G : Hp) (ys : List V) (R : VK) (Z : XK), B.guards = some [] → Room k (B.deeper (envOfC qual sc s0.heap.objs.size f cdv)) → sp ys G R Z →
      ∃ t, PSs (cxOf CX0 P w K mg base N qual sc f cdv B out s0 G Z).nox body t ∧ t { nx := fun _ G' => R .non G', rt := R } (start N ys) G) : GOk P w K mg base (k + 1) f fd ps sp := by
  obtain ⟨oc, od, dV, kV, doc, pm, an, cdv, ct, osl, rfl, lk, hcd, _, _⟩ := F.ex
  refine ⟨len, fun B out s0 G ar ws ys R Z hg hr e0 hb r hsp => ?_⟩
  have KX : K.In s0.heap := e0.mod.kin.keeps fun b o e => (e0.bs b o e).1
  have lim : s0.heap.NoLimit := e0.mod.nolimit.keeps fun b o e => (e0.bs b o e).1
  have kinds : ∀ y ∈ ps.zip ws, sc.names.lookup y.1 = some .local ∨ (sc.names.lookup y.1 = some .cell ∧ ((cellsFrom (s0.heap.objs.size + 1) sc.names []).lookup y.1).isSome = true) := by
    rintro ⟨m, v⟩ hy
    exact (S.par m (List.of_mem_zip hy).1).imp id fun q => ⟨q, PySem.W.cellsFrom_some _ _ _ (.inl q)⟩
  refine codeAny_call_function hr.depth (KX _ _ lk) rfl S.co S.gen rfl (PySem.W.codeRec_of KX hcd) (hb _ _ _ _ ?_)
  refine wpAny_newFunctionEnv_cells S.kind kinds fun env he z y => ?_
  subst he
  obtain ⟨t, ht, hq⟩ := bodyG cdv B out s0 G ys R Z hg (hr.deeper _) hsp
  have I : Inv (cxOf CX0 P w K mg base N qual sc f cdv B out s0 G Z) [] (start N ys) G z := inv_start S hr.hd e0 (len _ _ _ _ hsp) r y
  refine ⟨lim.keeps y.toInCall.keep, codeAny_func (wpAny_mono (ht.run [] z (start N ys) G _ (I.wish _) hq) (fun fl s' hs0 => ?_) fun e s' hs => False.elim hs)⟩
  have hs := hs0.unwish
  cases fl with
  | brk => obtain ⟨_, _, _, q⟩ := hs; exact False.elim q
  | cont => obtain ⟨_, _, _, q⟩ := hs; exact False.elim q
  | next => obtain ⟨_, G', J, q⟩ := hs; exact ⟨.non, G', J.os, J.bare, J.base, J.hok, rfl, q⟩
  | ret u => obtain ⟨v, _, G', J, rv, q⟩ := hs; exact ⟨v, G', J.os, J.bare, J.base, J.hok, rv, q⟩
end
structure CalG (P : Program) (w : World) (K : PySem.W.Frag) (mg : Str → Option Value) (base : Heap) (k : Nat) (x : Str) (sp : Sp) : Prop where
  ex : ∃ (f : Addr) (fd : FuncData) (ps : List Str), GOk P w K mg base k f fd ps sp ∧ mg x = some (.ref f) ∧ PySem.W.keepIn K (.ref f) = true ∧ Binds K fd ps []
theorem calG_mk {P : Program} {w : World} {K : PySem.W.Frag} {mg : Str → Option Value} {base : Heap} {x : Str} {st : Stmt} {N ps : List Str} {k : Nat} {sp : Sp} (D : Df K mg x st) (S : FnScope N ps (defScope st))
    (bd : BdN x x st ps) (len : ∀ vs H Q E, sp vs H Q E → vs.length = ps.length)
    (bodyG : ∀ (f : Addr) (cdv : Value) (B : Around) (out : List Env) (s0 : Shared) (G : Hp) (ys : List V) (R : VK) (Z : XK), B.guards = some [] → Room k (B.deeper (envOfC x (defScope st) s0.heap.objs.size f cdv)) → sp ys G R Z →
      ∃ t, PSs (cxOf CX0 P w K mg base N x (defScope st) f cdv B out s0 G Z).nox (defBody st) t ∧ t { nx := fun _ G' => R .non G', rt := R } (start N ys) G) : CalG P w K mg base (k + 1) x sp := by
  obtain ⟨fd, F, hm⟩ := D
  exact ⟨_, fd, ps, gOk_of F S len fun cdv B out s0 G ys R Z => bodyG _ cdv B out s0 G ys R Z, hm, F.kp, F.bindsN bd⟩
theorem pe_cG {X : Cx} {k j : Nat} {x : Str} {sp : Sp} {e : Expr} {es : List Expr} {t : TA} {p pos : Pos} (hG : X.A.guards = some []) (c : CalG X.prog X.w X.K X.mg X.base k x sp) (hr : Room j X.A) (hk : k ≤ j) (hg : Gl X x) (ha : PA X (e :: es) t)
    (hdb : (x == ("__debug__" : Str)) = false := by decide) (he : starEach (e :: es) X.env = (false, eval e X.env) :: starEach es X.env := by rfl) (hpl : (backTo pos (starEach es X.env)).any (·.1) = false := by rfl) :
    PE X (.Call (.Name x p) (e :: es) [] pos) (tCall sp [] C8.E0 t) := by
  obtain ⟨f, fd, ps, F, hm, kp, b⟩ := c.ex
  refine ⟨fun pins s σ H Q I h => wpAny_Call_Name_kw (ld_glob I hg hm ?_ hdb)⟩
  refine PySem.W.callWith_K (h₀ := X.base) I.ok.mod.kin kp (thn (ha.run pos pins s σ H _ I h) fun us s1 ⟨vs, H1, I1, r, q⟩ => ⟨I1.kIn, ?_⟩) he hpl
  change sp (vs ++ []) H1 Q C8.E0 at q
  rw [List.append_nil] at q
  have hl : us.length = ps.length := by rw [← r.length]; exact F.len _ _ _ _ q
  have bb := b s1 us I1.kIn (by rw [List.append_nil]; exact hl)
  rw [List.append_nil] at bb
  refine wpAny_call (codeAny_mono (F.go X.A X.stack s1 H1 ⟨us, []⟩ us vs Q C8.E0 hG (hr.mono hk) I1.env0 bb r q) fun r s' hq => ?_)
  cases r with
  | error e => exact C8.pass0 (E := C8.E0) pins σ H1 s1 e s' I1 hq
  | ok fl =>
    cases fl with
    | ret u => exact I1.after hq
    | next => exact False.elim hq
    | brk => exact False.elim hq
    | cont => exact False.elim hq
/-- a tuple with numbers, while tuples stay -/
def iEnumT (K : PySem.W.Frag) (ta : TA) : TI := fun σ H R => ta σ H fun vs H1 => ∃ a xs, vs = [.ref a] ∧ SqT K H1 a xs ∧ R (Itet K a xs) H1
theorem pi_enumT {X : Cx} {e : Expr} {ta : TA} {p pos tpos : Pos} {elts : List Expr} {kk : Nat} (hg : Gl X "enumerate") (hm : X.mg "enumerate" = none) (ha : PA X [e] ta) (hs : starEach [e] X.env = [(false, eval e X.env)] := by rfl) :
    PI X (.Tuple elts kk tpos) (.Call (.Name "enumerate" p) [e] [] pos) (iEnumT X.K ta) := by
  refine ⟨fun pins s σ H R I h => ?_⟩
  refine Call_ (ld_blt I hg hm boot_enumerate (PyProof.Rows.callWith_type1 (thn (ha.run pos pins s σ H _ I h) fun us s1 ⟨vs, H1, I1, r1, a, xs, ex, hq, q⟩ => ?_) hs rfl))
  subst ex
  cases r1 with
  | cons r rr =>
    cases rr
    cases r
    obtain ⟨its, rv, p', hz⟩ := I1.tuple hq
    have hal : a < s1.heap.objs.size := by obtain ⟨o, ho, _⟩ := id p'; exact Heap.lt_size ho
    refine call_enum1 (begins_tuple a its.toArray) p' fun h' he hit hsz hk => wpAny_pyIter_enum he ?_
    refine ⟨s1.heap.objs.size + 1, [s1.heap.objs.size + 1, s1.heap.objs.size], _, _, H1, rfl, I1.kept (t' := s1.toks) hk, turn_enumT a (s1.heap.objs.size + 1) s1.heap.objs.size xs (Nat.ne_of_lt hal) (Nat.ne_of_gt (Nat.lt_succ_of_lt hal)), ⟨⟨.none, he⟩, ⟨_, hit, rfl, rfl⟩, Nat.succ_ne_self _⟩, fun b hb => ?_, q⟩
    have e' : b = s1.heap.objs.size + 1 ∨ b = s1.heap.objs.size := by simpa using hb
    have hle : s1.heap.objs.size ≤ b := by
      rcases e' with z | z
      · rw [z]; exact Nat.le_add_right _ _
      · rw [z]; exact Nat.le_refl _
    exact I1.fpOk hle (I1.hok.fresh hle)
end Hb
set_option Elab.async false
set_option linter.all false
set_option maxRecDepth 100000
set_option maxHeartbeats 8000000
namespace Hb
open PySem PySem.Spec PyProof.Rows L2
theorem tuple_mul_one (l : Addr) (items : Array Value) (n : Nat) (dd : Option Addr) (sl : Array (Option Value)) (u : Tok) :
    Meets (Builtin.«tuple.__mul__» ⟨[.ref l, .int 1 u], []⟩) (fun _ R s => s.heap.get? l = some { cls := .type "tuple", dict := dd, data := .seq items n, slots := sl } ∧ R (.ok (.ret (Value.ref l))) s) :=
  .of_wp fun prog w A R s h => by
    obtain ⟨hp, g, d, tk, os⟩ := s
    obtain ⟨hl, h⟩ := h
    have f1 := AutoSeq1.idx_int
    have c0 : (decide ((1 : Int) < -(2 ^ 63)) || decide ((1 : Int) ≥ 2 ^ 63)) = false := by decide
    have c1 : (items.isEmpty || (1 : Int) == 1) = true := by simp
    wp_walk using wpAny_loadPart' hl
    repeat (first
      | (refine wpAny_ite_false (decide_eq_false (by rw [c0]; exact Bool.false_ne_true)) ?_; wp_walk using wpAny_loadPart' hl)
      | (refine wpAny_ite_true (decide_eq_true (by rw [c1])) ?_; wp_walk using wpAny_loadPart' hl))
    exact ⟨_, rfl, h⟩
theorem tuple_mul_nil (l : Addr) (items : Array Value) (n : Nat) (dd : Option Addr) (sl : Array (Option Value)) (u : Tok) (ne : items.isEmpty = false) :
    Meets (Builtin.«tuple.__mul__» ⟨[.ref l, .int 0 u], []⟩) (fun _ R s => s.heap.get? l = some { cls := .type "tuple", dict := dd, data := .seq items n, slots := sl } ∧
      R (.ok (.ret (Value.ref s.heap.objs.size))) { s with heap := s.heap.push { cls := Value.type "tuple", data := Data.seq #[] }, toks := s.toks }) :=
  .of_wp fun prog w A R s h => by
    obtain ⟨hp, g, d, tk, os⟩ := s
    obtain ⟨hl, h⟩ := h
    have f1 := AutoSeq1.idx_int
    have c0 : (decide ((0 : Int) < -(2 ^ 63)) || decide ((0 : Int) ≥ 2 ^ 63)) = false := by decide
    have c1 : (items.isEmpty || (0 : Int) == 1) = false := by rw [ne]; rfl
    have c2 : (decide ((0 : Int) ≤ 0) || items.isEmpty) = true := by simp
    wp_walk using wpAny_loadPart' hl
    repeat (first
      | (refine wpAny_ite_false (decide_eq_false (by rw [c0]; exact Bool.false_ne_true)) ?_; wp_walk using wpAny_loadPart' hl)
      | (refine wpAny_ite_false (decide_eq_false (by rw [c1]; exact Bool.false_ne_true)) ?_; wp_walk using wpAny_loadPart' hl)
      | (refine wpAny_ite_true (decide_eq_true (by rw [c2])) ?_; wp_walk using wpAny_loadPart' hl))
    exact ⟨_, rfl, h⟩
/-- tuple * int, the int not below 0 -/
def rRepTA (K : PySem.W.Frag) : R2 := fun x y H Q => ∃ l k xs, x = .ref l ∧ y = .int k ∧ SqT K H l xs ∧ xs ≠ [] ∧ 0 ≤ k ∧ k ≤ 1000 ∧ xs.length ≤ 1000 ∧ ∀ p H', Same H H' → SqT K H' p (List.replicate k.toNat xs).flatten → Q (.ref p) H'
section
variable {X : Cx}
theorem op_repTA : OpR X (binaryOp .Mult) (rRepTA X.K) := by
  intro pins s σ H x y v u Q I rx ry h
  obtain ⟨l, k, xs, rfl, rfl, hT, hne, h0, h2, hz, q⟩ := h
  by_cases big : 2 ≤ k
  · exact op_repT pins s σ H _ _ v u Q I rx ry ⟨l, k, xs, rfl, rfl, hT, hne, big, h2, hz, fun p np => q p _ (Same.new np) (SqT.of upd_same)⟩
  · cases rx
    obtain ⟨t, rfl⟩ := ry
    obtain ⟨its, r, ⟨⟨cls, dd, data, sl⟩, ho, hc, n, hd⟩, hs⟩ := I.tuple hT
    simp only at hc hd
    subst hc hd
    have hle : its.length = xs.length := r.length.symm
    have hn : its ≠ [] := fun e => hne (by
      rw [e] at hle
      exact List.eq_nil_of_length_eq_zero hle.symm)
    have hi : its.toArray.isEmpty = false := by
      cases its with
      | nil => exact absurd rfl hn
      | cons a b => rfl
    by_cases k1 : k = 1
    · subst k1
      refine wpAny_binaryOp_repeat_ref (T := "tuple") (U := "int") (by decide) ⟨_, ho, rfl⟩ (fun s' => typeIs_int s' 1 t) noFill_tuple_mul F.fills_int_mul F.slot_int_rmul repeat_tuple F.slot_int_index.lookup
        (call_meets F.slot_int_rmul (typeIs_int s 1 t) F.entry_int_rmul (F.args_int_rmul_2 _ _) (int_rmul_tuple 1 t l its.toArray n dd sl)
          ⟨ho, rfl, ⟨_, ho, rfl⟩, call_meets F.slot_tuple_mul ⟨_, ho, rfl⟩ F.entry_tuple_mul (F.args_tuple_mul_2 _ _) (tuple_mul_one l its.toArray n dd sl t) ⟨ho, ?_⟩⟩)
      refine ⟨.ref l, _, I, rfl, q l H (Same.refl _) ?_⟩
      rw [show (List.replicate (1 : Int).toNat xs).flatten = xs by show (List.replicate 1 xs).flatten = xs; simp]
      exact hT
    · have k0 : k = 0 := by omega
      subst k0
      refine wpAny_binaryOp_repeat_ref (T := "tuple") (U := "int") (by decide) ⟨_, ho, rfl⟩ (fun s' => typeIs_int s' 0 t) noFill_tuple_mul F.fills_int_mul F.slot_int_rmul repeat_tuple F.slot_int_index.lookup
        (call_meets F.slot_int_rmul (typeIs_int s 0 t) F.entry_int_rmul (F.args_int_rmul_2 _ _) (int_rmul_tuple 0 t l its.toArray n dd sl)
          ⟨ho, rfl, ⟨_, ho, rfl⟩, call_meets F.slot_tuple_mul ⟨_, ho, rfl⟩ F.entry_tuple_mul (F.args_tuple_mul_2 _ _) (tuple_mul_nil l its.toArray n dd sl t hi) ⟨ho, ?_⟩⟩)
      have np : H s.heap.objs.size = none := I.hok.fresh (Nat.le_refl _)
      refine ⟨.ref s.heap.objs.size, _, I.laid (t' := s.toks) (o := .tup (List.replicate (0 : Int).toNat xs).flatten) (fun b ob q => Heap.get?_push_of_some _ q) (Nat.le_refl _) ?_, rfl, q _ _ (Same.new np) (SqT.of upd_same)⟩
      exact ⟨Nat.zero_le _, _, .nil, IsTup.new _ _⟩
end
end Hb
set_option Elab.async false
set_option linter.all false
set_option maxRecDepth 100000
set_option maxHeartbeats 8000000
namespace He
open PySem PySem.Spec PyProof.Rows L2
/-! A hook that looks at a part of the heap reached without a comparison of addresses: what was seen stands in a number's bits. -/
def withN {α : Type} (n : Nat) (k : Nat → α) : α := match n with
  | 0 => k 0
  | m + 1 => k (m + 1)
def withL {α β : Type} : List α → (List α → β) → β
  | [], k => k []
  | a :: r, k => withL r fun r' => k (a :: r')
theorem withL_eq {α β : Type} : ∀ (l : List α) (k : List α → β), withL l k = k l
  | [], _ => rfl
  | a :: r, k => withL_eq r fun r' => k (a :: r')
def newA {α : Type} : List Addr → Nat → List Addr → (List Addr → Nat → α) → α
  | [], vis, new, k => k new vis
  | a :: r, vis, new, k => match Nat.beq (Nat.land (Nat.shiftRight vis a) 1) 1 with
    | true => newA r vis new k
    | false => withN (Nat.lor vis (Nat.shiftLeft 1 a)) fun v => withN a fun a => newA r v (a :: new) k
def stepA (g : Addr → Option Obj) (front : List Addr) : List Addr := front.flatMap fun a => match g a with
  | some o => refsD o
  | none => []
def growA (g : Addr → Option Obj) : Nat → List Addr → Nat → List Addr → List Addr
  | 0, _, _, acc => acc
  | n + 1, front, vis, acc => newA (stepA g front) vis [] fun new v => growA g n new v (acc ++ new)
def asA (n : Nat) (g : Addr → Option Obj) : List Addr := withN mainGlobals fun m => growA g n [m] (Nat.shiftLeft 1 m) [m]
def obsA (n : Nat) (fa : List Fa) (fn : List DefD) (ex : PySem.W.Frag → Bool) (g : Addr → Option Obj) : AlX := withL (asA n g) fun as => withL (frT g as) fun K => (obsT fa fn [] K, ex K)
theorem obsA_is {n : Nat} {fa : List Fa} {fn : List DefD} {ex : PySem.W.Frag → Bool} {g : Addr → Option Obj} : obsA n fa fn ex g = (obsT fa fn [] (frT g (asA n g)), ex (frT g (asA n g))) := by
  unfold obsA
  rw [withL_eq, withL_eq]
theorem saysA_of {n : Nat} {fa : List Fa} {fn : List DefD} {ex : PySem.W.Frag → Bool} {w : World} {h : Heap} (e : obsA n fa fn ex h.get? = valX fn [] w) : SaysX fa fn [] [] ex w h (frT h.get? (asA n h.get?)) := by
  rw [obsA_is] at e
  have e1 : obsT fa fn [] (frT h.get? (asA n h.get?)) = valT fn [] w := congrArg (fun z : AlX => z.1) e
  have e2 : ex (frT h.get? (asA n h.get?)) = true := congrArg (fun z : AlX => z.2) e
  exact ⟨e1, e2, (fun _ hp => nomatch hp), (fun _ hp => nomatch hp), fun _ hp => nomatch hp⟩
def hookA (n : Nat) (fa : List Fa) (fn : List DefD) (ex : PySem.W.Frag → Bool) : PySem.W.Hook where
  α := AlX
  obs := fun s => obsA n fa fn ex s.heap.get?
  val := fun w => valX fn [] w
  says := fun w h => ∃ K : PySem.W.Frag, K.In h ∧ SaysX fa fn [] [] ex w h K
  of := fun _ _ e => ⟨_, frT_in, saysA_of e⟩
  keeps := fun _ _ _ ⟨K, hK, c⟩ k => ⟨K, PySem.W.Frag.In.keeps hK k, ⟨c.t, c.more, c.hd, c.out, fun p hp => k _ _ (c.empty p hp)⟩⟩
theorem obsA_eq {n : Nat} {fa : List Fa} {fn : List DefD} {ex : PySem.W.Frag → Bool} {g : Addr → Option Obj} {s : Shared} (h : ∀ a, g a = s.heap.get? a) : obsA n fa fn ex g = (hookA n fa fn ex).obs s := by
  have e : g = s.heap.get? := funext h
  rw [e] <;> rfl
end He
set_option Elab.async false
set_option linter.all false
set_option maxRecDepth 100000
set_option maxHeartbeats 4000000
/-! A body read in parts: blocks within blocks. -/
namespace Hb
open PySem PySem.Spec PyProof.Rows L2
/-- the block within a for, a while, an if -/
def inB : Stmt → List Stmt
  | .For _ _ b _ _ => b
  | .While _ b _ _ => b
  | .If _ b _ _ => b
  | _ => []
def nthB (ss : List Stmt) (i : Nat) : List Stmt := match ss[i]? with
  | some s => inB s
  | none => []
/-- a block's reading, whatever follows: with what holds ahead -/
def Part (X : Cx) (ss : List Stmt) (R : Ends → L2.St → Hp → Prop) : Prop := ∃ t, PSs X ss t ∧ ∀ D σ H, R D σ H → t D σ H
end Hb
set_option Elab.async false
set_option linter.all false
set_option maxRecDepth 100000
set_option maxHeartbeats 8000000
/-! The head with tables, properties and classmethods, its heap looked through by bits (HC3), what was seen computed once. -/
namespace He
open PySem PySem.Spec PyProof.Rows L2
def frB (n : Nat) (g : Addr → Option Obj) : PySem.W.Frag := frT g (asA n g ++ [cStatics])
def obsB (n : Nat) (fa : List Fa) (fn : List DefD) (ts : List Tab) (ex : PySem.W.Frag → Bool) (fp : List Dp) (g : Addr → Option Obj) : AlZ :=
  withL (asA n g) fun as => withL (frT g (as ++ [cStatics])) fun K => ((obsT fa fn ts K, ex K), fp.map fun p => fnP K (p.1 K))
theorem obsB_is {n : Nat} {fa : List Fa} {fn : List DefD} {ts : List Tab} {ex : PySem.W.Frag → Bool} {fp : List Dp} {g : Addr → Option Obj} :
    obsB n fa fn ts ex fp g = ((obsT fa fn ts (frB n g), ex (frB n g)), fp.map fun p => fnP (frB n g) (p.1 (frB n g))) := by
  unfold obsB frB
  rw [withL_eq, withL_eq]
def hookB (n : Nat) (fa : List Fa) (fn : List DefD) (ts : List Tab) (ex : PySem.W.Frag → Bool) (fp : List Dp) : PySem.W.Hook where
  α := AlZ
  obs := fun s => obsB n fa fn ts ex fp s.heap.get?
  val := fun w => valZ fn ts fp w
  says := fun w h => ∃ K : PySem.W.Frag, K.In h ∧ SaysZ fa fn ts ex fp w h K
  of := fun s _ e => by
    have e := obsB_is.symm.trans e
    exact ⟨_, frT_in, ⟨congrArg (fun z : AlZ => z.1.1) e, congrArg (fun z : AlZ => z.1.2) e, fun _ h => (nomatch h), fun _ h => (nomatch h), fun _ h => (nomatch h)⟩, congrArg (fun z : AlZ => z.2) e⟩
  keeps := fun _ _ _ ⟨K, hK, c⟩ k => ⟨K, PySem.W.Frag.In.keeps hK k, ⟨⟨c.x.t, c.x.more, c.x.hd, c.x.out, fun p hp => k _ _ (c.x.empty p hp)⟩, c.p⟩⟩
theorem obsB_eq {n : Nat} {fa : List Fa} {fn : List DefD} {ts : List Tab} {ex : PySem.W.Frag → Bool} {fp : List Dp} {g : Addr → Option Obj} {s : Shared} (h : ∀ a, g a = s.heap.get? a) : obsB n fa fn ts ex fp g = (hookB n fa fn ts ex fp).obs s := by
  have e : g = s.heap.get? := funext h
  rw [e] <;> rfl
end He
set_option Elab.async false
set_option linter.all false
set_option maxRecDepth 100000
set_option maxHeartbeats 4000000
/-! Errors of the program: a class over ValueError (through other classes of the program) whose __init__ keeps one argument; raised, caught, looked at. -/
namespace Hb
open PySem PySem.Spec PyProof.Rows L2
def oexB (K : PySem.W.Frag) (C : Addr) : Bool := match K.lookup C with
  | some ⟨.type "type", _, .cls cd, sl⟩ => (match cd.mro, sl.toList with
    | .ref C' :: bm, [_, _, _, _, some (.builtin n), _] => decide (C' = C) && (decide (n = "ValueError.__new__") && (!cd.hasDel && (cd.hasDict && PySem.HandSPX.refsVE bm)))
    | _, _ => false)
  | _ => false
theorem oexB_ok {K : PySem.W.Frag} {C : Addr} (q : oexB K C = true) : ∃ nm qn N bs bm sn sub ab col dd k0 k1 k2 k3 k5, K.lookup C = some (excClassObj nm qn C N bs bm true sn sub ab col dd k0 k1 k2 k3 k5 "ValueError.__new__") ∧ PySem.HandSPX.refsVE bm = true := by
  unfold oexB at q
  split at q
  · rename_i dd cd sl ho
    split at q
    · rename_i C' bm k0 k1 k2 k3 n k5 hm hs
      rw [Bool.and_eq_true, Bool.and_eq_true, Bool.and_eq_true, Bool.and_eq_true] at q
      obtain ⟨e1, e2, e3, e4, e5⟩ := q
      obtain rfl := of_decide_eq_true e1
      obtain rfl := of_decide_eq_true e2
      obtain ⟨nm, bs, mro, ns, qn, hd, sn, sub, ab, col, del⟩ := cd
      dsimp only at hm e3 e4
      subst hm e4
      have e3' : del = false := by
        cases del
        · rfl
        · cases e3
      subst e3'
      have hl : sl = #[k0, k1, k2, k3, some (.builtin "ValueError.__new__"), k5] := by
        obtain ⟨l⟩ := sl
        exact congrArg Array.mk hs
      subst hl
      exact ⟨nm, qn, ns, bs, bm, sn, sub, ab, col, dd, k0, k1, k2, k3, k5, ho, e5⟩
    · cases q
  · cases q
/-- what the written part says of an error's class with one attribute f -/
structure ErrC (K : PySem.W.Frag) (C : Addr) (f : Str) : Prop where
  T : OexC K C
  xf : XfC K C
  ha : PySem.W.findIn K (.ref C) "__class__" = some (some (.builtin "object.__class__"))
  hm : PySem.W.mroIn K C (.type "object") = some true
  iC : PySem.W.findIn K (.ref C) "__init__" = some (some (.ref (He.ma K C "__init__")))
  tI : PySem.W.typeIn K (.ref (He.ma K C "__init__")) = some (.type "function")
  noF : PySem.W.findIn K (.ref C) f = some none
  cl : (PySem.W.clsIn K C).isSome = true
  sub : PySem.W.subIn K (.ref C) (.ref C) = some true
def errB (K : PySem.W.Frag) (C : Addr) (f : Str) : Bool :=
  oexB K C && (decide (PySem.W.findIn K (.ref C) "__setattr__" = some (some (.builtin "object.__setattr__"))) && (decide (PySem.W.subIn K (.ref C) (.type "BaseException") = some true) && (decide (PySem.W.typeIn K (.ref C) = some (.type "type")) && (PySem.W.keepIn K (.ref C) && (xfB K C &&
  (decide (PySem.W.findIn K (.ref C) "__class__" = some (some (.builtin "object.__class__"))) && (decide (PySem.W.mroIn K C (.type "object") = some true) && (decide (PySem.W.findIn K (.ref C) "__init__" = some (some (.ref (He.ma K C "__init__")))) &&
  (decide (PySem.W.typeIn K (.ref (He.ma K C "__init__")) = some (.type "function")) && (decide (PySem.W.findIn K (.ref C) f = some none) && ((PySem.W.clsIn K C).isSome && decide (PySem.W.subIn K (.ref C) (.ref C) = some true))))))))))))
theorem errB_ok {K : PySem.W.Frag} {C : Addr} {f : Str} (q : errB K C f = true) : ErrC K C f := by
  unfold errB at q
  simp only [Bool.and_eq_true, decide_eq_true_eq] at q
  obtain ⟨a, b, c, d, e, g, h, i, j, k, l, m, n⟩ := q
  exact ⟨⟨oexB_ok a, b, c, d, e⟩, xfB_ok g, h, i, j, k, l, m, n⟩
/-- what its __init__ does: self.f = v -/
def spErr (f : Str) (C : Addr) : Sp := fun vs H Q _ => ∃ (a : Addr) (v : V), vs = [.ref a, v] ∧ H a = some (exo a C none) ∧ ∀ dx, H dx = none → dx ≠ a → Q .non (upd (upd H dx (exd dx [(f, v)])) a (exo a C (some dx)))
/-- an error that can be made -/
structure ErrOk (P : Program) (w : World) (K : PySem.W.Frag) (mg : Str → Option Value) (base : Heap) (x f : Str) : Prop where
  c : ErrC K (He.ga K x) f
  m : mg x = some (.ref (He.ga K x))
  i : ∃ fd ps, FnOk P w K mg base CX0 1 (He.ma K (He.ga K x) "__init__") fd ps (spErr f (He.ga K x)) ∧ Binds K fd ps []
theorem err_heap {H : Hp} {a d C : Addr} {fs : List (Str × V)} (ha : H a = none) (hd : H d = none) (ne : d ≠ a) : upd (del (upd (upd H d (exd d fs)) a (exo a C (some d))) a) d (.xd fs) = upd H d (.xd fs) := by
  funext b
  by_cases e : b = d
  · rw [e, upd_same, upd_same]
  · rw [upd_ne e, upd_ne e]
    by_cases q : b = a
    · rw [q, del_same, ha]
    · rw [del_ne q, upd_ne q, upd_ne e]
/-- x(v): a new error whose own dict keeps v -/
theorem err_go {C : Addr} {f : Str} {v : V} {H : Hp} {Q : XK} {E : XK} (k : ∀ d, H d = none → Q (.ref C) (some d) (upd H d (.xd [(f, v)]))) : ([v] : List V).length ≤ 1000 ∧ ∀ a, H a = none → spErr f C (.ref a :: ([v] ++ [])) (upd H a (exo a C none))
    (fun v H2 => v = .non ∧ ∃ (d : Addr) (fs : List (Str × V)), H2 a = some (exo a C (some d)) ∧ H2 d = some (exd d fs) ∧ H d = none ∧ Q (.ref C) (some d) (upd (del H2 a) d (.xd fs))) E := by
  refine ⟨by show 1 ≤ 1000; omega, fun a na => ⟨a, v, rfl, upd_same, fun dx nd ne => ⟨rfl, dx, [(f, v)], upd_same, ?_, ?_, ?_⟩⟩⟩
  · rw [upd_ne ne, upd_same]
  · rw [upd_ne ne] at nd
    exact nd
  · rw [upd_ne ne] at nd
    have e : upd (upd (upd H a (exo a C none)) dx (exd dx [(f, v)])) a (exo a C (some dx)) = upd (upd H dx (exd dx [(f, v)])) a (exo a C (some dx)) := by
      funext b
      by_cases q : b = a
      · rw [q, upd_same, upd_same]
      · rw [upd_ne q, upd_ne q]
        by_cases q2 : b = dx
        · rw [q2, upd_same, upd_same]
        · rw [upd_ne q2, upd_ne q2, upd_ne q]
    rw [e, err_heap na nd ne]
    exact k dx nd
section
variable {X : Cx} {j : Nat} {x f : Str} {e : Expr} {ta : TA} {p pos pos2 : Pos}
theorem pmk_err (c : ErrOk X.prog X.w X.K X.mg X.base x f) (hr : Room j X.A) (hk : 2 ≤ j) (hg : Gl X x) (ha : PA X [e] ta)
    (hdb : (x == ("__debug__" : Str)) = false := by decide) (he : starEach [e] X.env = (false, eval e X.env) :: starEach [] X.env := by rfl) (hpl : (backTo pos (starEach [] X.env)).any (·.1) = false := by rfl) :
    PMk X (.Call (.Name x p) [e] [] pos) (tMkO (He.ga X.K x) (spErr f (He.ga X.K x)) [] ta) := by
  obtain ⟨cc, hm, fd, ps, F, b⟩ := c
  exact pmk_oex (CX := CX0) cc.T cc.iC cc.tI F (hr.mono hk) b .nil (fun _ _ _ _ _ _ _ z => z.elim) hg hm ha hdb he hpl
/-- raise x(e) where nothing is handled -/
theorem ps_err {W : WX} (hc : X.calm = true) (tk : Takes X W) (c : ErrOk X.prog X.w X.K X.mg X.base x f) (hr : Room j X.A) (hk : 2 ≤ j) (hg : Gl X x) (ha : PA X [e] ta)
    (hdb : (x == ("__debug__" : Str)) = false := by decide) (he : starEach [e] X.env = (false, eval e X.env) :: starEach [] X.env := by rfl) (hpl : (backTo pos (starEach [] X.env)).any (·.1) = false := by rfl) :
    PS X (.Raise (some (.Call (.Name x p) [e] [] pos)) none pos2) (fun _ σ H => tMkO (He.ga X.K x) (spErr f (He.ga X.K x)) [] ta σ H fun cls d H' => W cls d σ H') := ps_raise hc tk (pmk_err c hr hk hg ha hdb he hpl)
end
/-! ### defs that may raise -/
section
variable {P : Program} {w : World} {K : PySem.W.Frag} {mg : Str → Option Value} {base : Heap}
structure CalX (P : Program) (w : World) (K : PySem.W.Frag) (mg : Str → Option Value) (base : Heap) (k : Nat) (x : Str) (sp : Sp) : Prop where
  ex : ∃ (f : Addr) (fd : FuncData) (ps : List Str), FnOk P w K mg base (L2.CX P w) k f fd ps sp ∧ mg x = some (.ref f) ∧ PySem.W.keepIn K (.ref f) = true ∧ Binds K fd ps []
structure MakX (P : Program) (w : World) (K : PySem.W.Frag) (mg : Str → Option Value) (base : Heap) (k : Nat) (x : Str) (C : Addr) (sp : Sp) (dvs : List V) : Prop where
  ex : ∃ (f : Addr) (fd : FuncData) (ps : List Str) (ds : List Value), Mk K C f ∧ FnOk P w K mg base (L2.CX P w) k f fd ps sp ∧ mg x = some (.ref C) ∧ Binds K fd ps ds ∧ Vals dvs ds
structure MetX (P : Program) (w : World) (K : PySem.W.Frag) (mg : Str → Option Value) (base : Heap) (k : Nat) (C : Addr) (m : Str) (sp : Sp) : Prop where
  ex : ∃ (f : Addr) (fd : FuncData) (ps : List Str), Cls K C ∧ Meth K C m f ∧ FnOk P w K mg base (L2.CX P w) k f fd ps sp ∧ Binds K fd ps []
/-- by its body: the text at a context whose exceptions are wished for -/
theorem calX_mk {x : Str} {st : Stmt} {N ps : List Str} {k : Nat} {sp : Sp} (D : Df K mg x st) (S : FnScope N ps (defScope st)) (bd : BdN x x st ps) (len : ∀ vs H Q E, sp vs H Q E → vs.length = ps.length)
    (hbody : ∀ (f : Addr) (cdv : Value) (A : Around) (outer : List Env) (s : Shared) (H : Hp) (vs : List V) (Q : VK) (E : XK), Room k (A.deeper (envOfC x (defScope st) s.heap.objs.size f cdv)) → sp vs H Q E →
      ∃ t, PSs (cxOf (L2.CX P w) P w K mg base N x (defScope st) f cdv A outer s H E) (defBody st) t ∧ t { nx := fun _ H' => Q .non H', rt := Q } (start N vs) H) : CalX P w K mg base (k + 1) x sp := by
  obtain ⟨fd, F, hm⟩ := D
  exact ⟨_, fd, ps, F.ok (CX := L2.CX P w) S len fun cdv A outer s H vs Q E hr h => hbody _ cdv A outer s H vs Q E hr h, hm, F.kp, F.bindsN bd⟩
theorem metX_mk {C m qual : Str} {st : Stmt} {N ps : List Str} {k : Nat} {sp : Sp} (D : Dm K C m qual st) (c : Cls K (He.ga K C)) (S : FnScope N ps (defScope st)) (bd : BdN m qual st ps) (len : ∀ vs H Q E, sp vs H Q E → vs.length = ps.length)
    (hbody : ∀ (f : Addr) (cdv : Value) (A : Around) (outer : List Env) (s : Shared) (H : Hp) (vs : List V) (Q : VK) (E : XK), Room k (A.deeper (envOfC qual (defScope st) s.heap.objs.size f cdv)) → sp vs H Q E →
      ∃ t, PSs (cxOf (L2.CX P w) P w K mg base N qual (defScope st) f cdv A outer s H E) (defBody st) t ∧ t { nx := fun _ H' => Q .non H', rt := Q } (start N vs) H) : MetX P w K mg base (k + 1) (He.ga K C) m sp := by
  obtain ⟨hm, fd, F⟩ := D
  exact ⟨_, fd, ps, c, hm, F.ok (CX := L2.CX P w) S len fun cdv A outer s H vs Q E hr h => hbody _ cdv A outer s H vs Q E hr h, F.bindsN bd⟩
/-- a def that raises nothing on some way, there -/
theorem CalX.cal {k : Nat} {x : Str} {sp sp' : Sp} (c : CalX P w K mg base k x sp) (h : ∀ vs H Q E, sp' vs H Q E → sp vs H Q C8.E0) : C8.Cal P w K mg base k x sp' [] := by
  obtain ⟨f, fd, ps, F, hm, kp, b⟩ := c.ex
  exact ⟨f, fd, ps, [], ⟨fun vs H Q E q => F.len _ _ _ _ (h _ _ _ _ q), fun A outer s H args us vs Q E hr he hb hv hs => codeAny_mono (F.run A outer s H args us vs Q C8.E0 hr he hb hv (h _ _ _ _ hs)) fun r s' q => by
    cases r with
    | error e =>
      obtain ⟨_, _, _, _, _, _, _, _, _, _, _, _, z⟩ := q
      exact z.elim
    | ok fl => cases fl <;> exact q⟩, hm, kp, b, .nil⟩
end
section
variable {X : Cx} {j k : Nat} {x f : Str} {sp : Sp} {W : WX} {e : Expr} {es : List Expr} {t : TA} {p pos : Pos}
/-- a call in the body of a try -/
theorem pe_try (c : CalX X.prog X.w X.K X.mg X.base k x sp) (tk : Takes X W) (hr : Room j X.A) (hk : k ≤ j) (hg : Gl X x) (ha : PA X (e :: es) t)
    (hdb : (x == ("__debug__" : Str)) = false := by decide) (he : starEach (e :: es) X.env = (false, eval e X.env) :: starEach es X.env := by rfl) (hpl : (backTo pos (starEach es X.env)).any (·.1) = false := by rfl) :
    PE X (.Call (.Name x p) (e :: es) [] pos) (tCallS sp (WE W) t) := by
  obtain ⟨f, fd, ps, F, hm, kp, b⟩ := c.ex
  exact pe_callS F (hr.mono hk) hg hm kp b (fun σ => passAt tk σ) ha hdb he hpl
/-- isinstance(e, T) in an except suite, e its error -/
def rIsE2 (K : PySem.W.Frag) (a : Addr) (cls : Value) (d : Option Addr) (f : Str) : List V → Hp → VK → Prop := fun xs H Q => ∃ (D dd : Addr) (fs : List (Str × V)) (c : V) (cv : Value) (b : Bool), xs = [.ref a, c] ∧ cls = .ref D ∧ d = some dd ∧ H dd = some (.xd fs) ∧ ErrC K D f ∧ (∀ u, RelV c u → u = cv) ∧ PySem.W.kitOne K (.ref D) cv = some b ∧ Q (.bl b) H
theorem call_isE2 {a : Addr} {cls : Value} {d : Option Addr} {oe : Obj} {pn : List (Addr × Obj)} (hn : PySem.W.specialIn X.K (.builtin "object.__class__") "__get__" = some (some (.builtin "getset_descriptor.__get__"))) (ht : PySem.W.takesIn X.K (.builtin "object.__class__") = some true)
    (hz : Zc cls d oe) (hf : ∃ vs, oe.data = .fields vs) : CallR (X.suite a ((a, oe) :: pn)) (.builtin "isinstance") (rIsE2 X.K a cls d f) := by
  intro pins s σ H xs us Q I r h
  obtain ⟨D, dd, fs, c, cv, b, rfl, ec, ed, hx, C, hcv, ek, q⟩ := h
  subst ec ed
  obtain ⟨u1, u2, rfl, r1, r2⟩ := vals2 r
  cases r1
  have e2 := hcv _ r2
  subst e2
  have pin := (I.pin (a, oe) (List.mem_append.mpr (.inl List.mem_cons_self))).1
  obtain ⟨vs, hv⟩ := hf
  have ox : ObjOk X.prog X.w H s.heap dd (.xd fs) := I.hok dd _ hx
  obtain ⟨mA, hns, _⟩ := ox
  obtain ⟨od, ho, _⟩ := lookIn_ns hns
  have J : PySem.W.InstAt s.heap a oe D (some od) := ⟨pin, hz.1, by unfold PySem.W.notCls; rw [hv] <;> rfl, by
    rw [hz.2]
    exact ho⟩
  exact PySem.W.kia_one (PySem.W.kitx_exc C.cl C.xf.ga C.xf.gg C.xf.exC C.ha hn ht C.hm) I.kIn J ek (fun z => nomatch z) fun tk => ⟨.bl b, H, I.kept (t' := tk) fun _ _ z => z, rfl, q⟩
end
end Hb
set_option Elab.async false
set_option linter.all false
set_option maxRecDepth 100000
set_option maxHeartbeats 8000000
/-! repr of a number or None. -/
namespace Hb
open PySem PySem.Spec PyProof.Rows L2
section
variable {X : Cx}
/-- a number, None or a text, shown -/
def rtext : V → Str
  | .non => "None"
  | .int i => (toString i : String)
  | .str x => reprText x
  | _ => Str.empty
def okR : V → Prop
  | .non => True
  | .int i => i.natAbs.log2 < 1920
  | .str x => (reprText x).length ≤ sizeLine
  | _ => False
def rReprO : List V → Hp → VK → Prop := fun vs H Q => ∃ v : V, vs = [v] ∧ okR v ∧ Q (.str (rtext v)) H
theorem cr_reprO : CallR X (.builtin "repr") rReprO := by
  intro pins s σ H vs us Q I r h
  obtain ⟨v, rfl, hv, q⟩ := h
  obtain ⟨u, rfl, ru⟩ := r.one
  cases v with
  | int i =>
    obtain ⟨t, rfl⟩ := ru
    exact PySem.P.repr_of_int hv ⟨.str (rtext (.int i)), H, I.tok _, ⟨_, rfl⟩, q⟩
  | non =>
    obtain rfl : u = Value.none := ru
    exact PySem.P.repr_of_none ⟨.str (rtext .non), H, I.tok _, ⟨_, rfl⟩, q⟩
  | str x =>
    obtain ⟨t, rfl⟩ := ru
    exact PySem.P.repr_of_str ⟨.str (rtext (.str x)), H, I.tok _, ⟨_, rfl⟩, q⟩ hv
  | _ => exact hv.elim
end
end Hb
set_option Elab.async false
set_option linter.all false
set_option maxRecDepth 100000
set_option maxHeartbeats 8000000
/-! set(ints) of a list with repeats; sorted of such a set. -/
namespace Hb
open PySem PySem.Spec PyProof.Rows
theorem ints_at : ∀ {us : List Value} {ns : List Int}, PyProof.Rows.IntsAre us ns → ∀ (i : Nat) (v : Value), us[i]? = some v → ∃ k t, ns[i]? = some k ∧ v = .int k t
  | _, _, .nil, i, v, h => by simp at h
  | _, _, .cons n k t, 0, v, h => ⟨n, k, rfl, (Option.some.inj h).symm⟩
  | _, _, .cons n k t, i + 1, v, h => ints_at t i v h
section
variable {prog : Program} {w : World} {A : Around} {E : Value → Shared → Prop} {s : Shared}
/-- set(xs) of a list of ints -/
theorem set_intsR {l : Addr} {its : Array Value} {xs : List Int} {Q : Value → Shared → Prop} (calm : A.handled = none) (at_ : s.heap.IsList l its) (are : PyProof.Rows.IntsAre its.toList xs) (few : xs.length + 1 < scanBound)
    (k : ∀ (h' : Heap) (tk : Nat) (c : Nat), L2.SetR w h' s.heap.objs.size (fun j => decide (j ∈ xs)) c → c ≤ xs.length → (∀ b o, s.heap.get? b = some o → h'.get? b = some o) → Q (.ref s.heap.objs.size) { s with heap := h', toks := tk }) :
    wpAny (model prog w) A (call (.type "set") [.ref l]) Q E s := by
  have size : its.size = xs.length := by have q := are.length; rw [Array.length_toList] at q; exact q
  obtain ⟨c, tl, mro⟩ := F.called_set.mro
  have f1 := F.called_set.made; have f2 := F.called_set.sub; have f3 := F.called_set.notType; have f4 := F.called_set.canCreate; have f5 := F.typeCall_set_1 (.ref l)
  refine wpAny_call (codeAny_of_tree (by
    show wpAny _ _ (callAny (.type "set") _) _ _ _
    refine wpAny_pure ⟨Code.quiet_builtin _ (by decide +kernel), codeAny_builtin F.entry_type_call ?_⟩
    rw [Around.under_plain (weight_type_call_type "set" [.ref l] []) rfl]
    repeat (any_goals (first | assumption | wp_step))
    refine codeAny_mono (L2.code_set_led1 (.ref l) (E := E) (Q₁ := fun v z => v = .ref s.heap.objs.size ∧ z = { s with heap := s.heap.push (newSet w) }) ⟨rfl, rfl⟩) fun r z hr => ?_
    match r, hr with
    | .error e, hr => exact hr
    | .ok .next, hr => exact hr.elim
    | .ok .brk, hr => exact hr.elim
    | .ok .cont, hr => exact hr.elim
    | .ok (.ret v), ⟨e1, e2⟩ =>
      subst e1 e2
      have mine : (s.heap.push (newSet w)).get? s.heap.objs.size = some (newSet w) := Heap.get?_push_size _ rfl
      have kind : Shared.TypeIs { s with heap := s.heap.push (newSet w) } (.ref s.heap.objs.size) "set" := ⟨_, mine, rfl⟩
      have f6 := F.called_set.init.lookup; have f7 := F.called_set.init.bind (.ref s.heap.objs.size)
      repeat (any_goals (first | assumption | wp_step))
      refine codeAny_mono (codeAny_call_builtin (R := wants (fun r z => r = .none ∧ ∃ h' tk c, z = { s with heap := h', toks := tk } ∧
        L2.SetR w h' s.heap.objs.size (fun j => decide (j ∈ xs)) c ∧ c ≤ xs.length ∧ ∀ b o, s.heap.get? b = some o → h'.get? b = some o) E) F.called_set.init.plain F.entry_set_init (check_set_init_1 kind ?_)) fun r2 z2 hr2 => ?_
      · obtain ⟨⟨ocls, odict, odata, oslots⟩, ho, hc, nl, hd⟩ := at_
        simp only at hc hd; subst hc hd
        have ho2 : (s.heap.push (newSet w)).get? l = some { cls := .type "list", dict := odict, data := .seq its nl, slots := oslots } := Heap.get?_push_of_some _ ho
        have g1 := F.sub_list_set; have g2 := F.sub_list_frozenset; have g3 : (Value.type "list" == Value.type "dict") = false := by decide
        have ml : (s.heap.push (newSet w)).IsList l its := ⟨_, ho2, rfl, nl, rfl⟩
        unfold Builtin.«set.__init__» noKeywords Builtin.Frozenset.updateFrom
        generalize hI : pyIter = It
        wp_walk
        subst hI
        have lo : l < s.heap.objs.size := Heap.lt_size ho
        have far : l ≠ (s.heap.push (newSet w)).objs.size := by rw [Heap.size_push]; exact Nat.ne_of_lt (Nat.lt_succ_of_lt lo)
        refine wpAny_pyIter_list ml (wpAny_bind (wpAny_runValue (L2.set_update_ints ((Walks.list (by simp [calm]) _ l far its).toS) s.heap.objs.size (by
            rw [Heap.size_push]; simp only [List.mem_cons, List.not_mem_nil, or_false, not_or]
            exact ⟨Nat.ne_of_lt (Nat.lt_succ_self _), Nat.ne_of_gt lo⟩) xs size (by omega) (fun i v hv => ints_at are i v (by rw [Array.getElem?_toList]; exact hv)) (its.size - 0) 0 _ (by omega) (Nat.zero_le _)
          ⟨⟨_, Heap.get?_push_size _ rfl, rfl, rfl⟩, (ml.push _)⟩ ?zer ?fin1)))
        case zer =>
          have e0 : ((s.heap.push (newSet w)).push { cls := .type "list_iterator", data := .fields #[.ref l, .int 0 0] }).get? s.heap.objs.size = some (newSet w) := Heap.get?_push_of_some _ mine
          exact ⟨0, Nat.le_refl _, L2.setR_new_at e0⟩
        case fin1 =>
          rintro ⟨h', g', d', tk', os'⟩ us hm hu hS
          obtain rfl : g' = s.gens := hm.gens
          obtain rfl : d' = s.drawn := hm.drawn
          obtain rfl : os' = s.os := hm.os
          show wpAny _ _ _ _ _ _
          refine wpAny_pure (by
            show wpAny _ _ (ret Value.none) _ _ _
            refine wpAny_pure ⟨rfl, h', tk', us, rfl, hS, by rw [← size]; exact hu, fun b o e => hm.heap b o ?_ (Heap.get?_push_of_some _ (Heap.get?_push_of_some _ e))⟩
            have lb := Heap.lt_size e
            rw [Heap.size_push]; simp only [List.mem_cons, List.not_mem_nil, or_false, not_or]
            exact ⟨Nat.ne_of_lt lb, Nat.ne_of_lt (Nat.lt_succ_of_lt lb)⟩)
      · match r2, hr2 with
        | .error e, h => exact h
        | .ok .next, h => exact h.elim
        | .ok .brk, h => exact h.elim
        | .ok .cont, h => exact h.elim
        | .ok (.ret v), ⟨e1, h', tk, us, e2, hS, hu, hk⟩ =>
          subst e1 e2
          repeat (any_goals (first | assumption | wp_step))
          exact k _ _ _ hS hu hk))
end
end Hb
namespace Hb
open PySem PySem.Spec PyProof.Rows L2
/-- sorted(set(xs)), xs a list of ints -/
def tSortSetI (K : PySem.W.Frag) (ta : TE) : TE := fun σ H Q => ta σ H fun x H1 => ∃ (l : Addr) (xs : List Int), x = .ref l ∧ SqL K H1 l (xs.map V.int) ∧ xs.length < 64 ∧
  ∀ (ns : List Int) (p : Addr), ns.Pairwise (· < ·) → (∀ k, k ∈ ns ↔ k ∈ xs) → H1 p = none → Q (.ref p) (upd H1 p (.lst (ns.map V.int)))
theorem vals_of_ints : ∀ {us : List Value} {ns : List Int}, PyProof.Rows.IntsAre us ns → Vals (ns.map V.int) us
  | _, _, .nil => .nil
  | _, _, .cons n k t => .cons ⟨k, rfl⟩ (vals_of_ints t)
theorem pe_sortSetI {X : Cx} {a : Expr} {ta : TE} {p p2 q pos : Pos} (hg : Gl X "sorted") (hm : X.mg "sorted" = none) (hg2 : Gl X "set") (hm2 : X.mg "set" = none) (ha : PE X a ta) (calm : X.calm = true := by rfl)
    (na : starEach [a] X.env = (false, eval a X.env) :: starEach [] X.env := by rfl) : PE X (.Call (.Name "sorted" p) [.Call (.Name "set" p2) [a] [] q] [] pos) (tSortSetI X.K ta) := by
  refine ⟨fun pins s σ H Q I h => Call_ (ld_blt I hg hm boot_sorted (callWith_builtin1 (args_cons (Call_ (ld_blt I hg2 hm2 boot_set
    (callWith_type1 (args_cons (thn (ha.run pins s σ H _ I h) fun v z ⟨x, H1, J, r, q⟩ => args_nil ?_) na) na rfl))) rfl) rfl rfl))⟩
  obtain ⟨l, xs, rfl, hq, few, q⟩ := q
  cases r
  obtain ⟨its, rv, pl, hz⟩ := J.list hq
  refine set_intsR (J.ok.hd calm) pl.isList (by simpa using RZ.intsAre_vals rv) (by unfold scanBound; omega) fun h' tk c hS hc hk => args_nil ?_
  have J2 : Inv X pins σ H1 { z with heap := h', toks := tk } := J.kept hk
  refine L2.sorted_set hS (J.ok.hd calm) (Nat.lt_of_le_of_lt hc few) fun s' p out c ns k1 g1 o1 lt at_ hs so mem ln => ?_
  have nl : (ns.map V.int).length ≤ sizeLine := by rw [List.length_map, ln, sizeLine_eq]; omega
  have free : H1 p = none := J2.hok.fresh lt
  have J3 : Inv X pins σ (upd H1 p (.lst (ns.map V.int))) { { z with heap := h', toks := tk } with heap := s'.heap, gens := s'.gens, drawn := s'.drawn, toks := s'.toks } :=
    J2.call (ch := []) (Un.laid k1 lt free) (J2.hok.laid k1 lt ⟨nl, out.toList, c, vals_of_ints hs, at_⟩) (by rw [g1]; exact J2.bare) fun _ y => nomatch y
  have e : s' = { { z with heap := h', toks := tk } with heap := s'.heap, gens := s'.gens, drawn := s'.drawn, toks := s'.toks } := by
    cases s'
    cases z
    cases o1
    rfl
  rw [e]
  exact ⟨.ref p, _, J3, rfl, q ns p so (fun k => (mem k).trans decide_eq_true_iff) free⟩
end Hb
set_option Elab.async false
set_option linter.all false
/-! Loops within a comprehension, its reading told. -/
namespace Hb
open PySem PySem.Spec PyProof.Rows L2
section
variable {X : Cx} {tg l : Expr} {tl : TE} {K : PySem.W.Frag}
theorem pi_tupK (e : X.K = K) (hl : PE X l tl) : PI X tg l (iTup K tl) := by
  subst e
  exact pi_tup hl
theorem pi_listK (e : X.K = K) (hl : PE X l tl) : PI X tg l (iList K tl) := by
  subst e
  exact pi_list hl
end
end Hb
set_option Elab.async false
set_option linter.all false
set_option maxRecDepth 100000
set_option maxHeartbeats 8000000
/-! set of a tuple of unlike texts; len of it. -/
namespace Hb
open PySem PySem.Spec PyProof.Rows L2
section
variable {prog : Program} {w : World} {A : Around} {E : Value → Shared → Prop} {s : Shared}
/-- set(xs) of a tuple of unlike texts -/
theorem set_textsT {l : Addr} {its : Array Value} {xs : List Str} {Q : Value → Shared → Prop} (calm : A.handled = none) (at_ : s.heap.IsTuple l its) (are : StrsAre its.toList xs) (nd : xs.Nodup) (few : xs.length + 1 < scanBound)
    (k : ∀ (h' : Heap) (tk : Nat), h'.SetOf (PySem.strKind prog w) s.heap.objs.size (fun z => (xs.take xs.length).any (· == z)) xs.length → (∀ b o, s.heap.get? b = some o → h'.get? b = some o) → Q (.ref s.heap.objs.size) { s with heap := h', toks := tk }) :
    wpAny (model prog w) A (call (.type "set") [.ref l]) Q E s := by
  have size : its.size = xs.length := by have q := are.length; rw [Array.length_toList] at q; exact q
  obtain ⟨c, tl, mro⟩ := F.called_set.mro
  have f1 := F.called_set.made; have f2 := F.called_set.sub; have f3 := F.called_set.notType; have f4 := F.called_set.canCreate; have f5 := F.typeCall_set_1 (.ref l)
  refine wpAny_call (codeAny_of_tree (by
    show wpAny _ _ (callAny (.type "set") _) _ _ _
    refine wpAny_pure ⟨Code.quiet_builtin _ (by decide +kernel), codeAny_builtin F.entry_type_call ?_⟩
    rw [Around.under_plain (weight_type_call_type "set" [.ref l] []) rfl]
    repeat (any_goals (first | assumption | wp_step))
    refine codeAny_mono (code_set_new_1 (.ref l) (E := E) (Q₁ := fun v z => ∃ led : Bool, v = .ref s.heap.objs.size ∧ z = { s with heap := s.heap.push (bareSet led) }) fun led => ⟨led, rfl, rfl⟩) fun r z hr => ?_
    match r, hr with
    | .error e, hr => exact hr
    | .ok .next, hr => exact hr.elim
    | .ok .brk, hr => exact hr.elim
    | .ok .cont, hr => exact hr.elim
    | .ok (.ret v), ⟨led, e1, e2⟩ =>
      subst e1 e2
      have mine : (s.heap.push (bareSet led)).get? s.heap.objs.size = some (bareSet led) := Heap.get?_push_size _ rfl
      have kind : Shared.TypeIs { s with heap := s.heap.push (bareSet led) } (.ref s.heap.objs.size) "set" := ⟨_, mine, rfl⟩
      have f6 := F.called_set.init.lookup; have f7 := F.called_set.init.bind (.ref s.heap.objs.size)
      repeat (any_goals (first | assumption | wp_step))
      refine codeAny_mono (codeAny_call_builtin (R := wants (fun r z => r = .none ∧ ∃ h' tk, z = { s with heap := h', toks := tk } ∧
        h'.SetOf (PySem.strKind prog w) s.heap.objs.size (fun z => (xs.take xs.length).any (· == z)) xs.length ∧ ∀ b o, s.heap.get? b = some o → h'.get? b = some o) E) F.called_set.init.plain F.entry_set_init (check_set_init_1 kind ?_)) fun r2 z2 hr2 => ?_
      · obtain ⟨⟨ocls, odict, odata, oslots⟩, ho, hc, nl, hd⟩ := at_
        simp only at hc hd; subst hc hd
        have ho2 : (s.heap.push (bareSet led)).get? l = some { cls := .type "tuple", dict := odict, data := .seq its nl, slots := oslots } := Heap.get?_push_of_some _ ho
        have g1 := F.sub_tuple_set; have g2 := F.sub_tuple_frozenset; have g3 : (Value.type "tuple" == Value.type "dict") = false := by decide
        have ml : (s.heap.push (bareSet led)).IsTuple l its := ⟨_, ho2, rfl, nl, rfl⟩
        unfold Builtin.«set.__init__» noKeywords Builtin.Frozenset.updateFrom
        generalize hI : pyIter = It
        wp_walk
        subst hI
        have lo : l < s.heap.objs.size := Heap.lt_size ho
        have far : l ≠ (s.heap.push (bareSet led)).objs.size := by rw [Heap.size_push]; exact Nat.ne_of_lt (Nat.lt_succ_of_lt lo)
        refine wpAny_pyIter_tuple ml (wpAny_bind (wpAny_runValue (turns_text ((Walks.tuple (by simp [calm]) _ l far its).toS) s.heap.objs.size (by
            rw [Heap.size_push]; simp only [List.mem_cons, List.not_mem_nil, or_false, not_or]
            exact ⟨Nat.ne_of_lt (Nat.lt_succ_self _), Nat.ne_of_gt lo⟩) xs size.symm nd (by omega) (fun i v hv => SS.strs_at are i v (by rw [Array.getElem?_toList]; exact hv)) (its.size - 0) 0 _ (by omega) (Nat.zero_le _)
          ⟨⟨_, Heap.get?_push_size _ rfl, rfl, rfl⟩, (ml.push _)⟩ ?zer ?fin1)))
        case zer =>
          have e0 : ((s.heap.push (bareSet led)).push { cls := .type "tuple_iterator", data := .fields #[.ref l, .int 0 0] }).get? s.heap.objs.size = some (bareSet led) := Heap.get?_push_of_some _ mine
          exact SetOf_congr ((setObjOf_fresh (knd := PySem.strKind prog w) led).setOf e0 (by unfold scanBound; omega)) (fun _ => rfl) rfl
        case fin1 =>
          rintro ⟨h', g', d', tk', os'⟩ hm hS
          obtain rfl : g' = s.gens := hm.gens
          obtain rfl : d' = s.drawn := hm.drawn
          obtain rfl : os' = s.os := hm.os
          show wpAny _ _ _ _ _ _
          refine wpAny_pure (by
            show wpAny _ _ (ret Value.none) _ _ _
            rw [size] at hS
            refine wpAny_pure ⟨rfl, h', tk', rfl, hS, fun b o e => hm.heap b o ?_ (Heap.get?_push_of_some _ (Heap.get?_push_of_some _ e))⟩
            have lb := Heap.lt_size e
            rw [Heap.size_push]; simp only [List.mem_cons, List.not_mem_nil, or_false, not_or]
            exact ⟨Nat.ne_of_lt lb, Nat.ne_of_lt (Nat.lt_succ_of_lt lb)⟩)
      · match r2, hr2 with
        | .error e, h => exact h
        | .ok .next, h => exact h.elim
        | .ok .brk, h => exact h.elim
        | .ok .cont, h => exact h.elim
        | .ok (.ret v), ⟨e1, h', tk, e2, hS, hk⟩ =>
          subst e1 e2
          repeat (any_goals (first | assumption | wp_step))
          exact k _ _ hS hk))
end
/-- len(set(xs)), xs a list or a tuple of unlike texts, or a list or a tuple of unlike ints -/
def tLenSet4 (K : PySem.W.Frag) (ta : TE) : TE := fun σ H Q => ta σ H fun x H1 => ∃ l : Addr, x = .ref l ∧
  ((∃ xs : List Str, (SqL K H1 l (xs.map V.str) ∨ SqT K H1 l (xs.map V.str)) ∧ xs.Nodup ∧ xs.length ≤ 4000 ∧ Q (.int xs.length) H1) ∨ ∃ ns : List Int, (SqL K H1 l (ns.map V.int) ∨ SqT K H1 l (ns.map V.int)) ∧ ns.Nodup ∧ ns.length ≤ 4000 ∧ Q (.int ns.length) H1)
theorem pe_lenSet4 {X : Cx} {a : Expr} {ta : TE} {p p2 q pos : Pos} (hg : Gl X "len") (hm : X.mg "len" = none) (hg2 : Gl X "set") (hm2 : X.mg "set" = none) (ha : PE X a ta) (calm : X.calm = true := by rfl)
    (na : starEach [a] X.env = (false, eval a X.env) :: starEach [] X.env := by rfl) : PE X (.Call (.Name "len" p) [.Call (.Name "set" p2) [a] [] q] [] pos) (tLenSet4 X.K ta) := by
  refine ⟨fun pins s σ H Q I h => Call_ (ld_blt I hg hm boot_len (callWith_builtin1 (args_cons (Call_ (ld_blt I hg2 hm2 boot_set
    (callWith_type1 (args_cons (thn (ha.run pins s σ H _ I h) fun v z ⟨x, H1, J, r, q⟩ => args_nil ?_) na) na rfl))) rfl) rfl rfl))⟩
  obtain ⟨l, rfl, q⟩ := q
  cases r
  have fin : ∀ (n : Nat) (h' : Heap) (tk : Nat) (κ : Type) (i1 : DecidableEq κ) (i2 : BEq κ) (i3 : LawfulBEq κ) (kd : KeyKind X.prog X.w κ) (S : κ → Bool), n ≤ 4000 → h'.SetOf kd z.heap.objs.size S n → (∀ b o, z.heap.get? b = some o → h'.get? b = some o) → Q (.int n) H1 →
      wpAny (model X.prog X.w) X.A (spliced (backTo pos (starEach [] X.env))) (fun vs y => wpAny (model X.prog X.w) X.A (call (.builtin "len") (Value.ref z.heap.objs.size :: vs)) (EP X pins σ Q) X.xe y) X.xe { z with heap := h', toks := tk } := by
    intro n h' tk κ i1 i2 i3 kd S hn hS hk q
    refine args_nil ?_
    obtain ⟨o, es, ep, t, ho, hex, hd, _, _, _, hf, e⟩ := hS
    have J2 : Inv X pins σ H1 { z with heap := h', toks := tk } := J.kept hk
    exact call_len_set ho hex hd hf (by rw [e] <;> omega) ⟨.int n, H1, J2.tok _, ⟨_, by rw [e]⟩, q⟩
  rcases q with ⟨xs, hq, nd, few, q⟩ | ⟨ns, hq, nd, few, q⟩
  · rcases hq with hq | hq
    · obtain ⟨its, r, pl, hz⟩ := J.list hq
      exact set_texts (J.ok.hd calm) pl.isList (by simpa using strsAre_of r) nd (by unfold scanBound; omega) fun h' tk hS hk => fin _ h' tk _ inferInstance inferInstance inferInstance _ _ few hS hk q
    obtain ⟨its, r, pl, hz⟩ := J.tuple hq
    exact set_textsT (J.ok.hd calm) (show z.heap.IsTuple l its.toArray from pl) (by simpa using strsAre_of r) nd (by unfold scanBound; omega) fun h' tk hS hk => fin _ h' tk _ inferInstance inferInstance inferInstance _ _ few hS hk q
  · rcases hq with hq | hq
    · obtain ⟨its, r, pl, hz⟩ := J.list hq
      have size : its.toArray.size = ns.length := by rw [List.size_toArray, ← r.length, List.length_map]
      refine call_set_list (J.ok.hd calm) pl.isList (by simpa using RZ.intsAre_vals r) (by rw [size]; unfold scanBound; omega) fun h' tk hS hk => ?_
      rw [size, RZ.firstMet_nodup nd ns.length (Nat.le_refl _)] at hS
      rw [List.take_length] at hS
      exact fin _ h' tk _ inferInstance inferInstance inferInstance _ _ few hS (fun b o e => hk b o (Heap.lt_size e) e) q
    · obtain ⟨its, r, pl, hz⟩ := J.tuple hq
      refine L2.call_set_tupI ns (J.ok.hd calm) (show z.heap.IsTuple l its.toArray from pl) (by simpa using RZ.intsAre_vals r) (by unfold scanBound; omega) fun h' tk c hS hc hk => ?_
      obtain ⟨o, es, ep, t, ho, hex, hd, _, kn, ks, _, hf, e, _⟩ := hS
      have pm : (es.toList.map L2.keyOf).Perm ns := (List.perm_ext_iff_of_nodup kn nd).mpr fun k => by rw [← ks k, decide_eq_true_iff]
      have n1 : es.size = ns.length := by have q := pm.length_eq; rw [List.length_map, Array.length_toList] at q; exact q
      refine args_nil ?_
      have J2 : Inv X pins σ H1 { z with heap := h', toks := tk } := J.kept hk
      exact call_len_set ho hex hd hf (by rw [n1] <;> omega) ⟨.int ns.length, H1, J2.tok _, ⟨_, by rw [n1]⟩, q⟩
end Hb
set_option Elab.async false
set_option linter.all false
set_option maxRecDepth 100000
set_option maxHeartbeats 8000000
/-! a list or a tuple, walked, where other lists change beside it -/
namespace Hb
open PySem PySem.Spec PyProof.Rows L2
def IsSeqG (K : PySem.W.Frag) (a : Addr) (xs : List V) (G : Hp → Prop) : Prop := (G = fun H => SqL K H a xs) ∨ G = fun H => SqT K H a xs
theorem seqG {K : PySem.W.Frag} {H : Hp} {a : Addr} {xs : List V} (h : SqL K H a xs ∨ SqT K H a xs) : ∃ G : Hp → Prop, IsSeqG K a xs G ∧ ∀ H', Same H H' → G H' := by
  rcases h with h | h
  · exact ⟨_, .inl rfl, fun H' s => Same.seq s h⟩
  · exact ⟨_, .inr rfl, fun H' s => SqT.keep (Same.tk s) h⟩
theorem IsSeqG.sq {K : PySem.W.Frag} {a : Addr} {xs : List V} {G : Hp → Prop} (g : IsSeqG K a xs G) {H : Hp} (h : G H) : SqL K H a xs ∨ SqT K H a xs := by
  rcases g with rfl | rfl
  · exact .inl h
  · exact .inr h
def iSeq2 (K : PySem.W.Frag) (tl : TE) : TI := fun σ H R => tl σ H fun x H1 => ∃ a xs, ∃ (G : Hp → Prop), x = .ref a ∧ IsSeqG K a xs G ∧ G H1 ∧ ∀ J : It, Walk J xs.length G (YAt xs) → R J H1
theorem pi_seq2 {X : Cx} {tg l : Expr} {tl : TE} (hl : PE X l tl) : PI X tg l (iSeq2 X.K tl) := by
  refine ⟨fun pins s σ H R I h => thn (hl.run pins s σ H _ I h) fun v z ⟨x, H1, J, r, a, xs, G, e, hk, hq, q⟩ => ?_⟩
  subst e
  cases r
  have far : ∀ b ∈ [z.heap.objs.size], FpOk X pins H1 b := fun b hb => by
    rw [List.mem_singleton.mp hb]; exact J.fpOk (Nat.le_refl _) (J.hok.fresh (Nat.le_refl _))
  rcases hk with rfl | rfl
  · have q2 := q _ walk_list
    obtain ⟨its, rv, p, hz⟩ := J.list hq
    exact wpAny_pyIter_list p.isList ⟨_, [z.heap.objs.size], _, _, H1, rfl, J.kept (t' := z.toks) (fun b o e => Heap.get?_push_of_some _ e), turn_list a _, ⟨_, Heap.get?_push_size _ rfl, rfl, rfl⟩, (by exact far), q2⟩
  · have q2 := q _ walk_tup
    obtain ⟨its, rv, p, hz⟩ := J.tuple hq
    exact wpAny_pyIter_tuple (show z.heap.IsTuple a its.toArray from p) ⟨_, [z.heap.objs.size], _, _, H1, rfl, J.kept (t' := z.toks) (fun b o e => Heap.get?_push_of_some _ e), turn_tuple a _, ⟨_, Heap.get?_push_size _ rfl, rfl, rfl⟩, (by exact far), q2⟩
end Hb
set_option Elab.async false
set_option linter.all false
set_option maxRecDepth 100000
set_option maxHeartbeats 8000000
/-! repr of any data but texts -/
namespace Hb
open PySem PySem.Spec PyProof.Rows L2
section
variable {X : Cx}
def rReprA (K : PySem.W.Frag) : List V → Hp → VK → Prop := fun vs H Q => ∃ (v : V) (d : PyData), vs = [v] ∧ Dp K H v d ∧ d.showable = true ∧ d.hasDict = false ∧ d.depth ≤ 60 ∧ d.shown.length ≤ sizeLine ∧ (∀ i, d = .int i → i.natAbs.log2 < 1920) ∧ (∀ x, d ≠ .str x) ∧ Q (.str d.shown) H
theorem cr_reprA (hg : X.A.guards = some []) (hu : X.A.units + 64 < cLine) : CallR X (.builtin "repr") (rReprA X.K) := by
  intro pins s σ H vs us Q I r h
  obtain ⟨v, d, rfl, hd, hs, hk, hz, hl, hi, hx, q⟩ := h
  have ref : ∀ a, v = .ref a → wpAny (model X.prog X.w) X.A (call (.builtin "repr") us) (EP X pins σ Q) X.xe s := fun a e => by
    subst e
    exact cr_reprD hg hu pins s σ H _ us Q I r ⟨a, d, rfl, hd, hs, hk, hz, hl, q⟩
  obtain ⟨u, rfl, ru⟩ := r.one
  cases hd with
  | non =>
    obtain rfl : u = Value.none := ru
    exact PySem.P.repr_of_none ⟨.str "None", H, I.tok _, ⟨_, rfl⟩, q⟩
  | bl b =>
    obtain rfl : u = Value.bool b := ru
    exact PySem.P.repr_of_bool ⟨.str _, H, I.tok _, ⟨_, rfl⟩, q⟩
  | int i =>
    obtain ⟨t, rfl⟩ := ru
    exact PySem.P.repr_of_int (hi i rfl) ⟨.str (toString i : String), H, I.tok _, ⟨_, rfl⟩, q⟩
  | str x => exact absurd rfl (hx x)
  | lst h1 h2 => exact ref _ rfl
  | tup h1 h2 => exact ref _ rfl
end
end Hb
set_option Elab.async false
set_option linter.all false
set_option maxRecDepth 100000
set_option maxHeartbeats 4000000
/-! The text, by places. -/
namespace Lw
open PySem PySem.Spec PyProof.Rows L2 Hb
def top (i : Nat) : Stmt := PySem.Challenge.pw_hushsteps_k60_whole_noises_of_walks.main.body.getD i (.Pass ⟨0, 0, 0, 0⟩)
abbrev s_is_whole : Stmt := (top 18)
abbrev N_is_whole : List Str := ["value"]
theorem sc_is_whole : FnScope N_is_whole ["value"] (defScope s_is_whole) := C8.fnScope_by (by decide +kernel)
theorem bd_is_whole : ∀ (kV doc pm : Value) (an : Option Addr) (cdv ct : Value) (us : List Value), us.length = (["value"] : List Str).length → bindArgs (PySem.W.fnOf "is_whole" "is_whole" (defArgs s_is_whole) (defBody s_is_whole) (defScope s_is_whole) .none kV doc pm an cdv ct) ⟨us, []⟩ = pure ((["value"] : List Str).zip us) :=
  fun _ _ _ _ _ _ us hl => match us, hl with | [_], _ => rfl
abbrev s_is_number : Stmt := (top 19)
abbrev N_is_number : List Str := ["value"]
theorem sc_is_number : FnScope N_is_number ["value"] (defScope s_is_number) := C8.fnScope_by (by decide +kernel)
theorem bd_is_number : ∀ (kV doc pm : Value) (an : Option Addr) (cdv ct : Value) (us : List Value), us.length = (["value"] : List Str).length → bindArgs (PySem.W.fnOf "is_number" "is_number" (defArgs s_is_number) (defBody s_is_number) (defScope s_is_number) .none kV doc pm an cdv ct) ⟨us, []⟩ = pure ((["value"] : List Str).zip us) :=
  fun _ _ _ _ _ _ us hl => match us, hl with | [_], _ => rfl
abbrev s_is_positive : Stmt := (top 20)
abbrev N_is_positive : List Str := ["value"]
theorem sc_is_positive : FnScope N_is_positive ["value"] (defScope s_is_positive) := C8.fnScope_by (by decide +kernel)
theorem bd_is_positive : ∀ (kV doc pm : Value) (an : Option Addr) (cdv ct : Value) (us : List Value), us.length = (["value"] : List Str).length → bindArgs (PySem.W.fnOf "is_positive" "is_positive" (defArgs s_is_positive) (defBody s_is_positive) (defScope s_is_positive) .none kV doc pm an cdv ct) ⟨us, []⟩ = pure ((["value"] : List Str).zip us) :=
  fun _ _ _ _ _ _ us hl => match us, hl with | [_], _ => rfl
abbrev s_is_name : Stmt := (top 21)
abbrev N_is_name : List Str := ["value", "letter"]
theorem sc_is_name : FnScope N_is_name ["value"] (defScope s_is_name) := C8.fnScope_by (by decide +kernel)
theorem bd_is_name : ∀ (kV doc pm : Value) (an : Option Addr) (cdv ct : Value) (us : List Value), us.length = (["value"] : List Str).length → bindArgs (PySem.W.fnOf "is_name" "is_name" (defArgs s_is_name) (defBody s_is_name) (defScope s_is_name) .none kV doc pm an cdv ct) ⟨us, []⟩ = pure ((["value"] : List Str).zip us) :=
  fun _ _ _ _ _ _ us hl => match us, hl with | [_], _ => rfl
abbrev s_is_row : Stmt := (top 22)
abbrev N_is_row : List Str := ["value"]
theorem sc_is_row : FnScope N_is_row ["value"] (defScope s_is_row) := C8.fnScope_by (by decide +kernel)
theorem bd_is_row : ∀ (kV doc pm : Value) (an : Option Addr) (cdv ct : Value) (us : List Value), us.length = (["value"] : List Str).length → bindArgs (PySem.W.fnOf "is_row" "is_row" (defArgs s_is_row) (defBody s_is_row) (defScope s_is_row) .none kV doc pm an cdv ct) ⟨us, []⟩ = pure ((["value"] : List Str).zip us) :=
  fun _ _ _ _ _ _ us hl => match us, hl with | [_], _ => rfl
abbrev s_is_tuple_of : Stmt := (top 23)
abbrev N_is_tuple_of : List Str := ["value", "many"]
theorem sc_is_tuple_of : FnScope N_is_tuple_of ["value", "many"] (defScope s_is_tuple_of) := C8.fnScope_by (by decide +kernel)
theorem bd_is_tuple_of : ∀ (kV doc pm : Value) (an : Option Addr) (cdv ct : Value) (us : List Value), us.length = (["value", "many"] : List Str).length → bindArgs (PySem.W.fnOf "is_tuple_of" "is_tuple_of" (defArgs s_is_tuple_of) (defBody s_is_tuple_of) (defScope s_is_tuple_of) .none kV doc pm an cdv ct) ⟨us, []⟩ = pure ((["value", "many"] : List Str).zip us) :=
  fun _ _ _ _ _ _ us hl => match us, hl with | [_, _], _ => rfl
abbrev s_are_unlike : Stmt := (top 24)
abbrev N_are_unlike : List Str := ["things"]
theorem sc_are_unlike : FnScope N_are_unlike ["things"] (defScope s_are_unlike) := C8.fnScope_by (by decide +kernel)
theorem bd_are_unlike : ∀ (kV doc pm : Value) (an : Option Addr) (cdv ct : Value) (us : List Value), us.length = (["things"] : List Str).length → bindArgs (PySem.W.fnOf "are_unlike" "are_unlike" (defArgs s_are_unlike) (defBody s_are_unlike) (defScope s_are_unlike) .none kV doc pm an cdv ct) ⟨us, []⟩ = pure ((["things"] : List Str).zip us) :=
  fun _ _ _ _ _ _ us hl => match us, hl with | [_], _ => rfl
abbrev s_is_numeral : Stmt := (top 25)
abbrev N_is_numeral : List Str := ["word", "digit"]
theorem sc_is_numeral : FnScope N_is_numeral ["word"] (defScope s_is_numeral) := C8.fnScope_by (by decide +kernel)
theorem bd_is_numeral : ∀ (kV doc pm : Value) (an : Option Addr) (cdv ct : Value) (us : List Value), us.length = (["word"] : List Str).length → bindArgs (PySem.W.fnOf "is_numeral" "is_numeral" (defArgs s_is_numeral) (defBody s_is_numeral) (defScope s_is_numeral) .none kV doc pm an cdv ct) ⟨us, []⟩ = pure ((["word"] : List Str).zip us) :=
  fun _ _ _ _ _ _ us hl => match us, hl with | [_], _ => rfl
abbrev s_is_room : Stmt := (top 37)
abbrev N_is_room : List Str := ["rooms", "value"]
theorem sc_is_room : FnScope N_is_room ["rooms", "value"] (defScope s_is_room) := C8.fnScope_by (by decide +kernel)
theorem bd_is_room : ∀ (kV doc pm : Value) (an : Option Addr) (cdv ct : Value) (us : List Value), us.length = (["rooms", "value"] : List Str).length → bindArgs (PySem.W.fnOf "is_room" "is_room" (defArgs s_is_room) (defBody s_is_room) (defScope s_is_room) .none kV doc pm an cdv ct) ⟨us, []⟩ = pure ((["rooms", "value"] : List Str).zip us) :=
  fun _ _ _ _ _ _ us hl => match us, hl with | [_, _], _ => rfl
abbrev s_is_door : Stmt := (top 38)
abbrev N_is_door : List Str := ["rooms", "value", "one", "other", "noise"]
theorem sc_is_door : FnScope N_is_door ["rooms", "value"] (defScope s_is_door) := C8.fnScope_by (by decide +kernel)
theorem bd_is_door : ∀ (kV doc pm : Value) (an : Option Addr) (cdv ct : Value) (us : List Value), us.length = (["rooms", "value"] : List Str).length → bindArgs (PySem.W.fnOf "is_door" "is_door" (defArgs s_is_door) (defBody s_is_door) (defScope s_is_door) .none kV doc pm an cdv ct) ⟨us, []⟩ = pure ((["rooms", "value"] : List Str).zip us) :=
  fun _ _ _ _ _ _ us hl => match us, hl with | [_, _], _ => rfl
abbrev s_is_floor : Stmt := (top 39)
abbrev N_is_floor : List Str := ["rooms", "value"]
theorem sc_is_floor : FnScope N_is_floor ["rooms", "value"] (defScope s_is_floor) := C8.fnScope_by (by decide +kernel)
theorem bd_is_floor : ∀ (kV doc pm : Value) (an : Option Addr) (cdv ct : Value) (us : List Value), us.length = (["rooms", "value"] : List Str).length → bindArgs (PySem.W.fnOf "is_floor" "is_floor" (defArgs s_is_floor) (defBody s_is_floor) (defScope s_is_floor) .none kV doc pm an cdv ct) ⟨us, []⟩ = pure ((["rooms", "value"] : List Str).zip us) :=
  fun _ _ _ _ _ _ us hl => match us, hl with | [_, _], _ => rfl
abbrev s_are_doors : Stmt := (top 40)
abbrev N_are_doors : List Str := ["rooms", "value", "door"]
theorem sc_are_doors : FnScope N_are_doors ["rooms", "value"] (defScope s_are_doors) := C8.fnScope_by (by decide +kernel)
theorem bd_are_doors : ∀ (kV doc pm : Value) (an : Option Addr) (cdv ct : Value) (us : List Value), us.length = (["rooms", "value"] : List Str).length → bindArgs (PySem.W.fnOf "are_doors" "are_doors" (defArgs s_are_doors) (defBody s_are_doors) (defScope s_are_doors) .none kV doc pm an cdv ct) ⟨us, []⟩ = pure ((["rooms", "value"] : List Str).zip us) :=
  fun _ _ _ _ _ _ us hl => match us, hl with | [_, _], _ => rfl
abbrev s_are_floors : Stmt := (top 41)
abbrev N_are_floors : List Str := ["rooms", "value", "floor"]
theorem sc_are_floors : FnScope N_are_floors ["rooms", "value"] (defScope s_are_floors) := C8.fnScope_by (by decide +kernel)
theorem bd_are_floors : ∀ (kV doc pm : Value) (an : Option Addr) (cdv ct : Value) (us : List Value), us.length = (["rooms", "value"] : List Str).length → bindArgs (PySem.W.fnOf "are_floors" "are_floors" (defArgs s_are_floors) (defBody s_are_floors) (defScope s_are_floors) .none kV doc pm an cdv ct) ⟨us, []⟩ = pure ((["rooms", "value"] : List Str).zip us) :=
  fun _ _ _ _ _ _ us hl => match us, hl with | [_, _], _ => rfl
abbrev s_are_cradles : Stmt := (top 42)
abbrev N_are_cradles : List Str := ["rooms", "value", "room"]
theorem sc_are_cradles : FnScope N_are_cradles ["rooms", "value"] (defScope s_are_cradles) := C8.fnScope_by (by decide +kernel)
theorem bd_are_cradles : ∀ (kV doc pm : Value) (an : Option Addr) (cdv ct : Value) (us : List Value), us.length = (["rooms", "value"] : List Str).length → bindArgs (PySem.W.fnOf "are_cradles" "are_cradles" (defArgs s_are_cradles) (defBody s_are_cradles) (defScope s_are_cradles) .none kV doc pm an cdv ct) ⟨us, []⟩ = pure ((["rooms", "value"] : List Str).zip us) :=
  fun _ _ _ _ _ _ us hl => match us, hl with | [_, _], _ => rfl
abbrev s_House_init : Stmt := (inClass (top 50) 0)
abbrev N_House_init : List Str := ["self", "rooms", "doors", "floors", "cradles"]
theorem sc_House_init : FnScope N_House_init ["self", "rooms", "doors", "floors", "cradles"] (defScope s_House_init) := C8.fnScope_by (by decide +kernel)
theorem bd_House_init : ∀ (kV doc pm : Value) (an : Option Addr) (cdv ct : Value) (us : List Value), us.length = (["self", "rooms", "doors", "floors", "cradles"] : List Str).length → bindArgs (PySem.W.fnOf "__init__" "House.__init__" (defArgs s_House_init) (defBody s_House_init) (defScope s_House_init) .none kV doc pm an cdv ct) ⟨us, []⟩ = pure ((["self", "rooms", "doors", "floors", "cradles"] : List Str).zip us) :=
  fun _ _ _ _ _ _ us hl => match us, hl with | [_, _, _, _, _], _ => rfl
theorem bk_House_init : ∀ (T : Addr) (kV doc pm : Value) (an : Option Addr) (cdv ct : Value) (us its : List Value), us.length = (["self", "rooms", "doors", "floors", "cradles"] : List Str).length → its.length = 2 → ∃ k, bindArgs (PySem.W.fnOf "__init__" "House.__init__" (defArgs s_House_init) (defBody s_House_init) (defScope s_House_init) (.ref T) kV doc pm an cdv ct) ⟨us, []⟩ = seqItems? (.ref T) >>= k ∧ k (some its.toArray) = pure ((["self", "rooms", "doors", "floors", "cradles"] : List Str).zip us) :=
  fun _ _ _ _ _ _ _ us its h1 h2 => match us, its, h1, h2 with | [_, _, _, _, _], [_, _], _, _ => ⟨_, rfl, rfl⟩
theorem bkp_House_init : ∀ (T : Addr) (kV doc pm : Value) (an : Option Addr) (cdv ct : Value) (us its : List Value), us.length = 3 → its.length = 2 → ∃ k, bindArgs (PySem.W.fnOf "__init__" "House.__init__" (defArgs s_House_init) (defBody s_House_init) (defScope s_House_init) (.ref T) kV doc pm an cdv ct) ⟨us, []⟩ = seqItems? (.ref T) >>= k ∧ k (some its.toArray) = pure ((["self", "rooms", "doors", "floors", "cradles"] : List Str).zip (us ++ its)) :=
  fun _ _ _ _ _ _ _ us its h1 h2 => match us, its, h1, h2 with | [_, _, _], [_, _], _, _ => ⟨_, rfl, rfl⟩
theorem bkp1_House_init : ∀ (T : Addr) (kV doc pm : Value) (an : Option Addr) (cdv ct : Value) (us its : List Value), us.length = 4 → its.length = 2 → ∃ k, bindArgs (PySem.W.fnOf "__init__" "House.__init__" (defArgs s_House_init) (defBody s_House_init) (defScope s_House_init) (.ref T) kV doc pm an cdv ct) ⟨us, []⟩ = seqItems? (.ref T) >>= k ∧ k (some its.toArray) = pure ((["self", "rooms", "doors", "floors", "cradles"] : List Str).zip (us ++ its.drop 1)) :=
  fun _ _ _ _ _ _ _ us its h1 h2 => match us, its, h1, h2 with | [_, _, _, _], [_, _], _, _ => ⟨_, rfl, rfl⟩
abbrev s_House_noises : Stmt := (inClass (top 50) 2)
abbrev N_House_noises : List Str := ["self", "of_doors", "one", "other", "noise", "of_floors", "room"]
theorem sc_House_noises : FnScope N_House_noises ["self"] (defScope s_House_noises) := C8.fnScope_by (by decide +kernel)
theorem bd_House_noises : ∀ (kV doc pm : Value) (an : Option Addr) (cdv ct : Value) (us : List Value), us.length = (["self"] : List Str).length → bindArgs (PySem.W.fnOf "noises" "House.noises" (defArgs s_House_noises) (defBody s_House_noises) (defScope s_House_noises) .none kV doc pm an cdv ct) ⟨us, []⟩ = pure ((["self"] : List Str).zip us) :=
  fun _ _ _ _ _ _ us hl => match us, hl with | [_], _ => rfl
abbrev s_House_mended : Stmt := (inClass (top 50) 3)
abbrev N_House_mended : List Str := ["self", "names", "doors", "one", "other", "noise", "floors", "room"]
theorem sc_House_mended : FnScope N_House_mended ["self", "names"] (defScope s_House_mended) := C8.fnScope_by (by decide +kernel)
theorem bd_House_mended : ∀ (kV doc pm : Value) (an : Option Addr) (cdv ct : Value) (us : List Value), us.length = (["self", "names"] : List Str).length → bindArgs (PySem.W.fnOf "mended" "House.mended" (defArgs s_House_mended) (defBody s_House_mended) (defScope s_House_mended) .none kV doc pm an cdv ct) ⟨us, []⟩ = pure ((["self", "names"] : List Str).zip us) :=
  fun _ _ _ _ _ _ us hl => match us, hl with | [_, _], _ => rfl
abbrev s_is_sorted_name : Stmt := (top 59)
abbrev N_is_sorted_name : List Str := ["value"]
theorem sc_is_sorted_name : FnScope N_is_sorted_name ["value"] (defScope s_is_sorted_name) := C8.fnScope_by (by decide +kernel)
theorem bd_is_sorted_name : ∀ (kV doc pm : Value) (an : Option Addr) (cdv ct : Value) (us : List Value), us.length = (["value"] : List Str).length → bindArgs (PySem.W.fnOf "is_sorted_name" "is_sorted_name" (defArgs s_is_sorted_name) (defBody s_is_sorted_name) (defScope s_is_sorted_name) .none kV doc pm an cdv ct) ⟨us, []⟩ = pure ((["value"] : List Str).zip us) :=
  fun _ _ _ _ _ _ us hl => match us, hl with | [_], _ => rfl
abbrev s_are_sorts : Stmt := (top 60)
abbrev N_are_sorts : List Str := ["value", "pair"]
theorem sc_are_sorts : FnScope N_are_sorts ["value"] (defScope s_are_sorts) := C8.fnScope_by (by decide +kernel)
theorem bd_are_sorts : ∀ (kV doc pm : Value) (an : Option Addr) (cdv ct : Value) (us : List Value), us.length = (["value"] : List Str).length → bindArgs (PySem.W.fnOf "are_sorts" "are_sorts" (defArgs s_are_sorts) (defBody s_are_sorts) (defScope s_are_sorts) .none kV doc pm an cdv ct) ⟨us, []⟩ = pure ((["value"] : List Str).zip us) :=
  fun _ _ _ _ _ _ us hl => match us, hl with | [_], _ => rfl
abbrev s_Sleeper_init : Stmt := (inClass (top 64) 0)
abbrev N_Sleeper_init : List Str := ["self", "sorts", "stir", "doze", "near", "loud"]
theorem sc_Sleeper_init : FnScope N_Sleeper_init ["self", "sorts", "stir", "doze", "near", "loud"] (defScope s_Sleeper_init) := C8.fnScope_by (by decide +kernel)
theorem bd_Sleeper_init : ∀ (kV doc pm : Value) (an : Option Addr) (cdv ct : Value) (us : List Value), us.length = (["self", "sorts", "stir", "doze", "near", "loud"] : List Str).length → bindArgs (PySem.W.fnOf "__init__" "Sleeper.__init__" (defArgs s_Sleeper_init) (defBody s_Sleeper_init) (defScope s_Sleeper_init) .none kV doc pm an cdv ct) ⟨us, []⟩ = pure ((["self", "sorts", "stir", "doze", "near", "loud"] : List Str).zip us) :=
  fun _ _ _ _ _ _ us hl => match us, hl with | [_, _, _, _, _, _], _ => rfl
abbrev s_first_state : Stmt := (top 65)
abbrev N_first_state : List Str := ["sleeper", "first"]
theorem sc_first_state : FnScope N_first_state ["sleeper", "first"] (defScope s_first_state) := C8.fnScope_by (by decide +kernel)
theorem bd_first_state : ∀ (kV doc pm : Value) (an : Option Addr) (cdv ct : Value) (us : List Value), us.length = (["sleeper", "first"] : List Str).length → bindArgs (PySem.W.fnOf "first_state" "first_state" (defArgs s_first_state) (defBody s_first_state) (defScope s_first_state) .none kV doc pm an cdv ct) ⟨us, []⟩ = pure ((["sleeper", "first"] : List Str).zip us) :=
  fun _ _ _ _ _ _ us hl => match us, hl with | [_, _], _ => rfl
abbrev s_heard : Stmt := (top 66)
abbrev N_heard : List Str := ["sleeper", "state", "noise", "sort"]
theorem sc_heard : FnScope N_heard ["sleeper", "state", "noise"] (defScope s_heard) := C8.fnScope_by (by decide +kernel)
theorem bd_heard : ∀ (kV doc pm : Value) (an : Option Addr) (cdv ct : Value) (us : List Value), us.length = (["sleeper", "state", "noise"] : List Str).length → bindArgs (PySem.W.fnOf "heard" "heard" (defArgs s_heard) (defBody s_heard) (defScope s_heard) .none kV doc pm an cdv ct) ⟨us, []⟩ = pure ((["sleeper", "state", "noise"] : List Str).zip us) :=
  fun _ _ _ _ _ _ us hl => match us, hl with | [_, _, _], _ => rfl
abbrev s_heard_all : Stmt := (top 67)
abbrev N_heard_all : List Str := ["sleeper", "state", "noises", "behind", "noise"]
theorem sc_heard_all : FnScope N_heard_all ["sleeper", "state", "noises"] (defScope s_heard_all) := C8.fnScope_by (by decide +kernel)
theorem bd_heard_all : ∀ (kV doc pm : Value) (an : Option Addr) (cdv ct : Value) (us : List Value), us.length = (["sleeper", "state", "noises"] : List Str).length → bindArgs (PySem.W.fnOf "heard_all" "heard_all" (defArgs s_heard_all) (defBody s_heard_all) (defScope s_heard_all) .none kV doc pm an cdv ct) ⟨us, []⟩ = pure ((["sleeper", "state", "noises"] : List Str).zip us) :=
  fun _ _ _ _ _ _ us hl => match us, hl with | [_, _, _], _ => rfl
abbrev s_ticked : Stmt := (top 68)
abbrev N_ticked : List Str := ["sleeper", "state"]
theorem sc_ticked : FnScope N_ticked ["sleeper", "state"] (defScope s_ticked) := C8.fnScope_by (by decide +kernel)
theorem bd_ticked : ∀ (kV doc pm : Value) (an : Option Addr) (cdv ct : Value) (us : List Value), us.length = (["sleeper", "state"] : List Str).length → bindArgs (PySem.W.fnOf "ticked" "ticked" (defArgs s_ticked) (defBody s_ticked) (defScope s_ticked) .none kV doc pm an cdv ct) ⟨us, []⟩ = pure ((["sleeper", "state"] : List Str).zip us) :=
  fun _ _ _ _ _ _ us hl => match us, hl with | [_, _], _ => rfl
abbrev s_hummed : Stmt := (top 69)
abbrev N_hummed : List Str := ["sleeper", "state", "word"]
theorem sc_hummed : FnScope N_hummed ["sleeper", "state", "word"] (defScope s_hummed) := C8.fnScope_by (by decide +kernel)
theorem bd_hummed : ∀ (kV doc pm : Value) (an : Option Addr) (cdv ct : Value) (us : List Value), us.length = (["sleeper", "state", "word"] : List Str).length → bindArgs (PySem.W.fnOf "hummed" "hummed" (defArgs s_hummed) (defBody s_hummed) (defScope s_hummed) .none kV doc pm an cdv ct) ⟨us, []⟩ = pure ((["sleeper", "state", "word"] : List Str).zip us) :=
  fun _ _ _ _ _ _ us hl => match us, hl with | [_, _, _], _ => rfl
abbrev s_dozing_anew : Stmt := (top 70)
abbrev N_dozing_anew : List Str := ["sleeper"]
theorem sc_dozing_anew : FnScope N_dozing_anew ["sleeper"] (defScope s_dozing_anew) := C8.fnScope_by (by decide +kernel)
theorem bd_dozing_anew : ∀ (kV doc pm : Value) (an : Option Addr) (cdv ct : Value) (us : List Value), us.length = (["sleeper"] : List Str).length → bindArgs (PySem.W.fnOf "dozing_anew" "dozing_anew" (defArgs s_dozing_anew) (defBody s_dozing_anew) (defScope s_dozing_anew) .none kV doc pm an cdv ct) ⟨us, []⟩ = pure ((["sleeper"] : List Str).zip us) :=
  fun _ _ _ _ _ _ us hl => match us, hl with | [_], _ => rfl
abbrev s_sort_of : Stmt := (top 71)
abbrev N_sort_of : List Str := ["sleeper", "noise", "name", "sort"]
theorem sc_sort_of : FnScope N_sort_of ["sleeper", "noise"] (defScope s_sort_of) := C8.fnScope_by (by decide +kernel)
theorem bd_sort_of : ∀ (kV doc pm : Value) (an : Option Addr) (cdv ct : Value) (us : List Value), us.length = (["sleeper", "noise"] : List Str).length → bindArgs (PySem.W.fnOf "sort_of" "sort_of" (defArgs s_sort_of) (defBody s_sort_of) (defScope s_sort_of) .none kV doc pm an cdv ct) ⟨us, []⟩ = pure ((["sleeper", "noise"] : List Str).zip us) :=
  fun _ _ _ _ _ _ us hl => match us, hl with | [_, _], _ => rfl
abbrev s_heard_asleep : Stmt := (top 72)
abbrev N_heard_asleep : List Str := ["sleeper", "state", "noise", "sort"]
theorem sc_heard_asleep : FnScope N_heard_asleep ["sleeper", "state", "noise", "sort"] (defScope s_heard_asleep) := C8.fnScope_by (by decide +kernel)
theorem bd_heard_asleep : ∀ (kV doc pm : Value) (an : Option Addr) (cdv ct : Value) (us : List Value), us.length = (["sleeper", "state", "noise", "sort"] : List Str).length → bindArgs (PySem.W.fnOf "heard_asleep" "heard_asleep" (defArgs s_heard_asleep) (defBody s_heard_asleep) (defScope s_heard_asleep) .none kV doc pm an cdv ct) ⟨us, []⟩ = pure ((["sleeper", "state", "noise", "sort"] : List Str).zip us) :=
  fun _ _ _ _ _ _ us hl => match us, hl with | [_, _, _, _], _ => rfl
abbrev s_heard_loud_dozing : Stmt := (top 73)
abbrev N_heard_loud_dozing : List Str := ["sleeper", "state"]
theorem sc_heard_loud_dozing : FnScope N_heard_loud_dozing ["sleeper", "state"] (defScope s_heard_loud_dozing) := C8.fnScope_by (by decide +kernel)
theorem bd_heard_loud_dozing : ∀ (kV doc pm : Value) (an : Option Addr) (cdv ct : Value) (us : List Value), us.length = (["sleeper", "state"] : List Str).length → bindArgs (PySem.W.fnOf "heard_loud_dozing" "heard_loud_dozing" (defArgs s_heard_loud_dozing) (defBody s_heard_loud_dozing) (defScope s_heard_loud_dozing) .none kV doc pm an cdv ct) ⟨us, []⟩ = pure ((["sleeper", "state"] : List Str).zip us) :=
  fun _ _ _ _ _ _ us hl => match us, hl with | [_, _], _ => rfl
abbrev s_is_person : Stmt := (top 75)
abbrev N_is_person : List Str := ["people", "word"]
theorem sc_is_person : FnScope N_is_person ["people", "word"] (defScope s_is_person) := C8.fnScope_by (by decide +kernel)
theorem bd_is_person : ∀ (kV doc pm : Value) (an : Option Addr) (cdv ct : Value) (us : List Value), us.length = (["people", "word"] : List Str).length → bindArgs (PySem.W.fnOf "is_person" "is_person" (defArgs s_is_person) (defBody s_is_person) (defScope s_is_person) .none kV doc pm an cdv ct) ⟨us, []⟩ = pure ((["people", "word"] : List Str).zip us) :=
  fun _ _ _ _ _ _ us hl => match us, hl with | [_, _], _ => rfl
abbrev s_is_event : Stmt := (top 76)
abbrev N_is_event : List Str := ["people", "value", "words"]
theorem sc_is_event : FnScope N_is_event ["people", "value"] (defScope s_is_event) := C8.fnScope_by (by decide +kernel)
theorem bd_is_event : ∀ (kV doc pm : Value) (an : Option Addr) (cdv ct : Value) (us : List Value), us.length = (["people", "value"] : List Str).length → bindArgs (PySem.W.fnOf "is_event" "is_event" (defArgs s_is_event) (defBody s_is_event) (defScope s_is_event) .none kV doc pm an cdv ct) ⟨us, []⟩ = pure ((["people", "value"] : List Str).zip us) :=
  fun _ _ _ _ _ _ us hl => match us, hl with | [_, _], _ => rfl
abbrev s_Walk_init : Stmt := (inClass (top 77) 0)
abbrev N_Walk_init : List Str := ["self", "guests", "nurses", "first", "events", "at", "event"]
theorem sc_Walk_init : FnScope N_Walk_init ["self", "guests", "nurses", "first", "events"] (defScope s_Walk_init) := C8.fnScope_by (by decide +kernel)
theorem bd_Walk_init : ∀ (kV doc pm : Value) (an : Option Addr) (cdv ct : Value) (us : List Value), us.length = (["self", "guests", "nurses", "first", "events"] : List Str).length → bindArgs (PySem.W.fnOf "__init__" "Walk.__init__" (defArgs s_Walk_init) (defBody s_Walk_init) (defScope s_Walk_init) .none kV doc pm an cdv ct) ⟨us, []⟩ = pure ((["self", "guests", "nurses", "first", "events"] : List Str).zip us) :=
  fun _ _ _ _ _ _ us hl => match us, hl with | [_, _, _, _, _], _ => rfl
theorem bk_Walk_init : ∀ (T : Addr) (kV doc pm : Value) (an : Option Addr) (cdv ct : Value) (us its : List Value), us.length = (["self", "guests", "nurses", "first", "events"] : List Str).length → its.length = 1 → ∃ k, bindArgs (PySem.W.fnOf "__init__" "Walk.__init__" (defArgs s_Walk_init) (defBody s_Walk_init) (defScope s_Walk_init) (.ref T) kV doc pm an cdv ct) ⟨us, []⟩ = seqItems? (.ref T) >>= k ∧ k (some its.toArray) = pure ((["self", "guests", "nurses", "first", "events"] : List Str).zip us) :=
  fun _ _ _ _ _ _ _ us its h1 h2 => match us, its, h1, h2 with | [_, _, _, _, _], [_], _, _ => ⟨_, rfl, rfl⟩
theorem bkp_Walk_init : ∀ (T : Addr) (kV doc pm : Value) (an : Option Addr) (cdv ct : Value) (us its : List Value), us.length = 4 → its.length = 1 → ∃ k, bindArgs (PySem.W.fnOf "__init__" "Walk.__init__" (defArgs s_Walk_init) (defBody s_Walk_init) (defScope s_Walk_init) (.ref T) kV doc pm an cdv ct) ⟨us, []⟩ = seqItems? (.ref T) >>= k ∧ k (some its.toArray) = pure ((["self", "guests", "nurses", "first", "events"] : List Str).zip (us ++ its)) :=
  fun _ _ _ _ _ _ _ us its h1 h2 => match us, its, h1, h2 with | [_, _, _, _], [_], _, _ => ⟨_, rfl, rfl⟩
abbrev s_beyond : Stmt := (top 2)
abbrev N_beyond : List Str := ["house", "number", "room", "one", "other", "noise"]
theorem sc_beyond : FnScope N_beyond ["house", "number", "room"] (defScope s_beyond) := C8.fnScope_by (by decide +kernel)
theorem bd_beyond : ∀ (kV doc pm : Value) (an : Option Addr) (cdv ct : Value) (us : List Value), us.length = (["house", "number", "room"] : List Str).length → bindArgs (PySem.W.fnOf "beyond" "beyond" (defArgs s_beyond) (defBody s_beyond) (defScope s_beyond) .none kV doc pm an cdv ct) ⟨us, []⟩ = pure ((["house", "number", "room"] : List Str).zip us) :=
  fun _ _ _ _ _ _ us hl => match us, hl with | [_, _, _], _ => rfl
abbrev s_floor_noise : Stmt := (top 3)
abbrev N_floor_noise : List Str := ["house", "room", "place", "noise"]
theorem sc_floor_noise : FnScope N_floor_noise ["house", "room"] (defScope s_floor_noise) := C8.fnScope_by (by decide +kernel)
theorem bd_floor_noise : ∀ (kV doc pm : Value) (an : Option Addr) (cdv ct : Value) (us : List Value), us.length = (["house", "room"] : List Str).length → bindArgs (PySem.W.fnOf "floor_noise" "floor_noise" (defArgs s_floor_noise) (defBody s_floor_noise) (defScope s_floor_noise) .none kV doc pm an cdv ct) ⟨us, []⟩ = pure ((["house", "room"] : List Str).zip us) :=
  fun _ _ _ _ _ _ us hl => match us, hl with | [_, _], _ => rfl
abbrev s_noises_of_step : Stmt := (top 4)
abbrev N_noises_of_step : List Str := ["house", "number", "room", "one", "other", "noise", "made"]
theorem sc_noises_of_step : FnScope N_noises_of_step ["house", "number", "room"] (defScope s_noises_of_step) := C8.fnScope_by (by decide +kernel)
theorem bd_noises_of_step : ∀ (kV doc pm : Value) (an : Option Addr) (cdv ct : Value) (us : List Value), us.length = (["house", "number", "room"] : List Str).length → bindArgs (PySem.W.fnOf "noises_of_step" "noises_of_step" (defArgs s_noises_of_step) (defBody s_noises_of_step) (defScope s_noises_of_step) .none kV doc pm an cdv ct) ⟨us, []⟩ = pure ((["house", "number", "room"] : List Str).zip us) :=
  fun _ _ _ _ _ _ us hl => match us, hl with | [_, _, _], _ => rfl
abbrev s_Night_init : Stmt := (inClass (top 79) 0)
abbrev N_Night_init : List Str := ["self", "house", "sleeper", "walk"]
theorem sc_Night_init : FnScope N_Night_init ["self", "house", "sleeper", "walk"] (defScope s_Night_init) := C8.fnScope_by (by decide +kernel)
theorem bd_Night_init : ∀ (kV doc pm : Value) (an : Option Addr) (cdv ct : Value) (us : List Value), us.length = (["self", "house", "sleeper", "walk"] : List Str).length → bindArgs (PySem.W.fnOf "__init__" "Night.__init__" (defArgs s_Night_init) (defBody s_Night_init) (defScope s_Night_init) .none kV doc pm an cdv ct) ⟨us, []⟩ = pure ((["self", "house", "sleeper", "walk"] : List Str).zip us) :=
  fun _ _ _ _ _ _ us hl => match us, hl with | [_, _, _, _], _ => rfl
abbrev s_Night_allows : Stmt := (inClass (top 79) 1)
abbrev N_Night_allows : List Str := ["self", "words", "person"]
theorem sc_Night_allows : FnScope N_Night_allows ["self", "words"] (defScope s_Night_allows) := C8.fnScope_by (by decide +kernel)
theorem bd_Night_allows : ∀ (kV doc pm : Value) (an : Option Addr) (cdv ct : Value) (us : List Value), us.length = (["self", "words"] : List Str).length → bindArgs (PySem.W.fnOf "allows" "Night.allows" (defArgs s_Night_allows) (defBody s_Night_allows) (defScope s_Night_allows) .none kV doc pm an cdv ct) ⟨us, []⟩ = pure ((["self", "words"] : List Str).zip us) :=
  fun _ _ _ _ _ _ us hl => match us, hl with | [_, _], _ => rfl
abbrev s_Night_follow : Stmt := (inClass (top 79) 2)
abbrev N_Night_follow : List Str := ["self", "words"]
theorem sc_Night_follow : FnScope N_Night_follow ["self", "words"] (defScope s_Night_follow) := C8.fnScope_by (by decide +kernel)
theorem bd_Night_follow : ∀ (kV doc pm : Value) (an : Option Addr) (cdv ct : Value) (us : List Value), us.length = (["self", "words"] : List Str).length → bindArgs (PySem.W.fnOf "follow" "Night.follow" (defArgs s_Night_follow) (defBody s_Night_follow) (defScope s_Night_follow) .none kV doc pm an cdv ct) ⟨us, []⟩ = pure ((["self", "words"] : List Str).zip us) :=
  fun _ _ _ _ _ _ us hl => match us, hl with | [_, _], _ => rfl
abbrev s_Night_tick : Stmt := (inClass (top 79) 3)
abbrev N_Night_tick : List Str := ["self"]
theorem sc_Night_tick : FnScope N_Night_tick ["self"] (defScope s_Night_tick) := C8.fnScope_by (by decide +kernel)
theorem bd_Night_tick : ∀ (kV doc pm : Value) (an : Option Addr) (cdv ct : Value) (us : List Value), us.length = (["self"] : List Str).length → bindArgs (PySem.W.fnOf "tick" "Night.tick" (defArgs s_Night_tick) (defBody s_Night_tick) (defScope s_Night_tick) .none kV doc pm an cdv ct) ⟨us, []⟩ = pure ((["self"] : List Str).zip us) :=
  fun _ _ _ _ _ _ us hl => match us, hl with | [_], _ => rfl
abbrev s_Night_step : Stmt := (inClass (top 79) 4)
abbrev N_Night_step : List Str := ["self", "person", "number", "room", "noises", "noise"]
theorem sc_Night_step : FnScope N_Night_step ["self", "person", "number"] (defScope s_Night_step) := C8.fnScope_by (by decide +kernel)
theorem bd_Night_step : ∀ (kV doc pm : Value) (an : Option Addr) (cdv ct : Value) (us : List Value), us.length = (["self", "person", "number"] : List Str).length → bindArgs (PySem.W.fnOf "step" "Night.step" (defArgs s_Night_step) (defBody s_Night_step) (defScope s_Night_step) .none kV doc pm an cdv ct) ⟨us, []⟩ = pure ((["self", "person", "number"] : List Str).zip us) :=
  fun _ _ _ _ _ _ us hl => match us, hl with | [_, _, _], _ => rfl
abbrev s_Played_init : Stmt := (inClass (top 78) 0)
abbrev N_Played_init : List Str := ["self", "state", "places", "ticks", "made", "woke"]
theorem sc_Played_init : FnScope N_Played_init ["self", "state", "places", "ticks", "made", "woke"] (defScope s_Played_init) := C8.fnScope_by (by decide +kernel)
theorem bd_Played_init : ∀ (kV doc pm : Value) (an : Option Addr) (cdv ct : Value) (us : List Value), us.length = (["self", "state", "places", "ticks", "made", "woke"] : List Str).length → bindArgs (PySem.W.fnOf "__init__" "Played.__init__" (defArgs s_Played_init) (defBody s_Played_init) (defScope s_Played_init) .none kV doc pm an cdv ct) ⟨us, []⟩ = pure ((["self", "state", "places", "ticks", "made", "woke"] : List Str).zip us) :=
  fun _ _ _ _ _ _ us hl => match us, hl with | [_, _, _, _, _, _], _ => rfl
abbrev s_play : Stmt := (top 80)
abbrev N_play : List Str := ["house", "sleeper", "walk", "night", "woke", "at", "event", "words"]
theorem sc_play : FnScope N_play ["house", "sleeper", "walk"] (defScope s_play) := C8.fnScope_by (by decide +kernel)
theorem bd_play : ∀ (kV doc pm : Value) (an : Option Addr) (cdv ct : Value) (us : List Value), us.length = (["house", "sleeper", "walk"] : List Str).length → bindArgs (PySem.W.fnOf "play" "play" (defArgs s_play) (defBody s_play) (defScope s_play) .none kV doc pm an cdv ct) ⟨us, []⟩ = pure ((["house", "sleeper", "walk"] : List Str).zip us) :=
  fun _ _ _ _ _ _ us hl => match us, hl with | [_, _, _], _ => rfl
abbrev s_all_steps : Stmt := (top 5)
abbrev N_all_steps : List Str := ["house", "steps", "number", "one", "other", "noise"]
theorem sc_all_steps : FnScope N_all_steps ["house"] (defScope s_all_steps) := C8.fnScope_by (by decide +kernel)
theorem bd_all_steps : ∀ (kV doc pm : Value) (an : Option Addr) (cdv ct : Value) (us : List Value), us.length = (["house"] : List Str).length → bindArgs (PySem.W.fnOf "all_steps" "all_steps" (defArgs s_all_steps) (defBody s_all_steps) (defScope s_all_steps) .none kV doc pm an cdv ct) ⟨us, []⟩ = pure ((["house"] : List Str).zip us) :=
  fun _ _ _ _ _ _ us hl => match us, hl with | [_], _ => rfl
abbrev s_possible : Stmt := (top 27)
abbrev N_possible : List Str := ["house", "lots"]
theorem sc_possible : FnScope N_possible ["house", "lots"] (defScope s_possible) := C8.fnScope_by (by decide +kernel)
theorem bd_possible : ∀ (kV doc pm : Value) (an : Option Addr) (cdv ct : Value) (us : List Value), us.length = (["house", "lots"] : List Str).length → bindArgs (PySem.W.fnOf "possible" "possible" (defArgs s_possible) (defBody s_possible) (defScope s_possible) .none kV doc pm an cdv ct) ⟨us, []⟩ = pure ((["house", "lots"] : List Str).zip us) :=
  fun _ _ _ _ _ _ us hl => match us, hl with | [_, _], _ => rfl
abbrev s_first_wrong : Stmt := (top 28)
abbrev N_first_wrong : List Str := ["house", "lots", "behind"]
theorem sc_first_wrong : FnScope N_first_wrong ["house", "lots"] (defScope s_first_wrong) := C8.fnScope_by (by decide +kernel)
theorem bd_first_wrong : ∀ (kV doc pm : Value) (an : Option Addr) (cdv ct : Value) (us : List Value), us.length = (["house", "lots"] : List Str).length → bindArgs (PySem.W.fnOf "first_wrong" "first_wrong" (defArgs s_first_wrong) (defBody s_first_wrong) (defScope s_first_wrong) .none kV doc pm an cdv ct) ⟨us, []⟩ = pure ((["house", "lots"] : List Str).zip us) :=
  fun _ _ _ _ _ _ us hl => match us, hl with | [_, _], _ => rfl
abbrev s_where : Stmt := (top 29)
abbrev N_where : List Str := ["house", "lots", "behind"]
theorem sc_where : FnScope N_where ["house", "lots"] (defScope s_where) := C8.fnScope_by (by decide +kernel)
theorem bd_where : ∀ (kV doc pm : Value) (an : Option Addr) (cdv ct : Value) (us : List Value), us.length = (["house", "lots"] : List Str).length → bindArgs (PySem.W.fnOf "where" "where" (defArgs s_where) (defBody s_where) (defScope s_where) .none kV doc pm an cdv ct) ⟨us, []⟩ = pure ((["house", "lots"] : List Str).zip us) :=
  fun _ _ _ _ _ _ us hl => match us, hl with | [_, _], _ => rfl
abbrev s_rooms_behind : Stmt := (top 30)
abbrev N_rooms_behind : List Str := ["house", "lots", "steps", "behind", "rooms", "noises", "made", "noise", "number", "left", "room", "heard"]
theorem sc_rooms_behind : FnScope N_rooms_behind ["house", "lots"] (defScope s_rooms_behind) := C8.fnScope_by (by decide +kernel)
theorem bd_rooms_behind : ∀ (kV doc pm : Value) (an : Option Addr) (cdv ct : Value) (us : List Value), us.length = (["house", "lots"] : List Str).length → bindArgs (PySem.W.fnOf "rooms_behind" "rooms_behind" (defArgs s_rooms_behind) (defBody s_rooms_behind) (defScope s_rooms_behind) .none kV doc pm an cdv ct) ⟨us, []⟩ = pure ((["house", "lots"] : List Str).zip us) :=
  fun _ _ _ _ _ _ us hl => match us, hl with | [_, _], _ => rfl
abbrev s_quiet_steps : Stmt := (top 31)
abbrev N_quiet_steps : List Str := ["steps", "rooms", "noises", "step", "noise"]
theorem sc_quiet_steps : FnScope N_quiet_steps ["steps", "rooms", "noises"] (defScope s_quiet_steps) := C8.fnScope_by (by decide +kernel)
theorem bd_quiet_steps : ∀ (kV doc pm : Value) (an : Option Addr) (cdv ct : Value) (us : List Value), us.length = (["steps", "rooms", "noises"] : List Str).length → bindArgs (PySem.W.fnOf "quiet_steps" "quiet_steps" (defArgs s_quiet_steps) (defBody s_quiet_steps) (defScope s_quiet_steps) .none kV doc pm an cdv ct) ⟨us, []⟩ = pure ((["steps", "rooms", "noises"] : List Str).zip us) :=
  fun _ _ _ _ _ _ us hl => match us, hl with | [_, _, _], _ => rfl
abbrev s_is_made : Stmt := (top 32)
abbrev N_is_made : List Str := ["steps", "noise", "step"]
theorem sc_is_made : FnScope N_is_made ["steps", "noise"] (defScope s_is_made) := C8.fnScope_by (by decide +kernel)
theorem bd_is_made : ∀ (kV doc pm : Value) (an : Option Addr) (cdv ct : Value) (us : List Value), us.length = (["steps", "noise"] : List Str).length → bindArgs (PySem.W.fnOf "is_made" "is_made" (defArgs s_is_made) (defBody s_is_made) (defScope s_is_made) .none kV doc pm an cdv ct) ⟨us, []⟩ = pure ((["steps", "noise"] : List Str).zip us) :=
  fun _ _ _ _ _ _ us hl => match us, hl with | [_, _], _ => rfl
abbrev s_check : Stmt := (top 33)
abbrev N_check : List Str := ["lots", "at", "noises"]
theorem sc_check : FnScope N_check ["lots"] (defScope s_check) := C8.fnScope_by (by decide +kernel)
theorem bd_check : ∀ (kV doc pm : Value) (an : Option Addr) (cdv ct : Value) (us : List Value), us.length = (["lots"] : List Str).length → bindArgs (PySem.W.fnOf "check" "check" (defArgs s_check) (defBody s_check) (defScope s_check) .none kV doc pm an cdv ct) ⟨us, []⟩ = pure ((["lots"] : List Str).zip us) :=
  fun _ _ _ _ _ _ us hl => match us, hl with | [_], _ => rfl
abbrev s_are_noises : Stmt := (top 34)
abbrev N_are_noises : List Str := ["value", "name"]
theorem sc_are_noises : FnScope N_are_noises ["value"] (defScope s_are_noises) := C8.fnScope_by (by decide +kernel)
theorem bd_are_noises : ∀ (kV doc pm : Value) (an : Option Addr) (cdv ct : Value) (us : List Value), us.length = (["value"] : List Str).length → bindArgs (PySem.W.fnOf "are_noises" "are_noises" (defArgs s_are_noises) (defBody s_are_noises) (defScope s_are_noises) .none kV doc pm an cdv ct) ⟨us, []⟩ = pure ((["value"] : List Str).zip us) :=
  fun _ _ _ _ _ _ us hl => match us, hl with | [_], _ => rfl
abbrev s_feed : Stmt := (top 82)
abbrev N_feed : List Str := ["_law_script", "_law_since", "_law_cells", "_law_cell", "_law_blend"]
theorem sc_feed : FnScope N_feed ["_law_script", "_law_since"] (defScope s_feed) := C8.fnScope_by (by decide +kernel)
theorem bd_feed : ∀ (kV doc pm : Value) (an : Option Addr) (cdv ct : Value) (us : List Value), us.length = (["_law_script", "_law_since"] : List Str).length → bindArgs (PySem.W.fnOf "_law_feed" "_law_feed" (defArgs s_feed) (defBody s_feed) (defScope s_feed) .none kV doc pm an cdv ct) ⟨us, []⟩ = pure ((["_law_script", "_law_since"] : List Str).zip us) :=
  fun _ _ _ _ _ _ us hl => match us, hl with | [_, _], _ => rfl
abbrev s_take : Stmt := (top 83)
abbrev N_take : List Str := ["_law_box", "_law_wide", "_law_great", "_law_cell"]
theorem sc_take : FnScope N_take ["_law_box", "_law_wide"] (defScope s_take) := C8.fnScope_by (by decide +kernel)
theorem bd_take : ∀ (kV doc pm : Value) (an : Option Addr) (cdv ct : Value) (us : List Value), us.length = (["_law_box", "_law_wide"] : List Str).length → bindArgs (PySem.W.fnOf "_law_take" "_law_take" (defArgs s_take) (defBody s_take) (defScope s_take) .none kV doc pm an cdv ct) ⟨us, []⟩ = pure ((["_law_box", "_law_wide"] : List Str).zip us) :=
  fun _ _ _ _ _ _ us hl => match us, hl with | [_, _], _ => rfl
abbrev s_pick : Stmt := (top 84)
abbrev N_pick : List Str := ["_law_box", "_law_some"]
theorem sc_pick : FnScope N_pick ["_law_box", "_law_some"] (defScope s_pick) := C8.fnScope_by (by decide +kernel)
theorem bd_pick : ∀ (kV doc pm : Value) (an : Option Addr) (cdv ct : Value) (us : List Value), us.length = (["_law_box", "_law_some"] : List Str).length → bindArgs (PySem.W.fnOf "_law_pick" "_law_pick" (defArgs s_pick) (defBody s_pick) (defScope s_pick) .none kV doc pm an cdv ct) ⟨us, []⟩ = pure ((["_law_box", "_law_some"] : List Str).zip us) :=
  fun _ _ _ _ _ _ us hl => match us, hl with | [_, _], _ => rfl
abbrev s_mixed : Stmt := (top 85)
abbrev N_mixed : List Str := ["_law_box", "_law_some", "_law_rest", "_law_found"]
theorem sc_mixed : FnScope N_mixed ["_law_box", "_law_some"] (defScope s_mixed) := C8.fnScope_by (by decide +kernel)
theorem bd_mixed : ∀ (kV doc pm : Value) (an : Option Addr) (cdv ct : Value) (us : List Value), us.length = (["_law_box", "_law_some"] : List Str).length → bindArgs (PySem.W.fnOf "_law_mixed" "_law_mixed" (defArgs s_mixed) (defBody s_mixed) (defScope s_mixed) .none kV doc pm an cdv ct) ⟨us, []⟩ = pure ((["_law_box", "_law_some"] : List Str).zip us) :=
  fun _ _ _ _ _ _ us hl => match us, hl with | [_, _], _ => rfl
abbrev s_names : Stmt := (top 86)
abbrev N_names : List Str := []
theorem sc_names : FnScope N_names [] (defScope s_names) := C8.fnScope_by (by decide +kernel)
theorem bd_names : ∀ (kV doc pm : Value) (an : Option Addr) (cdv ct : Value) (us : List Value), us.length = ([] : List Str).length → bindArgs (PySem.W.fnOf "_law_names" "_law_names" (defArgs s_names) (defBody s_names) (defScope s_names) .none kV doc pm an cdv ct) ⟨us, []⟩ = pure (([] : List Str).zip us) :=
  fun _ _ _ _ _ _ us hl => match us, hl with | [], _ => rfl
abbrev s_house : Stmt := (top 87)
abbrev N_house : List Str := ["_law_box", "_law_most", "_law_many", "_law_size", "_law_doors", "_law_floors", "_law_names_here", "_law_room", "_law_turn", "_law_two", "_law_name", "_law_spots"]
theorem sc_house : FnScope N_house ["_law_box", "_law_most", "_law_many"] (defScope s_house) := C8.fnScope_by (by decide +kernel)
theorem bd_house : ∀ (kV doc pm : Value) (an : Option Addr) (cdv ct : Value) (us : List Value), us.length = (["_law_box", "_law_most", "_law_many"] : List Str).length → bindArgs (PySem.W.fnOf "_law_house" "_law_house" (defArgs s_house) (defBody s_house) (defScope s_house) .none kV doc pm an cdv ct) ⟨us, []⟩ = pure ((["_law_box", "_law_most", "_law_many"] : List Str).zip us) :=
  fun _ _ _ _ _ _ us hl => match us, hl with | [_, _, _], _ => rfl
abbrev s_sleeper : Stmt := (top 88)
abbrev N_sleeper : List Str := ["_law_box", "_law_most", "_law_sorts", "_law_name", "_law_times"]
theorem sc_sleeper : FnScope N_sleeper ["_law_box", "_law_most"] (defScope s_sleeper) := C8.fnScope_by (by decide +kernel)
theorem bd_sleeper : ∀ (kV doc pm : Value) (an : Option Addr) (cdv ct : Value) (us : List Value), us.length = (["_law_box", "_law_most"] : List Str).length → bindArgs (PySem.W.fnOf "_law_sleeper" "_law_sleeper" (defArgs s_sleeper) (defBody s_sleeper) (defScope s_sleeper) .none kV doc pm an cdv ct) ⟨us, []⟩ = pure ((["_law_box", "_law_most"] : List Str).zip us) :=
  fun _ _ _ _ _ _ us hl => match us, hl with | [_, _], _ => rfl
abbrev s_home : Stmt := (top 89)
abbrev N_home : List Str := ["_law_drawn"]
theorem sc_home : FnScope N_home ["_law_drawn"] (defScope s_home) := C8.fnScope_by (by decide +kernel)
theorem bd_home : ∀ (kV doc pm : Value) (an : Option Addr) (cdv ct : Value) (us : List Value), us.length = (["_law_drawn"] : List Str).length → bindArgs (PySem.W.fnOf "_law_home" "_law_home" (defArgs s_home) (defBody s_home) (defScope s_home) .none kV doc pm an cdv ct) ⟨us, []⟩ = pure ((["_law_drawn"] : List Str).zip us) :=
  fun _ _ _ _ _ _ us hl => match us, hl with | [_], _ => rfl
abbrev s_dreamer : Stmt := (top 90)
abbrev N_dreamer : List Str := ["_law_drawn", "_law_name"]
theorem sc_dreamer : FnScope N_dreamer ["_law_drawn"] (defScope s_dreamer) := C8.fnScope_by (by decide +kernel)
theorem bd_dreamer : ∀ (kV doc pm : Value) (an : Option Addr) (cdv ct : Value) (us : List Value), us.length = (["_law_drawn"] : List Str).length → bindArgs (PySem.W.fnOf "_law_dreamer" "_law_dreamer" (defArgs s_dreamer) (defBody s_dreamer) (defScope s_dreamer) .none kV doc pm an cdv ct) ⟨us, []⟩ = pure ((["_law_drawn"] : List Str).zip us) :=
  fun _ _ _ _ _ _ us hl => match us, hl with | [_], _ => rfl
abbrev s_ways : Stmt := (top 91)
abbrev N_ways : List Str := ["_law_drawn", "_law_room", "_law_found", "_law_at", "_law_a", "_law_b", "_law_noise", "_law_other", "_law_made", "_law_spot", "_law_name"]
theorem sc_ways : FnScope N_ways ["_law_drawn", "_law_room"] (defScope s_ways) := C8.fnScope_by (by decide +kernel)
theorem bd_ways : ∀ (kV doc pm : Value) (an : Option Addr) (cdv ct : Value) (us : List Value), us.length = (["_law_drawn", "_law_room"] : List Str).length → bindArgs (PySem.W.fnOf "_law_ways" "_law_ways" (defArgs s_ways) (defBody s_ways) (defScope s_ways) .none kV doc pm an cdv ct) ⟨us, []⟩ = pure ((["_law_drawn", "_law_room"] : List Str).zip us) :=
  fun _ _ _ _ _ _ us hl => match us, hl with | [_, _], _ => rfl
abbrev s_walked : Stmt := (top 92)
abbrev N_walked : List Str := ["_law_box", "_law_drawn", "_law_people", "_law_many", "_law_places", "_law_moved", "_law_lots", "_law_events", "_law_turn", "_law_person", "_law_ways_here", "_law_door", "_law_other", "_law_names_here", "_law_at", "_law_name"]
theorem sc_walked : FnScope N_walked ["_law_box", "_law_drawn", "_law_people", "_law_many"] (defScope s_walked) := C8.fnScope_by (by decide +kernel)
theorem bd_walked : ∀ (kV doc pm : Value) (an : Option Addr) (cdv ct : Value) (us : List Value), us.length = (["_law_box", "_law_drawn", "_law_people", "_law_many"] : List Str).length → bindArgs (PySem.W.fnOf "_law_walked" "_law_walked" (defArgs s_walked) (defBody s_walked) (defScope s_walked) .none kV doc pm an cdv ct) ⟨us, []⟩ = pure ((["_law_box", "_law_drawn", "_law_people", "_law_many"] : List Str).zip us) :=
  fun _ _ _ _ _ _ us hl => match us, hl with | [_, _, _, _], _ => rfl
abbrev s_lots_of : Stmt := (top 93)
abbrev N_lots_of : List Str := ["_law_played", "_law_found", "_law_turn", "_law_tick", "_law_name"]
theorem sc_lots_of : FnScope N_lots_of ["_law_played"] (defScope s_lots_of) := C8.fnScope_by (by decide +kernel)
theorem bd_lots_of : ∀ (kV doc pm : Value) (an : Option Addr) (cdv ct : Value) (us : List Value), us.length = (["_law_played"] : List Str).length → bindArgs (PySem.W.fnOf "_law_lots_of" "_law_lots_of" (defArgs s_lots_of) (defBody s_lots_of) (defScope s_lots_of) .none kV doc pm an cdv ct) ⟨us, []⟩ = pure ((["_law_played"] : List Str).zip us) :=
  fun _ _ _ _ _ _ us hl => match us, hl with | [_], _ => rfl
abbrev s_law : Stmt := (top 94)
abbrev N_law : List Str := ["_law_script", "_law_spot", "_law_box", "_law_turn", "_law_drawn", "_law_people", "_law_home_here", "_law_light", "_law_events", "_law_lots", "_law_places", "_law_played", "_law_rooms", "_law_room", "_law_many", "_law_name", "_law_less", "_law_lot", "_law_one", "_law_later"]
theorem sc_law : FnScope N_law ["_law_script"] (defScope s_law) := C8.fnScope_by (by decide +kernel)
theorem bd_law : ∀ (kV doc pm : Value) (an : Option Addr) (cdv ct : Value) (us : List Value), us.length = (["_law_script"] : List Str).length → bindArgs (PySem.W.fnOf "law" "law" (defArgs s_law) (defBody s_law) (defScope s_law) .none kV doc pm an cdv ct) ⟨us, []⟩ = pure ((["_law_script"] : List Str).zip us) :=
  fun _ _ _ _ _ _ us hl => match us, hl with | [_], _ => rfl
/-- what the module's names stand for -/
structure Tx (K : PySem.W.Frag) (mg : Str → Option Value) : Prop where
  n_len : mg "len" = none
  n_set : mg "set" = none
  n_abs : mg "abs" = none
  n_min : mg "min" = none
  n_max : mg "max" = none
  n_int : mg "int" = none
  n_str : mg "str" = none
  n_bool : mg "bool" = none
  n_list : mg "list" = none
  n_tuple : mg "tuple" = none
  n_dict : mg "dict" = none
  n_isinstance : mg "isinstance" = none
  n_all : mg "all" = none
  n_any : mg "any" = none
  n_sorted : mg "sorted" = none
  n_range : mg "range" = none
  n_repr : mg "repr" = none
  n_enumerate : mg "enumerate" = none
  s_DIGITS : ∃ t, mg "DIGITS" = some (.str "0123456789" t)
  s_LETTERS : ∃ t, mg "LETTERS" = some (.str "abcdefghijklmnopqrstuvwxyz" t)
  g_SORTS : mg "SORTS" = some (.ref (He.ga K "SORTS"))
  t_SORTS : ∀ H, SqT K H (He.ga K "SORTS") [.str "faint", .str "loud", .str "soft", .str "sudden"]
  g_LOUD_RULES : mg "LOUD_RULES" = some (.ref (He.ga K "LOUD_RULES"))
  t_LOUD_RULES : ∀ H, SqT K H (He.ga K "LOUD_RULES") [.str "again", .str "nothing", .str "wake"]
  g_UP : mg "UP" = some (.ref (He.ga K "UP"))
  t_UP : ∀ H, SqT K H (He.ga K "UP") [.str "up"]
  g_ASLEEP : mg "ASLEEP" = some (.ref (He.ga K "ASLEEP"))
  t_ASLEEP : ∀ H, SqT K H (He.ga K "ASLEEP") [.str "asleep"]
  g_WOKEN : mg "WOKEN" = some (.ref (He.ga K "WOKEN"))
  t_WOKEN : ∀ H, SqT K H (He.ga K "WOKEN") [.str "woken"]
  g_FIRSTS : mg "FIRSTS" = some (.ref (He.ga K "FIRSTS"))
  t_FIRSTS : ∀ H, SqT K H (He.ga K "FIRSTS") [.str "asleep", .str "dozing", .str "up"]
  g_HUMMED : mg "HUMMED" = some (.ref (He.ga K "HUMMED"))
  t_HUMMED : ∀ H, SqT K H (He.ga K "HUMMED") [.str "doze", .str "up"]
  d_0 : ∀ H, SqT K H (He.dflAt ("Walk", some "__init__") 0 K) []
  cls_House : Cls K (He.ga K "House")
  a_rooms : NoAttr K (He.ga K "House") "rooms"
  a_doors : NoAttr K (He.ga K "House") "doors"
  a_floors : NoAttr K (He.ga K "House") "floors"
  a_cradles : NoAttr K (He.ga K "House") "cradles"
  cls_Sleeper : Cls K (He.ga K "Sleeper")
  a_sorts : NoAttr K (He.ga K "Sleeper") "sorts"
  a_stir : NoAttr K (He.ga K "Sleeper") "stir"
  a_doze : NoAttr K (He.ga K "Sleeper") "doze"
  a_near : NoAttr K (He.ga K "Sleeper") "near"
  a_loud : NoAttr K (He.ga K "Sleeper") "loud"
  cls_Walk : Cls K (He.ga K "Walk")
  a_guests : NoAttr K (He.ga K "Walk") "guests"
  a_nurses : NoAttr K (He.ga K "Walk") "nurses"
  a_first : NoAttr K (He.ga K "Walk") "first"
  a_events : NoAttr K (He.ga K "Walk") "events"
  cls_Night : Cls K (He.ga K "Night")
  b_own_house : NoAttr K (He.ga K "Night") "own_house"
  b_own_sleeper : NoAttr K (He.ga K "Night") "own_sleeper"
  b_guests : NoAttr K (He.ga K "Night") "guests"
  b_state : NoAttr K (He.ga K "Night") "state"
  b_places : NoAttr K (He.ga K "Night") "places"
  b_moved : NoAttr K (He.ga K "Night") "moved"
  b_ticks : NoAttr K (He.ga K "Night") "ticks"
  b_made : NoAttr K (He.ga K "Night") "made"
  cls_Played : Cls K (He.ga K "Played")
  p_state : NoAttr K (He.ga K "Played") "state"
  p_places : NoAttr K (He.ga K "Played") "places"
  p_ticks : NoAttr K (He.ga K "Played") "ticks"
  p_made : NoAttr K (He.ga K "Played") "made"
  p_woke : NoAttr K (He.ga K "Played") "woke"
end Lw
set_option Elab.async false
set_option linter.all false
set_option maxRecDepth 100000
set_option maxHeartbeats 0
namespace Lw
open PySem PySem.Spec PyProof.Rows L2 Hb
/-! ### the head: facts by names, the run -/
def d_is_whole : He.DefD := ⟨("is_whole", none), "is_whole", "is_whole", defArgs s_is_whole, defBody s_is_whole, defScope s_is_whole, [], []⟩
def d_is_number : He.DefD := ⟨("is_number", none), "is_number", "is_number", defArgs s_is_number, defBody s_is_number, defScope s_is_number, [], []⟩
def d_is_positive : He.DefD := ⟨("is_positive", none), "is_positive", "is_positive", defArgs s_is_positive, defBody s_is_positive, defScope s_is_positive, [], []⟩
def d_is_name : He.DefD := ⟨("is_name", none), "is_name", "is_name", defArgs s_is_name, defBody s_is_name, defScope s_is_name, [], []⟩
def d_is_row : He.DefD := ⟨("is_row", none), "is_row", "is_row", defArgs s_is_row, defBody s_is_row, defScope s_is_row, [], []⟩
def d_is_tuple_of : He.DefD := ⟨("is_tuple_of", none), "is_tuple_of", "is_tuple_of", defArgs s_is_tuple_of, defBody s_is_tuple_of, defScope s_is_tuple_of, [], []⟩
def d_are_unlike : He.DefD := ⟨("are_unlike", none), "are_unlike", "are_unlike", defArgs s_are_unlike, defBody s_are_unlike, defScope s_are_unlike, [], []⟩
def d_is_numeral : He.DefD := ⟨("is_numeral", none), "is_numeral", "is_numeral", defArgs s_is_numeral, defBody s_is_numeral, defScope s_is_numeral, [], []⟩
def d_is_room : He.DefD := ⟨("is_room", none), "is_room", "is_room", defArgs s_is_room, defBody s_is_room, defScope s_is_room, [], []⟩
def d_is_door : He.DefD := ⟨("is_door", none), "is_door", "is_door", defArgs s_is_door, defBody s_is_door, defScope s_is_door, [], []⟩
def d_is_floor : He.DefD := ⟨("is_floor", none), "is_floor", "is_floor", defArgs s_is_floor, defBody s_is_floor, defScope s_is_floor, [], []⟩
def d_are_doors : He.DefD := ⟨("are_doors", none), "are_doors", "are_doors", defArgs s_are_doors, defBody s_are_doors, defScope s_are_doors, [], []⟩
def d_are_floors : He.DefD := ⟨("are_floors", none), "are_floors", "are_floors", defArgs s_are_floors, defBody s_are_floors, defScope s_are_floors, [], []⟩
def d_are_cradles : He.DefD := ⟨("are_cradles", none), "are_cradles", "are_cradles", defArgs s_are_cradles, defBody s_are_cradles, defScope s_are_cradles, [], []⟩
def d_House_init : He.DefD := ⟨("House", some "__init__"), "__init__", "House.__init__", defArgs s_House_init, defBody s_House_init, defScope s_House_init, [.adr (He.dflAt ("House", some "__init__") 0), .adr (He.dflAt ("House", some "__init__") 1)], []⟩
def d_House_noises : He.DefD := ⟨("House", some "noises"), "noises", "House.noises", defArgs s_House_noises, defBody s_House_noises, defScope s_House_noises, [], []⟩
def d_House_mended : He.DefD := ⟨("House", some "mended"), "mended", "House.mended", defArgs s_House_mended, defBody s_House_mended, defScope s_House_mended, [], []⟩
def d_is_sorted_name : He.DefD := ⟨("is_sorted_name", none), "is_sorted_name", "is_sorted_name", defArgs s_is_sorted_name, defBody s_is_sorted_name, defScope s_is_sorted_name, [], []⟩
def d_are_sorts : He.DefD := ⟨("are_sorts", none), "are_sorts", "are_sorts", defArgs s_are_sorts, defBody s_are_sorts, defScope s_are_sorts, [], []⟩
def d_Sleeper_init : He.DefD := ⟨("Sleeper", some "__init__"), "__init__", "Sleeper.__init__", defArgs s_Sleeper_init, defBody s_Sleeper_init, defScope s_Sleeper_init, [], []⟩
def d_first_state : He.DefD := ⟨("first_state", none), "first_state", "first_state", defArgs s_first_state, defBody s_first_state, defScope s_first_state, [], []⟩
def d_heard : He.DefD := ⟨("heard", none), "heard", "heard", defArgs s_heard, defBody s_heard, defScope s_heard, [], []⟩
def d_heard_all : He.DefD := ⟨("heard_all", none), "heard_all", "heard_all", defArgs s_heard_all, defBody s_heard_all, defScope s_heard_all, [], []⟩
def d_ticked : He.DefD := ⟨("ticked", none), "ticked", "ticked", defArgs s_ticked, defBody s_ticked, defScope s_ticked, [], []⟩
def d_hummed : He.DefD := ⟨("hummed", none), "hummed", "hummed", defArgs s_hummed, defBody s_hummed, defScope s_hummed, [], []⟩
def d_dozing_anew : He.DefD := ⟨("dozing_anew", none), "dozing_anew", "dozing_anew", defArgs s_dozing_anew, defBody s_dozing_anew, defScope s_dozing_anew, [], []⟩
def d_sort_of : He.DefD := ⟨("sort_of", none), "sort_of", "sort_of", defArgs s_sort_of, defBody s_sort_of, defScope s_sort_of, [], []⟩
def d_heard_asleep : He.DefD := ⟨("heard_asleep", none), "heard_asleep", "heard_asleep", defArgs s_heard_asleep, defBody s_heard_asleep, defScope s_heard_asleep, [], []⟩
def d_heard_loud_dozing : He.DefD := ⟨("heard_loud_dozing", none), "heard_loud_dozing", "heard_loud_dozing", defArgs s_heard_loud_dozing, defBody s_heard_loud_dozing, defScope s_heard_loud_dozing, [], []⟩
def d_is_person : He.DefD := ⟨("is_person", none), "is_person", "is_person", defArgs s_is_person, defBody s_is_person, defScope s_is_person, [], []⟩
def d_is_event : He.DefD := ⟨("is_event", none), "is_event", "is_event", defArgs s_is_event, defBody s_is_event, defScope s_is_event, [], []⟩
def d_Walk_init : He.DefD := ⟨("Walk", some "__init__"), "__init__", "Walk.__init__", defArgs s_Walk_init, defBody s_Walk_init, defScope s_Walk_init, [.adr (He.dflAt ("Walk", some "__init__") 0)], []⟩
def d_beyond : He.DefD := ⟨("beyond", none), "beyond", "beyond", defArgs s_beyond, defBody s_beyond, defScope s_beyond, [], []⟩
def d_floor_noise : He.DefD := ⟨("floor_noise", none), "floor_noise", "floor_noise", defArgs s_floor_noise, defBody s_floor_noise, defScope s_floor_noise, [], []⟩
def d_noises_of_step : He.DefD := ⟨("noises_of_step", none), "noises_of_step", "noises_of_step", defArgs s_noises_of_step, defBody s_noises_of_step, defScope s_noises_of_step, [], []⟩
def d_Night_init : He.DefD := ⟨("Night", some "__init__"), "__init__", "Night.__init__", defArgs s_Night_init, defBody s_Night_init, defScope s_Night_init, [], []⟩
def d_Night_allows : He.DefD := ⟨("Night", some "allows"), "allows", "Night.allows", defArgs s_Night_allows, defBody s_Night_allows, defScope s_Night_allows, [], []⟩
def d_Night_follow : He.DefD := ⟨("Night", some "follow"), "follow", "Night.follow", defArgs s_Night_follow, defBody s_Night_follow, defScope s_Night_follow, [], []⟩
def d_Night_tick : He.DefD := ⟨("Night", some "tick"), "tick", "Night.tick", defArgs s_Night_tick, defBody s_Night_tick, defScope s_Night_tick, [], []⟩
def d_Night_step : He.DefD := ⟨("Night", some "step"), "step", "Night.step", defArgs s_Night_step, defBody s_Night_step, defScope s_Night_step, [], []⟩
def d_Played_init : He.DefD := ⟨("Played", some "__init__"), "__init__", "Played.__init__", defArgs s_Played_init, defBody s_Played_init, defScope s_Played_init, [], []⟩
def d_play : He.DefD := ⟨("play", none), "play", "play", defArgs s_play, defBody s_play, defScope s_play, [], []⟩
def d_all_steps : He.DefD := ⟨("all_steps", none), "all_steps", "all_steps", defArgs s_all_steps, defBody s_all_steps, defScope s_all_steps, [], []⟩
def d_possible : He.DefD := ⟨("possible", none), "possible", "possible", defArgs s_possible, defBody s_possible, defScope s_possible, [], []⟩
def d_first_wrong : He.DefD := ⟨("first_wrong", none), "first_wrong", "first_wrong", defArgs s_first_wrong, defBody s_first_wrong, defScope s_first_wrong, [], []⟩
def d_where : He.DefD := ⟨("where", none), "where", "where", defArgs s_where, defBody s_where, defScope s_where, [], []⟩
def d_rooms_behind : He.DefD := ⟨("rooms_behind", none), "rooms_behind", "rooms_behind", defArgs s_rooms_behind, defBody s_rooms_behind, defScope s_rooms_behind, [], []⟩
def d_quiet_steps : He.DefD := ⟨("quiet_steps", none), "quiet_steps", "quiet_steps", defArgs s_quiet_steps, defBody s_quiet_steps, defScope s_quiet_steps, [], []⟩
def d_is_made : He.DefD := ⟨("is_made", none), "is_made", "is_made", defArgs s_is_made, defBody s_is_made, defScope s_is_made, [], []⟩
def d_check : He.DefD := ⟨("check", none), "check", "check", defArgs s_check, defBody s_check, defScope s_check, [], []⟩
def d_are_noises : He.DefD := ⟨("are_noises", none), "are_noises", "are_noises", defArgs s_are_noises, defBody s_are_noises, defScope s_are_noises, [], []⟩
def d_feed : He.DefD := ⟨("_law_feed", none), "_law_feed", "_law_feed", defArgs s_feed, defBody s_feed, defScope s_feed, [], []⟩
def d_take : He.DefD := ⟨("_law_take", none), "_law_take", "_law_take", defArgs s_take, defBody s_take, defScope s_take, [], []⟩
def d_pick : He.DefD := ⟨("_law_pick", none), "_law_pick", "_law_pick", defArgs s_pick, defBody s_pick, defScope s_pick, [], []⟩
def d_mixed : He.DefD := ⟨("_law_mixed", none), "_law_mixed", "_law_mixed", defArgs s_mixed, defBody s_mixed, defScope s_mixed, [], []⟩
def d_names : He.DefD := ⟨("_law_names", none), "_law_names", "_law_names", defArgs s_names, defBody s_names, defScope s_names, [], []⟩
def d_house : He.DefD := ⟨("_law_house", none), "_law_house", "_law_house", defArgs s_house, defBody s_house, defScope s_house, [], []⟩
def d_sleeper : He.DefD := ⟨("_law_sleeper", none), "_law_sleeper", "_law_sleeper", defArgs s_sleeper, defBody s_sleeper, defScope s_sleeper, [], []⟩
def d_home : He.DefD := ⟨("_law_home", none), "_law_home", "_law_home", defArgs s_home, defBody s_home, defScope s_home, [], []⟩
def d_dreamer : He.DefD := ⟨("_law_dreamer", none), "_law_dreamer", "_law_dreamer", defArgs s_dreamer, defBody s_dreamer, defScope s_dreamer, [], []⟩
def d_ways : He.DefD := ⟨("_law_ways", none), "_law_ways", "_law_ways", defArgs s_ways, defBody s_ways, defScope s_ways, [], []⟩
def d_walked : He.DefD := ⟨("_law_walked", none), "_law_walked", "_law_walked", defArgs s_walked, defBody s_walked, defScope s_walked, [], []⟩
def d_lots_of : He.DefD := ⟨("_law_lots_of", none), "_law_lots_of", "_law_lots_of", defArgs s_lots_of, defBody s_lots_of, defScope s_lots_of, [], []⟩
def d_law : He.DefD := ⟨("law", none), "law", "law", defArgs s_law, defBody s_law, defScope s_law, [], []⟩
def fn : List He.DefD := [d_is_whole, d_is_number, d_is_positive, d_is_name, d_is_row, d_is_tuple_of, d_are_unlike, d_is_numeral, d_is_room, d_is_door, d_is_floor, d_are_doors, d_are_floors, d_are_cradles, d_House_init, d_House_mended, d_is_sorted_name, d_are_sorts, d_Sleeper_init, d_first_state, d_heard, d_heard_all, d_ticked, d_hummed, d_dozing_anew, d_sort_of, d_heard_asleep, d_heard_loud_dozing, d_is_person, d_is_event, d_Walk_init, d_beyond, d_floor_noise, d_noises_of_step, d_Night_init, d_Night_allows, d_Night_follow, d_Night_tick, d_Night_step, d_Played_init, d_play, d_all_steps, d_possible, d_first_wrong, d_where, d_rooms_behind, d_quiet_steps, d_is_made, d_check, d_are_noises, d_feed, d_take, d_pick, d_mixed, d_names, d_house, d_sleeper, d_home, d_dreamer, d_ways, d_walked, d_lots_of, d_law]
def fa : List He.Fa := [.meth "House" "mended", .meth "Night" "allows", .meth "Night" "follow", .meth "Night" "tick", .meth "Night" "step", .glo "is_whole", .glo "is_number", .glo "is_positive", .glo "is_name", .glo "is_row", .glo "is_tuple_of", .glo "are_unlike", .glo "is_numeral", .glo "is_room", .glo "is_door", .glo "is_floor", .glo "are_doors", .glo "are_floors", .glo "are_cradles", .glo "is_sorted_name", .glo "are_sorts", .glo "first_state", .glo "heard", .glo "heard_all", .glo "ticked", .glo "hummed", .glo "dozing_anew", .glo "sort_of", .glo "heard_asleep", .glo "heard_loud_dozing", .glo "is_person", .glo "is_event", .glo "beyond", .glo "floor_noise", .glo "noises_of_step", .glo "play", .glo "all_steps", .glo "possible", .glo "first_wrong", .glo "where", .glo "rooms_behind", .glo "quiet_steps", .glo "is_made", .glo "check", .glo "are_noises", .glo "_law_feed", .glo "_law_take", .glo "_law_pick", .glo "_law_mixed", .glo "_law_names", .glo "_law_house", .glo "_law_sleeper", .glo "_law_home", .glo "_law_dreamer", .glo "_law_ways", .glo "_law_walked", .glo "_law_lots_of", .glo "law", .free "len", .free "set", .free "abs", .free "min", .free "max", .free "int", .free "str", .free "bool", .free "list", .free "tuple", .free "dict", .free "isinstance", .free "all", .free "any", .free "sorted", .free "range", .free "repr", .free "enumerate", .str "DIGITS" "0123456789", .str "LETTERS" "abcdefghijklmnopqrstuvwxyz", .glo "SORTS", .glo "LOUD_RULES", .glo "UP", .glo "ASLEEP", .glo "WOKEN", .glo "FIRSTS", .glo "HUMMED", .cls "House", .noat "House" "rooms", .noat "House" "doors", .noat "House" "floors", .noat "House" "cradles", .cls "Sleeper", .noat "Sleeper" "sorts", .noat "Sleeper" "stir", .noat "Sleeper" "doze", .noat "Sleeper" "near", .noat "Sleeper" "loud", .cls "Walk", .noat "Walk" "guests", .noat "Walk" "nurses", .noat "Walk" "first", .noat "Walk" "events", .cls "Night", .noat "Night" "own_house", .noat "Night" "own_sleeper", .noat "Night" "guests", .noat "Night" "state", .noat "Night" "places", .noat "Night" "moved", .noat "Night" "ticks", .noat "Night" "made", .cls "Played", .noat "Played" "state", .noat "Played" "places", .noat "Played" "ticks", .noat "Played" "made", .noat "Played" "woke", .mkr "House", .glo "House", .mkr "Sleeper", .glo "Sleeper", .mkr "Walk", .glo "Walk", .mkr "Night", .glo "Night", .mkr "Played", .glo "Played"]
def ex (K : PySem.W.Frag) : Bool := (He.tupB K "SORTS" [.str "faint", .str "loud", .str "soft", .str "sudden"] && (He.tupB K "LOUD_RULES" [.str "again", .str "nothing", .str "wake"] && (He.tupB K "UP" [.str "up"] && (He.tupB K "ASLEEP" [.str "asleep"] && (He.tupB K "WOKEN" [.str "woken"] && (He.tupB K "FIRSTS" [.str "asleep", .str "dozing", .str "up"] && (He.tupB K "HUMMED" [.str "doze", .str "up"] && (He.nilB K (He.dflAt ("Walk", some "__init__") 0 K) && (He.propB K (He.ga K "House") "noises" && (He.okP K (He.rp K "property" (He.ga K "House") "noises") d_House_noises && true))))))))))
theorem EX0 {K : PySem.W.Frag} (h : ex K = true) : He.tupB K "SORTS" [.str "faint", .str "loud", .str "soft", .str "sudden"] = true := (He.ba h).1
theorem EX1 {K : PySem.W.Frag} (h : ex K = true) : He.tupB K "LOUD_RULES" [.str "again", .str "nothing", .str "wake"] = true := (He.ba (He.ba h).2).1
theorem EX2 {K : PySem.W.Frag} (h : ex K = true) : He.tupB K "UP" [.str "up"] = true := (He.ba (He.ba (He.ba h).2).2).1
theorem EX3 {K : PySem.W.Frag} (h : ex K = true) : He.tupB K "ASLEEP" [.str "asleep"] = true := (He.ba (He.ba (He.ba (He.ba h).2).2).2).1
theorem EX4 {K : PySem.W.Frag} (h : ex K = true) : He.tupB K "WOKEN" [.str "woken"] = true := (He.ba (He.ba (He.ba (He.ba (He.ba h).2).2).2).2).1
theorem EX5 {K : PySem.W.Frag} (h : ex K = true) : He.tupB K "FIRSTS" [.str "asleep", .str "dozing", .str "up"] = true := (He.ba (He.ba (He.ba (He.ba (He.ba (He.ba h).2).2).2).2).2).1
theorem EX6 {K : PySem.W.Frag} (h : ex K = true) : He.tupB K "HUMMED" [.str "doze", .str "up"] = true := (He.ba (He.ba (He.ba (He.ba (He.ba (He.ba (He.ba h).2).2).2).2).2).2).1
theorem EX7 {K : PySem.W.Frag} (h : ex K = true) : He.nilB K (He.dflAt ("Walk", some "__init__") 0 K) = true := (He.ba (He.ba (He.ba (He.ba (He.ba (He.ba (He.ba (He.ba h).2).2).2).2).2).2).2).1
theorem EX8 {K : PySem.W.Frag} (h : ex K = true) : He.propB K (He.ga K "House") "noises" = true := (He.ba (He.ba (He.ba (He.ba (He.ba (He.ba (He.ba (He.ba (He.ba h).2).2).2).2).2).2).2).2).1
theorem EX9 {K : PySem.W.Frag} (h : ex K = true) : He.okP K (He.rp K "property" (He.ga K "House") "noises") d_House_noises = true := (He.ba (He.ba (He.ba (He.ba (He.ba (He.ba (He.ba (He.ba (He.ba (He.ba h).2).2).2).2).2).2).2).2).2).1
abbrev R : PySem.W.OpenRow := PySem.W.OpenLaw.row PySem.Challenge.rw_hushsteps_k60_whole_noises_of_walks
def fp : List He.Dp := [(fun K => He.rp K "property" (He.ga K "House") "noises", d_House_noises)]
def ts : List He.Tab := []
abbrev hk : PySem.W.Hook := He.hookB 7 fa fn ts ex fp
def ob (s : PySem.W.SharedT) : He.AlZ := He.obsB 7 fa fn ts ex fp (HandSHeadRun.getT s)
theorem ob_eq (s : PySem.W.SharedT) : ob s = hk.obs s.abs := He.obsB_eq (HandSHeadRun.getT_eq s)
def names : List PySem.Str := (["_wall", "beyond", "floor_noise", "noises_of_step", "all_steps", "HushError", "InvalidHouse", "InvalidSleeper", "InvalidWalk", "InvalidEvent", "InvalidText", "InvalidNoises"] : List PySem.Str) ++ (["Refused", "DIGITS", "LETTERS", "is_whole", "is_number", "is_positive", "is_name", "is_row", "is_tuple_of", "are_unlike", "is_numeral", "possible"] : List PySem.Str) ++ (["first_wrong", "where", "rooms_behind", "quiet_steps", "is_made", "check", "are_noises", "FOLLOWING", "is_room", "is_door", "is_floor", "are_doors"] : List PySem.Str) ++ (["are_floors", "are_cradles", "door_line", "read_door", "read_floor", "are_numerals", "has_form", "has_form_houses", "wrong_line", "House", "SORTS", "LOUD_RULES"] : List PySem.Str) ++ (["FIRSTS", "HUMMED", "UP", "ASLEEP", "WOKEN", "is_sorted_name", "are_sorts", "has_form_sleepers", "are_all_sorted_names", "Sleeper", "first_state", "heard"] : List PySem.Str) ++ (["heard_all", "ticked", "hummed", "dozing_anew", "sort_of", "heard_asleep", "heard_loud_dozing", "is_person", "is_event", "Walk", "Played", "Night"] : List PySem.Str) ++ (["play", "_law_feed", "_law_take", "_law_pick", "_law_mixed", "_law_names", "_law_house", "_law_sleeper", "_law_home", "_law_dreamer", "_law_ways", "_law_walked"] : List PySem.Str) ++ (["_law_lots_of"] : List PySem.Str)
theorem run_f (w : World) : HandSHeadRun.RunEq R (PySem.W.view R.prog [94]) hk ob 12000 names (w.withFollow "special-get-raises" false) := by
  intro os
  kernel_rfl
theorem run_t (w : World) : HandSHeadRun.RunEq R (PySem.W.view R.prog [94]) hk ob 12000 names (w.withFollow "special-get-raises" true) := by
  intro os
  kernel_rfl
theorem run (w : World) : HandSHeadRun.RunEq R (PySem.W.view R.prog [94]) hk ob 12000 names w := PySem.W.byRow2 "special-get-raises" (P := fun w => HandSHeadRun.RunEq R (PySem.W.view R.prog [94]) hk ob 12000 names w) run_f run_t w
end Lw
set_option Elab.async false
set_option linter.all false
set_option maxRecDepth 100000
set_option maxHeartbeats 4000000
/-! ### a box: the dict at d, its list at g -/
namespace Lw
open PySem PySem.Spec PyProof.Rows L2 Hb
theorem room64F {k : Nat} {A : Around} (hr : Room k A) : A.units + 64 < cLine := by have := hr.un; omega
def feedKV (g : Addr) (bl : Int) : List (Key × V) := [(.inr "great", .ref g), (.inr "blend", .int bl)]
theorem putF_blend (g : Addr) (bl z : Int) : putK (feedKV g bl) (Sum.inr "blend") (.int z) = feedKV g z := rfl
structure Fdx (d g : Addr) (H : Hp) (ns : List Int) (bl : Int) : Prop where
  d : H d = some (.dK (feedKV g bl))
  g : H g = some (.lst (ns.map V.int))
  few : ns.length ≤ 63
def Feed (d g : Addr) (H : Hp) : Prop := ∃ ns bl, Fdx d g H ns bl
theorem Fdx.ne {d g : Addr} {H : Hp} {ns : List Int} {bl : Int} (x : Fdx d g H ns bl) : d ≠ g := ne_of x.d x.g (by intro e; cases e)
theorem Feed.tk {d g : Addr} {H H' : Hp} (x : Feed d g H) (k : Kp d g H H') : TK H H' := by
  obtain ⟨ns, bl, x⟩ := x
  exact ⟨fun b xs e => k b _ (ne_of e x.d (by intro q; cases q)) (ne_of e x.g (by intro q; cases q)) e, fun b o u e => k b _ (ne_of e x.d (by intro q; cases q)) (ne_of e x.g (by intro q; cases q)) e⟩
theorem Feed.same {d g : Addr} {H H' : Hp} (x : Feed d g H) (s : Same H H') : Feed d g H' := by
  obtain ⟨ns, bl, x⟩ := x
  exact ⟨ns, bl, s _ _ x.d, s _ _ x.g, x.few⟩
theorem Feed.set {d g p : Addr} {H : Hp} {o : HO} (x : Feed d g H) (n : p ≠ d) (m : p ≠ g) : Feed d g (L2.upd H p o) := by
  obtain ⟨ns, bl, x⟩ := x
  exact ⟨ns, bl, by rw [upd_ne n.symm]; exact x.d, by rw [upd_ne m.symm]; exact x.g, x.few⟩
theorem Feed.new {d g p : Addr} {H : Hp} {o : HO} (x : Feed d g H) (h : H p = none) : Feed d g (L2.upd H p o) := x.same (Same.new h)
theorem Feed.ne_d {d g p : Addr} {H : Hp} {o : HO} (x : Feed d g H) (h : H p = some o) (hk : ∀ kvs, o ≠ .dK kvs) : p ≠ d := by
  obtain ⟨ns, bl, x⟩ := x
  exact ne_of h x.d (hk _)
theorem Feed.ne_g {d g p : Addr} {H : Hp} {o : HO} (x : Feed d g H) (h : H p = some o) (hk : ∀ xs, o ≠ .lst xs) : p ≠ g := by
  obtain ⟨ns, bl, x⟩ := x
  exact ne_of h x.g (hk _)
theorem Feed.free {d g p : Addr} {H : Hp} (x : Feed d g H) (h : H p = none) : p ≠ d ∧ p ≠ g := by
  obtain ⟨ns, bl, x⟩ := x
  exact ⟨(ne_of_none x.d h).symm, (ne_of_none x.g h).symm⟩
def spDraw : Sp := fun vs H Q _ => ∃ (d g : Addr) (many : Int), vs = [.ref d, .int many] ∧ Feed d g H ∧ 0 < many ∧ many < 1000000 ∧
  ∀ (H' : Hp) (r : Int), Feed d g H' → Kp d g H H' → 0 ≤ r → r < many → Q (.int r) H'
def lenAt (g : Addr) (H : Hp) : Nat := match H g with
  | some (.lst xs) => xs.length
  | _ => 0
theorem lenAt_of {g : Addr} {H : Hp} {xs : List V} (h : H g = some (.lst xs)) : lenAt g H = xs.length := by unfold lenAt; rw [h]
theorem ne_nilL {K : PySem.W.Frag} {H : Hp} {Q : VK} {q l : Addr} {vs : List V} {ds : List PyData} (hq : SqL K H q vs) (ht : TDs K H vs ds) (hl : SqL K H l []) (sh : SeqAt.shaped (.list ds) = true) (k : Q (.bl (!ds.isEmpty)) H) : rNeD K (.ref q) (.ref l) H Q :=
  ⟨.list ds, .list [], .lst hq (TDs.dp ht), .lst hl (TDs.dp .nil), sh, by decide +kernel, by rw [eqv_nil]; exact k⟩
theorem shaped_intsL (ns : List Int) : SeqAt.shaped (.list (ns.map PyData.int)) = true := shaped_list fun d hd => by
  obtain ⟨x, hx, rfl⟩ := List.mem_map.mp hd
  exact ⟨by simp [PyData.canLay0], by simp [PyData.depth]⟩
theorem ne_nil_last {α : Type} {m : List α} (h : m ≠ []) : ∃ m' a, m = m' ++ [a] := ⟨m.dropLast, m.getLast h, (List.dropLast_concat_getLast h).symm⟩
section
variable {P : Program} {w : World} {K : PySem.W.Frag} {mg : Str → Option Value} {base : Heap}
theorem c_take (D : Df K mg "_law_take" s_take) (T : Tx K mg) : C8.Cal P w K mg base 1 "_law_take" spDraw [] := by
  refine cal_mk D sc_take bd_take (fun vs H Q E h => ?_) fun f cdv A outer s H vs Q E hr h => ?_
  · obtain ⟨d, g, many, rfl, _⟩ := h
    rfl
  · obtain ⟨d, g, many, rfl, ⟨ns, bl, x⟩, m0, m1, k⟩ := h
    have hu := hu_of hr
    refine ⟨_, (pss_cons (ps_set (i := 2) sc_take.nd rfl (Or.inl rfl) (pe_dget hu (pv 0) pe_str (fun _ _ => rfl)))
 (pss_cons (ps_while PassesOwn.never (PW.pt (pw_and (pt_cmpR (op_neD (room64F hr)) (pv 2) (pe_lst pa_nil) (by first | exact nomark _ | rfl)) (pw_and1 (pt_cmpR op_eq (pe_ix ix_list (pv 2) (pe_un un_neg pe_int) (fun _ _ => rfl)) pe_int (by first | exact nomark _ | rfl)))))
 (pss_one (ps_expr (pe_bm0 PySem.F.plainAttrs_list PySem.F.slot_list_pop PySem.F.type_list_pop mt_pop (pv 2)))))
 (pss_cons (ps_if (pt_cmpR (op_neD (room64F hr)) (pv 2) (pe_lst pa_nil) (by first | exact nomark _ | rfl))
 (pss_cons (ps_set (i := 3) sc_take.nd rfl (Or.inl rfl) (pe_bm0 PySem.F.plainAttrs_list PySem.F.slot_list_pop PySem.F.type_list_pop mt_pop (pv 2)))
 (pss_cons (ps_expr (pe_bm PySem.F.plainAttrs_list PySem.F.slot_list_append PySem.F.type_list_append mt_append (pv 2) (pa_cons (pe_op op_fdiv (pv 3) (pv 1)) pa_nil)))
 (pss_one (ps_ret (pe_op op_mod (pe_callTy call_int1 (by rfl) T.n_int (by decide +kernel) (pa_cons (pv 3) pa_nil)) (pv 1))))))
 pss_nil)
 (pss_cons (ps_dput hu (pv 0) pe_str (pe_op op_mod (pe_callTy call_int1 (by rfl) T.n_int (by decide +kernel) (pa_cons (pe_op op_add (pe_op op_mul (pe_dget hu (pv 0) pe_str (fun _ _ => rfl)) pe_int) pe_int) pa_nil)) pe_int) rfl)
 (pss_one (ps_ret (pe_op op_mod (pe_callTy call_int1 (by rfl) T.n_int (by decide +kernel) (pa_cons (pe_op op_fdiv (pe_dget hu (pv 0) pe_str (fun _ _ => rfl)) pe_int) pa_nil)) (pv 1)))))))), ?_⟩
    refine ⟨_, rfl, d, _, rfl, DGet.k (k := Sum.inr "great") x.d, ?_⟩
    dsimp only [gName]
    refine cut_seq (fun σ' H' => σ' = [some (.ref d), some (.int many), some (.ref g), none] ∧ Feed d g H' ∧ Kp d g H H') ?rest fun rest => while_by (fun σ H' => σ = [some (.ref d), some (.int many), some (.ref g), none] ∧ Feed d g H' ∧ Kp d g H H') (fun _ H' => lenAt g H') ⟨rfl, ⟨ns, bl, x⟩, Kp.refl _ _ _⟩ ?_ ?_
    case rest =>
      rintro σ H1 ⟨rfl, ⟨ns, bl, x⟩, kp⟩
      refine ⟨_, rfl, Nat.zero_le _, fun p np => ?_⟩
      have s2 : Same H1 (upd H1 p (.lst [])) := Same.new np
      have hp2 : upd H1 p (.lst []) p = some (.lst []) := upd_same
      generalize upd H1 p (.lst []) = H2 at s2 hp2 ⊢
      have x2 : Fdx d g H2 ns bl := ⟨s2 _ _ x.d, s2 _ _ x.g, x.few⟩
      have kp2 := kp.trans (Hb.Same.kp s2)
      refine ne_nilL (SqL.of x2.g) (tds_ints ns) (SqL.of hp2) (shaped_intsL ns) ⟨_, rfl, ?_⟩
      by_cases en : ns = []
      · subst en
        refine iteF ?_
        refine ⟨_, rfl, d, _, rfl, DGet.k (k := Sum.inr "blend") x2.d, _, _, rfl, rfl, .inr (by decide), _, _, rfl, rfl, .inl ⟨_, rfl, _, _, rfl, rfl, (by show (0 : Int) < 2147483647; decide), ?_⟩⟩
        refine ⟨_, rfl, d, _, rfl, DPut.k (k := Sum.inr "blend") x2.d (by show 2 < sizeLine; decide), ?_⟩
        rw [show putK (feedKV g bl) (Sum.inr "blend") (V.int ((bl * 48271 + 37) % 2147483647)) = feedKV g ((bl * 48271 + 37) % 2147483647) from rfl]
        have y : Fdx d g (upd H2 d (.dK (feedKV g ((bl * 48271 + 37) % 2147483647)))) [] ((bl * 48271 + 37) % 2147483647) := ⟨upd_same, by rw [upd_ne x2.ne.symm]; exact x2.g, x2.few⟩
        refine ⟨_, rfl, d, _, rfl, DGet.k (k := Sum.inr "blend") y.d, _, _, rfl, rfl, ⟨by decide, by decide⟩, .inl ⟨_, rfl, _, rfl, _, _, rfl, rfl, m0, ?_⟩⟩
        exact k _ _ ⟨_, _, y⟩ (kp2.trans Kp.put_d) (Int.emod_nonneg _ (by omega)) (Int.emod_lt_of_pos _ m0)
      · obtain ⟨ns', n, rfl⟩ := ne_nil_last en
        have ne : ((ns' ++ [n]).map PyData.int).isEmpty = false := by rw [List.map_append]; simp
        rw [ne]
        refine iteT ?_
        have gl : (((ns' ++ [n]).map V.int))[((ns' ++ [n]).map V.int).length - 1]? = some (V.int n) := by rw [List.map_append, List.length_append]; simp
        have dr : ((ns' ++ [n]).map V.int).dropLast = ns'.map V.int := by rw [List.map_append]; simp
        refine ⟨_, rfl, .inl ⟨rfl, _, SqL.of x2.g⟩, g, _, V.int n, rfl, rfl, x2.g, gl, ?_⟩
        rw [dr]
        have few := x2.few
        rw [List.length_append] at few
        have hg3 : upd H2 g (.lst (ns'.map V.int)) g = some (.lst (ns'.map V.int)) := upd_same
        refine ⟨_, rfl, .inl ⟨rfl, _, SqL.of hg3⟩, _, rfl, _, rfl, _, _, rfl, rfl, ⟨m0, by omega⟩, ?_⟩
        refine ⟨g, _, _, rfl, rfl, hg3, by rw [List.length_map]; have := sizeLine_eq; omega, ?_⟩
        have y : Fdx d g (upd (upd H2 g (.lst (ns'.map V.int))) g (.lst (ns'.map V.int ++ [.int (n / many)]))) (ns' ++ [n / many]) bl := ⟨by rw [upd_ne x2.ne, upd_ne x2.ne]; exact x2.d, by rw [upd_same, List.map_append]; rfl, by rw [List.length_append]; exact few⟩
        refine ⟨_, rfl, .inl ⟨_, rfl, _, rfl, _, _, rfl, rfl, m0, ?_⟩⟩
        exact k _ _ ⟨_, _, y⟩ ((kp2.trans Kp.put_g).trans Kp.put_g) (Int.emod_nonneg _ (by omega)) (Int.emod_lt_of_pos _ m0)
    · rintro σ H1 ⟨rfl, ⟨ns, bl, x⟩, kp⟩
      have nl : lenAt g H1 = ns.length := by rw [lenAt_of x.g, List.length_map]
      refine ⟨_, rfl, Nat.zero_le _, fun p np => ?_⟩
      have s2 : Same H1 (upd H1 p (.lst [])) := Same.new np
      have hp2 : upd H1 p (.lst []) p = some (.lst []) := upd_same
      generalize upd H1 p (.lst []) = H2 at s2 hp2 ⊢
      have x2 : Fdx d g H2 ns bl := ⟨s2 _ _ x.d, s2 _ _ x.g, x.few⟩
      have kp2 := kp.trans (Hb.Same.kp s2)
      refine ne_nilL (SqL.of x2.g) (tds_ints ns) (SqL.of hp2) (shaped_intsL ns) ⟨_, rfl, ?_⟩
      by_cases en : ns = []
      · subst en
        exact iteF (rest _ _ ⟨rfl, ⟨[], bl, x2⟩, kp2⟩)
      · obtain ⟨ns', n, rfl⟩ := ne_nil_last en
        have ne : ((ns' ++ [n]).map PyData.int).isEmpty = false := by rw [List.map_append]; simp
        rw [ne]
        refine iteT ?_
        have hg2 := x2.g
        rw [List.map_append] at hg2
        refine ⟨_, rfl, 1, rfl, g, _, -1, _, rfl, rfl, SqL.of hg2, atI_last _ _, rfl, _, rfl, ?_⟩
        refine ite2 (fun h0 => ?_) (fun h0 => rest _ _ ⟨rfl, ⟨_, bl, x2⟩, kp2⟩)
        have gl : (((ns' ++ [n]).map V.int))[((ns' ++ [n]).map V.int).length - 1]? = some (V.int n) := by rw [List.map_append, List.length_append]; simp
        have dr : ((ns' ++ [n]).map V.int).dropLast = ns'.map V.int := by rw [List.map_append]; simp
        refine ⟨_, rfl, .inl ⟨rfl, _, SqL.of x2.g⟩, g, _, V.int n, rfl, rfl, x2.g, gl, ?_⟩
        rw [dr]
        have few := x.few
        rw [List.length_append] at few
        have y : Fdx d g (upd H2 g (.lst (ns'.map V.int))) ns' bl := ⟨by rw [upd_ne x2.ne]; exact x2.d, upd_same, Nat.le_of_succ_le few⟩
        refine ⟨⟨rfl, ⟨_, _, y⟩, kp2.trans Kp.put_g⟩, ?_⟩
        rw [nl, lenAt_of y.g, List.length_map, List.length_append]
        exact Nat.lt_succ_self _
    · intro σ H1 Q1 Q2 hq hc
      obtain ⟨v1, e1, z1, hc⟩ := hc
      refine ⟨v1, e1, z1, fun p np => ?_⟩
      obtain ⟨a, b, h1, h2, h3, h4, b5, e6, hc⟩ := hc p np
      refine ⟨a, b, h1, h2, h3, h4, b5, e6, ?_⟩
      cases b5 with
      | false =>
        rw [if_neg Bool.false_ne_true] at hc
        exact iteF (hq _ _ hc)
      | true =>
        rw [if_pos rfl] at hc
        obtain ⟨v2, e2, i2, e3, q, xs, j, u, e4, e5, hs, ha, e6, b6, e7, hc⟩ := hc
        exact iteT ⟨v2, e2, i2, e3, q, xs, j, u, e4, e5, hs, ha, e6, b6, e7, hq _ _ hc⟩
end
end Lw
set_option Elab.async false
set_option linter.all false
set_option maxRecDepth 100000
set_option maxHeartbeats 4000000
namespace Lw
open PySem PySem.Spec PyProof.Rows L2 Hb
/-- all of them in some order, a new list -/
def spMixed (K : PySem.W.Frag) : Sp := fun vs H Q _ => ∃ (d g l : Addr) (xs : List V), vs = [.ref d, .ref l] ∧ Feed d g H ∧ (SqL K H l xs ∨ SqT K H l xs) ∧ xs.length < 1000000 ∧ (∀ v ∈ xs, Hb.Good K H v) ∧
  ∀ (H' : Hp) (p : Addr) (ys : List V), Feed d g H' → Kp d g H H' → H p = none → H' p = some (.lst ys) → p ≠ g → ys.Perm xs → Q (.ref p) H'
section
variable {P : Program} {w : World} {K : PySem.W.Frag} {mg : Str → Option Value} {base : Heap}
theorem c_mixed (D : Df K mg "_law_mixed" s_mixed) (T : Tx K mg) (c_take : C8.Cal P w K mg base 1 "_law_take" spDraw []) : C8.Cal P w K mg base 2 "_law_mixed" (spMixed K) [] := by
  refine cal_mk D sc_mixed bd_mixed (fun vs H Q E h => ?_) fun f cdv A outer s H vs Q E hr h => ?_
  · obtain ⟨d, g, l, xs, rfl, _⟩ := h
    rfl
  · obtain ⟨d, g, l0, xs, rfl, dl, hl, few, good, k⟩ := h
    refine ⟨_, (pss_cons (ps_par (i := 2) (j := 3) (by rfl) sc_mixed.nd rfl rfl (by decide) rfl rfl (pa_cons (pe_callTy call_list_of (by rfl) T.n_list (by decide +kernel) (pa_cons (pv 1) pa_nil)) (pa_cons (pe_lst pa_nil) pa_nil)) (by rfl))
 (pss_cons (ps_while PassesOwn.never (pt_cmpR (op_neD hr.units) (pv 2) (pe_lst pa_nil) (by first | exact nomark _ | rfl))
 (pss_one (ps_expr (pe_bm PySem.F.plainAttrs_list PySem.F.slot_list_append PySem.F.type_list_append mt_append (pv 3) (pa_cons (pe_bm PySem.F.plainAttrs_list PySem.F.slot_list_pop PySem.F.type_list_pop mt_popAt (pv 2) (pa_cons (C8.pe_c c_take hr (by decide) rfl (pa_cons (pv 0) (pa_cons (pe_callB call_len (by rfl) T.n_len (by decide +kernel) (pa_cons (pv 2) pa_nil)) pa_nil))) pa_nil)) pa_nil)))))
 (pss_one (ps_ret (pv 3))))), ?_⟩
    refine ⟨_, rfl, _, _, rfl, hl, fun l nl => ?_⟩
    refine ⟨Nat.zero_le _, fun q nq => ?_⟩
    have nlq : l ≠ q := ne_of_none upd_same nq
    have d1 := (dl.new nl).new nq (o := .lst [])
    have k0 : Same H (upd (upd H l (.lst xs)) q (.lst [])) := (Same.new nl).trans (Same.new nq)
    have nq2 := nq
    rw [upd_ne nlq.symm] at nq2
    refine ⟨_, _, rfl, ?_⟩
    refine while_by (fun σ H' => σ = [some (.ref d), some (.ref l0), some (.ref l), some (.ref q)] ∧ Feed d g H' ∧ Kp d g H H' ∧ ∃ ls fs, H' l = some (.lst ls) ∧ H' q = some (.lst fs) ∧ (fs ++ ls).Perm xs) (fun _ H' => lenAt l H')
      ⟨rfl, d1, Hb.Same.kp k0, xs, [], by rw [upd_ne nlq, upd_same], upd_same, List.Perm.refl _⟩ ?_ ?_
    · rintro σ H1 ⟨rfl, d1, k1, ls, fs, hL, hF, pm⟩
      have gl : ∀ v ∈ ls, Hb.Good K H1 v := fun v hv => (good v (pm.mem_iff.mp (List.mem_append_right _ hv))).keep (dl.tk k1)
      obtain ⟨ds, td, shp⟩ := goods gl
      refine ⟨_, rfl, Nat.zero_le _, fun p np => ?_⟩
      have s1 : Same H1 (upd H1 p (.lst [])) := Same.new np
      refine ⟨.list ds, .list [], .lst (SqL.of (s1 _ _ hL)) (TDs.dp (TDs.keep (Same.tk s1) td)), .lst (SqL.of upd_same) .nil, shaped_list shp, shaped_list (fun d h => by cases h), _, rfl, ?_⟩
      rw [eqv_nil]
      have d2 : Feed d g (upd H1 p (.lst [])) := d1.same s1
      cases ls with
      | nil =>
        cases td
        refine iteF ⟨_, rfl, ?_⟩
        refine k _ q fs d2 (k1.trans (Hb.Same.kp s1)) ?_ (s1 _ _ hF) ((dl.new nl).free nq).2 (by simpa using pm)
        exact nq2
      | cons y0 ls =>
        cases td with
        | cons t1 t2 =>
          refine iteT ?_
          have len : (y0 :: ls).length = ls.length + 1 := rfl
          have pl := pm.length_eq
          rw [List.length_append] at pl
          refine ⟨_, rfl, .inl ⟨rfl, _, SqL.of (s1 _ _ hF)⟩, _, rfl, .inl ⟨rfl, _, SqL.of (s1 _ _ hL)⟩, _, rfl, _, rfl, .ref l, _, rfl, .inl ⟨_, SqL.of (s1 _ _ hL), rfl⟩, d, g, _, rfl, d2, by omega, by omega, fun H2 r d3 k3 r0 r1 => ?_⟩
          have nld : l ≠ d := d2.ne_d (s1 _ _ hL) (by intro kvs e; cases e)
          have nlg : l ≠ g := (dl.free nl).2
          have nqg : q ≠ g := ((dl.new nl).free nq).2
          have nqd : q ≠ d := d2.ne_d (s1 _ _ hF) (by intro kvs e; cases e)
          have hL2 := k3 l _ nld nlg (s1 _ _ hL)
          have hF2 := k3 q _ nqd nqg (s1 _ _ hF)
          have hlt : r.toNat < (y0 :: ls).length := by omega
          refine ⟨l, _, r, r.toNat, _, rfl, rfl, hL2, by omega, by omega, seqIx r0 r1, List.getElem?_eq_getElem hlt, ?_⟩
          refine ⟨q, _, _, rfl, rfl, Eq.trans (upd_ne nlq.symm) hF2, by have := sizeLine_eq; omega, ?_⟩
          have pe := perm_erase (xs := y0 :: ls) (k := r.toNat) (y := (y0 :: ls)[r.toNat]) (List.getElem?_eq_getElem hlt)
          refine ⟨⟨rfl, (d3.set nld nlg).set nqd nqg, fun b o n1 n2 e => ?_, _, _, Eq.trans (upd_ne nlq) upd_same, upd_same, ?_⟩, ?_⟩
          · rw [upd_ne (ne_of_none e nq2), upd_ne (ne_of_none e nl)]
            exact k3 b o n1 n2 (s1 _ _ (k1 b o n1 n2 e))
          · rw [List.append_assoc]
            exact (List.Perm.append_left fs pe).trans pm
          · rw [lenAt_of hL, lenAt_of (Eq.trans (upd_ne nlq) upd_same), List.length_eraseIdx_of_lt hlt]
            omega
    · rintro σ H1 Q1 Q2 hq ⟨v, e, z, hc⟩
      refine ⟨v, e, z, fun p np => ?_⟩
      obtain ⟨a, b, h1, h2, h3, h4, b5, e6, hc⟩ := hc p np
      exact ⟨a, b, h1, h2, h3, h4, b5, e6, hq _ _ hc⟩
end
end Lw
set_option Elab.async false
set_option linter.all false
set_option maxRecDepth 100000
set_option maxHeartbeats 4000000
namespace Lw
open PySem PySem.Spec PyProof.Rows L2 Hb
/-- one of them -/
def spPick (K : PySem.W.Frag) : Sp := fun vs H Q _ => ∃ (d g l : Addr) (xs : List V), vs = [.ref d, .ref l] ∧ Feed d g H ∧ ((H l = some (.lst xs) ∧ l ≠ g) ∨ SqT K H l xs) ∧ xs ≠ [] ∧ xs.length < 1000000 ∧
  ∀ (H' : Hp) (v : V), v ∈ xs → Feed d g H' → Kp d g H H' → Q v H'
section
variable {P : Program} {w : World} {K : PySem.W.Frag} {mg : Str → Option Value} {base : Heap}
theorem c_pick (D : Df K mg "_law_pick" s_pick) (T : Tx K mg) (c_take : C8.Cal P w K mg base 1 "_law_take" spDraw []) : C8.Cal P w K mg base 2 "_law_pick" (spPick K) [] := by
  refine cal_mk D sc_pick bd_pick (fun vs H Q E h => ?_) fun f cdv A outer s H vs Q E hr h => ?_
  · obtain ⟨d, g, l, xs, rfl, _⟩ := h
    rfl
  · obtain ⟨d, g, l, xs, rfl, dl, hl, ne, few, k⟩ := h
    have n0 : 0 < xs.length := List.length_pos_iff.mpr ne
    refine ⟨_, (pss_one (ps_ret (pe_ix ix_seq (pv 1) (C8.pe_c c_take hr (by decide) rfl (pa_cons (pv 0) (pa_cons (pe_callB call_len (by rfl) T.n_len (by decide +kernel) (pa_cons (pv 1) pa_nil)) pa_nil))) (fun _ _ => rfl)))), ?_⟩
    refine ⟨_, rfl, _, rfl, _, rfl, .ref l, xs.length, rfl, ?_, d, g, xs.length, rfl, dl, by omega, by omega, fun H1 r d1 k1 r0 r1 => ?_⟩
    · rcases hl with ⟨h, _⟩ | h
      · exact .inl ⟨_, SqL.of h, rfl⟩
      · exact .inr ⟨_, h, rfl⟩
    · have hlt : r.toNat < xs.length := by omega
      have at_ : atI xs r = some xs[r.toNat] := by
        have q := atI_nat (xs := xs) (j := r.toNat) (List.getElem?_eq_getElem hlt)
        rw [show ((r.toNat : Nat) : Int) = r by omega] at q
        exact q
      have fin : Q xs[r.toNat] H1 := k _ _ (List.getElem_mem hlt) d1 k1
      rcases hl with ⟨h, n⟩ | h
      · exact .inl ⟨l, xs, r, _, rfl, rfl, SqL.of (k1 l _ (dl.ne_d h (by intro kvs q; cases q)) n h), at_, fin⟩
      · exact .inr (.inl ⟨l, xs, r, _, rfl, rfl, SqT.keep (dl.tk k1) h, at_, fin⟩)
end
end Lw
set_option Elab.async false
set_option linter.all false
set_option maxRecDepth 100000
set_option maxHeartbeats 4000000
namespace Lw
open PySem PySem.Spec PyProof.Rows L2 Hb
/-! ### the box is made -/
def absV1 : V → Option V
  | .int n => some (.int (if n < 0 then -n else n))
  | _ => none
def bigV : V → Option V
  | .int n => if 1000000000000000000 ≤ n then some (.int n) else none
  | _ => none
theorem cut_ints (ns : List Int) (lo hi : Option Int) : ∃ ms : List Int, cutV (ns.map V.int) lo hi = ms.map V.int ∧ ms.length ≤ ns.length := by
  unfold cutV
  refine ⟨((ns.drop (HT.sIx (ns.map V.int).length 0 lo)).take (HT.sIx (ns.map V.int).length (ns.map V.int).length hi - HT.sIx (ns.map V.int).length 0 lo)), by rw [List.map_take, List.map_drop], ?_⟩
  rw [List.length_take, List.length_drop]
  omega
def spFeed (K : PySem.W.Frag) : Sp := fun vs H Q _ => ∃ (a : Addr) (since : Int) (ns : List Int), vs = [.ref a, .int since] ∧ SqL K H a (ns.map V.int) ∧ ns.length ≤ 63 ∧ 0 ≤ since ∧ since ≤ 63 ∧
  ∀ (H' : Hp) (d g : Addr), Feed d g H' → Same H H' → H d = none → H g = none → Q (.ref d) H'
section
variable {P : Program} {w : World} {K : PySem.W.Frag} {mg : Str → Option Value} {base : Heap}
theorem c_feed (D : Df K mg "_law_feed" s_feed) (T : Tx K mg) : C8.Cal P w K mg base 1 "_law_feed" (spFeed K) [] := by
  refine cal_mk D sc_feed bd_feed (fun vs H Q E h => ?_) fun f cdv A outer s H vs Q E hr h => ?_
  · obtain ⟨a, since, ns, rfl, _⟩ := h
    rfl
  · obtain ⟨a, since, ns, rfl, hS, few, s0, s1, k⟩ := h
    refine ⟨_, (pss_cons (ps_setLc (i := 2) (own := [("_law_cell", 3)]) (by rfl) sc_feed.nd rfl rfl (sw_true rfl rfl rfl (by decide +kernel)) (pi_list (pe_slice sl_list (pv 0) (po_some (pv 1)) (po_some (pe_op op_add (pv 1) pe_int)))) (blkOk_by (N := N_feed) (sc := defScope s_feed) (by decide +kernel)) (fun _ _ _ _ _ => (pg_name (i := 3) sc_feed.nd rfl (Or.inl rfl))) (fun _ _ _ _ _ => pts_nil) (fun _ _ _ _ _ => (pe_callB call_abs (by rfl) T.n_abs (by decide +kernel) (pa_cons (pe_callTy call_int1 (by rfl) T.n_int (by decide +kernel) (pa_cons (pv 3) pa_nil)) pa_nil))))
 (pss_cons (ps_set (i := 4) sc_feed.nd rfl (Or.inl rfl) (pe_op op_add pe_int (pe_op op_mul pe_int (pv 1))))
 (pss_cons (ps_for PassesOwn.never rfl (pi_list (pv 2)) (pg_name (i := 3) sc_feed.nd rfl (Or.inl rfl))
 (pss_one (ps_set (i := 4) sc_feed.nd rfl (Or.inl rfl) (pe_op op_mod (pe_callTy call_int1 (by rfl) T.n_int (by decide +kernel) (pa_cons (pe_op op_add (pe_op op_add (pe_callTy call_int1 (by rfl) T.n_int (by decide +kernel) (pa_cons (pe_op op_mul (pv 4) pe_int) pa_nil)) (pe_op op_mod (pe_callTy call_int1 (by rfl) T.n_int (by decide +kernel) (pa_cons (pv 3) pa_nil)) pe_int)) pe_int) pa_nil)) pe_int))))
 (pss_one (ps_ret (pe_disp (pps_cons pe_str (pe_revL (pe_lc (own := [("_law_cell", 3)]) (by rfl) sc_feed.nd (pi_list (pv 2)) (blkOk_by (N := N_feed) (sc := defScope s_feed) (by decide +kernel)) (fun _ _ _ _ _ => (pg_name (i := 3) sc_feed.nd rfl (Or.inl rfl))) (fun _ _ _ _ _ => (pts_one (pt_cmpR op_ge (pv 3) (pe_op op_pow pe_int pe_int) (by first | exact nomark _ | rfl)))) (fun _ _ _ _ _ => (pv 3)))) (pps_cons pe_str (pv 4) pps_nil)) (by rfl) (by rfl) (fun z => by cases z) (by decide))))))), ?_⟩
    have line := sizeLine_eq
    refine ⟨_, rfl, _, rfl, since, rfl, _, rfl, _, _, rfl, rfl, _, rfl, a, _, rfl, hS, fun p np => ?_⟩
    obtain ⟨cs, ec, cl⟩ := cut_ints ns (some since) (some (since + 60))
    rw [ec]
    have clf : cs.length ≤ 63 := Nat.le_trans cl few
    refine ⟨p, rfl, ⟨_, SqL.of upd_same⟩, fun D nD => lc_listP (xs := cs.map V.int) absV1 (by rw [List.length_map]; omega) (fun acc => SqL.laid (SqL.of upd_same) nD) ?_ ?_⟩
    · intro x hx acc N hl hN _
      obtain ⟨n, _, rfl⟩ := List.mem_map.mp hx
      refine ⟨rfl, yes_ ⟨_, rfl, .inl ⟨n, rfl, n, rfl, acc, upd_same, hl, by rw [upd_upd]; exact hN _ rfl⟩⟩⟩
    · rw [filterMap_ints (fun n => some (if n < 0 then -n else n)) cs absV1 (fun _ => rfl), List.filterMap_eq_map']
      have s1' : Same H (upd (upd H p (.lst (cs.map V.int))) D (.lst ((cs.map fun n => if n < 0 then -n else n).map V.int))) := (Same.new np).trans (Same.new nD)
      generalize hms : (cs.map fun n => if n < 0 then -n else n) = ms at s1' ⊢
      have few2 : ms.length ≤ 63 := by rw [← hms, List.length_map]; exact clf
      generalize hH : upd (upd H p (.lst (cs.map V.int))) D (.lst (ms.map V.int)) = H2 at s1' ⊢
      have hD : H2 D = some (.lst (ms.map V.int)) := by rw [← hH]; exact upd_same
      refine ⟨_, rfl, _, _, rfl, rfl, .inl (by decide), _, _, rfl, rfl, ?_⟩
      refine ⟨_, rfl, D, rfl, ⟨_, SqL.of hD⟩, for_list (K := K) (a := D) (xs := ms.map V.int) (fun _ σ H' => ∃ z v, σ = [some (.ref a), some (.int since), some (.ref D), v, some (.int z)] ∧ H' = H2) ⟨_, none, rfl, rfl⟩ (fun _ _ _ _ ⟨_, _, _, e⟩ => by rw [e]; exact SqL.of hD) ?_ ?_⟩
      · rintro i x σ H' hx ⟨z, v, rfl, rfl⟩
        obtain ⟨n, _, rfl⟩ := List.mem_map.mp (List.mem_of_getElem? hx)
        refine ⟨_, rfl, _, _, rfl, rfl, .inr (by decide), .inl ⟨_, rfl, _, rfl, .inl ⟨_, rfl, _, _, rfl, rfl, (by show (0 : Int) < 2147483587; decide), _, _, rfl, rfl, _, _, rfl, rfl, .inl ⟨_, rfl, _, _, rfl, rfl, (by show (0 : Int) < 2147483647; decide), ?_⟩⟩⟩⟩
        exact ⟨_, _, rfl, rfl⟩
      · rintro σ H' ⟨z, v, rfl, rfl⟩
        intro d nd
        have s3 : Same H' (upd H' d (.dK [])) := Same.new nd
        have hd3 : upd H' d (.dK []) d = some (.dK []) := upd_same
        have nd0 := s1'.free nd
        have hD3 := s3 _ _ hD
        have new3 : ∀ b o, H b = some o → upd H' d (.dK []) b = some o := fun b o e => s3 _ _ (s1' _ _ e)
        generalize upd H' d (.dK []) = H3 at s3 hd3 hD3 new3 ⊢
        refine ⟨_, rfl, D, rfl, ⟨_, SqL.of hD3⟩, fun G nG => lc_listP (xs := ms.map V.int) bigV (by rw [List.length_map]; omega) (fun acc => SqL.laid (SqL.of hD3) nG) ?_ ?_⟩
        · intro x hx acc N hl hN hN2
          obtain ⟨n, _, rfl⟩ := List.mem_map.mp hx
          refine ⟨rfl, _, rfl, _, _, rfl, rfl, ⟨by decide, by decide, by decide⟩, _, _, rfl, rfl, _, rfl, ?_⟩
          refine ite2 (fun q => ?_) (fun q => ?_)
          · have q' : (1000000000000000000 : Int) ≤ n := of_decide_eq_true q
            refine ⟨_, rfl, acc, upd_same, hl, ?_⟩
            rw [upd_upd]
            exact hN _ (by show (if _ then _ else _) = _; rw [if_pos q'])
          · have q' : ¬ (1000000000000000000 : Int) ≤ n := fun z => q (decide_eq_true z)
            exact hN2 (by show (if _ then _ else _) = _; rw [if_neg q'])
        · rw [filterMap_ints (fun n => if 1000000000000000000 ≤ n then some n else none) ms bigV (fun n => by show (if _ then _ else _) = _; split <;> simp_all)]
          have bl : (ms.filterMap (fun n => if 1000000000000000000 ≤ n then some n else none)).length ≤ 63 := Nat.le_trans (List.length_filterMap_le _ _) few2
          generalize ms.filterMap (fun n => if 1000000000000000000 ≤ n then some n else none) = gs at bl ⊢
          refine ⟨G, _, rfl, SqL.of upd_same, fun g ng => ?_⟩
          have dG : d ≠ G := ne_of_none hd3 nG
          have gG : g ≠ G := fun q => by rw [q, upd_same] at ng; cases ng
          have ng3 := ng
          rw [upd_ne gG] at ng3
          have dg : d ≠ g := ne_of_none hd3 ng3
          have hd5 : upd (upd H3 G (.lst (gs.map V.int))) g (.lst (gs.map V.int).reverse) d = some (.dK []) := by rw [upd_ne dg, upd_ne dG]; exact hd3
          refine ⟨_, rfl, hd5, feedKV g z, rfl, by show 2 ≤ 15; decide, ?_⟩
          rw [show mergeK [] (feedKV g z) = feedKV g z from rfl]
          have ng0 : H g = none := by
            cases e : H g with
            | none => rfl
            | some o => rw [new3 _ _ e] at ng3; cases ng3
          refine k _ d g ⟨gs.reverse, z, ⟨upd_same, ?_, by rw [List.length_reverse]; exact bl⟩⟩ ?_ nd0 ng0
          · rw [upd_ne dg.symm, upd_same, List.map_reverse]
          · refine fun b o e => ?_
            rw [upd_ne (ne_of_none e nd0), upd_ne (ne_of_none e ng0), upd_ne (ne_of_none (new3 _ _ e) nG)]
            exact new3 _ _ e
end
end Lw
set_option Elab.async false
set_option linter.all false
set_option maxRecDepth 100000
set_option maxHeartbeats 4000000
namespace Lw
open PySem PySem.Spec PyProof.Rows L2 Hb
abbrev SqA (K : PySem.W.Frag) (H : Hp) (a : Addr) (xs : List V) : Prop := SqL K H a xs ∨ SqT K H a xs
theorem lenA {K : PySem.W.Frag} {H : Hp} {a : Addr} {xs : List V} (h : SqA K H a xs) : LenV K (.ref a) H xs.length := h.elim (fun q => .inl ⟨_, q, rfl⟩) (fun q => .inr ⟨_, q, rfl⟩)
theorem SqA.same {K : PySem.W.Frag} {H H' : Hp} {a : Addr} {xs : List V} (h : SqA K H a xs) (s : Same H H') : SqA K H' a xs := h.imp (Same.seq s) (SqT.keep (Same.tk s))
def spWhole : Sp := fun vs H Q _ => ∃ i : Int, vs = [.int i] ∧ Q (.bl true) H
def spPos : Sp := fun vs H Q _ => ∃ i : Int, vs = [.int i] ∧ Q (.bl (decide (1 ≤ i))) H
def spName : Sp := fun vs H Q _ => ∃ x : Str, vs = [.str x] ∧ x.length ≤ 1000 ∧ ∀ H', Same H H' → Q (.bl (nameB x)) H'
section
variable {P : Program} {w : World} {K : PySem.W.Frag} {mg : Str → Option Value} {base : Heap}
theorem c_is_whole (D : Df K mg "is_whole" s_is_whole) (T : Tx K mg) : C8.Cal P w K mg base 1 "is_whole" spWhole [] := by
  refine cal_mk D sc_is_whole bd_is_whole (fun vs H Q E h => ?_) fun f cdv A outer s H vs Q E hr h => ?_
  · obtain ⟨i, rfl, _⟩ := h
    rfl
  · obtain ⟨i, rfl, k⟩ := h
    refine ⟨_, (pss_one (ps_ret (pe_and (pe_callB call_isi (by rfl) T.n_isinstance (by decide +kernel) (pa_cons (pv 0) (pa_cons (pe_bltn (v := .ty "int") (u := .type "int") rfl T.n_int (by decide +kernel) rfl) pa_nil))) (pe_one (pe_not (pe_callB call_isi (by rfl) T.n_isinstance (by decide +kernel) (pa_cons (pv 0) (pa_cons (pe_bltn (v := .ty "bool") (u := .type "bool") rfl T.n_bool (by decide +kernel) rfl) pa_nil)))))))), ?_⟩
    refine ⟨_, rfl, _, _, _, _, true, rfl, .ty _, .base (.int i), kit_ty (by decide +kernel), _, rfl, iteT ?_⟩
    exact ⟨_, rfl, _, _, _, _, false, rfl, .ty _, .base (.int i), kit_ty (by decide +kernel), _, rfl, k⟩
theorem c_is_positive (D : Df K mg "is_positive" s_is_positive) (T : Tx K mg) (c_is_whole : C8.Cal P w K mg base 1 "is_whole" spWhole []) : C8.Cal P w K mg base 2 "is_positive" spPos [] := by
  refine cal_mk D sc_is_positive bd_is_positive (fun vs H Q E h => ?_) fun f cdv A outer s H vs Q E hr h => ?_
  · obtain ⟨i, rfl, _⟩ := h
    rfl
  · obtain ⟨i, rfl, k⟩ := h
    refine ⟨_, (pss_one (ps_ret (pe_and (C8.pe_c c_is_whole hr (by decide) rfl (pa_cons (pv 0) pa_nil)) (pe_one (pe_cmpR op_ge (pv 0) pe_int (by first | exact nomark _ | rfl)))))), ?_⟩
    exact ⟨_, rfl, i, rfl, _, rfl, iteT ⟨_, rfl, _, _, rfl, rfl, k⟩⟩
theorem c_is_name (D : Df K mg "is_name" s_is_name) (T : Tx K mg) : C8.Cal P w K mg base 1 "is_name" spName [] := by
  refine cal_mk D sc_is_name bd_is_name (fun vs H Q E h => ?_) fun f cdv A outer s H vs Q E hr h => ?_
  · obtain ⟨i, rfl, _⟩ := h
    rfl
  · obtain ⟨x, rfl, few, k⟩ := h
    obtain ⟨tL, hLETTERS⟩ := T.s_LETTERS
    have line := sizeLine_eq
    refine ⟨_, (pss_cons (ps_if (PW.pt (pw_or (pt_not (pt_val (pe_callB call_isi (by rfl) T.n_isinstance (by decide +kernel) (pa_cons (pv 0) (pa_cons (pe_bltn (v := .ty "str") (u := .type "str") rfl T.n_str (by decide +kernel) rfl) pa_nil))))) (pw_or1 (pt_not (pt_chain op_le op_le pe_int (pe_callB call_len (by rfl) T.n_len (by decide +kernel) (pa_cons (pv 0) pa_nil)) pe_int)))))
 (pss_one (ps_ret pe_bl))
 pss_nil)
 (pss_one (ps_ret (pe_callB (cr_all rfl) (by rfl) T.n_all (by decide +kernel) (pa_cons (pe_lc (own := [("letter", 1)]) (by rfl) sc_is_name.nd (pi_str (pv 0)) (blkOk_by (N := N_is_name) (sc := defScope s_is_name) (by decide +kernel)) (fun _ _ _ _ _ => (pg_name (i := 1) sc_is_name.nd rfl (Or.inl rfl))) (fun _ _ _ _ _ => pts_nil) (fun _ _ _ _ _ => (pe_cmpR op_in_sign (pv 1) (pe_glob (v := .str "abcdefghijklmnopqrstuvwxyz") rfl hLETTERS ⟨_, rfl⟩) (by first | exact nomark _ | rfl)))) pa_nil))))), ?_⟩
    refine ⟨_, rfl, _, _, _, _, true, rfl, .ty _, .base (.str x), kit_ty (by decide +kernel), _, rfl, iteF ?_⟩
    refine ⟨_, rfl, .str x, x.length, rfl, ⟨by omega, rfl⟩, _, _, rfl, rfl, _, rfl, ?_⟩
    by_cases h1 : (1 : Int) ≤ (x.length : Nat)
    · rw [decide_eq_true h1]
      refine iteT ⟨_, _, rfl, rfl, _, rfl, ?_⟩
      by_cases h2 : ((x.length : Nat) : Int) ≤ 4
      · rw [decide_eq_true h2]
        refine iteF ⟨_, rfl, x, rfl, fun D nD => lc_it (walk_str (z := x)) (fun i H' => H' = upd H D (.lst (((x.cps.toList.take i).map isLetter).map V.bl))) (by simp) (fun _ _ _ _ => trivial) ?_ ?_⟩
        · rintro i v H' H2 hi rfl ⟨e, c, hc, rfl⟩
          subst e
          refine ⟨rfl, yes_ ⟨_, rfl, c, _, rfl, rfl, _, upd_same, ?_, ?_⟩⟩
          · rw [List.length_map, List.length_map, List.length_take]
            have el : x.cps.toList.length = x.length := by simp [Str.length]
            omega
          · rw [upd_upd]
            have hc2 : x.cps.toList[i]? = some c := by rw [Array.getElem?_toList]; exact hc
            show upd H D _ = upd H D _
            rw [List.take_add_one, hc2]
            simp [isLetter]
        · rintro H' rfl
          have el : x.cps.size = x.cps.toList.length := by simp
          refine ⟨D, x.cps.toList.map isLetter, rfl, SqL.of (by rw [el, List.take_length]; exact upd_same), ?_⟩
          have e : (x.cps.toList.map isLetter).all id = nameB x := by
            have q : decide (1 ≤ x.length ∧ x.length ≤ 4) = true := decide_eq_true ⟨by omega, by omega⟩
            rw [nameB, q, List.all_map]
            rfl
          rw [e]
          exact k _ (Same.new nD)
      · rw [decide_eq_false h2]
        refine iteT ?_
        have q : nameB x = false := by
          have q : decide (1 ≤ x.length ∧ x.length ≤ 4) = false := decide_eq_false (by omega)
          rw [nameB, q, Bool.false_and]
        have k2 := k H (Same.refl H)
        rw [q] at k2
        exact k2
    · rw [decide_eq_false h1]
      refine iteF ⟨_, rfl, iteT ?_⟩
      have q : nameB x = false := by
        have q : decide (1 ≤ x.length ∧ x.length ≤ 4) = false := decide_eq_false (by omega)
        rw [nameB, q, Bool.false_and]
      have k2 := k H (Same.refl H)
      rw [q] at k2
      exact k2
def spRow (K : PySem.W.Frag) : Sp := fun vs H Q _ => ∃ (a : Addr) (xs : List V), vs = [.ref a] ∧ (SqL K H a xs ∨ SqT K H a xs) ∧ ∀ H', Same H H' → Q (.bl true) H'
theorem c_is_row (D : Df K mg "is_row" s_is_row) (T : Tx K mg) : C8.Cal P w K mg base 1 "is_row" (spRow K) [] := by
  refine cal_mk D sc_is_row bd_is_row (fun vs H Q E h => ?_) fun f cdv A outer s H vs Q E hr h => ?_
  · obtain ⟨a, xs, rfl, _⟩ := h
    rfl
  · obtain ⟨a, xs, rfl, hq, k⟩ := h
    refine ⟨_, (pss_one (ps_ret (pe_callB call_isiT (by rfl) T.n_isinstance (by decide +kernel) (pa_cons (pv 0) (pa_cons (pe_tup (pa_cons (pe_bltn (v := .ty "list") (u := .type "list") rfl T.n_list (by decide +kernel) rfl) (pa_cons (pe_bltn (v := .ty "tuple") (u := .type "tuple") rfl T.n_tuple (by decide +kernel) rfl) pa_nil))) pa_nil))))), ?_⟩
    refine ⟨_, rfl, by show 2 ≤ sizeLine; decide, fun p np => ?_⟩
    rcases hq with h | h
    · exact ⟨_, p, _, _, _, true, rfl, upd_same, .cons (.ty _) (.cons (.ty _) .nil), ty_lst (SqL.laid h np), kitAny_cons (kit_ty (b := "list") (r := true) (by decide +kernel)) (fun z => by cases z) (fun _ => rfl), k _ (Same.new np)⟩
    · exact ⟨_, p, _, _, _, true, rfl, upd_same, .cons (.ty _) (.cons (.ty _) .nil), ty_tup (SqT.laid h np), kitAny_cons (kit_ty (b := "list") (r := false) (by decide +kernel)) (fun _ => kitAny_cons (kit_ty (b := "tuple") (r := true) (by decide +kernel)) (fun z => by cases z) (fun _ => rfl)) (fun z => by cases z), k _ (Same.new np)⟩
def spTupOf (K : PySem.W.Frag) : Sp := fun vs H Q _ => ∃ (a : Addr) (xs : List V) (n : Int), vs = [.ref a, .int n] ∧ SqT K H a xs ∧ Q (.bl (decide (((xs.length : Nat) : Int) = n))) H
theorem c_is_tuple_of (D : Df K mg "is_tuple_of" s_is_tuple_of) (T : Tx K mg) : C8.Cal P w K mg base 1 "is_tuple_of" (spTupOf K) [] := by
  refine cal_mk D sc_is_tuple_of bd_is_tuple_of (fun vs H Q E h => ?_) fun f cdv A outer s H vs Q E hr h => ?_
  · obtain ⟨a, xs, n, rfl, _⟩ := h
    rfl
  · obtain ⟨a, xs, n, rfl, hq, k⟩ := h
    refine ⟨_, (pss_one (ps_ret (pe_and (pe_callB call_isi (by rfl) T.n_isinstance (by decide +kernel) (pa_cons (pv 0) (pa_cons (pe_bltn (v := .ty "tuple") (u := .type "tuple") rfl T.n_tuple (by decide +kernel) rfl) pa_nil))) (pe_one (pe_cmpR op_eq (pe_callB call_len (by rfl) T.n_len (by decide +kernel) (pa_cons (pv 0) pa_nil)) (pv 1) (by first | exact nomark _ | rfl)))))), ?_⟩
    refine ⟨_, rfl, _, _, _, _, true, rfl, .ty _, ty_tup hq, kit_ty (by decide +kernel), _, rfl, iteT ?_⟩
    refine ⟨_, rfl, .ref a, xs.length, rfl, .inr ⟨_, hq, rfl⟩, _, rfl, rfl, ?_⟩
    have e : decide (V.int ((xs.length : Nat) : Int) = V.int n) = decide (((xs.length : Nat) : Int) = n) := by
      by_cases q : ((xs.length : Nat) : Int) = n
      · rw [q]; simp
      · rw [decide_eq_false q, decide_eq_false (fun z => q (by injection z))]
    rw [e]
    exact k
def spUnlike (K : PySem.W.Frag) : Sp := fun vs H Q _ => ∃ (a : Addr), vs = [.ref a] ∧ ((∃ xs : List Str, (SqL K H a (xs.map V.str) ∨ SqT K H a (xs.map V.str)) ∧ xs.Nodup ∧ xs.length ≤ 4000) ∨ ∃ ns : List Int, (SqL K H a (ns.map V.int) ∨ SqT K H a (ns.map V.int)) ∧ ns.Nodup ∧ ns.length ≤ 4000) ∧ Q (.bl true) H
theorem c_are_unlike (D : Df K mg "are_unlike" s_are_unlike) (T : Tx K mg) : C8.Cal P w K mg base 1 "are_unlike" (spUnlike K) [] := by
  refine cal_mk D sc_are_unlike bd_are_unlike (fun vs H Q E h => ?_) fun f cdv A outer s H vs Q E hr h => ?_
  · obtain ⟨a, rfl, _⟩ := h
    rfl
  · obtain ⟨a, rfl, hq, k⟩ := h
    refine ⟨_, (pss_one (ps_ret (pe_cmpR op_eq (Hb.pe_lenSet4 rfl T.n_len rfl T.n_set (pv 0)) (pe_callB call_len (by rfl) T.n_len (by decide +kernel) (pa_cons (pv 0) pa_nil)) (by first | exact nomark _ | rfl)))), ?_⟩
    rcases hq with ⟨xs, hq, nd, few⟩ | ⟨xs, hq, nd, few⟩
    · refine ⟨_, rfl, a, rfl, .inl ⟨xs, hq, nd, few, _, rfl, .ref a, _, rfl, lenA hq, rfl, ?_⟩⟩
      rw [List.length_map, decide_eq_true rfl]
      exact k
    · refine ⟨_, rfl, a, rfl, .inr ⟨xs, hq, nd, few, _, rfl, .ref a, _, rfl, hq.imp (fun hq => ⟨_, hq, rfl⟩) (fun hq => ⟨_, hq, rfl⟩), rfl, ?_⟩⟩
      rw [List.length_map, decide_eq_true rfl]
      exact k
theorem name_short {x : Str} (h : nameB x = true) : x.length ≤ 4 := by
  have h1 := (Bool.and_eq_true_iff.mp h).1
  exact (of_decide_eq_true h1).2
end
end Lw
set_option Elab.async false
set_option linter.all false
set_option maxRecDepth 100000
set_option maxHeartbeats 4000000
namespace Lw
open PySem PySem.Spec PyProof.Rows L2 Hb
def spRoom : Sp := fun vs H Q _ => ∃ r v : Int, vs = [.int r, .int v] ∧ inR r v ∧ Q (.bl true) H
section
variable {P : Program} {w : World} {K : PySem.W.Frag} {mg : Str → Option Value} {base : Heap}
theorem c_is_room (D : Df K mg "is_room" s_is_room) (T : Tx K mg) (c_is_whole : C8.Cal P w K mg base 1 "is_whole" spWhole []) : C8.Cal P w K mg base 2 "is_room" spRoom [] := by
  refine cal_mk D sc_is_room bd_is_room (fun vs H Q E h => ?_) fun f cdv A outer s H vs Q E hr h => ?_
  · obtain ⟨r, v, rfl, _⟩ := h
    rfl
  · obtain ⟨r, v, rfl, ⟨i0, i1⟩, k⟩ := h
    refine ⟨_, (pss_one (ps_ret (pe_and (C8.pe_c c_is_whole hr (by decide) rfl (pa_cons (pv 1) pa_nil)) (pe_one (pe_chain op_le op_lt pe_int (pv 1) (pv 0)))))), ?_⟩
    refine ⟨_, rfl, v, rfl, _, rfl, iteT ?_⟩
    refine ⟨_, rfl, _, _, rfl, rfl, _, rfl, ?_⟩
    rw [decide_eq_true i0]
    refine iteT ⟨_, rfl, _, _, rfl, rfl, ?_⟩
    show Q (V.bl (decide (v < r))) H
    rw [decide_eq_true i1]
    exact k
def spDoor (K : PySem.W.Frag) : Sp := fun vs H Q _ => ∃ (r : Int) (t : Addr) (x : Dr), vs = [.int r, .ref t] ∧ SqT K H t [.int x.1, .int x.2.1, nzV x.2.2] ∧ DrOk r x ∧ ∀ H', Same H H' → Q (.bl true) H'
theorem c_is_door (D : Df K mg "is_door" s_is_door) (T : Tx K mg) (c_is_tuple_of : C8.Cal P w K mg base 1 "is_tuple_of" (spTupOf K) []) (c_is_room : C8.Cal P w K mg base 2 "is_room" spRoom []) (c_is_name : C8.Cal P w K mg base 1 "is_name" spName []) :
    C8.Cal P w K mg base 3 "is_door" (spDoor K) [] := by
  refine cal_mk D sc_is_door bd_is_door (fun vs H Q E h => ?_) fun f cdv A outer s H vs Q E hr h => ?_
  · obtain ⟨r, t, x, rfl, _⟩ := h
    rfl
  · obtain ⟨r, t, x, rfl, ht, ok, k⟩ := h
    refine ⟨_, (pss_cons (ps_if (pt_not (pt_val (C8.pe_c c_is_tuple_of hr (by decide) rfl (pa_cons (pv 1) (pa_cons pe_int pa_nil)))))
 (pss_one (ps_ret pe_bl))
 pss_nil)
 (pss_cons (ps_asg (pv 1) (pg_tup (by rfl) (pgs_cons (pg_name (i := 2) sc_is_door.nd rfl (Or.inl rfl)) (pgs_cons (pg_name (i := 3) sc_is_door.nd rfl (Or.inl rfl)) (pgs_cons (pg_name (i := 4) sc_is_door.nd rfl (Or.inl rfl)) pgs_nil)))))
 (pss_cons (ps_if (PW.pt (pw_or (pt_not (pt_val (C8.pe_c c_is_room hr (by decide) rfl (pa_cons (pv 0) (pa_cons (pv 2) pa_nil))))) (pw_or (pt_not (pt_val (C8.pe_c c_is_room hr (by decide) rfl (pa_cons (pv 0) (pa_cons (pv 3) pa_nil))))) (pw_or1 (pt_cmpR op_eq (pv 2) (pv 3) (by first | exact nomark _ | rfl))))))
 (pss_one (ps_ret pe_bl))
 pss_nil)
 (pss_one (ps_ret (pe_or (pe_cmpR op_isN (pv 4) pe_non (by first | exact nomark _ | rfl)) (pe_one (C8.pe_c c_is_name hr (by decide) rfl (pa_cons (pv 4) pa_nil))))))))), ?_⟩
    refine ⟨_, rfl, t, _, 3, rfl, ht, _, rfl, iteF ?_⟩
    obtain ⟨o1, o2, o3, o4⟩ := ok
    refine ⟨_, rfl, t, _, rfl, ht, rfl, _, _, rfl, _, _, rfl, _, _, rfl, rfl, ?_⟩
    refine ⟨_, rfl, _, rfl, r, x.1, rfl, o1, _, rfl, iteF ⟨_, rfl, _, rfl, r, x.2.1, rfl, o2, _, rfl, iteF ⟨_, rfl, _, rfl, rfl, _, rfl, ?_⟩⟩⟩
    rw [decide_eq_false (show ¬ V.int x.1 = V.int x.2.1 from fun q => o3 (by injection q))]
    refine iteF ?_
    obtain ⟨x1, x2, nz⟩ := x
    cases nz with
    | none => exact ⟨_, rfl, rfl, _, rfl, iteT (k _ (Same.refl H))⟩
    | some n =>
      have nb := o4 n rfl
      refine ⟨_, rfl, rfl, _, rfl, iteF ⟨_, rfl, n, rfl, Nat.le_trans (name_short nb) (by decide), fun H1 s1 => ?_⟩⟩
      rw [nb]
      exact k H1 s1
def spFloor (K : PySem.W.Frag) : Sp := fun vs H Q _ => ∃ (r : Int) (t : Addr) (x : Fl), vs = [.int r, .ref t] ∧ SqT K H t [.int x.1, .str x.2] ∧ FlOk r x ∧ ∀ H', Same H H' → Q (.bl true) H'
theorem c_is_floor (D : Df K mg "is_floor" s_is_floor) (T : Tx K mg) (c_is_tuple_of : C8.Cal P w K mg base 1 "is_tuple_of" (spTupOf K) []) (c_is_room : C8.Cal P w K mg base 2 "is_room" spRoom []) (c_is_name : C8.Cal P w K mg base 1 "is_name" spName []) :
    C8.Cal P w K mg base 3 "is_floor" (spFloor K) [] := by
  refine cal_mk D sc_is_floor bd_is_floor (fun vs H Q E h => ?_) fun f cdv A outer s H vs Q E hr h => ?_
  · obtain ⟨r, t, x, rfl, _⟩ := h
    rfl
  · obtain ⟨r, t, x, rfl, ht, ok, k⟩ := h
    refine ⟨_, (pss_one (ps_ret (pe_and (C8.pe_c c_is_tuple_of hr (by decide) rfl (pa_cons (pv 1) (pa_cons pe_int pa_nil))) (pe_and (C8.pe_c c_is_room hr (by decide) rfl (pa_cons (pv 0) (pa_cons (pe_ix ix_tup (pv 1) pe_int (fun _ _ => rfl)) pa_nil))) (pe_one (C8.pe_c c_is_name hr (by decide) rfl (pa_cons (pe_ix ix_tup (pv 1) pe_int (fun _ _ => rfl)) pa_nil))))))), ?_⟩
    obtain ⟨h1, h2⟩ := ok
    refine ⟨_, rfl, t, _, 2, rfl, ht, _, rfl, iteT ?_⟩
    refine ⟨_, rfl, _, rfl, t, _, 0, .int x.1, rfl, rfl, ht, rfl, r, x.1, rfl, h1, _, rfl, iteT ?_⟩
    refine ⟨_, rfl, t, _, 1, .str x.2, rfl, rfl, ht, rfl, x.2, rfl, Nat.le_trans (name_short h2) (by decide), fun H1 s1 => ?_⟩
    rw [h2]
    exact k H1 s1
def spDoors (K : PySem.W.Frag) : Sp := fun vs H Q _ => ∃ (r : Int) (a : Addr) (xs : List V) (ds : List Dr), vs = [.int r, .ref a] ∧ (SqL K H a xs ∨ SqT K H a xs) ∧ TDs K H xs (ds.map encD) ∧ (∀ x ∈ ds, DrOk r x) ∧ ds.length ≤ 1000 ∧ ∀ H', Same H H' → Q (.bl true) H'
theorem c_are_doors (D : Df K mg "are_doors" s_are_doors) (T : Tx K mg) (c_is_row : C8.Cal P w K mg base 1 "is_row" (spRow K) []) (c_is_door : C8.Cal P w K mg base 3 "is_door" (spDoor K) []) :
    C8.Cal P w K mg base 4 "are_doors" (spDoors K) [] := by
  refine cal_mk D sc_are_doors bd_are_doors (fun vs H Q E h => ?_) fun f cdv A outer s H vs Q E hr h => ?_
  · obtain ⟨r, a, xs, ds, rfl, _⟩ := h
    rfl
  · obtain ⟨r, a, xs, ds, rfl, hq, td, ok, few, k⟩ := h
    have line := sizeLine_eq
    have len : xs.length = ds.length := by rw [td.length, List.length_map]
    refine ⟨_, (pss_one (ps_ret (pe_and (C8.pe_c c_is_row hr (by decide) rfl (pa_cons (pv 1) pa_nil)) (pe_one (pe_callB (cr_all rfl) (by rfl) T.n_all (by decide +kernel) (pa_cons (pe_lc (own := [("door", 2)]) (by rfl) sc_are_doors.nd (pi_seq (pv 1)) (blkOk_by (N := N_are_doors) (sc := defScope s_are_doors) (by decide +kernel)) (fun _ _ _ _ _ => (pg_name (i := 2) sc_are_doors.nd rfl (Or.inl rfl))) (fun _ _ _ _ _ => pts_nil) (fun _ _ _ _ _ => (C8.pe_c c_is_door hr (by decide) rfl (pa_cons (pv 0) (pa_cons (pv 2) pa_nil))))) pa_nil)))))), ?_⟩
    refine ⟨_, rfl, a, xs, rfl, hq, fun H1 s1 => ⟨_, rfl, iteT ?_⟩⟩
    have hq1 : SqL K H1 a xs ∨ SqT K H1 a xs := hq.imp (Same.seq s1) (SqT.keep (Same.tk s1))
    refine ⟨_, rfl, a, xs, rfl, hq1, fun J G hG wk D nD => lc_it wk (fun i H' => Same H1 H' ∧ H' D = some (.lst (List.replicate i (.bl true)))) ⟨Same.new nD, upd_same⟩ (fun i H' _ p => hG _ p.1) ?_ ?_⟩
    · rintro i x H' H2 hi ⟨s2, hD⟩ ⟨rfl, hx⟩
      obtain ⟨p, hp, tdp⟩ := TDs.at_map (TDs.keep (Same.tk (s1.trans s2)) td) hx
      obtain ⟨t, rfl, ht⟩ := TD.door_inv tdp
      refine ⟨rfl, yes_ ⟨_, rfl, _, rfl, r, t, p, rfl, ht, ok p (List.mem_of_getElem? hp), fun H3 s3 => ?_⟩⟩
      refine ⟨_, s3 _ _ hD, by rw [List.length_replicate]; omega, Hb.Same.acc (s2.trans s3) nD, ?_⟩
      rw [upd_same, List.replicate_succ']
    · rintro H2 ⟨s2, hD⟩
      refine ⟨D, List.replicate xs.length true, rfl, SqL.of (by rw [hD, List.map_replicate]), ?_⟩
      rw [show (List.replicate xs.length true).all id = true by simp]
      exact k _ (s1.trans s2)
def spFloors (K : PySem.W.Frag) : Sp := fun vs H Q _ => ∃ (r : Int) (a : Addr) (xs : List V) (ds : List Fl), vs = [.int r, .ref a] ∧ (SqL K H a xs ∨ SqT K H a xs) ∧ TDs K H xs (ds.map encF) ∧ (∀ x ∈ ds, FlOk r x) ∧ (ds.map Prod.fst).Nodup ∧ ds.length ≤ 1000 ∧ ∀ H', Same H H' → Q (.bl true) H'
theorem c_are_floors (D : Df K mg "are_floors" s_are_floors) (T : Tx K mg) (c_is_row : C8.Cal P w K mg base 1 "is_row" (spRow K) []) (c_is_floor : C8.Cal P w K mg base 3 "is_floor" (spFloor K) [])
    (c_are_unlike : C8.Cal P w K mg base 1 "are_unlike" (spUnlike K) []) : C8.Cal P w K mg base 4 "are_floors" (spFloors K) [] := by
  refine cal_mk D sc_are_floors bd_are_floors (fun vs H Q E h => ?_) fun f cdv A outer s H vs Q E hr h => ?_
  · obtain ⟨r, a, xs, ds, rfl, _⟩ := h
    rfl
  · obtain ⟨r, a, xs, ds, rfl, hq, td, ok, nd, few, k⟩ := h
    have line := sizeLine_eq
    have len : xs.length = ds.length := by rw [td.length, List.length_map]
    refine ⟨_, (pss_cons (ps_if (PW.pt (pw_or (pt_not (pt_val (C8.pe_c c_is_row hr (by decide) rfl (pa_cons (pv 1) pa_nil)))) (pw_or1 (pt_not (pt_val (pe_callB (cr_all rfl) (by rfl) T.n_all (by decide +kernel) (pa_cons (pe_lc (own := [("floor", 2)]) (by rfl) sc_are_floors.nd (pi_seq (pv 1)) (blkOk_by (N := N_are_floors) (sc := defScope s_are_floors) (by decide +kernel)) (fun _ _ _ _ _ => (pg_name (i := 2) sc_are_floors.nd rfl (Or.inl rfl))) (fun _ _ _ _ _ => pts_nil) (fun _ _ _ _ _ => (C8.pe_c c_is_floor hr (by decide) rfl (pa_cons (pv 0) (pa_cons (pv 2) pa_nil))))) pa_nil)))))))
 (pss_one (ps_ret pe_bl))
 pss_nil)
 (pss_one (ps_ret (C8.pe_c c_are_unlike hr (by decide) rfl (pa_cons (pe_lc (own := [("floor", 2)]) (by rfl) sc_are_floors.nd (pi_seq (pv 1)) (blkOk_by (N := N_are_floors) (sc := defScope s_are_floors) (by decide +kernel)) (fun _ _ _ _ _ => (pg_name (i := 2) sc_are_floors.nd rfl (Or.inl rfl))) (fun _ _ _ _ _ => pts_nil) (fun _ _ _ _ _ => (pe_ix (show IxR _ (rIxT K) from ix_tup) (pv 2) pe_int (fun _ _ => rfl)))) pa_nil))))), ?_⟩
    refine ⟨_, rfl, a, xs, rfl, hq, fun H1 s1 => ⟨_, rfl, iteF ?_⟩⟩
    have hq1 : SqL K H1 a xs ∨ SqT K H1 a xs := hq.imp (Same.seq s1) (SqT.keep (Same.tk s1))
    refine ⟨_, rfl, a, xs, rfl, hq1, fun J G hG wk D nD => lc_it wk (fun i H' => Same H1 H' ∧ H' D = some (.lst (List.replicate i (.bl true)))) ⟨Same.new nD, upd_same⟩ (fun i H' _ p => hG _ p.1) ?_ ?_⟩
    · rintro i x H' H2 hi ⟨s2, hD⟩ ⟨rfl, hx⟩
      obtain ⟨p, hp, tdp⟩ := TDs.at_map (TDs.keep (Same.tk (s1.trans s2)) td) hx
      obtain ⟨t, rfl, ht⟩ := TD.floor_inv tdp
      refine ⟨rfl, yes_ ⟨_, rfl, _, rfl, r, t, p, rfl, ht, ok p (List.mem_of_getElem? hp), fun H3 s3 => ?_⟩⟩
      refine ⟨_, s3 _ _ hD, by rw [List.length_replicate]; omega, Hb.Same.acc (s2.trans s3) nD, ?_⟩
      rw [upd_same, List.replicate_succ']
    · rintro H2 ⟨s2, hD⟩
      refine ⟨D, List.replicate xs.length true, rfl, SqL.of (by rw [hD, List.map_replicate]), ?_⟩
      rw [show (List.replicate xs.length true).all id = true by simp]
      refine ⟨_, rfl, iteF ?_⟩
      have hq2 : SqL K H2 a xs ∨ SqT K H2 a xs := hq1.imp (Same.seq s2) (SqT.keep (Same.tk s2))
      have s12 := s1.trans s2
      refine ⟨_, rfl, a, xs, rfl, hq2, fun J G hG wk D2 nD2 => lc_it wk (fun i H' => H' = upd H2 D2 (.lst (((ds.take i).map Prod.fst).map V.int))) (by simp) (fun i H' _ p => by rw [p]; exact hG _ (Same.new nD2)) ?_ ?_⟩
      · rintro i x H' H3 hi rfl ⟨e, hx⟩
        subst e
        have s3 : Same H2 (upd H2 D2 (.lst (((ds.take i).map Prod.fst).map V.int))) := Same.new nD2
        obtain ⟨p, hp, tdp⟩ := TDs.at_map (TDs.keep (Same.tk (s12.trans s3)) td) hx
        obtain ⟨t, rfl, ht⟩ := TD.floor_inv tdp
        refine ⟨rfl, yes_ ⟨_, rfl, t, _, 0, .int p.1, rfl, rfl, ht, rfl, _, upd_same, ?_, ?_⟩⟩
        · rw [List.length_map, List.length_map, List.length_take]
          omega
        · rw [upd_upd]
          show upd H2 D2 _ = upd H2 D2 _
          rw [List.take_add_one, hp]
          simp
      · rintro H3 rfl
        rw [len, List.take_length]
        exact ⟨D2, rfl, .inr ⟨ds.map Prod.fst, .inl (SqL.of upd_same), nd, by rw [List.length_map]; omega⟩, k _ (s12.trans (Same.new nD2))⟩
def spCradles (K : PySem.W.Frag) : Sp := fun vs H Q _ => ∃ (r : Int) (a : Addr) (ns : List Int), vs = [.int r, .ref a] ∧ (SqL K H a (ns.map V.int) ∨ SqT K H a (ns.map V.int)) ∧ (∀ x ∈ ns, inR r x) ∧ ns.Nodup ∧ ns.length ≤ 1000 ∧ ∀ H', Same H H' → Q (.bl true) H'
theorem c_are_cradles (D : Df K mg "are_cradles" s_are_cradles) (T : Tx K mg) (c_is_row : C8.Cal P w K mg base 1 "is_row" (spRow K) []) (c_is_room : C8.Cal P w K mg base 2 "is_room" spRoom [])
    (c_are_unlike : C8.Cal P w K mg base 1 "are_unlike" (spUnlike K) []) : C8.Cal P w K mg base 3 "are_cradles" (spCradles K) [] := by
  refine cal_mk D sc_are_cradles bd_are_cradles (fun vs H Q E h => ?_) fun f cdv A outer s H vs Q E hr h => ?_
  · obtain ⟨r, a, ns, rfl, _⟩ := h
    rfl
  · obtain ⟨r, a, ns, rfl, hq, ok, nd, few, k⟩ := h
    have line := sizeLine_eq
    refine ⟨_, (pss_one (ps_ret (pe_and (C8.pe_c c_is_row hr (by decide) rfl (pa_cons (pv 1) pa_nil)) (pe_and (pe_callB (cr_all rfl) (by rfl) T.n_all (by decide +kernel) (pa_cons (pe_lc (own := [("room", 2)]) (by rfl) sc_are_cradles.nd (pi_seq (pv 1)) (blkOk_by (N := N_are_cradles) (sc := defScope s_are_cradles) (by decide +kernel)) (fun _ _ _ _ _ => (pg_name (i := 2) sc_are_cradles.nd rfl (Or.inl rfl))) (fun _ _ _ _ _ => pts_nil) (fun _ _ _ _ _ => (C8.pe_c c_is_room hr (by decide) rfl (pa_cons (pv 0) (pa_cons (pv 2) pa_nil))))) pa_nil)) (pe_one (C8.pe_c c_are_unlike hr (by decide) rfl (pa_cons (pv 1) pa_nil))))))), ?_⟩
    refine ⟨_, rfl, a, _, rfl, hq, fun H1 s1 => ⟨_, rfl, iteT ?_⟩⟩
    have hq1 : SqL K H1 a (ns.map V.int) ∨ SqT K H1 a (ns.map V.int) := hq.imp (Same.seq s1) (SqT.keep (Same.tk s1))
    refine ⟨_, rfl, a, _, rfl, hq1, fun J G hG wk D nD => lc_it wk (fun i H' => Same H1 H' ∧ H' D = some (.lst (List.replicate i (.bl true)))) ⟨Same.new nD, upd_same⟩ (fun i H' _ p => hG _ p.1) ?_ ?_⟩
    · rintro i x H' H2 hi ⟨s2, hD⟩ ⟨rfl, hx⟩
      obtain ⟨n, hn, rfl⟩ := List.mem_map.mp (List.mem_of_getElem? hx)
      refine ⟨rfl, yes_ ⟨_, rfl, _, rfl, r, n, rfl, ok n hn, _, hD, by rw [List.length_replicate]; rw [List.length_map] at hi; omega, Hb.Same.acc s2 nD, ?_⟩⟩
      rw [upd_same, List.replicate_succ']
    · rintro H2 ⟨s2, hD⟩
      refine ⟨D, List.replicate (ns.map V.int).length true, rfl, SqL.of (by rw [hD, List.map_replicate]), ?_⟩
      rw [show (List.replicate (ns.map V.int).length true).all id = true by simp]
      have hq2 : SqL K H2 a (ns.map V.int) ∨ SqT K H2 a (ns.map V.int) := hq1.imp (Same.seq s2) (SqT.keep (Same.tk s2))
      refine ⟨_, rfl, iteT ⟨_, rfl, a, rfl, .inr ⟨ns, hq2, nd, by omega⟩, k _ (s1.trans s2)⟩⟩
end
end Lw
set_option Elab.async false
set_option linter.all false
set_option maxRecDepth 100000
set_option maxHeartbeats 4000000
namespace Lw
open PySem PySem.Spec PyProof.Rows L2 Hb
theorem alike_I (p q : Int) : PySem.W.alike (PyData.int p) (PyData.int q) = true := by simp [PySem.W.alike]
theorem depth_I (p : Int) : (PyData.int p).depth ≤ 60 := by simp [PyData.depth]
def spHInit (K : PySem.W.Frag) (C : Addr) : Sp := fun vs H Q _ => ∃ (x dx a b c : Addr) (xs ys : List V) (h : Hz), vs = [.ref x, .int h.rooms, .ref a, .ref b, .ref c] ∧ H x = some (.ins C dx []) ∧
  (SqL K H a xs ∨ SqT K H a xs) ∧ TDs K H xs (h.doors.map encD) ∧ (SqL K H b ys ∨ SqT K H b ys) ∧ TDs K H ys (h.floors.map encF) ∧ (SqL K H c (h.cradles.map V.int) ∨ SqT K H c (h.cradles.map V.int)) ∧
  Hin h ∧ ∀ H', (∀ b o, b ≠ x → H b = some o → H' b = some o) → HAt K C H' x h → Q .non H'
section
variable {P : Program} {w : World} {K : PySem.W.Frag} {mg : Str → Option Value} {base : Heap}
theorem m_House_mk (D : Df1d K mg "House" "House.__init__" s_House_init 1) (T : Tx K mg) (c_is_positive : C8.Cal P w K mg base 2 "is_positive" spPos []) (c_are_doors : C8.Cal P w K mg base 4 "are_doors" (spDoors K) [])
    (c_are_floors : C8.Cal P w K mg base 4 "are_floors" (spFloors K) []) (c_are_cradles : C8.Cal P w K mg base 3 "are_cradles" (spCradles K) []) :
    C8.Mak P w K mg base 5 "House" (He.ga K "House") (spHInit K (He.ga K "House")) [] := by
  refine mak_mkD D sc_House_init bk_House_init (fun vs H Q E h => ?_) fun f cdv A outer s H vs Q E hr h => ?_
  · obtain ⟨x, dx, a, b, c, xs, ys, h, rfl, _⟩ := h
    rfl
  · obtain ⟨x, dx, a, b, c, xs, ys, h, rfl, hx, hd, tdd, hf, tdf, hc, hi, k⟩ := h
    refine ⟨_, (pss_cons (ps_if (pt_not (pt_val (C8.pe_c c_is_positive hr (by decide) rfl (pa_cons (pv 1) pa_nil))))
 (pss_one ps_never)
 pss_nil)
 (pss_cons (ps_if (pt_not (pt_val (C8.pe_c c_are_doors hr (by decide) rfl (pa_cons (pv 1) (pa_cons (pv 2) pa_nil)))))
 (pss_one ps_never)
 pss_nil)
 (pss_cons (ps_if (pt_not (pt_val (C8.pe_c c_are_floors hr (by decide) rfl (pa_cons (pv 1) (pa_cons (pv 3) pa_nil)))))
 (pss_one ps_never)
 pss_nil)
 (pss_cons (ps_if (pt_not (pt_val (C8.pe_c c_are_cradles hr (by decide) rfl (pa_cons (pv 1) (pa_cons (pv 4) pa_nil)))))
 (pss_one ps_never)
 pss_nil)
 (pss_cons (ps_fld (pv 0) (pv 1) rfl)
 (pss_cons (ps_fld (pv 0) (pe_callTy call_tuple_of (by rfl) T.n_tuple (by decide +kernel) (pa_cons (pv 2) pa_nil)) rfl)
 (pss_cons (ps_fld (pv 0) (pe_callTy call_tuple_of (by rfl) T.n_tuple (by decide +kernel) (pa_cons (pe_callB (cr_sortedAny encF hr.units) (by rfl) T.n_sorted (by decide +kernel) (pa_cons (pv 3) pa_nil)) pa_nil)) rfl)
 (pss_one (ps_fld (pv 0) (pe_callTy call_tuple_of (by rfl) T.n_tuple (by decide +kernel) (pa_cons (pe_callB (cr_sortedAny PyData.int hr.units) (by rfl) T.n_sorted (by decide +kernel) (pa_cons (pv 4) pa_nil)) pa_nil)) rfl))))))))), ?_⟩
    refine ⟨_, rfl, h.rooms, rfl, _, rfl, ?_⟩
    rw [decide_eq_true hi.r1]
    refine iteF ⟨_, rfl, _, rfl, h.rooms, a, xs, h.doors, rfl, hd, tdd, hi.d, hi.fewd, fun H1 s1 => ⟨_, rfl, iteF ?_⟩⟩
    have hf1 : SqL K H1 b ys ∨ SqT K H1 b ys := hf.imp (Same.seq s1) (SqT.keep (Same.tk s1))
    refine ⟨_, rfl, _, rfl, h.rooms, b, ys, h.floors, rfl, hf1, TDs.keep (Same.tk s1) tdf, hi.f, hi.fnd, hi.fewf, fun H2 s2 => ⟨_, rfl, iteF ?_⟩⟩
    have s12 := s1.trans s2
    have hc2 : SqL K H2 c (h.cradles.map V.int) ∨ SqT K H2 c (h.cradles.map V.int) := hc.imp (Same.seq s12) (SqT.keep (Same.tk s12))
    refine ⟨_, rfl, _, rfl, h.rooms, c, h.cradles, rfl, hc2, hi.c, hi.cnd, hi.fewc, fun H3 s3 => ⟨_, rfl, iteF ?_⟩⟩
    have s13 := s12.trans s3
    refine ⟨_, rfl, _, rfl, x, _, dx, [], rfl, s13 _ _ hx, T.cls_House, T.a_rooms, by decide, ?_⟩
    have kx4 : KX x H (upd H3 x (.ins (He.ga K "House") dx (putF "rooms" (.int h.rooms) []))) := (Hb.Same.kx s13).trans KX.put
    have hx4 : upd H3 x (.ins (He.ga K "House") dx (putF "rooms" (.int h.rooms) [])) x = some (.ins (He.ga K "House") dx [("rooms", .int h.rooms)]) := upd_same
    generalize upd H3 x (.ins (He.ga K "House") dx (putF "rooms" (.int h.rooms) [])) = H4 at kx4 hx4 ⊢
    dsimp only
    refine cut_seq (fun σ H' => σ = L2.start N_House_init [.ref x, .int h.rooms, .ref a, .ref b, .ref c] ∧ ∃ t, KX x H H' ∧ H' x = some (.ins (He.ga K "House") dx [("rooms", .int h.rooms), ("doors", .ref t)]) ∧ SqT K H' t xs) ?_ fun rest => ?_
    · rintro σ H5 ⟨rfl, t, kx5, hx5, ht⟩
      have tk5 := kx5.tk hx
      have hf5 : SqL K H5 b ys ∨ SqT K H5 b ys := hf.imp (fun q => kx5.seq hx q) (SqT.keep tk5)
      have tdf5 := TDs.keep tk5 tdf
      have len : ys.length = h.floors.length := by rw [tdf.length, List.length_map]
      have ztd := zip_tdE tdf5
      refine ⟨_, rfl, b, ys.zip h.floors, rfl, by rw [zip_fst len]; exact hf5, fun y hy => TD.dp (ztd y hy), PySem.W.AllAlike.of (fun b b' => alike_F b.2 b'.2), PySem.W.Sortable.tuples (fun b => ⟨_, _, rfl⟩), fun y _ => depth_F y.2, fun p np => ?_⟩
      generalize hzs : (ys.zip h.floors).mergeSort (PySem.W.dataLe false fun y => encF y.2) = zs
      have pz : zs.Perm (ys.zip h.floors) := by rw [← hzs]; exact List.mergeSort_perm _ _
      have snd : zs.map (·.2) = sortF h.floors := by rw [← hzs, sort_zipE, zip_snd len]; rfl
      have tds : TDs K H5 (zs.map (·.1)) ((sortF h.floors).map encF) := by
        rw [← snd]
        exact tdE_zip fun y hy => ztd y (pz.mem_iff.mp hy)
      have s6 : Same H5 (upd H5 p (.lst (zs.map (·.1)))) := Same.new np
      refine ⟨p, _, rfl, .inl ⟨SqL.of upd_same, fun t2 nt2 => ?_⟩⟩
      have s7 := s6.trans (Same.new nt2 (o := .tup (zs.map (·.1))))
      have ht7 : upd (upd H5 p (.lst (zs.map (·.1)))) t2 (.tup (zs.map (·.1))) t2 = some (.tup (zs.map (·.1))) := upd_same
      generalize upd (upd H5 p (.lst (zs.map (·.1)))) t2 (.tup (zs.map (·.1))) = H7 at s7 ht7 ⊢
      have hx7 := s7 _ _ hx5
      refine ⟨_, rfl, x, _, dx, _, rfl, hx7, T.cls_House, T.a_floors, by show 2 < 1000; decide, ?_⟩
      have hx8 : upd H7 x (.ins (He.ga K "House") dx (putF "floors" (.ref t2) [("rooms", .int h.rooms), ("doors", .ref t)])) x = some (.ins (He.ga K "House") dx [("rooms", .int h.rooms), ("doors", .ref t), ("floors", .ref t2)]) := upd_same
      have kx58 : KX x H5 (upd H7 x (.ins (He.ga K "House") dx (putF "floors" (.ref t2) [("rooms", .int h.rooms), ("doors", .ref t)]))) := (Hb.Same.kx s7).trans KX.put
      have ht8 : SqT K (upd H7 x (.ins (He.ga K "House") dx (putF "floors" (.ref t2) [("rooms", .int h.rooms), ("doors", .ref t)]))) t2 (zs.map (·.1)) := SqT.keep (KX.tk KX.put hx7) (SqT.of ht7)
      have td8 : TDs K (upd H7 x (.ins (He.ga K "House") dx (putF "floors" (.ref t2) [("rooms", .int h.rooms), ("doors", .ref t)]))) (zs.map (·.1)) ((sortF h.floors).map encF) := TDs.keep (kx58.tk hx5) tds
      generalize upd H7 x (.ins (He.ga K "House") dx (putF "floors" (.ref t2) [("rooms", .int h.rooms), ("doors", .ref t)])) = H8 at hx8 kx58 ht8 td8 ⊢
      have kx8 := kx5.trans kx58
      have tk8 := kx8.tk hx
      have hc8 : SqL K H8 c (h.cradles.map V.int) ∨ SqT K H8 c (h.cradles.map V.int) := hc.imp (fun q => kx8.seq hx q) (SqT.keep tk8)
      have tdc : TDs K H8 (h.cradles.map V.int) (h.cradles.map PyData.int) := tds_ints _
      have zc := zip_tdE tdc
      have lenc : (h.cradles.map V.int).length = h.cradles.length := List.length_map _
      refine ⟨_, rfl, c, (h.cradles.map V.int).zip h.cradles, rfl, by rw [zip_fst lenc]; exact hc8, fun y hy => TD.dp (zc y hy), PySem.W.AllAlike.of (fun b b' => alike_I b.2 b'.2), PySem.W.Sortable.others (fun b => ⟨(by intro e; cases e), (by intro xs e; cases e)⟩), fun y _ => depth_I y.2, fun p2 np2 => ?_⟩
      generalize hzc : ((h.cradles.map V.int).zip h.cradles).mergeSort (PySem.W.dataLe false fun y => PyData.int y.2) = cs
      have pc : cs.Perm ((h.cradles.map V.int).zip h.cradles) := by rw [← hzc]; exact List.mergeSort_perm _ _
      have sndc : cs.map (·.2) = sortI h.cradles := by rw [← hzc, sort_zipE, zip_snd lenc]; rfl
      have tdcs : TDs K H8 (cs.map (·.1)) ((sortI h.cradles).map PyData.int) := by
        rw [← sndc]
        exact tdE_zip fun y hy => zc y (pc.mem_iff.mp hy)
      have ec := TDs.ints_inv tdcs
      rw [ec]
      have s9 : Same H8 (upd H8 p2 (.lst ((sortI h.cradles).map V.int))) := Same.new np2
      refine ⟨p2, _, rfl, .inl ⟨SqL.of upd_same, fun t3 nt3 => ?_⟩⟩
      have s10 := s9.trans (Same.new nt3 (o := .tup ((sortI h.cradles).map V.int)))
      have ht10 : upd (upd H8 p2 (.lst ((sortI h.cradles).map V.int))) t3 (.tup ((sortI h.cradles).map V.int)) t3 = some (.tup ((sortI h.cradles).map V.int)) := upd_same
      generalize upd (upd H8 p2 (.lst ((sortI h.cradles).map V.int))) t3 (.tup ((sortI h.cradles).map V.int)) = H9 at s10 ht10 ⊢
      have hx10 := s10 _ _ hx8
      refine ⟨_, rfl, x, _, dx, _, rfl, hx10, T.cls_House, T.a_cradles, by show 3 < 1000; decide, ?_⟩
      have kx9 : KX x H8 (upd H9 x (.ins (He.ga K "House") dx (putF "cradles" (.ref t3) [("rooms", .int h.rooms), ("doors", .ref t), ("floors", .ref t2)]))) := (Hb.Same.kx s10).trans KX.put
      have tk9 := kx9.tk hx8
      refine k _ (kx8.trans kx9) ⟨dx, t, t2, t3, xs, zs.map (·.1), upd_same, ?_, TDs.keep ((kx8.trans kx9).tk hx) tdd, SqT.keep tk9 ht8, TDs.keep tk9 td8, SqT.keep (KX.tk KX.put hx10) (SqT.of ht10)⟩
      exact SqT.keep tk9 (SqT.keep (kx58.tk hx5) ht)
    · have hx' := hx4
      rcases hd with hd | hd
      · refine ⟨_, rfl, a, xs, rfl, .inl ⟨kx4.seq hx hd, fun t nt => ?_⟩⟩
        have s5 : Same H4 (upd H4 t (.tup xs)) := Same.new nt
        have hx5 := s5 _ _ hx4
        refine ⟨_, rfl, x, _, dx, _, rfl, hx5, T.cls_House, T.a_doors, by show 1 < 1000; decide, rest _ _ ⟨rfl, t, (kx4.trans (Hb.Same.kx s5)).trans KX.put, upd_same, SqT.keep (KX.tk KX.put hx5) (SqT.of upd_same)⟩⟩
      · refine ⟨_, rfl, a, xs, rfl, .inr ⟨SqT.keep (kx4.tk hx) hd, ?_⟩⟩
        exact ⟨_, rfl, x, _, dx, _, rfl, hx4, T.cls_House, T.a_doors, by show 1 < 1000; decide, rest _ _ ⟨rfl, a, kx4.trans KX.put, upd_same, SqT.keep (KX.tk KX.put hx4) (SqT.keep (kx4.tk hx) hd)⟩⟩
end
end Lw
set_option Elab.async false
set_option linter.all false
set_option maxRecDepth 100000
set_option maxHeartbeats 8000000
namespace Lw
open PySem PySem.Spec PyProof.Rows L2 Hb
/-- the noises of a step through a door into a room -/
def nzStep (h : Hz) (d : Dr) (r : Int) : List Str := d.2.2.toList ++ ((sortF h.floors).lookup r).toList
theorem nzStep_le (h : Hz) (d : Dr) (r : Int) : (nzStep h d r).length ≤ 2 := by
  unfold nzStep
  cases d.2.2 <;> cases (sortF h.floors).lookup r <;> simp
def spFloorN (K : PySem.W.Frag) (C : Addr) : Sp := fun vs H Q _ => ∃ (p : Addr) (h : Hz) (r : Int), vs = [.ref p, .int r] ∧ HAt K C H p h ∧ Q (soV ((sortF h.floors).lookup r)) H
def spNoises (K : PySem.W.Frag) (C : Addr) : Sp := fun vs H Q _ => ∃ (p : Addr) (h : Hz) (n r : Int) (d : Dr), vs = [.ref p, .int n, .int r] ∧ HAt K C H p h ∧ 0 ≤ n ∧ h.doors[n.toNat]? = some d ∧
  ∀ H' t, Same H H' → H t = none → SqT K H' t ((nzStep h d r).map V.str) → Q (.ref t) H'
theorem nzV_soV (n : Option Str) : nzV n = soV n := by cases n <;> rfl
section
variable {P : Program} {w : World} {K : PySem.W.Frag} {mg : Str → Option Value} {base : Heap}
theorem c_floor_noise (D : Df K mg "floor_noise" s_floor_noise) (T : Tx K mg) : C8.Cal P w K mg base 1 "floor_noise" (spFloorN K (He.ga K "House")) [] := by
  refine cal_mk D sc_floor_noise bd_floor_noise (fun vs H Q E h => ?_) fun f cdv A outer s H vs Q E hr h => ?_
  · obtain ⟨p, h, r, rfl, _⟩ := h
    rfl
  · obtain ⟨p, h, r, rfl, ⟨dx, a, b, c, xs, ys, hp, _, _, hb, td, _⟩, k⟩ := h
    refine ⟨_, (pss_cons (ps_for PassesOwn.never rfl (pi_tup (pe_fld (pv 0) rfl)) (pg_tup (by rfl) (pgs_cons (pg_name (i := 2) sc_floor_noise.nd rfl (Or.inl rfl)) (pgs_cons (pg_name (i := 3) sc_floor_noise.nd rfl (Or.inl rfl)) pgs_nil)))
 (pss_one (ps_if (pt_cmpR op_eq (pv 2) (pv 1) (by first | exact nomark _ | rfl))
 (pss_one (ps_ret (pv 3)))
 pss_nil)))
 (pss_one (ps_ret pe_non))), ?_⟩
    have len : ys.length = (sortF h.floors).length := by rw [td.length, List.length_map]
    refine ⟨_, rfl, p, _, dx, _, _, rfl, hp, T.cls_House, T.a_floors, rfl, b, rfl, ⟨_, hb⟩, for_tup (K := K) (a := b) (xs := ys) (fun i σ H' => H' = H ∧ (∃ v2 v3, σ = [some (.ref p), some (.int r), v2, v3]) ∧ (sortF h.floors).lookup r = ((sortF h.floors).drop i).lookup r)
      ⟨rfl, ⟨_, _, rfl⟩, rfl⟩ (fun i σ H' _ q => by rw [q.1]; exact hb) ?_ ?_⟩
    · rintro i x σ H' hx ⟨rfl, ⟨v2, v3, rfl⟩, e⟩
      obtain ⟨fl, hfl, tdf⟩ := TDs.at_map td hx
      obtain ⟨t, rfl, ht⟩ := TD.floor_inv tdf
      obtain ⟨hlt, hget⟩ := List.getElem?_eq_some_iff.mp hfl
      rw [List.drop_eq_getElem_cons hlt, hget] at e
      refine ⟨t, _, rfl, ht, rfl, _, _, rfl, _, _, rfl, rfl, ?_⟩
      refine ⟨_, rfl, _, rfl, rfl, _, rfl, ?_⟩
      refine ite2 (fun h => ?_) (fun h => ?_)
      · have h2 : fl.1 = r := by have h3 := of_decide_eq_true h; injection h3
        rw [e] at k
        rw [show ((fl :: List.drop (i + 1) _ : List Fl).lookup r) = some fl.2 by rw [← h2]; simp [List.lookup]] at k
        exact ⟨_, rfl, k⟩
      · have h2 : ¬ fl.1 = r := fun q => h (decide_eq_true (by rw [q]))
        have h3 : (r == fl.1) = false := beq_eq_false_iff_ne.mpr fun q => h2 q.symm
        exact ⟨rfl, ⟨_, _, rfl⟩, by rw [e]; simp [List.lookup, h3]⟩
    · rintro σ H' ⟨rfl, ⟨v2, v3, rfl⟩, e⟩
      rw [List.drop_eq_nil_of_le (by omega)] at e
      rw [e] at k
      exact k
theorem c_noises_of_step (D : Df K mg "noises_of_step" s_noises_of_step) (T : Tx K mg) (c_floor_noise : C8.Cal P w K mg base 1 "floor_noise" (spFloorN K (He.ga K "House")) []) : C8.Cal P w K mg base 2 "noises_of_step" (spNoises K (He.ga K "House")) [] := by
  refine cal_mk D sc_noises_of_step bd_noises_of_step (fun vs H Q E h => ?_) fun f cdv A outer s H vs Q E hr h => ?_
  · obtain ⟨p, h, n, r, d, rfl, _⟩ := h
    rfl
  · obtain ⟨p, h, n, r, d, rfl, hh, n0, hd, k⟩ := h
    obtain ⟨dx, a, b, c, xs, ys, hp, ha, td, _⟩ := id hh
    have line := sizeLine_eq
    have len : xs.length = h.doors.length := by rw [td.length, List.length_map]
    obtain ⟨hl, hg⟩ := List.getElem?_eq_some_iff.mp hd
    have hlt : n.toNat < xs.length := by omega
    obtain ⟨d', hd', tdd⟩ := TDs.at_map td (List.getElem?_eq_getElem hlt)
    rw [hd] at hd'
    cases hd'
    obtain ⟨t, et, ht⟩ := TD.door_inv tdd
    have at_ : atI xs n = some (.ref t) := by
      have q := atI_nat (xs := xs) (j := n.toNat) (v := .ref t) (by rw [List.getElem?_eq_getElem hlt, et])
      rw [show ((n.toNat : Nat) : Int) = n by omega] at q
      exact q
    refine ⟨_, (pss_cons (ps_asg (pe_ix ix_tup (pe_fld (pv 0) rfl) (pv 1) (fun _ _ => rfl)) (pg_tup (by rfl) (pgs_cons (pg_name (i := 3) sc_noises_of_step.nd rfl (Or.inl rfl)) (pgs_cons (pg_name (i := 4) sc_noises_of_step.nd rfl (Or.inl rfl)) (pgs_cons (pg_name (i := 5) sc_noises_of_step.nd rfl (Or.inl rfl)) pgs_nil)))))
 (pss_one (ps_ret (pe_callTy call_tuple_of (by rfl) T.n_tuple (by decide +kernel) (pa_cons (pe_lc (own := [("made", 6)]) (by rfl) sc_noises_of_step.nd (pi_tup (pe_tup (pa_cons (pv 5) (pa_cons (C8.pe_c c_floor_noise hr (by decide) rfl (pa_cons (pv 0) (pa_cons (pv 2) pa_nil))) pa_nil)))) (blkOk_by (N := N_noises_of_step) (sc := defScope s_noises_of_step) (by decide +kernel)) (fun _ _ _ _ _ => (pg_name (i := 6) sc_noises_of_step.nd rfl (Or.inl rfl))) (fun _ _ _ _ _ => (pts_one (pt_cmpR op_notN (pv 6) pe_non (by first | exact nomark _ | rfl)))) (fun _ _ _ _ _ => (pv 6))) pa_nil))))), ?_⟩
    refine ⟨_, rfl, p, _, dx, _, _, rfl, hp, T.cls_House, T.a_doors, rfl, _, rfl, a, _, n, _, rfl, rfl, ha, at_, t, _, rfl, ht, rfl, _, _, rfl, _, _, rfl, _, _, rfl, rfl, ?_⟩
    refine ⟨_, rfl, _, rfl, _, rfl, p, h, r, rfl, hh, by show 2 ≤ sizeLine; decide, fun u nu => ?_⟩
    have s1 : Same H (upd H u (.tup [nzV d.2.2, soV ((sortF h.floors).lookup r)])) := Same.new nu
    have hu1 : SqT K (upd H u (.tup [nzV d.2.2, soV ((sortF h.floors).lookup r)])) u [nzV d.2.2, soV ((sortF h.floors).lookup r)] := SqT.of upd_same
    generalize upd H u (.tup [nzV d.2.2, soV ((sortF h.floors).lookup r)]) = H1 at s1 hu1 ⊢
    refine ⟨u, rfl, ⟨_, hu1⟩, fun D nD => lc_tup (K := K) (a := u) (xs := [nzV d.2.2, soV ((sortF h.floors).lookup r)]) (fun i H' => H' = upd H1 D (.lst (([d.2.2, (sortF h.floors).lookup r].take i).filterMap id |>.map V.str))) rfl (fun i H' _ q => by rw [q]; exact SqT.keep (Same.tk (Same.new nD)) hu1) ?_ ?_⟩
    · rintro i x H' hx rfl
      obtain ⟨y, hy, rfl⟩ : ∃ y, [d.2.2, (sortF h.floors).lookup r][i]? = some y ∧ x = soV y := by
        match i, hx with
        | 0, hx => exact ⟨d.2.2, rfl, by rw [← nzV_soV]; simpa using hx.symm⟩
        | 1, hx => exact ⟨_, rfl, by simpa using hx.symm⟩
        | (i + 2), hx => simp at hx
      refine ⟨rfl, _, rfl, rfl, _, rfl, ?_⟩
      have nx : ([d.2.2, (sortF h.floors).lookup r].take (i + 1)).filterMap id = ([d.2.2, (sortF h.floors).lookup r].take i).filterMap id ++ y.toList := by
        rw [List.take_add_one, hy, List.filterMap_append]
        cases y <;> simp
      cases y with
      | none =>
        refine iteF ?_
        show upd H1 D _ = upd H1 D _
        rw [nx]
        simp
      | some y =>
        refine iteT ⟨_, rfl, _, upd_same, ?_, ?_⟩
        · rw [List.length_map]
          refine Nat.lt_of_le_of_lt (List.length_filterMap_le _ _) ?_
          rw [List.length_take]
          show min i 2 < sizeLine
          omega
        · rw [upd_upd]
          show upd H1 D _ = upd H1 D _
          rw [nx, List.map_append]
          rfl
    · rintro H' rfl
      have e : ([d.2.2, (sortF h.floors).lookup r].take [nzV d.2.2, soV ((sortF h.floors).lookup r)].length).filterMap id = nzStep h d r := by
        show ([d.2.2, (sortF h.floors).lookup r].take 2).filterMap id = _
        unfold nzStep
        cases d.2.2 <;> cases (sortF h.floors).lookup r <;> rfl
      rw [e]
      have s2 : Same H1 (upd H1 D (.lst ((nzStep h d r).map V.str))) := Same.new nD
      exact ⟨D, _, rfl, .inl ⟨SqL.of upd_same, fun v nv => k _ v ((s1.trans s2).trans (Same.new nv)) ((s1.trans s2).free nv) (SqT.of upd_same)⟩⟩
end
theorem flat_ints (ns : List Int) : (ns.map V.int).all flatV = true := by
  induction ns with
  | nil => rfl
  | cons n ns ih => rw [List.map_cons, List.all_cons, ih]; rfl
theorem inV_ints (y : Int) : ∀ xs : List Int, inV (.int y) (xs.map V.int) = decide (y ∈ xs)
  | [] => by simp [inV]
  | x :: xs => by
    have ih := inV_ints y xs
    unfold inV at ih ⊢
    rw [List.map_cons, List.any_cons, ih]
    by_cases e : x = y
    · subst e
      simp [eqV]
    · have e2 : ¬ y = x := fun z => e z.symm
      simp [eqV, e, e2]
structure Stp where
  n : Int
  le : Int
  ri : Int
  ns : List Str
def encT (s : Stp) : PyData := .tuple [.int s.n, .int s.le, .int s.ri, .tuple (s.ns.map PyData.str)]
def stepsAt (h : Hz) (n : Nat) (d : Dr) : List Stp := [⟨n, d.1, d.2.1, nzStep h d d.2.1⟩, ⟨n, d.2.1, d.1, nzStep h d d.1⟩]
def stepsTo (h : Hz) (m : Nat) : List Stp := ((h.doors.take m).zipIdx.map fun p => stepsAt h p.2 p.1).flatten
def allSteps (h : Hz) : List Stp := stepsTo h h.doors.length
theorem steps_next {h : Hz} {i : Nat} {d : Dr} (e : h.doors[i]? = some d) : stepsTo h (i + 1) = stepsTo h i ++ stepsAt h i d := by
  unfold stepsTo
  rw [List.take_add_one, e]
  have l : (h.doors.take i).length = i := by
    obtain ⟨q, _⟩ := List.getElem?_eq_some_iff.mp e
    rw [List.length_take]
    omega
  rw [show (some d).toList = [d] from rfl, List.zipIdx_append, List.map_append, List.flatten_append, l]
  simp [List.zipIdx]
def spAllSteps (K : PySem.W.Frag) (C : Addr) : Sp := fun vs H Q _ => ∃ (p : Addr) (h : Hz), vs = [.ref p] ∧ HAt K C H p h ∧ h.doors.length ≤ 1000 ∧ ∀ H' q xs, Same H H' → H q = none → H' q = some (.lst xs) → TDs K H' xs ((allSteps h).map encT) → Q (.ref q) H'
theorem TD.stp_inv {K : PySem.W.Frag} {H : Hp} {v : V} {s : Stp} (h : TD K H v (encT s)) : ∃ a t, v = .ref a ∧ SqT K H a [.int s.n, .int s.le, .int s.ri, .ref t] ∧ SqT K H t (s.ns.map V.str) := by
  obtain ⟨a, xs, rfl, h1, h2⟩ := TD.tup_inv h
  obtain ⟨v1, w1, rfl, a1, h3⟩ := TDs.cons_inv h2
  obtain ⟨v2, w2, rfl, a2, h4⟩ := TDs.cons_inv h3
  obtain ⟨v3, w3, rfl, a3, h5⟩ := TDs.cons_inv h4
  obtain ⟨v4, w4, rfl, a4, h6⟩ := TDs.cons_inv h5
  obtain rfl := TDs.nil_inv h6
  obtain rfl := TD.int_inv a1
  obtain rfl := TD.int_inv a2
  obtain rfl := TD.int_inv a3
  obtain ⟨t, ys, rfl, s1, t1⟩ := TD.tup_inv a4
  obtain rfl := TDs.strs_inv t1
  exact ⟨a, t, rfl, h1, s1⟩
section
variable {P : Program} {w : World} {K : PySem.W.Frag} {mg : Str → Option Value} {base : Heap}
theorem c_all_steps (D : Df K mg "all_steps" s_all_steps) (T : Tx K mg) (c_noises_of_step : C8.Cal P w K mg base 2 "noises_of_step" (spNoises K (He.ga K "House")) []) : C8.Cal P w K mg base 3 "all_steps" (spAllSteps K (He.ga K "House")) [] := by
  refine cal_mk D sc_all_steps bd_all_steps (fun vs H Q E h => ?_) fun f cdv A outer s H vs Q E hr h => ?_
  · obtain ⟨p, h, rfl, _⟩ := h
    rfl
  · obtain ⟨p, h, rfl, hh, few, k⟩ := h
    obtain ⟨dx, a, b, c, xs, ys, hp, ha, td, hrest⟩ := id hh
    have line := sizeLine_eq
    have len : xs.length = h.doors.length := by rw [td.length, List.length_map]
    have cat : ∀ {H' : Hp} {q : Addr} {o : HO}, Same H H' → H q = none → Same H (upd H' q o) := fun {H' q o} s n b o' e => by rw [upd_ne (ne_of_none e n)]; exact s _ _ e
    have push : ∀ {H1 : Hp} {q u t : Addr} {zs : List V} {ss : List Stp} {s : Stp}, Same H H1 → H q = none → H1 q = some (.lst zs) → TDs K H1 zs (ss.map encT) → H1 u = none → SqT K H1 t (s.ns.map V.str) →
        let H2 := upd (upd H1 u (.tup [.int s.n, .int s.le, .int s.ri, .ref t])) q (.lst (zs ++ [.ref u]))
        Same H H2 ∧ H2 q = some (.lst (zs ++ [.ref u])) ∧ TDs K H2 (zs ++ [.ref u]) ((ss ++ [s]).map encT) := by
      intro H1 q u t zs ss s s1 nq hq tz nu ht
      have su : Same H1 (upd H1 u (.tup [.int s.n, .int s.le, .int s.ri, .ref t])) := Same.new nu
      have tk := tk_acc (su _ _ hq) (ys := zs ++ [.ref u])
      refine ⟨cat (s1.trans su) nq, upd_same, ?_⟩
      rw [List.map_append]
      refine TDs.keep tk (TDs.app (TDs.keep (Same.tk su) tz) (.cons (.tup (SqT.of upd_same) (.cons (.int _) (.cons (.int _) (.cons (.int _) (.cons (.tup (SqT.keep (Same.tk su) ht) (tds_strs _)) .nil))))) .nil))
    refine ⟨_, (pss_cons (ps_set (i := 1) sc_all_steps.nd rfl (Or.inl rfl) (pe_lst pa_nil))
 (pss_cons (ps_for PassesOwn.never rfl (pi_enumT (by rfl) T.n_enumerate (pa_cons (pe_fld (pv 0) rfl) pa_nil)) (pg_tup (by rfl) (pgs_cons (pg_name (i := 2) sc_all_steps.nd rfl (Or.inl rfl)) (pgs_cons (pg_tup (by rfl) (pgs_cons (pg_name (i := 3) sc_all_steps.nd rfl (Or.inl rfl)) (pgs_cons (pg_name (i := 4) sc_all_steps.nd rfl (Or.inl rfl)) (pgs_cons (pg_name (i := 5) sc_all_steps.nd rfl (Or.inl rfl)) pgs_nil)))) pgs_nil)))
 (pss_cons (ps_expr (pe_bm PySem.F.plainAttrs_list PySem.F.slot_list_append PySem.F.type_list_append mt_append (pv 1) (pa_cons (pe_tup (pa_cons (pv 2) (pa_cons (pv 3) (pa_cons (pv 4) (pa_cons (C8.pe_c c_noises_of_step hr (by decide) rfl (pa_cons (pv 0) (pa_cons (pv 2) (pa_cons (pv 4) pa_nil)))) pa_nil))))) pa_nil)))
 (pss_one (ps_expr (pe_bm PySem.F.plainAttrs_list PySem.F.slot_list_append PySem.F.type_list_append mt_append (pv 1) (pa_cons (pe_tup (pa_cons (pv 2) (pa_cons (pv 4) (pa_cons (pv 3) (pa_cons (C8.pe_c c_noises_of_step hr (by decide) rfl (pa_cons (pv 0) (pa_cons (pv 2) (pa_cons (pv 3) pa_nil)))) pa_nil))))) pa_nil))))))
 (pss_one (ps_ret (pv 1))))), ?_⟩
    refine ⟨by show 0 ≤ sizeLine; decide, fun q nq => ?_⟩
    have s0 : Same H (upd H q (.lst [])) := Same.new nq
    refine ⟨_, rfl, p, _, dx, _, _, rfl, s0 _ _ hp, T.cls_House, T.a_doors, rfl, a, _, rfl, SqT.keep (Same.tk s0) ha, for_it walk_enumT (fun i σ H' => (∃ v2 v3 v4 v5, σ = [some (.ref p), some (.ref q), v2, v3, v4, v5]) ∧ Same H H' ∧ ∃ zs, H' q = some (.lst zs) ∧ TDs K H' zs ((stepsTo h i).map encT) ∧ zs.length = 2 * i)
      ⟨⟨_, _, _, _, rfl⟩, s0, [], upd_same, .nil, rfl⟩ (fun i σ H' _ q => SqT.keep (Same.tk q.2.1) ha) ?_ ?_⟩
    · rintro i v σ H2 H3 hi ⟨⟨v2, v3, v4, v5, rfl⟩, s2, zs, hq, tz, zl⟩ ⟨Tp, u1, u2, rfl, nT, rfl, e1, e2⟩
      injection e1 with e1
      subst e1
      replace e2 : xs[i]? = some u2 := e2
      obtain ⟨d, hd, tdd⟩ := TDs.at_map (TDs.keep (Same.tk s2) td) e2
      obtain ⟨dt, rfl, hdt⟩ := TD.door_inv tdd
      have s3 : Same H2 (upd H2 Tp (.tup [.int (i : Nat), .ref dt])) := Same.new nT
      refine ⟨Tp, _, rfl, SqT.of upd_same, rfl, _, _, rfl, ?_⟩
      have hq3 := s3 _ _ hq
      have tz3 := TDs.keep (Same.tk s3) tz
      have hdt3 := SqT.keep (Same.tk s3) hdt
      have s23 := s2.trans s3
      generalize upd H2 Tp (.tup [.int (i : Nat), .ref dt]) = H3 at hq3 tz3 hdt3 s23 ⊢
      refine ⟨_, _, rfl, dt, _, rfl, hdt3, rfl, _, _, rfl, _, _, rfl, _, _, rfl, rfl, rfl, ?_⟩
      have hd0 : h.doors[((i : Nat) : Int).toNat]? = some d := by rw [Int.toNat_natCast]; exact hd
      refine ⟨_, rfl, .inl ⟨rfl, _, SqL.of hq3⟩, _, rfl, _, rfl, _, rfl, _, rfl, _, rfl, _, rfl, p, h, (i : Nat), d.2.1, d, rfl, hh.same s23, by omega, hd0, fun H4 t4 s4 n4 ht4 => ⟨by show 4 ≤ sizeLine; decide, fun u4 nu4 => ?_⟩⟩
      obtain ⟨s5, hq5, tz5⟩ := push (s := ⟨(i : Nat), d.1, d.2.1, nzStep h d d.2.1⟩) (s23.trans s4) nq (s4 _ _ hq3) (TDs.keep (Same.tk s4) tz3) nu4 ht4
      refine ⟨q, _, _, rfl, rfl, Same.new nu4 _ _ (s4 _ _ hq3), by omega, ?_⟩
      generalize upd (upd H4 u4 (.tup [.int (i : Nat), .int d.1, .int d.2.1, .ref t4])) q (.lst (zs ++ [.ref u4])) = H5 at s5 hq5 tz5 ⊢
      refine ⟨_, rfl, .inl ⟨rfl, _, SqL.of hq5⟩, _, rfl, _, rfl, _, rfl, _, rfl, _, rfl, _, rfl, p, h, (i : Nat), d.1, d, rfl, hh.same s5, by omega, hd0, fun H6 t6 s6 n6 ht6 => ⟨by show 4 ≤ sizeLine; decide, fun u6 nu6 => ?_⟩⟩
      obtain ⟨s7, hq7, tz7⟩ := push (s := ⟨(i : Nat), d.2.1, d.1, nzStep h d d.1⟩) (s5.trans s6) nq (s6 _ _ hq5) (TDs.keep (Same.tk s6) tz5) nu6 ht6
      refine ⟨q, _, _, rfl, rfl, Same.new nu6 _ _ (s6 _ _ hq5), by rw [List.length_append]; show zs.length + 1 < sizeLine; omega, ?_⟩
      refine ⟨⟨_, _, _, _, rfl⟩, s7, _, hq7, ?_, by simp only [List.length_append, List.length_cons, List.length_nil]; omega⟩
      rw [steps_next hd, show stepsTo h i ++ stepsAt h i d = (stepsTo h i ++ [⟨(i : Nat), d.1, d.2.1, nzStep h d d.2.1⟩]) ++ [⟨(i : Nat), d.2.1, d.1, nzStep h d d.1⟩] by rw [List.append_assoc]; rfl]
      exact tz7
    · rintro σ H2 ⟨⟨v2, v3, v4, v5, rfl⟩, s2, zs, hq, tz, zl⟩
      refine ⟨_, rfl, k H2 q zs s2 nq hq ?_⟩
      rw [len] at tz
      exact tz
end
end Lw
set_option Elab.async false
set_option linter.all false
set_option maxRecDepth 100000
set_option maxHeartbeats 8000000
namespace Lw
open PySem PySem.Spec PyProof.Rows L2 Hb
/-- the steps from these rooms that make none but these noises -/
def quietR (ss : List Stp) (rs : List Int) (ns : List Str) : List Stp := ss.filter fun s => decide (s.le ∈ rs) && s.ns.all fun n => decide (n ∈ ns)
theorem flat_strs (ns : List Str) : (ns.map V.str).all flatV = true := by
  refine List.all_eq_true.mpr fun v hv => ?_
  obtain ⟨x, _, rfl⟩ := List.mem_map.mp hv
  rfl
def spQuiet (K : PySem.W.Frag) : Sp := fun vs H Q _ => ∃ (l r t : Addr) (xs : List V) (ss : List Stp) (rs : List Int) (ns : List Str), vs = [.ref l, .ref r, .ref t] ∧ H l = some (.lst xs) ∧ TDs K H xs (ss.map encT) ∧ ss.length ≤ 10000 ∧ (∀ s ∈ ss, s.ns.length ≤ 10) ∧ SqT K H r (rs.map V.int) ∧ (SqL K H t (ns.map V.str) ∨ SqT K H t (ns.map V.str)) ∧
  ∀ H' q ys, Same H H' → H q = none → H' q = some (.lst ys) → TDs K H' ys ((quietR ss rs ns).map encT) → Q (.ref q) H'
def spMade (K : PySem.W.Frag) : Sp := fun vs H Q _ => ∃ (l : Addr) (x : Str) (xs : List V) (ss : List Stp), vs = [.ref l, .str x] ∧ H l = some (.lst xs) ∧ TDs K H xs (ss.map encT) ∧ ss.length ≤ 10000 ∧
  ∀ H', Same H H' → Q (.bl (ss.any fun s => decide (x ∈ s.ns))) H'
section
variable {P : Program} {w : World} {K : PySem.W.Frag} {mg : Str → Option Value} {base : Heap}
theorem c_is_made (D : Df K mg "is_made" s_is_made) (T : Tx K mg) : C8.Cal P w K mg base 1 "is_made" (spMade K) [] := by
  refine cal_mk D sc_is_made bd_is_made (fun vs H Q E h => ?_) fun f cdv A outer s H vs Q E hr h => ?_
  · obtain ⟨l, x, xs, ss, rfl, _⟩ := h
    rfl
  · obtain ⟨l, x, xs, ss, rfl, hl, td, few, k⟩ := h
    have line := sizeLine_eq
    have len := td.length
    rw [List.length_map] at len
    refine ⟨_, (pss_one (ps_ret (pe_callB (cr_any rfl) (by rfl) T.n_any (by decide +kernel) (pa_cons (pe_lc (own := [("step", 2)]) (by rfl) sc_is_made.nd (pi_list (pv 0)) (blkOk_by (N := N_is_made) (sc := defScope s_is_made) (by decide +kernel)) (fun _ _ _ _ _ => (pg_name (i := 2) sc_is_made.nd rfl (Or.inl rfl))) (fun _ _ _ _ _ => pts_nil) (fun _ _ _ _ _ => (pe_cmpR (show OpR _ _ (rIn K false) from op_in_seq) (pv 1) (pe_ix (show IxR _ (rIxT K) from ix_tup) (pv 2) pe_int (fun _ _ => rfl)) (by first | exact nomark _ | rfl)))) pa_nil)))), ?_⟩
    refine ⟨_, rfl, l, rfl, ⟨_, SqL.of hl⟩, fun DL nDL => lc_list (K := K) (a := l) (xs := xs) (fun i H' => Same H H' ∧ H' DL = some (.lst (((ss.take i).map fun s => decide (x ∈ s.ns)).map V.bl))) ⟨Same.new nDL, by simp [upd_same]⟩ (fun i H' _ p => Same.seq p.1 (SqL.of hl)) ?_ ?_⟩
    · rintro i v H' hv ⟨s2, hD⟩
      obtain ⟨sp, hs, hvd⟩ := TDs.at_map (TDs.keep (Same.tk s2) td) hv
      obtain ⟨a, t, rfl, ha, ht⟩ := TD.stp_inv hvd
      have il : i < ss.length := (List.getElem?_eq_some_iff.mp hs).1
      refine ⟨rfl, yes_ ⟨_, rfl, _, rfl, a, _, 3, _, rfl, rfl, ha, rfl, t, _, rfl, .inr ht, rfl, flat_strs _, ?_⟩⟩
      rw [if_neg Bool.false_ne_true, inV_strs]
      refine ⟨_, hD, by rw [List.length_map, List.length_map, List.length_take]; omega, Hb.Same.acc s2 nDL, ?_⟩
      rw [upd_same, List.take_add_one, hs]
      simp
    · rintro H2 ⟨s2, hD⟩
      rw [len, List.take_length] at hD
      refine ⟨DL, _, rfl, SqL.of hD, ?_⟩
      rw [List.any_map]
      exact k _ s2
theorem c_quiet_steps (D : Df K mg "quiet_steps" s_quiet_steps) (T : Tx K mg) : C8.Cal P w K mg base 1 "quiet_steps" (spQuiet K) [] := by
  refine cal_mk D sc_quiet_steps bd_quiet_steps (fun vs H Q E h => ?_) fun f cdv A outer s H vs Q E hr h => ?_
  · obtain ⟨l, r, t, xs, ss, rs, ns, rfl, _⟩ := h
    rfl
  · obtain ⟨l, r, t, xs, ss, rs, ns, rfl, hl, td, few, few2, hr2, ht, k⟩ := h
    have line := sizeLine_eq
    have len := td.length
    rw [List.length_map] at len
    refine ⟨_, (pss_one (ps_ret (pe_lc (own := [("step", 3)]) (by rfl) sc_quiet_steps.nd (pi_list (pv 0)) (blkOk_by (N := N_quiet_steps) (sc := defScope s_quiet_steps) (by decide +kernel)) (fun _ _ _ _ _ => (pg_name (i := 3) sc_quiet_steps.nd rfl (Or.inl rfl))) (fun _ _ _ _ _ => (pts_one (PW.pt (pw_and (pt_cmpR (show OpR _ _ (rIn K false) from op_in_seq) (pe_ix (show IxR _ (rIxT K) from ix_tup) (pv 3) pe_int (fun _ _ => rfl)) (pv 1) (by first | exact nomark _ | rfl)) (pw_and1 (pt_val (pe_callB (show CallR _ _ (rAll K) from cr_all rfl) (by rfl) T.n_all (by decide +kernel) (pa_cons (pe_lc (own := [("noise", 4)]) (by rfl) sc_quiet_steps.nd (Hb.pi_tupK (K := K) rfl (pe_ix (show IxR _ (rIxT K) from ix_tup) (pv 3) pe_int (fun _ _ => rfl))) (blkOk_by (by kernel_rfl)) (fun _ _ _ _ _ => (pg_name (i := 4) sc_quiet_steps.nd rfl (Or.inl rfl))) (fun _ _ _ _ _ => pts_nil) (fun _ _ _ _ _ => (pe_cmpR (show OpR _ _ (rIn K false) from op_in_seq) (pv 4) (pv 2) (by first | exact nomark _ | rfl)))) pa_nil)))))))) (fun _ _ _ _ _ => (pv 3))))), ?_⟩
    refine ⟨_, rfl, l, rfl, ⟨_, SqL.of hl⟩, fun DL nDL => lc_list (K := K) (a := l) (xs := xs) (fun i H' => Same H H' ∧ ∃ ys, H' DL = some (.lst ys) ∧ ys.length ≤ i ∧ TDs K H' ys ((quietR (ss.take i) rs ns).map encT)) ⟨Same.new nDL, [], upd_same, Nat.le_refl _, .nil⟩ (fun i H' _ p => Same.seq p.1 (SqL.of hl)) ?_ ?_⟩
    · rintro i v H' hv ⟨s2, ys, hD, yl, htd⟩
      obtain ⟨sp, hs, hvd⟩ := TDs.at_map (TDs.keep (Same.tk s2) td) hv
      obtain ⟨a, u, rfl, ha, hu⟩ := TD.stp_inv hvd
      have il : i < ss.length := (List.getElem?_eq_some_iff.mp hs).1
      have nx : quietR (ss.take (i + 1)) rs ns = quietR (ss.take i) rs ns ++ if (decide (sp.le ∈ rs) && sp.ns.all fun n => decide (n ∈ ns)) = true then [sp] else [] := by
        unfold quietR
        rw [List.take_add_one, hs, List.filter_append]
        cases q : (decide (sp.le ∈ rs) && sp.ns.all fun n => decide (n ∈ ns)) <;> simp [q]
      refine ⟨rfl, _, rfl, a, _, 1, _, rfl, rfl, ha, rfl, _, rfl, r, _, rfl, .inr (SqT.keep (Same.tk s2) hr2), rfl, flat_ints _, _, rfl, ?_⟩
      rw [if_neg Bool.false_ne_true, inV_ints]
      refine ite2 (fun q => ?_) (fun q => ?_)
      · refine ⟨_, rfl, a, _, 3, _, rfl, rfl, ha, rfl, u, rfl, ⟨_, hu⟩, fun D2 nD2 => lc_tup (K := K) (a := u) (xs := sp.ns.map V.str) (fun j H2 => Same H' H2 ∧ H2 D2 = some (.lst (((sp.ns.take j).map fun n => decide (n ∈ ns)).map V.bl))) ⟨Same.new nD2, by simp [upd_same]⟩ (fun j H2 _ p => SqT.keep (Same.tk p.1) hu) ?_ ?_⟩
        · rintro j v2 H2 hv2 ⟨s3, hD2⟩
          rw [List.getElem?_map] at hv2
          obtain ⟨n, hn, rfl⟩ := Option.map_eq_some_iff.mp hv2
          have jl : j < sp.ns.length := (List.getElem?_eq_some_iff.mp hn).1
          have f2 := few2 sp (List.mem_of_getElem? hs)
          have ht2 : SqL K H2 t (ns.map V.str) ∨ SqT K H2 t (ns.map V.str) := ht.imp (fun x => Same.seq (s2.trans s3) x) (fun x => SqT.keep (Same.tk (s2.trans s3)) x)
          refine ⟨rfl, yes_ ⟨_, rfl, _, rfl, t, _, rfl, ht2, rfl, flat_strs _, ?_⟩⟩
          rw [if_neg Bool.false_ne_true, inV_strs]
          refine ⟨_, hD2, by rw [List.length_map, List.length_map, List.length_take]; omega, Hb.Same.acc s3 nD2, ?_⟩
          rw [upd_same, List.take_add_one, hn]
          simp
        · rintro H2 ⟨s3, hD2⟩
          rw [List.length_map, List.take_length] at hD2
          have hD3 := s3 _ _ hD
          refine ⟨D2, _, rfl, SqL.of hD2, _, rfl, ?_⟩
          rw [List.all_map]
          refine ite2 (fun q2 => ?_) (fun q2 => ?_)
          · have e : (decide (sp.le ∈ rs) && sp.ns.all fun n => decide (n ∈ ns)) = true := by
              rw [q, Bool.true_and]
              exact q2
            refine ⟨_, rfl, ys, hD3, by omega, Hb.Same.acc (s2.trans s3) nDL, _, upd_same, by rw [List.length_append]; exact Nat.succ_le_succ yl, ?_⟩
            have tkD := tk_acc (ys := ys ++ [.ref a]) hD3
            rw [nx, if_pos e, List.map_append]
            exact TDs.app (TDs.keep ((Same.tk s3).trans tkD) htd) (.cons (TD.keep ((Same.tk s3).trans tkD) hvd) .nil)
          · have e : (decide (sp.le ∈ rs) && sp.ns.all fun n => decide (n ∈ ns)) = false := by
              rw [q, Bool.true_and]
              exact Bool.eq_false_iff.mpr q2
            refine ⟨s2.trans s3, ys, hD3, by omega, ?_⟩
            rw [nx, e, if_neg Bool.false_ne_true, List.append_nil]
            exact TDs.keep (Same.tk s3) htd
      · refine ⟨s2, ys, hD, by omega, ?_⟩
        rw [nx, show (decide (sp.le ∈ rs) && sp.ns.all fun n => decide (n ∈ ns)) = false by rw [Bool.eq_false_iff.mpr q]; rfl, if_neg Bool.false_ne_true, List.append_nil]
        exact htd
    · rintro H2 ⟨s2, ys, hD, yl, htd⟩
      rw [len, List.take_length] at htd
      exact k _ _ _ s2 nDL hD htd
end
end Lw
set_option Elab.async false
set_option linter.all false
set_option maxRecDepth 100000
set_option maxHeartbeats 8000000
namespace Lw
open PySem PySem.Spec PyProof.Rows L2 Hb
structure LotOk (ns : List Str) : Prop where
  nm : ∀ n ∈ ns, nameB n = true ∧ n.length ≤ 1000
  nd : ns.Nodup
  few : ns.length ≤ 1000
structure LotsAt (K : PySem.W.Frag) (H : Hp) (vs : List V) (lots : List (List Str)) : Prop where
  len : vs.length = lots.length
  at_ : ∀ (i : Nat) (v : V), vs[i]? = some v → ∃ (a : Addr) (ns : List Str), v = .ref a ∧ lots[i]? = some ns ∧ SqA K H a (ns.map V.str)
theorem LotsAt.same {K : PySem.W.Frag} {H H' : Hp} {vs : List V} {lots : List (List Str)} (x : LotsAt K H vs lots) (s : Same H H') : LotsAt K H' vs lots := ⟨x.len, fun i v e => by
  obtain ⟨a, ns, e1, e2, h⟩ := x.at_ i v e
  exact ⟨a, ns, e1, e2, h.same s⟩⟩
def spNoisesOk (K : PySem.W.Frag) : Sp := fun vs H Q _ => ∃ (a : Addr) (ns : List Str), vs = [.ref a] ∧ SqA K H a (ns.map V.str) ∧ LotOk ns ∧ ∀ H', Same H H' → Q (.bl true) H'
def spCheck (K : PySem.W.Frag) : Sp := fun vs H Q _ => ∃ (l : Addr) (xs : List V) (lots : List (List Str)), vs = [.ref l] ∧ SqA K H l xs ∧ LotsAt K H xs lots ∧ (∀ ns ∈ lots, LotOk ns) ∧ ∀ H', Same H H' → Q .non H'
section
variable {P : Program} {w : World} {K : PySem.W.Frag} {mg : Str → Option Value} {base : Heap}
theorem c_are_noises (D : Df K mg "are_noises" s_are_noises) (T : Tx K mg) (c_is_row : C8.Cal P w K mg base 1 "is_row" (spRow K) []) (c_is_name : C8.Cal P w K mg base 1 "is_name" spName []) (c_are_unlike : C8.Cal P w K mg base 1 "are_unlike" (spUnlike K) []) :
    C8.Cal P w K mg base 3 "are_noises" (spNoisesOk K) [] := by
  refine cal_mk D sc_are_noises bd_are_noises (fun vs H Q E h => ?_) fun f cdv A outer s H vs Q E hr h => ?_
  · obtain ⟨a, ns, rfl, _⟩ := h
    rfl
  · obtain ⟨a, ns, rfl, hq, ok, k⟩ := h
    have line := sizeLine_eq
    have few := ok.few
    refine ⟨_, (pss_one (ps_ret (pe_and (C8.pe_c c_is_row hr (by decide) rfl (pa_cons (pv 0) pa_nil)) (pe_and (pe_callB (cr_all rfl) (by rfl) T.n_all (by decide +kernel) (pa_cons (pe_lc (own := [("name", 1)]) (by rfl) sc_are_noises.nd (pi_seq (pv 0)) (blkOk_by (N := N_are_noises) (sc := defScope s_are_noises) (by decide +kernel)) (fun _ _ _ _ _ => (pg_name (i := 1) sc_are_noises.nd rfl (Or.inl rfl))) (fun _ _ _ _ _ => pts_nil) (fun _ _ _ _ _ => (C8.pe_c c_is_name hr (by decide) rfl (pa_cons (pv 1) pa_nil)))) pa_nil)) (pe_one (C8.pe_c c_are_unlike hr (by decide) rfl (pa_cons (pv 0) pa_nil))))))), ?_⟩
    refine ⟨_, rfl, a, _, rfl, hq, fun H1 s1 => ⟨_, rfl, iteT ?_⟩⟩
    have hq1 := hq.same s1
    refine ⟨_, rfl, a, _, rfl, hq1, fun J G hG wk DL nDL => lc_it wk (fun i H' => Same H1 H' ∧ H' DL = some (.lst (List.replicate i (.bl true)))) ⟨Same.new nDL, upd_same⟩ (fun i H' _ p => hG _ p.1) ?_ ?_⟩
    · rintro i v H' H9 hi ⟨s2, hD⟩ ⟨rfl, hv⟩
      rw [List.getElem?_map] at hv
      obtain ⟨n, hn, rfl⟩ := Option.map_eq_some_iff.mp hv
      have il : i < ns.length := (List.getElem?_eq_some_iff.mp hn).1
      have nk := ok.nm n (List.mem_of_getElem? hn)
      refine ⟨rfl, yes_ ⟨_, rfl, n, rfl, nk.2, fun H3 s3 => ?_⟩⟩
      rw [nk.1]
      refine ⟨_, s3 _ _ hD, by rw [List.length_replicate]; omega, Hb.Same.acc (s2.trans s3) nDL, ?_⟩
      rw [upd_same, List.replicate_succ']
    · rintro H2 ⟨s2, hD⟩
      rw [List.length_map] at hD
      refine ⟨DL, List.replicate ns.length true, rfl, SqL.of (by rw [hD, List.map_replicate]), ?_⟩
      rw [show (List.replicate ns.length true).all id = true by simp]
      have s12 := s1.trans s2
      exact ⟨_, rfl, iteT ⟨_, rfl, a, rfl, .inl ⟨ns, hq.same s12, ok.nd, by omega⟩, k _ s12⟩⟩
theorem c_check (D : Df K mg "check" s_check) (T : Tx K mg) (c_is_row : C8.Cal P w K mg base 1 "is_row" (spRow K) []) (c_are_noises : C8.Cal P w K mg base 3 "are_noises" (spNoisesOk K) []) :
    C8.Cal P w K mg base 4 "check" (spCheck K) [] := by
  refine cal_mk D sc_check bd_check (fun vs H Q E h => ?_) fun f cdv A outer s H vs Q E hr h => ?_
  · obtain ⟨l, xs, lots, rfl, _⟩ := h
    rfl
  · obtain ⟨l, xs, lots, rfl, hl, la, ok, k⟩ := h
    refine ⟨_, (pss_cons (ps_if (pt_not (pt_val (C8.pe_c c_is_row hr (by decide) rfl (pa_cons (pv 0) pa_nil))))
 (pss_one ps_never)
 pss_nil)
 (pss_one (ps_for PassesOwn.never rfl (pi_enumS (by rfl) T.n_enumerate (pa_cons (pv 0) pa_nil)) (pg_tup (by rfl) (pgs_cons (pg_name (i := 1) sc_check.nd rfl (Or.inl rfl)) (pgs_cons (pg_name (i := 2) sc_check.nd rfl (Or.inl rfl)) pgs_nil)))
 (pss_one (ps_if (pt_not (pt_val (C8.pe_c c_are_noises hr (by decide) rfl (pa_cons (pv 2) pa_nil))))
 (pss_one ps_never)
 pss_nil))))), ?_⟩
    refine ⟨_, rfl, l, _, rfl, hl, fun H1 s1 => ⟨_, rfl, iteF ?_⟩⟩
    have hl1 := hl.same s1
    refine ⟨_, rfl, l, _, rfl, hl1, fun J G hG wk => for_it wk (fun i σ H' => (∃ v1 v2, σ = [some (.ref l), v1, v2]) ∧ Same H1 H') ⟨⟨_, _, rfl⟩, Same.refl _⟩ (fun i σ H' _ e => hG _ e.2) ?_ (fun σ H' e => k _ (s1.trans e.2))⟩
    rintro i v σ H3 H4 hi ⟨⟨v1, v2, rfl⟩, s3⟩ ⟨Tp, u1, u2, rfl, nT, rfl, e1, e2⟩
    injection e1 with e1
    subst e1
    obtain ⟨a, ns, rfl, hns, ha⟩ := (la.same (s1.trans s3)).at_ i u2 e2
    have s4 : Same H3 (upd H3 Tp (.tup [.int (i : Nat), .ref a])) := Same.new nT
    refine ⟨Tp, _, rfl, SqT.of upd_same, rfl, _, _, rfl, _, _, rfl, rfl, ?_⟩
    generalize upd H3 Tp (.tup [.int (i : Nat), .ref a]) = H4 at s4 ⊢
    refine ⟨_, rfl, a, ns, rfl, ha.same s4, ok ns (List.mem_of_getElem? hns), fun H5 s5 => ?_⟩
    exact ⟨_, rfl, iteF ⟨⟨_, _, rfl⟩, (s3.trans s4).trans s5⟩⟩
end
end Lw
set_option Elab.async false
set_option linter.all false
set_option maxRecDepth 100000
set_option maxHeartbeats 8000000
namespace Lw
open PySem PySem.Spec PyProof.Rows L2 Hb
/-- the rooms that can be gone to -/
def insU (r : Int) : List Int → List Int
  | [] => [r]
  | x :: xs => if r < x then r :: x :: xs else if r = x then x :: xs else x :: insU r xs
theorem mem_insU {r k : Int} : ∀ {xs : List Int}, k ∈ insU r xs ↔ k = r ∨ k ∈ xs
  | [] => by simp [insU]
  | x :: xs => by
    unfold insU
    by_cases a : r < x
    · rw [if_pos a, List.mem_cons]
    · rw [if_neg a]
      by_cases b : r = x
      · rw [if_pos b, List.mem_cons, b]
        simp
      · rw [if_neg b, List.mem_cons, mem_insU, List.mem_cons]
        constructor
        · rintro (h | h | h)
          · exact .inr (.inl h)
          · exact .inl h
          · exact .inr (.inr h)
        · rintro (h | h | h)
          · exact .inr (.inl h)
          · exact .inl h
          · exact .inr (.inr h)
theorem asc_insU {r : Int} : ∀ {xs : List Int}, xs.Pairwise (· < ·) → (insU r xs).Pairwise (· < ·)
  | [], _ => by simp [insU]
  | x :: xs, h => by
    obtain ⟨h1, h2⟩ := List.pairwise_cons.mp h
    unfold insU
    by_cases a : r < x
    · rw [if_pos a]
      exact List.pairwise_cons.mpr ⟨fun y hy => by
        rcases List.mem_cons.mp hy with rfl | hy
        · exact a
        · exact Int.lt_trans a (h1 y hy), h⟩
    · rw [if_neg a]
      by_cases b : r = x
      · rw [if_pos b]
        exact h
      · rw [if_neg b]
        refine List.pairwise_cons.mpr ⟨fun y hy => ?_, asc_insU h2⟩
        rcases mem_insU.mp hy with rfl | hy
        · omega
        · exact h1 y hy
def uniqI (xs : List Int) : List Int := xs.foldr insU []
theorem mem_uniqI {k : Int} : ∀ {xs : List Int}, k ∈ uniqI xs ↔ k ∈ xs
  | [] => Iff.rfl
  | x :: xs => by
    show k ∈ insU x (uniqI xs) ↔ _
    rw [mem_insU, mem_uniqI, List.mem_cons]
theorem asc_uniqI : ∀ {xs : List Int}, (uniqI xs).Pairwise (· < ·)
  | [] => .nil
  | x :: xs => asc_insU (xs := uniqI xs) asc_uniqI
theorem nodup_asc {xs : List Int} (h : xs.Pairwise (· < ·)) : xs.Nodup := h.imp fun a e => by omega
theorem nodup_leI {α : Type} [DecidableEq α] {xs ys : List α} (n : xs.Nodup) (s : ∀ x ∈ xs, x ∈ ys) : xs.length ≤ ys.length := by
  induction xs generalizing ys with
  | nil => exact Nat.zero_le _
  | cons x xs ih =>
    obtain ⟨n1, n2⟩ := List.nodup_cons.mp n
    have h1 := ih (ys := ys.erase x) n2 fun y hy => (List.mem_erase_of_ne (fun e => n1 (by rw [← e]; exact hy))).mpr (s y (List.mem_cons_of_mem _ hy))
    have h2 := List.length_erase_of_mem (s x (List.mem_cons_self ..))
    have h3 := List.length_pos_of_mem (s x (List.mem_cons_self ..))
    rw [List.length_cons]
    omega
def nextR (ss : List Stp) (rs : List Int) (ns : List Str) : Option (List Int) := if ns.all fun n => (quietR ss rs ns).any fun s => decide (n ∈ s.ns) then some (uniqI (rs ++ (quietR ss rs ns).map (·.ri))) else none
def behindR (ss : List Stp) : List Int → List (List Str) → List (List Int)
  | _, [] => []
  | rs, ns :: lots => match nextR ss rs ns with
    | none => []
    | some rs' => rs' :: behindR ss rs' lots
def encR (rs : List Int) : PyData := .tuple (rs.map PyData.int)
theorem uniq_is {xs ns : List Int} (h : ns.Pairwise (· < ·)) (m : ∀ k, k ∈ ns ↔ k ∈ xs) : ns = uniqI xs := by
  have p : ns.Perm (uniqI xs) := (List.perm_ext_iff_of_nodup (nodup_asc h) (nodup_asc asc_uniqI)).mpr fun k => (m k).trans mem_uniqI.symm
  rw [← sortI_perm_eq p asc_uniqI, sortI_id h]
/-- few steps -/
theorem allSteps_few {h : Hz} (d : h.doors.length ≤ 10) : (allSteps h).length ≤ 20 ∧ ∀ s ∈ allSteps h, s.ns.length ≤ 10 := by
  have go : ∀ m, m ≤ h.doors.length → (stepsTo h m).length ≤ 2 * m ∧ ∀ s ∈ stepsTo h m, s.ns.length ≤ 10 := by
    intro m
    induction m with
    | zero => exact fun _ => ⟨Nat.le_refl _, fun s hs => nomatch hs⟩
    | succ m ih =>
      intro hm
      obtain ⟨a, b⟩ := ih (by omega)
      rw [steps_next (List.getElem?_eq_getElem (by omega))]
      refine ⟨by rw [List.length_append]; show _ + 2 ≤ _; omega, fun s hs => ?_⟩
      rcases List.mem_append.mp hs with hs | hs
      · exact b s hs
      · simp only [stepsAt, List.mem_cons, List.not_mem_nil, or_false] at hs
        rcases hs with rfl | rfl
        · exact Nat.le_trans (nzStep_le _ _ _) (by decide)
        · exact Nat.le_trans (nzStep_le _ _ _) (by decide)
  have q := go h.doors.length (Nat.le_refl _)
  exact ⟨Nat.le_trans q.1 (by omega), q.2⟩
/-- the turns of rooms_behind -/
def BI (K : PySem.W.Frag) (H : Hp) (p l ls q : Addr) (xss : List V) (ss : List Stp) (lots : List (List Str)) (i : Nat) (σ : L2.St) (H' : Hp) : Prop := Same H H' ∧ ∃ (rs : List Int) (acc : List (List Int)) (ys : List V) (rp : Addr) (v5 v6 v7 v8 v9 v10 v11 : Option V),
  σ = [some (.ref p), some (.ref l), some (.ref ls), some (.ref q), some (.ref rp), v5, v6, v7, v8, v9, v10, v11] ∧ SqT K H' rp (rs.map V.int) ∧ H' q = some (.lst ys) ∧ TDs K H' ys (acc.map encR) ∧ behindR ss [0] lots = acc ++ behindR ss rs (lots.drop i) ∧ rs.Nodup ∧ (∀ x ∈ rs, x ∈ 0 :: ss.map (·.ri)) ∧ acc.length = i ∧ H' ls = some (.lst xss) ∧ TDs K H' xss (ss.map encT)
def spBehind (K : PySem.W.Frag) (C : Addr) : Sp := fun vs H Q _ => ∃ (p l : Addr) (h : Hz) (xs : List V) (lots : List (List Str)), vs = [.ref p, .ref l] ∧ HAt K C H p h ∧ h.doors.length ≤ 10 ∧ SqA K H l xs ∧ LotsAt K H xs lots ∧ (∀ ns ∈ lots, LotOk ns) ∧ lots.length ≤ 1000 ∧
  ∀ H' q ys, Same H H' → H q = none → H' q = some (.lst ys) → TDs K H' ys ((behindR (allSteps h) [0] lots).map encR) → Q (.ref q) H'
section
variable {P : Program} {w : World} {K : PySem.W.Frag} {mg : Str → Option Value} {base : Heap}
theorem c_rooms_behind (D : Df K mg "rooms_behind" s_rooms_behind) (T : Tx K mg) (c_check : C8.Cal P w K mg base 4 "check" (spCheck K) []) (c_all_steps : C8.Cal P w K mg base 3 "all_steps" (spAllSteps K (He.ga K "House")) []) (c_quiet_steps : C8.Cal P w K mg base 1 "quiet_steps" (spQuiet K) []) (c_is_made : C8.Cal P w K mg base 1 "is_made" (spMade K) []) :
    C8.Cal P w K mg base 5 "rooms_behind" (spBehind K (He.ga K "House")) [] := by
  refine cal_mk D sc_rooms_behind bd_rooms_behind (fun vs H Q E h => ?_) fun f cdv A outer s H vs Q E hr h => ?_
  · obtain ⟨p, l, h, xs, lots, rfl, _⟩ := h
    rfl
  · obtain ⟨p, l, h, xs, lots, rfl, hh, dfew, hl, la, ok, few, k⟩ := h
    have line := sizeLine_eq
    refine ⟨_, (pss_cons (ps_expr (C8.pe_c c_check hr (by decide) rfl (pa_cons (pv 1) pa_nil)))
 (pss_cons (ps_set (i := 2) sc_rooms_behind.nd rfl (Or.inl rfl) (C8.pe_c c_all_steps hr (by decide) rfl (pa_cons (pv 0) pa_nil)))
 (pss_cons (ps_set (i := 3) sc_rooms_behind.nd rfl (Or.inl rfl) (pe_lst pa_nil))
 (pss_cons (ps_set (i := 4) sc_rooms_behind.nd rfl (Or.inl rfl) (pe_tup (pa_cons pe_int pa_nil)))
 (pss_cons (ps_for PassesOwn.never rfl (pi_seq2 (pv 1)) (pg_name (i := 5) sc_rooms_behind.nd rfl (Or.inl rfl))
 (pss_cons (ps_set (i := 6) sc_rooms_behind.nd rfl (Or.inr rfl) (C8.pe_c c_quiet_steps hr (by decide) rfl (pa_cons (pv 2) (pa_cons (pv 4) (pa_cons (pv 5) pa_nil)))))
 (pss_cons (ps_if (pt_not (pt_val (pe_callB (cr_all rfl) (by rfl) T.n_all (by decide +kernel) (pa_cons (pe_lc (own := [("noise", 7)]) (by rfl) sc_rooms_behind.nd (pi_seq (pv 5)) (blkOk_by (N := N_rooms_behind) (sc := defScope s_rooms_behind) (by decide +kernel)) (fun _ _ _ _ _ => (pg_name (i := 7) sc_rooms_behind.nd rfl (Or.inl rfl))) (fun _ _ _ _ _ => pts_nil) (fun _ _ _ _ _ => (C8.pe_c c_is_made hr (by decide) rfl (pa_cons (pv 6) (pa_cons (pv 7) pa_nil))))) pa_nil))))
 (pss_one (ps_ret (pv 3)))
 pss_nil)
 (pss_cons (ps_set (i := 4) sc_rooms_behind.nd rfl (Or.inl rfl) (pe_callTy call_tuple_of (by rfl) T.n_tuple (by decide +kernel) (pa_cons (Hb.pe_sortSetI rfl T.n_sorted rfl T.n_set (pe_op op_cat (pe_callTy call_list_of (by rfl) T.n_list (by decide +kernel) (pa_cons (pv 4) pa_nil)) (pe_lc (own := [("number", 8), ("left", 9), ("room", 10), ("heard", 11)]) (g := (gTup K 4 (gCons (gName 8) (gCons (gName 9) (gCons (gName 10) (gCons (gName 11) gNil)))))) (by rfl) sc_rooms_behind.nd (pi_list (pv 6)) (blkOk_by (N := N_rooms_behind) (sc := defScope s_rooms_behind) (by decide +kernel)) (fun _ _ _ _ _ => (pg_tup (by rfl) (pgs_cons (pg_name (i := 8) sc_rooms_behind.nd rfl (Or.inl rfl)) (pgs_cons (pg_name (i := 9) sc_rooms_behind.nd rfl (Or.inl rfl)) (pgs_cons (pg_name (i := 10) sc_rooms_behind.nd rfl (Or.inl rfl)) (pgs_cons (pg_name (i := 11) sc_rooms_behind.nd rfl (Or.inl rfl)) pgs_nil)))))) (fun _ _ _ _ _ => pts_nil) (fun _ _ _ _ _ => (pv 10))))) pa_nil)))
 (pss_one (ps_expr (pe_bm PySem.F.plainAttrs_list PySem.F.slot_list_append PySem.F.type_list_append mt_append (pv 3) (pa_cons (pv 4) pa_nil))))))))
 (pss_one (ps_ret (pv 3)))))))), ?_⟩
    refine ⟨_, rfl, l, xs, lots, rfl, hl, la, ok, fun H1 s1 => ?_⟩
    refine ⟨_, rfl, p, h, rfl, hh.same s1, by omega, fun H2 ls xss s2 nls hls tds => ?_⟩
    have nsl : (allSteps h).length ≤ 20 ∧ ∀ s ∈ allSteps h, s.ns.length ≤ 10 := allSteps_few dfew
    refine ⟨Nat.zero_le _, fun q nq => ?_⟩
    have s12 := s1.trans s2
    have s3 : Same H2 (upd H2 q (.lst [])) := Same.new nq
    have hq3 : upd H2 q (.lst []) q = some (.lst []) := upd_same
    have nq0 := s12.free nq
    generalize upd H2 q (.lst []) = H3 at s3 hq3 ⊢
    refine ⟨by show 1 ≤ sizeLine; omega, fun r nr => ?_⟩
    have s4 : Same H3 (upd H3 r (.tup [.int 0])) := Same.new nr
    have hr4 : SqT K (upd H3 r (.tup [.int 0])) r (([0] : List Int).map V.int) := SqT.of upd_same
    have hq4 := s4 _ _ hq3
    generalize upd H3 r (.tup [.int 0]) = H4 at s4 hr4 hq4 ⊢
    have s14 := s12.trans (s3.trans s4)
    have s24 := s3.trans s4
    obtain ⟨G, gk, hG⟩ := seqG hl
    refine ⟨_, rfl, l, xs, G, rfl, gk, hG _ s14, fun J wk => for_it wk (BI K H p l ls q xss (allSteps h) lots) ?_ (fun i σ H' _ y => hG _ y.1) ?_ ?_⟩
    · exact ⟨s14, [0], [], [], r, _, _, _, _, _, _, _, rfl, hr4, hq4, .nil, rfl, by simp, fun x hx => by rw [List.mem_singleton.mp hx]; exact List.mem_cons_self, rfl, s24 _ _ hls, TDs.keep (Same.tk s24) tds⟩
    · rintro i v σ H' H9 hi ⟨sm, rs, acc, ys, rp, v5, v6, v7, v8, v9, v10, v11, rfl, hrp, hq, hys, eq, nd, sub, al, hls', tds'⟩ ⟨rfl, hv⟩
      obtain ⟨a, ns, rfl, hns, ha⟩ := (la.same sm).at_ i v hv
      have lo := ok ns (List.mem_of_getElem? hns)
      have il : i < lots.length := (List.getElem?_eq_some_iff.mp hns).1
      have rl : rs.length ≤ 21 := by
        have := nodup_leI nd sub
        rw [List.length_cons, List.length_map] at this
        omega
      have dr : lots.drop i = ns :: lots.drop (i + 1) := by
        obtain ⟨h1, h2⟩ := List.getElem?_eq_some_iff.mp hns
        rw [List.drop_eq_getElem_cons h1, h2]
      refine ⟨_, rfl, _, rfl, _, rfl, ls, rp, a, xss, allSteps h, rs, ns, rfl, hls', tds', by omega, nsl.2, hrp, ha, fun H5 mq ms s5 nmq hmq tdm => ?_⟩
      have s05 := sm.trans s5
      have ha5 := ha.same s5
      have mfew : (quietR (allSteps h) rs ns).length ≤ 20 := by
        have := List.length_filter_le (fun s : Stp => decide (s.le ∈ rs) && s.ns.all fun n => decide (n ∈ ns)) (allSteps h)
        have e : (quietR (allSteps h) rs ns).length ≤ (allSteps h).length := this
        omega
      refine ⟨_, rfl, a, _, rfl, ha5, fun J2 G2 hG2 wk2 D2 nD2 => lc_it wk2 (fun j H6 => Same H5 H6 ∧ H6 D2 = some (.lst (((ns.take j).map fun n => (quietR (allSteps h) rs ns).any fun s => decide (n ∈ s.ns)).map V.bl))) ⟨Same.new nD2, by simp [upd_same]⟩ (fun j H6 _ p => hG2 _ p.1) ?_ ?_⟩
      · rintro j v2 H6 H99 hj ⟨s6, hD2⟩ ⟨rfl, hv2⟩
        rw [List.getElem?_map] at hv2
        obtain ⟨n, hn, rfl⟩ := Option.map_eq_some_iff.mp hv2
        have jl : j < ns.length := (List.getElem?_eq_some_iff.mp hn).1
        have nf := lo.few
        refine ⟨rfl, yes_ ⟨_, rfl, _, rfl, mq, n, ms, _, rfl, s6 _ _ hmq, TDs.keep (Same.tk s6) tdm, by omega, fun H7 s7 => ?_⟩⟩
        refine ⟨_, s7 _ _ hD2, by rw [List.length_map, List.length_map, List.length_take]; omega, Hb.Same.acc (s6.trans s7) nD2, ?_⟩
        rw [upd_same, List.take_add_one, hn]
        simp
      · rintro H6 ⟨s6, hD2⟩
        rw [List.length_map, List.take_length] at hD2
        have s06 := s05.trans s6
        have s56 := s5.trans s6
        refine ⟨D2, _, rfl, SqL.of hD2, _, rfl, ?_⟩
        rw [List.all_map]
        have hq6 := s56 _ _ hq
        cases ea : ns.all (id ∘ fun n => (quietR (allSteps h) rs ns).any fun s => decide (n ∈ s.ns)) with
        | false =>
          refine iteT ⟨_, rfl, k _ _ _ s06 nq0 hq6 ?_⟩
          have e : nextR (allSteps h) rs ns = none := if_neg (by
            show ¬ (ns.all fun n => (quietR (allSteps h) rs ns).any fun s => decide (n ∈ s.ns)) = true
            have ea' : (ns.all fun n => (quietR (allSteps h) rs ns).any fun s => decide (n ∈ s.ns)) = false := ea
            rw [ea']
            exact Bool.false_ne_true)
          rw [eq, dr]
          unfold behindR
          rw [e, List.append_nil]
          exact TDs.keep (Same.tk s56) hys
        | true =>
          refine iteF ?_
          have e : nextR (allSteps h) rs ns = some (uniqI (rs ++ (quietR (allSteps h) rs ns).map (·.ri))) := if_pos ea
          refine ⟨_, rfl, rp, _, rfl, .inr (SqT.keep (Same.tk s56) hrp), fun l1 nl1 => ?_⟩
          have s7 : Same H6 (upd H6 l1 (.lst (rs.map V.int))) := Same.new nl1
          have hl17 : upd H6 l1 (.lst (rs.map V.int)) l1 = some (.lst (rs.map V.int)) := upd_same
          generalize upd H6 l1 (.lst (rs.map V.int)) = H7 at s7 hl17 ⊢
          have s67 := s6.trans s7
          have hmq7 := s67 _ _ hmq
          have tdm7 := TDs.keep (Same.tk s67) tdm
          have msl := tdm.length
          rw [List.length_map] at msl
          refine ⟨_, rfl, mq, rfl, ⟨_, SqL.of hmq7⟩, fun D3 nD3 => lc_list (K := K) (a := mq) (xs := ms) (fun j H8 => Same H7 H8 ∧ H8 D3 = some (.lst ((((quietR (allSteps h) rs ns).take j).map (·.ri)).map V.int))) ⟨Same.new nD3, by simp [upd_same]⟩ (fun j H8 _ p => Same.seq p.1 (SqL.of hmq7)) ?_ ?_⟩
          · rintro j v2 H8 hv2 ⟨s8, hD3⟩
            obtain ⟨sp, hsp, hvd⟩ := TDs.at_map (TDs.keep (Same.tk s8) tdm7) hv2
            obtain ⟨a3, t3, rfl, ha3, ht3⟩ := TD.stp_inv hvd
            have jl : j < (quietR (allSteps h) rs ns).length := (List.getElem?_eq_some_iff.mp hsp).1
            refine ⟨a3, _, rfl, ha3, rfl, _, _, rfl, _, _, rfl, _, _, rfl, _, _, rfl, rfl, rfl, yes_ ⟨_, rfl, _, hD3, by rw [List.length_map, List.length_map, List.length_take]; omega, Hb.Same.acc s8 nD3, ?_⟩⟩
            rw [upd_same, List.take_add_one, hsp]
            simp
          · rintro H8 ⟨s8, hD3⟩
            rw [msl, List.take_length] at hD3
            have hl18 := s8 _ _ hl17
            refine ⟨l1, D3, _, _, rfl, rfl, hl18, hD3, by rw [List.length_map, List.length_map, List.length_map]; omega, fun l9 nl9 => ?_⟩
            have s9 : Same H8 (upd H8 l9 (.lst (rs.map V.int ++ ((quietR (allSteps h) rs ns).map (·.ri)).map V.int))) := Same.new nl9
            have hl9 : SqL K (upd H8 l9 (.lst (rs.map V.int ++ ((quietR (allSteps h) rs ns).map (·.ri)).map V.int))) l9 ((rs ++ (quietR (allSteps h) rs ns).map (·.ri)).map V.int) := SqL.of (by rw [upd_same, List.map_append])
            generalize upd H8 l9 (.lst (rs.map V.int ++ ((quietR (allSteps h) rs ns).map (·.ri)).map V.int)) = H9 at s9 hl9 ⊢
            refine ⟨l9, _, rfl, hl9, by rw [List.length_append, List.length_map]; omega, fun us p1 asc mu np1 => ?_⟩
            have eu := uniq_is asc mu
            have s10 : Same H9 (upd H9 p1 (.lst (us.map V.int))) := Same.new np1
            have hp10 : upd H9 p1 (.lst (us.map V.int)) p1 = some (.lst (us.map V.int)) := upd_same
            generalize upd H9 p1 (.lst (us.map V.int)) = H10 at s10 hp10 ⊢
            refine ⟨p1, _, rfl, .inl ⟨SqL.of hp10, fun t1 nt1 => ?_⟩⟩
            have s11 : Same H10 (upd H10 t1 (.tup (us.map V.int))) := Same.new nt1
            have ht11 : SqT K (upd H10 t1 (.tup (us.map V.int))) t1 (us.map V.int) := SqT.of upd_same
            generalize upd H10 t1 (.tup (us.map V.int)) = H11 at s11 ht11 ⊢
            have s5b := (((s67.trans s8).trans s9).trans s10).trans s11
            have s611 := s5.trans s5b
            have hq11 := s611 _ _ hq
            have yl : ys.length = i := by
              have := hys.length
              rw [List.length_map] at this
              omega
            refine ⟨_, rfl, .inl ⟨rfl, _, SqL.of hq11⟩, _, rfl, q, _, _, rfl, rfl, hq11, by omega, ?_⟩
            have tkq := tk_acc (ys := ys ++ [.ref t1]) hq11
            have sfin : Same H (upd H11 q (.lst (ys ++ [.ref t1]))) := Hb.Same.acc (sm.trans s611) nq0
            have lsq : ls ≠ q := ne_of_none hls nq
            refine ⟨sfin, us, acc ++ [us], ys ++ [.ref t1], t1, _, _, _, _, _, _, _, rfl, SqT.keep tkq ht11, upd_same, ?_, ?_, nodup_asc asc, ?_, by rw [List.length_append, al]; rfl, by rw [upd_ne lsq]; exact s611 _ _ hls', TDs.keep ((Same.tk s611).trans tkq) tds'⟩
            · rw [List.map_append]
              exact TDs.app (TDs.keep ((Same.tk s611).trans tkq) hys) (.cons (.tup (SqT.keep tkq ht11) (tds_ints _)) .nil)
            · rw [eq, dr, List.append_assoc]
              congr 1
              show behindR (allSteps h) rs (ns :: lots.drop (i + 1)) = us :: behindR (allSteps h) us (lots.drop (i + 1))
              rw [eu]
              conv => lhs; unfold behindR
              rw [e]
            · intro x hx
              rcases List.mem_append.mp ((mu x).mp hx) with hx | hx
              · exact sub x hx
              · obtain ⟨sp, hsp, rfl⟩ := List.mem_map.mp hx
                exact List.mem_cons_of_mem _ (List.mem_map_of_mem (List.mem_filter.mp hsp).1)
    · rintro σ H' ⟨sm, rs, acc, ys, rp, v5, v6, v7, v8, v9, v10, v11, rfl, hrp, hq, hys, eq, nd, sub, al, hls', tds'⟩
      rw [la.len, List.drop_length] at eq
      refine ⟨_, rfl, k _ _ _ sm nq0 hq ?_⟩
      rw [eq]
      show TDs K H' ys ((acc ++ []).map encR)
      rw [List.append_nil]
      exact hys
end
end Lw
set_option Elab.async false
set_option linter.all false
set_option maxRecDepth 100000
set_option maxHeartbeats 8000000
namespace Lw
open PySem PySem.Spec PyProof.Rows L2 Hb
theorem behind_le (ss : List Stp) : ∀ (lots : List (List Str)) (rs : List Int), (behindR ss rs lots).length ≤ lots.length
  | [], _ => Nat.le_refl _
  | ns :: lots, rs => by
    unfold behindR
    cases nextR ss rs ns with
    | none => exact Nat.zero_le _
    | some r => exact Nat.succ_le_succ (behind_le ss lots r)
def wrongOf (h : Hz) (lots : List (List Str)) : Option Int := if (behindR (allSteps h) [0] lots).length < lots.length then some ((behindR (allSteps h) [0] lots).length : Nat) else none
def whereOf (h : Hz) (lots : List (List Str)) : Option (List Int) := if (behindR (allSteps h) [0] lots).length < lots.length then none else some (((([0] : List Int) :: behindR (allSteps h) [0] lots).getLast (by simp)))
def intO : Option Int → V
  | none => .non
  | some i => .int i
structure NzIn (K : PySem.W.Frag) (C : Addr) (H : Hp) (p l : Addr) (h : Hz) (xs : List V) (lots : List (List Str)) : Prop where
  hh : HAt K C H p h
  dfew : h.doors.length ≤ 10
  hl : SqA K H l xs
  la : LotsAt K H xs lots
  ok : ∀ ns ∈ lots, LotOk ns
  few : lots.length ≤ 1000
def spWrong (K : PySem.W.Frag) (C : Addr) : Sp := fun vs H Q _ => ∃ (p l : Addr) (h : Hz) (xs : List V) (lots : List (List Str)), vs = [.ref p, .ref l] ∧ NzIn K C H p l h xs lots ∧ ∀ H', Same H H' → Q (intO (wrongOf h lots)) H'
def spPossible (K : PySem.W.Frag) (C : Addr) : Sp := fun vs H Q _ => ∃ (p l : Addr) (h : Hz) (xs : List V) (lots : List (List Str)), vs = [.ref p, .ref l] ∧ NzIn K C H p l h xs lots ∧ ∀ H', Same H H' → Q (.bl (decide (wrongOf h lots = none))) H'
def spWhere (K : PySem.W.Frag) (C : Addr) : Sp := fun vs H Q _ => ∃ (p l : Addr) (h : Hz) (xs : List V) (lots : List (List Str)), vs = [.ref p, .ref l] ∧ NzIn K C H p l h xs lots ∧ (whereOf h lots = none → ∀ H', Same H H' → Q .non H') ∧ ∀ rs, whereOf h lots = some rs → ∀ H' r, Same H H' → SqT K H' r (rs.map V.int) → Q (.ref r) H'
end Lw
set_option Elab.async false
set_option linter.all false
set_option maxRecDepth 100000
set_option maxHeartbeats 8000000
namespace Lw
open PySem PySem.Spec PyProof.Rows L2 Hb
section
variable {P : Program} {w : World} {K : PySem.W.Frag} {mg : Str → Option Value} {base : Heap}
theorem c_first_wrong (D : Df K mg "first_wrong" s_first_wrong) (T : Tx K mg) (c_rooms_behind : C8.Cal P w K mg base 5 "rooms_behind" (spBehind K (He.ga K "House")) []) : C8.Cal P w K mg base 6 "first_wrong" (spWrong K (He.ga K "House")) [] := by
  refine cal_mk D sc_first_wrong bd_first_wrong (fun vs H Q E h => ?_) fun f cdv A outer s H vs Q E hr h => ?_
  · obtain ⟨p, l, h, xs, lots, rfl, _⟩ := h
    rfl
  · obtain ⟨p, l, h, xs, lots, rfl, ni, k⟩ := h
    refine ⟨_, (pss_cons (ps_set (i := 2) sc_first_wrong.nd rfl (Or.inl rfl) (C8.pe_c c_rooms_behind hr (by decide) rfl (pa_cons (pv 0) (pa_cons (pv 1) pa_nil))))
 (pss_one (ps_ret (pe_ifExp (pt_cmpR op_lt (pe_callB call_len (by rfl) T.n_len (by decide +kernel) (pa_cons (pv 2) pa_nil)) (pe_callB call_len (by rfl) T.n_len (by decide +kernel) (pa_cons (pv 1) pa_nil)) (by first | exact nomark _ | rfl)) (pe_callB call_len (by rfl) T.n_len (by decide +kernel) (pa_cons (pv 2) pa_nil)) pe_non)))), ?_⟩
    refine ⟨_, rfl, _, rfl, p, l, h, xs, lots, rfl, ni.hh, ni.dfew, ni.hl, ni.la, ni.ok, ni.few, fun H1 q ys s1 nq hq tds => ?_⟩
    have yl := tds.length
    rw [List.length_map] at yl
    have ll := ni.la.len
    have hl1 := ni.hl.same s1
    refine ⟨_, rfl, .ref q, ys.length, rfl, .inl ⟨_, SqL.of hq, rfl⟩, _, rfl, .ref l, xs.length, rfl, lenA hl1, _, _, rfl, rfl, _, rfl, ?_⟩
    refine ite2 (fun c => ?_) (fun c => ?_)
    · have c' := of_decide_eq_true c
      refine ⟨_, rfl, .ref q, ys.length, rfl, .inl ⟨_, SqL.of hq, rfl⟩, ?_⟩
      have e : wrongOf h lots = some ((ys.length : Nat) : Int) := by
        unfold wrongOf
        rw [if_pos (by omega), yl]
      rw [e] at k
      exact k _ s1
    · have e : wrongOf h lots = none := if_neg fun z => c (decide_eq_true (by omega))
      rw [e] at k
      exact k _ s1
end
end Lw
set_option Elab.async false
set_option linter.all false
set_option maxRecDepth 100000
set_option maxHeartbeats 8000000
namespace Lw
open PySem PySem.Spec PyProof.Rows L2 Hb
section
variable {P : Program} {w : World} {K : PySem.W.Frag} {mg : Str → Option Value} {base : Heap}
theorem c_possible (D : Df K mg "possible" s_possible) (T : Tx K mg) (c_first_wrong : C8.Cal P w K mg base 6 "first_wrong" (spWrong K (He.ga K "House")) []) : C8.Cal P w K mg base 7 "possible" (spPossible K (He.ga K "House")) [] := by
  refine cal_mk D sc_possible bd_possible (fun vs H Q E h => ?_) fun f cdv A outer s H vs Q E hr h => ?_
  · obtain ⟨p, l, h, xs, lots, rfl, _⟩ := h
    rfl
  · obtain ⟨p, l, h, xs, lots, rfl, ni, k⟩ := h
    refine ⟨_, (pss_one (ps_ret (pe_cmpR op_isN (C8.pe_c c_first_wrong hr (by decide) rfl (pa_cons (pv 0) (pa_cons (pv 1) pa_nil))) pe_non (by first | exact nomark _ | rfl)))), ?_⟩
    refine ⟨_, rfl, _, rfl, p, l, h, xs, lots, rfl, ni, fun H1 s1 => ⟨rfl, ?_⟩⟩
    have q := k H1 s1
    cases e : wrongOf h lots with
    | none =>
      rw [e] at q
      exact q
    | some i =>
      rw [e] at q
      exact q
end
end Lw
set_option Elab.async false
set_option linter.all false
set_option maxRecDepth 100000
set_option maxHeartbeats 8000000
namespace Lw
open PySem PySem.Spec PyProof.Rows L2 Hb
section
variable {P : Program} {w : World} {K : PySem.W.Frag} {mg : Str → Option Value} {base : Heap}
theorem c_where (D : Df K mg "where" s_where) (T : Tx K mg) (c_rooms_behind : C8.Cal P w K mg base 5 "rooms_behind" (spBehind K (He.ga K "House")) []) : C8.Cal P w K mg base 6 "where" (spWhere K (He.ga K "House")) [] := by
  refine cal_mk D sc_where bd_where (fun vs H Q E h => ?_) fun f cdv A outer s H vs Q E hr h => ?_
  · obtain ⟨p, l, h, xs, lots, rfl, _⟩ := h
    rfl
  · obtain ⟨p, l, h, xs, lots, rfl, ni, k0, k1⟩ := h
    refine ⟨_, (pss_cons (ps_set (i := 2) sc_where.nd rfl (Or.inl rfl) (pe_op op_cat (pe_lst (pa_cons (pe_tup (pa_cons pe_int pa_nil)) pa_nil)) (C8.pe_c c_rooms_behind hr (by decide) rfl (pa_cons (pv 0) (pa_cons (pv 1) pa_nil)))))
 (pss_one (ps_ret (pe_ifExp (pt_cmpR op_gt (pe_callB call_len (by rfl) T.n_len (by decide +kernel) (pa_cons (pv 2) pa_nil)) (pe_callB call_len (by rfl) T.n_len (by decide +kernel) (pa_cons (pv 1) pa_nil)) (by first | exact nomark _ | rfl)) (pe_ix ix_list (pv 2) (pe_un un_neg pe_int) (fun _ _ => rfl)) pe_non)))), ?_⟩
    have line := sizeLine_eq
    refine ⟨by show 1 ≤ sizeLine; omega, fun t nt => ⟨by show 1 ≤ sizeLine; omega, fun g ng => ?_⟩⟩
    have s1 : Same H (upd H t (.tup [.int 0])) := Same.new nt
    have ht1 : SqT K (upd H t (.tup [.int 0])) t (([0] : List Int).map V.int) := SqT.of upd_same
    generalize upd H t (.tup [.int 0]) = H1 at s1 ht1 ng ⊢
    have s2 : Same H1 (upd H1 g (.lst [.ref t])) := Same.new ng
    have hg2 : upd H1 g (.lst [.ref t]) g = some (.lst [.ref t]) := upd_same
    generalize upd H1 g (.lst [.ref t]) = H2 at s2 hg2 ⊢
    have s12 := s1.trans s2
    refine ⟨_, rfl, _, rfl, p, l, h, xs, lots, rfl, ni.hh.same s12, ni.dfew, ni.hl.same s12, ni.la.same s12, ni.ok, ni.few, fun H3 q ys s3 nq hq tds => ?_⟩
    have yl := tds.length
    rw [List.length_map] at yl
    have bl := behind_le (allSteps h) lots [0]
    have few := ni.few
    have ll := ni.la.len
    refine ⟨g, q, _, _, rfl, rfl, s3 _ _ hg2, hq, by show 1 + ys.length ≤ sizeLine; omega, fun u nu => ?_⟩
    have s4 : Same H3 (upd H3 u (.lst ([.ref t] ++ ys))) := Same.new nu
    have hu4 : upd H3 u (.lst ([.ref t] ++ ys)) u = some (.lst ([.ref t] ++ ys)) := upd_same
    have s14 := (s12.trans s3).trans s4
    have td4 : TDs K (upd H3 u (.lst ([.ref t] ++ ys))) ([.ref t] ++ ys) ((([0] : List Int) :: behindR (allSteps h) [0] lots).map encR) := .cons (.tup (SqT.keep (Same.tk ((s2.trans s3).trans s4)) ht1) (tds_ints _)) (TDs.keep (Same.tk s4) tds)
    generalize upd H3 u (.lst ([.ref t] ++ ys)) = H4 at s4 hu4 s14 td4 ⊢
    have hl4 := ni.hl.same s14
    refine ⟨_, rfl, .ref u, ([V.ref t] ++ ys).length, rfl, .inl ⟨_, SqL.of hu4, rfl⟩, _, rfl, .ref l, xs.length, rfl, lenA hl4, _, _, rfl, rfl, _, rfl, ?_⟩
    have cl : ([V.ref t] ++ ys).length = ys.length + 1 := by rw [List.length_append]; exact Nat.add_comm 1 _
    refine ite2 (fun c => ?_) (fun c => ?_)
    · have c' := of_decide_eq_true c
      rw [cl] at c'
      have e : whereOf h lots = some ((([0] : List Int) :: behindR (allSteps h) [0] lots).getLast (by simp)) := if_neg (by omega)
      obtain ⟨ws, v, ew⟩ : ∃ ws v, [V.ref t] ++ ys = ws ++ [v] := ⟨_, _, (List.dropLast_concat_getLast (by simp)).symm⟩
      obtain ⟨ms, m, em⟩ : ∃ ms m, (([0] : List Int) :: behindR (allSteps h) [0] lots) = ms ++ [m] := ⟨_, _, (List.dropLast_concat_getLast (by simp)).symm⟩
      have em2 : (([0] : List Int) :: behindR (allSteps h) [0] lots).getLast (by simp) = m := by
        simp only [em, List.getLast_append, List.getLast_singleton]
        simp
      rw [em2] at e
      rw [ew] at hu4 td4
      rw [em, List.map_append] at td4
      refine ⟨_, rfl, 1, rfl, u, _, -1, _, rfl, rfl, SqL.of hu4, atI_last _ _, ?_⟩
      have tl := td4.length
      rw [List.length_append, List.length_append, List.length_map] at tl
      have wl : ws.length = ms.length := Nat.succ.inj tl
      obtain ⟨d, hd, tv⟩ := TDs.at td4 (i := ws.length) (v := v) (by simp)
      rw [wl, List.getElem?_append_right (by rw [List.length_map]; exact Nat.le_refl _), List.length_map, Nat.sub_self] at hd
      obtain rfl := Option.some.inj hd
      obtain ⟨r, vs', rfl, hr', tr⟩ := TD.tup_inv tv
      obtain rfl := TDs.ints_inv tr
      exact k1 _ e _ r s14 hr'
    · have e : whereOf h lots = none := if_pos (by
        have : ¬ (xs.length : Int) < (([V.ref t] ++ ys).length : Nat) := fun z => c (decide_eq_true z)
        rw [cl] at this
        omega)
      exact k0 e _ s14
end
end Lw
set_option Elab.async false
set_option linter.all false
set_option maxRecDepth 100000
set_option maxHeartbeats 8000000
namespace Lw
open PySem PySem.Spec PyProof.Rows L2 Hb
def nmOk (ns : List Str) : Option Str → Option Str
  | some n => if n ∈ ns then none else some n
  | none => none
def lessH (h : Hz) (ns : List Str) : Hz := ⟨h.rooms, h.doors.map fun x => (x.1, x.2.1, nmOk ns x.2.2), (sortF h.floors).filter fun x => decide (x.2 ∉ ns), sortI h.cradles⟩
theorem flat_strsM (ns : List Str) : (ns.map V.str).all flatV = true := by
  induction ns with
  | nil => rfl
  | cons n ns ih => rw [List.map_cons, List.all_cons, ih]; rfl
theorem inV_non (ns : List Str) : inV .non (ns.map V.str) = false := by
  induction ns with
  | nil => rfl
  | cons n ns ih =>
    unfold inV at ih ⊢
    rw [List.map_cons, List.any_cons, ih]
    rfl
theorem less_in {h : Hz} (hi : Hin h) (ns : List Str) : Hin (lessH h ns) := by
  have sub : (lessH h ns).floors.Sublist (sortF h.floors) := List.filter_sublist
  have pm := sortF_perm h.floors
  refine ⟨hi.r1, fun x hx => ?_, fun x hx => hi.f x (pm.mem_iff.mp (sub.subset hx)), ((pm.map Prod.fst).nodup_iff.mpr hi.fnd).sublist (sub.map _), fun x hx => hi.c x ((sortI_perm _).mem_iff.mp hx), (sortI_perm _).nodup_iff.mpr hi.cnd, ?_, ?_, ?_⟩
  · obtain ⟨y, hy, rfl⟩ := List.mem_map.mp hx
    obtain ⟨a, b, c, e⟩ := hi.d y hy
    refine ⟨a, b, c, fun n hn => ?_⟩
    cases q : y.2.2 with
    | none => simp [q, nmOk] at hn
    | some m =>
      simp only [q, nmOk] at hn
      by_cases hm : m ∈ ns
      · rw [if_pos hm] at hn; cases hn
      · rw [if_neg hm] at hn
        cases hn
        exact e _ q
  · show (h.doors.map _).length ≤ 1000
    rw [List.length_map]; exact hi.fewd
  · exact Nat.le_trans sub.length_le (by rw [pm.length_eq]; exact hi.fewf)
  · show (sortI h.cradles).length ≤ 1000
    rw [(sortI_perm _).length_eq]; exact hi.fewc
end Lw
set_option Elab.async false
set_option linter.all false
set_option maxRecDepth 100000
set_option maxHeartbeats 8000000
namespace Lw
open PySem PySem.Spec PyProof.Rows L2 Hb
def spMended (K : PySem.W.Frag) (C : Addr) : Sp := fun vs H Q _ => ∃ (p l : Addr) (h : Hz) (ns : List Str), vs = [.ref p, .ref l] ∧ HAt K C H p h ∧ Hin h ∧ (SqL K H l (ns.map V.str) ∨ SqT K H l (ns.map V.str)) ∧ ns.length ≤ 1000 ∧ ∀ H' q, Same H H' → H q = none → HAt K C H' q (lessH h ns) → Q (.ref q) H'
section
variable {P : Program} {w : World} {K : PySem.W.Frag} {mg : Str → Option Value} {base : Heap}
theorem ok_mended {f : Addr} {fd : FuncData} (F : FunD K "mended" "House.mended" (defArgs s_House_mended) (defBody s_House_mended) (defScope s_House_mended) [] [] f fd) (T : Tx K mg) (m_House : C8.Mak P w K mg base 5 "House" (He.ga K "House") (spHInit K (He.ga K "House")) []) :
    FnOk P w K mg base CX0 7 f fd ["self", "names"] (spMended K (He.ga K "House")) := by
  refine F.ok sc_House_mended (fun vs H Q E h => ?_) fun cdv A outer s H vs Q E hr h => ?_
  · obtain ⟨p, l, h, ns, rfl, _⟩ := h
    rfl
  · obtain ⟨p, l, h, ns, rfl, hp, hi, hl, few, k⟩ := h
    suffices go : ∃ t, PSs (cxOf CX0 P w K mg base N_House_mended "House.mended" (defScope s_House_mended) f cdv A outer s H E).nox (defBody s_House_mended) t ∧ t { nx := fun _ H' => Q .non H', rt := Q } (start N_House_mended [.ref p, .ref l]) H by
      obtain ⟨t, h1, h2⟩ := go
      exact ⟨t, h1.nox, h2⟩
    refine ⟨_, (pss_cons (ps_setLc (i := 2) (own := [("one", 3), ("other", 4), ("noise", 5)]) (g := (gTup K 3 (gCons (gName 3) (gCons (gName 4) (gCons (gName 5) gNil))))) (by rfl) sc_House_mended.nd rfl rfl (sw_true rfl rfl rfl (by decide +kernel)) (pi_tup (pe_fld (pv 0) rfl)) (blkOk_by (N := N_House_mended) (sc := defScope s_House_mended) (by decide +kernel)) (fun _ _ _ _ _ => (pg_tup (by rfl) (pgs_cons (pg_name (i := 3) sc_House_mended.nd rfl (Or.inl rfl)) (pgs_cons (pg_name (i := 4) sc_House_mended.nd rfl (Or.inl rfl)) (pgs_cons (pg_name (i := 5) sc_House_mended.nd rfl (Or.inl rfl)) pgs_nil))))) (fun _ _ _ _ _ => pts_nil) (fun _ _ _ _ _ => (pe_tup (pa_cons (pv 3) (pa_cons (pv 4) (pa_cons (pe_ifExp (pt_cmpR (show OpR _ _ (rIn K false) from op_in_seq) (pv 5) (pv 1) (by first | exact nomark _ | rfl)) pe_non (pv 5)) pa_nil))))))
 (pss_cons (ps_setLc (i := 6) (own := [("noise", 5), ("room", 7)]) (g := (gTup K 2 (gCons (gName 7) (gCons (gName 5) gNil)))) (by rfl) sc_House_mended.nd rfl rfl (sw_true rfl rfl rfl (by decide +kernel)) (pi_tup (pe_fld (pv 0) rfl)) (blkOk_by (N := N_House_mended) (sc := defScope s_House_mended) (by decide +kernel)) (fun _ _ _ _ _ => (pg_tup (by rfl) (pgs_cons (pg_name (i := 7) sc_House_mended.nd rfl (Or.inl rfl)) (pgs_cons (pg_name (i := 5) sc_House_mended.nd rfl (Or.inl rfl)) pgs_nil)))) (fun _ _ _ _ _ => (pts_one (pt_cmpR (show OpR _ _ (rIn K true) from op_notIn_seq) (pv 5) (pv 1) (by first | exact nomark _ | rfl)))) (fun _ _ _ _ _ => (pe_tup (pa_cons (pv 7) (pa_cons (pv 5) pa_nil)))))
 (pss_one (ps_ret (C8.pe_mk m_House hr (by decide) rfl (pa_cons (pe_fld (pv 0) rfl) (pa_cons (pv 2) (pa_cons (pv 6) (pa_cons (pe_fld (pv 0) rfl) pa_nil))))))))), ?_⟩
    obtain ⟨dx, a, b, c, xs, ys, hO, sa, ta, sb, tb, sc⟩ := hp
    have line := sizeLine_eq
    have xl : xs.length = h.doors.length := by rw [ta.length, List.length_map]
    have yl : ys.length = (sortF h.floors).length := by rw [tb.length, List.length_map]
    have yfew : (sortF h.floors).length ≤ 1000 := by rw [(sortF_perm _).length_eq]; exact hi.fewf
    have xfew := hi.fewd
    refine ⟨_, rfl, p, _, dx, _, _, rfl, hO, T.cls_House, T.a_doors, rfl, a, rfl, ⟨_, sa⟩, fun D nD => lc_tup (xs := xs) (fun i H' => Same H H' ∧ ∃ acc, H' D = some (.lst acc) ∧ TDs K H' acc (((h.doors.take i).map fun x => (x.1, x.2.1, nmOk ns x.2.2)).map Hb.encD)) ⟨Same.new nD, [], upd_same, .nil⟩
      (fun i H' _ e => SqT.keep (Same.tk e.1) sa) (fun i x H' hx ⟨s1, acc, hD, td⟩ => ?_) (fun H1 ⟨s1, acc, hD, td⟩ => ?_)⟩
    · obtain ⟨⟨da, db, dn⟩, hd, tdx⟩ := TDs.at_map (TDs.keep (Same.tk s1) ta) hx
      obtain ⟨t, rfl, ht⟩ := TD.door_inv tdx
      have al := td.length
      rw [List.length_map, List.length_map, List.length_take] at al
      have put : ∀ q, H' q = none → ∃ acc', upd H' q (.tup [.int da, .int db, nzV (nmOk ns dn)]) D = some (.lst acc') ∧ acc'.length < sizeLine ∧ (Same H (upd (upd H' q (.tup [.int da, .int db, nzV (nmOk ns dn)])) D (.lst (acc' ++ [.ref q]))) ∧
          ∃ acc2, upd (upd H' q (.tup [.int da, .int db, nzV (nmOk ns dn)])) D (.lst (acc' ++ [.ref q])) D = some (.lst acc2) ∧ TDs K (upd (upd H' q (.tup [.int da, .int db, nzV (nmOk ns dn)])) D (.lst (acc' ++ [.ref q]))) acc2 (((h.doors.take (i + 1)).map fun x => (x.1, x.2.1, nmOk ns x.2.2)).map Hb.encD)) := fun q nq => by
        have s2 : Same H' (upd H' q (.tup [.int da, .int db, nzV (nmOk ns dn)])) := Same.new nq
        have hD2 := s2 _ _ hD
        refine ⟨acc, hD2, by omega, Hb.Same.acc (s1.trans s2) nD, acc ++ [.ref q], upd_same, ?_⟩
        rw [List.take_add_one, hd, List.map_append, List.map_append]
        exact TDs.app (TDs.keep (tk_acc hD2) (TDs.keep (Same.tk s2) td)) (.cons (TD.keep (tk_acc hD2) (TD.door (x := (da, db, nmOk ns dn)) (SqT.of upd_same))) .nil)
      refine ⟨t, _, rfl, ht, rfl, _, _, rfl, _, _, rfl, _, _, rfl, rfl, rfl, yes_ ⟨_, rfl, _, rfl, _, rfl, _, rfl, ?_⟩⟩
      have hl' : SqL K H' l (ns.map V.str) ∨ SqT K H' l (ns.map V.str) := hl.imp (Same.seq s1) (SqT.keep (Same.tk s1))
      cases dn with
      | none =>
        refine ⟨l, _, rfl, hl', rfl, flat_strsM ns, _, rfl, ?_⟩
        rw [if_neg Bool.false_ne_true]
        show if inV V.non (ns.map V.str) = true then _ else _
        rw [inV_non]
        exact iteF ⟨_, rfl, by show 3 ≤ sizeLine; decide, fun q nq => put q nq⟩
      | some w =>
        refine ⟨l, _, rfl, hl', rfl, flat_strsM ns, _, rfl, ?_⟩
        rw [if_neg Bool.false_ne_true]
        show if inV (V.str w) (ns.map V.str) = true then _ else _
        rw [inV_strs]
        by_cases hw : w ∈ ns
        · rw [show nmOk ns (some w) = none from if_pos hw] at put
          rw [decide_eq_true hw]
          exact iteT ⟨by show 3 ≤ sizeLine; decide, fun q nq => put q nq⟩
        · rw [show nmOk ns (some w) = some w from if_neg hw] at put
          rw [decide_eq_false hw]
          exact iteF ⟨_, rfl, by show 3 ≤ sizeLine; decide, fun q nq => put q nq⟩
    · rw [xl, List.take_length] at td
      refine ⟨_, rfl, p, _, dx, _, _, rfl, s1 _ _ hO, T.cls_House, T.a_floors, rfl, b, rfl, ⟨_, SqT.keep (Same.tk s1) sb⟩, fun D2 nD2 => lc_tup (xs := ys) (fun i H' => Same H1 H' ∧ ∃ acc, H' D2 = some (.lst acc) ∧ TDs K H' acc ((((sortF h.floors).take i).filter fun x => decide (x.2 ∉ ns)).map encF)) ⟨Same.new nD2, [], upd_same, .nil⟩
        (fun i H' _ e => SqT.keep (Same.tk (s1.trans e.1)) sb) (fun i x H' hx ⟨s2, acc2, hD2, td2⟩ => ?_) (fun H2 ⟨s2, acc2, hD2, td2⟩ => ?_)⟩
      · have s12 := s1.trans s2
        obtain ⟨⟨fr, fw⟩, hf, tdx⟩ := TDs.at_map (TDs.keep (Same.tk s12) tb) hx
        obtain ⟨t, rfl, ht⟩ := TD.floor_inv tdx
        have al := td2.length
        rw [List.length_map] at al
        have al2 : ((((sortF h.floors).take i).filter fun x => decide (x.2 ∉ ns))).length ≤ 1000 := Nat.le_trans (List.length_filter_le _ _) (by rw [List.length_take]; omega)
        have hl' : SqL K H' l (ns.map V.str) ∨ SqT K H' l (ns.map V.str) := hl.imp (Same.seq s12) (SqT.keep (Same.tk s12))
        have nx : ((sortF h.floors).take (i + 1)).filter (fun x => decide (x.2 ∉ ns)) = ((sortF h.floors).take i).filter (fun x => decide (x.2 ∉ ns)) ++ if fw ∈ ns then [] else [(fr, fw)] := by
          rw [List.take_add_one, hf, List.filter_append]
          by_cases hw : fw ∈ ns <;> simp [hw]
        refine ⟨t, _, rfl, ht, rfl, _, _, rfl, _, _, rfl, rfl, rfl, ?_⟩
        refine ⟨_, rfl, _, rfl, l, _, rfl, hl', rfl, flat_strsM ns, _, rfl, ?_⟩
        rw [if_pos rfl, inV_strs]
        by_cases hw : fw ∈ ns
        · rw [decide_eq_true hw]
          rw [if_pos hw, List.append_nil] at nx
          refine iteF ⟨s2, acc2, hD2, ?_⟩
          rw [nx]
          exact td2
        · rw [decide_eq_false hw]
          rw [if_neg hw] at nx
          refine iteT ⟨_, rfl, _, rfl, by show 2 ≤ sizeLine; decide, fun q nq => ?_⟩
          have s3 : Same H' (upd H' q (.tup [.int fr, .str fw])) := Same.new nq
          have hD3 := s3 _ _ hD2
          refine ⟨acc2, hD3, by omega, Hb.Same.acc (s2.trans s3) nD2, acc2 ++ [.ref q], upd_same, ?_⟩
          rw [nx, List.map_append]
          exact TDs.app (TDs.keep (tk_acc hD3) (TDs.keep (Same.tk s3) td2)) (.cons (TD.keep (tk_acc hD3) (TD.floor (x := (fr, fw)) (SqT.of upd_same))) .nil)
      · rw [yl, List.take_length] at td2
        have s12 := s1.trans s2
        refine ⟨_, rfl, p, _, dx, _, _, rfl, s12 _ _ hO, T.cls_House, T.a_rooms, rfl, _, rfl, _, rfl, _, rfl, p, _, dx, _, _, rfl, s12 _ _ hO, T.cls_House, T.a_cradles, rfl, ?_⟩
        intro x dx' nx ndx ne
        have s3 : Same H2 (upd (upd H2 dx' (.own x)) x (.ins (He.ga K "House") dx' [])) := fun b u e => by
          rw [upd_ne (ne_of_none e nx), upd_ne (ne_of_none e ndx)]
          exact e
        have tk := Same.tk s3
        have s13 := s12.trans s3
        exact ⟨x, dx', D, D2, c, acc, acc2, lessH h ns, rfl, upd_same, .inl (SqL.of (s3 _ _ (s2 _ _ hD))), TDs.keep (Same.tk (s2.trans s3)) td, .inl (SqL.of (s3 _ _ hD2)), TDs.keep tk td2, .inr (SqT.keep (Same.tk s13) sc), less_in hi ns,
          fun H' kp hz => ⟨rfl, k H' x (fun b u e => kp b u (ne_of_none (s12 _ _ e) nx) (s13 b u e)) (s12.free nx) hz⟩⟩
end
end Lw
set_option Elab.async false
set_option linter.all false
set_option maxRecDepth 100000
set_option maxHeartbeats 8000000
namespace Lw
open PySem PySem.Spec PyProof.Rows L2 Hb
def nzOf (h : Hz) : List Str := h.doors.filterMap (fun x => x.2.2) ++ (sortF h.floors).map Prod.snd
def spNoisesH (K : PySem.W.Frag) (C : Addr) : Sp := fun vs H Q _ => ∃ (p : Addr) (h : Hz), vs = [.ref p] ∧ HAt K C H p h ∧ Hin h ∧ (nzOf h).length < 64 ∧
  ∀ H' t (ns : List Str), Same H H' → H t = none → SqT K H' t (ns.map V.str) → ns.Nodup → (∀ k, k ∈ ns ↔ k ∈ nzOf h) → sortedS ns = true → Q (.ref t) H'
section
variable {P : Program} {w : World} {K : PySem.W.Frag} {mg : Str → Option Value} {base : Heap}
theorem ok_noises {f : Addr} {fd : FuncData} (F : FunD K "noises" "House.noises" (defArgs s_House_noises) (defBody s_House_noises) (defScope s_House_noises) [] [] f fd) (T : Tx K mg) : FnOk P w K mg base CX0 1 f fd ["self"] (spNoisesH K (He.ga K "House")) := by
  refine F.ok sc_House_noises (fun vs H Q E h => ?_) fun cdv A outer s H vs Q E hr h => ?_
  · obtain ⟨p, h, rfl, _⟩ := h
    rfl
  · obtain ⟨p, h, rfl, hp, hi, few, k⟩ := h
    obtain ⟨dx, a, b, c, xs, ys, hO, sa, ta, sb, tb, sc⟩ := hp
    have line := sizeLine_eq
    have xl : xs.length = h.doors.length := by rw [ta.length, List.length_map]
    have yl : ys.length = (sortF h.floors).length := by rw [tb.length, List.length_map]
    have yfew : (sortF h.floors).length ≤ 1000 := by rw [(sortF_perm _).length_eq]; exact hi.fewf
    suffices go : ∃ t, PSs (cxOf CX0 P w K mg base N_House_noises "House.noises" (defScope s_House_noises) f cdv A outer s H E).nox (defBody s_House_noises) t ∧ t { nx := fun _ H' => Q .non H', rt := Q } (start N_House_noises [.ref p]) H by
      obtain ⟨t, h1, h2⟩ := go
      exact ⟨t, h1.nox, h2⟩
    refine ⟨_, (pss_cons (ps_setLc (i := 1) (own := [("one", 2), ("other", 3), ("noise", 4)]) (g := (gTup K 3 (gCons (gName 2) (gCons (gName 3) (gCons (gName 4) gNil))))) (by rfl) sc_House_noises.nd rfl rfl (sw_true rfl rfl rfl (by decide +kernel)) (pi_tup (pe_fld (pv 0) rfl)) (blkOk_by (N := N_House_noises) (sc := defScope s_House_noises) (by decide +kernel)) (fun _ _ _ _ _ => (pg_tup (by rfl) (pgs_cons (pg_name (i := 2) sc_House_noises.nd rfl (Or.inl rfl)) (pgs_cons (pg_name (i := 3) sc_House_noises.nd rfl (Or.inl rfl)) (pgs_cons (pg_name (i := 4) sc_House_noises.nd rfl (Or.inl rfl)) pgs_nil))))) (fun _ _ _ _ _ => (pts_one (pt_cmpR op_notN (pv 4) pe_non (by first | exact nomark _ | rfl)))) (fun _ _ _ _ _ => (pv 4)))
 (pss_cons (ps_setLc (i := 5) (own := [("noise", 4), ("room", 6)]) (g := (gTup K 2 (gCons (gName 6) (gCons (gName 4) gNil)))) (by rfl) sc_House_noises.nd rfl rfl (sw_true rfl rfl rfl (by decide +kernel)) (pi_tup (pe_fld (pv 0) rfl)) (blkOk_by (N := N_House_noises) (sc := defScope s_House_noises) (by decide +kernel)) (fun _ _ _ _ _ => (pg_tup (by rfl) (pgs_cons (pg_name (i := 6) sc_House_noises.nd rfl (Or.inl rfl)) (pgs_cons (pg_name (i := 4) sc_House_noises.nd rfl (Or.inl rfl)) pgs_nil)))) (fun _ _ _ _ _ => pts_nil) (fun _ _ _ _ _ => (pv 4)))
 (pss_one (ps_ret (pe_callTy call_tuple_of (by rfl) T.n_tuple (by decide +kernel) (pa_cons (Hb.pe_sortSet rfl T.n_sorted rfl T.n_set (pe_op op_cat (pv 1) (pv 5))) pa_nil)))))), ?_⟩
    refine ⟨_, rfl, p, _, dx, _, _, rfl, hO, T.cls_House, T.a_doors, rfl, a, rfl, ⟨_, sa⟩, fun D nD => lc_tup (xs := xs) (fun i H' => Same H H' ∧ H' D = some (.lst (((h.doors.take i).filterMap (fun x => x.2.2)).map V.str))) ⟨Same.new nD, upd_same⟩
      (fun i H' _ e => SqT.keep (Same.tk e.1) sa) (fun i x H' hx ⟨s1, hD⟩ => ?_) (fun H1 ⟨s1, hD⟩ => ?_)⟩
    · obtain ⟨⟨da, db, dn⟩, hd, tdx⟩ := TDs.at_map (TDs.keep (Same.tk s1) ta) hx
      obtain ⟨t, rfl, ht⟩ := TD.door_inv tdx
      refine ⟨t, _, rfl, ht, rfl, _, _, rfl, _, _, rfl, _, _, rfl, rfl, rfl, ?_⟩
      have nx : (h.doors.take (i + 1)).filterMap (fun x => x.2.2) = (h.doors.take i).filterMap (fun x => x.2.2) ++ dn.toList := by
        rw [List.take_add_one, hd, List.filterMap_append]
        cases dn <;> rfl
      have al : ((h.doors.take i).filterMap (fun x => x.2.2)).length ≤ i := Nat.le_trans (List.length_filterMap_le _ _) (by rw [List.length_take]; omega)
      have al2 : i < xs.length := (List.getElem?_eq_some_iff.mp hx).1
      have al3 := hi.fewd
      refine ⟨_, rfl, rfl, _, rfl, ?_⟩
      cases dn with
      | none =>
        refine iteF ⟨s1, ?_⟩
        rw [nx, hD]
        simp
      | some n =>
        refine iteT ⟨_, rfl, _, hD, by rw [List.length_map]; omega, Hb.Same.acc s1 nD, ?_⟩
        rw [upd_same, nx]
        simp [nzV]
    · rw [xl, List.take_length] at hD
      refine ⟨_, rfl, p, _, dx, _, _, rfl, s1 _ _ hO, T.cls_House, T.a_floors, rfl, b, rfl, ⟨_, SqT.keep (Same.tk s1) sb⟩, fun D2 nD2 => lc_tup (xs := ys) (fun i H' => Same H1 H' ∧ H' D2 = some (.lst ((((sortF h.floors).take i).map Prod.snd).map V.str))) ⟨Same.new nD2, upd_same⟩
        (fun i H' _ e => SqT.keep (Same.tk (s1.trans e.1)) sb) (fun i x H' hx ⟨s2, hD2⟩ => ?_) (fun H2 ⟨s2, hD2⟩ => ?_)⟩
      · have s12 := s1.trans s2
        obtain ⟨⟨fr, fw⟩, hf, tdx⟩ := TDs.at_map (TDs.keep (Same.tk s12) tb) hx
        obtain ⟨t, rfl, ht⟩ := TD.floor_inv tdx
        have al2 : i < ys.length := (List.getElem?_eq_some_iff.mp hx).1
        have al3 := yfew
        refine ⟨t, _, rfl, ht, rfl, _, _, rfl, _, _, rfl, rfl, rfl, yes_ ⟨_, rfl, _, hD2, by rw [List.length_map, List.length_map, List.length_take]; omega, Hb.Same.acc s2 nD2, ?_⟩⟩
        rw [upd_same, List.take_add_one, hf]
        simp
      · rw [yl, List.take_length] at hD2
        have s12 := s1.trans s2
        have few2 : (h.doors.filterMap (fun x => x.2.2)).length + ((sortF h.floors).map Prod.snd).length < 64 := by rw [← List.length_append]; exact few
        refine ⟨_, rfl, _, rfl, D, D2, _, _, rfl, rfl, s2 _ _ hD, hD2, by rw [List.length_map, List.length_map]; omega, fun q nq => ⟨q, nzOf h, rfl, SqL.of (by rw [upd_same, nzOf, List.map_append]), few, fun ns r nd mem so nr => ⟨r, _, rfl, .inl ⟨SqL.of upd_same, fun t nt => ?_⟩⟩⟩⟩
        have s3 := (s12.trans (Same.new nq (o := .lst ((h.doors.filterMap (fun x => x.2.2)).map V.str ++ ((sortF h.floors).map Prod.snd).map V.str)))).trans (Same.new nr (o := .lst (ns.map V.str)))
        exact k _ t ns (s3.trans (Same.new nt)) (s3.free nt) (SqT.of upd_same) nd mem so
end
end Lw
set_option Elab.async false
set_option linter.all false
set_option maxRecDepth 100000
set_option maxHeartbeats 8000000
namespace Lw
open PySem PySem.Spec PyProof.Rows L2 Hb
theorem cut_take (xs : List V) {i : Int} (h0 : 0 ≤ i) : cutV xs none (some i) = xs.take i.toNat := by
  have a : ¬ i < 0 := by omega
  simp [cutV, HT.sIx, a]
def four : List Str := ["gate", "plnk", "a", "drip"]
theorem noise_in {ws : List Str} {v : V} (h : v ∈ [V.non, .non] ++ ws.map V.str) : ∃ nz : Option Str, v = nzV nz ∧ ∀ n, nz = some n → n ∈ ws := by
  rcases List.mem_append.mp h with h | h
  · refine ⟨none, ?_, fun n e => by cases e⟩
    simp only [List.mem_cons, List.not_mem_nil, or_false, or_self] at h
    exact h
  · obtain ⟨x, hx, rfl⟩ := List.mem_map.mp h
    exact ⟨some x, rfl, fun n e => by cases e; exact hx⟩
theorem four_ok : ∀ w ∈ four, PyData.strOk w = true := by decide +kernel
theorem four_nm : ∀ w ∈ four, nameB w = true ∧ w.length ≤ 10 := by decide +kernel
theorem four_nd : four.Nodup := by decide +kernel
/-- a house drawn, in lists -/
structure HLs (K : PySem.W.Frag) (g : Addr) (H : Hp) (o : Addr) (h : Hz) (a b c : Addr) (xs ys : List V) : Prop where
  ho : SqT K H o [.int h.rooms, .ref a, .ref b, .ref c]
  ha : H a = some (.lst xs)
  tx : TDs K H xs (h.doors.map encD)
  hb : H b = some (.lst ys)
  ty : TDs K H ys (h.floors.map encF)
  hc : H c = some (.lst (h.cradles.map V.int))
  ga : a ≠ g
  gb : b ≠ g
  gc : c ≠ g
def HLo (K : PySem.W.Frag) (g : Addr) (H : Hp) (o : Addr) (h : Hz) : Prop := ∃ a b c xs ys, HLs K g H o h a b c xs ys
theorem HLs.same {K : PySem.W.Frag} {g o : Addr} {H H' : Hp} {h : Hz} {a b c : Addr} {xs ys : List V} (x : HLs K g H o h a b c xs ys) (s : Same H H') : HLs K g H' o h a b c xs ys :=
  ⟨SqT.keep (Same.tk s) x.ho, s _ _ x.ha, TDs.keep (Same.tk s) x.tx, s _ _ x.hb, TDs.keep (Same.tk s) x.ty, s _ _ x.hc, x.ga, x.gb, x.gc⟩
theorem HLs.kp {K : PySem.W.Frag} {d g o : Addr} {H H' : Hp} {h : Hz} {a b c : Addr} {xs ys : List V} (x : HLs K g H o h a b c xs ys) (dl : Feed d g H) (k : Kp d g H H') : HLs K g H' o h a b c xs ys := by
  have tk := dl.tk k
  have nd : ∀ {p : Addr} {zs : List V}, H p = some (.lst zs) → p ≠ d := fun e => dl.ne_d e (by intro kvs q; cases q)
  exact ⟨SqT.keep tk x.ho, k _ _ (nd x.ha) x.ga x.ha, TDs.keep tk x.tx, k _ _ (nd x.hb) x.gb x.hb, TDs.keep tk x.ty, k _ _ (nd x.hc) x.gc x.hc, x.ga, x.gb, x.gc⟩
/-- another list is changed -/
theorem HLs.put {K : PySem.W.Frag} {g o q : Addr} {H : Hp} {h : Hz} {a b c : Addr} {xs ys us vs : List V} (x : HLs K g H o h a b c xs ys) (e : H q = some (.lst us)) (na : a ≠ q) (nb : b ≠ q) (nc : c ≠ q) : HLs K g (upd H q (.lst vs)) o h a b c xs ys := by
  have tk := tk_acc (ys := vs) e
  exact ⟨SqT.keep tk x.ho, by rw [upd_ne na]; exact x.ha, TDs.keep tk x.tx, by rw [upd_ne nb]; exact x.hb, TDs.keep tk x.ty, by rw [upd_ne nc]; exact x.hc, x.ga, x.gb, x.gc⟩
theorem HLo.same {K : PySem.W.Frag} {g o : Addr} {H H' : Hp} {h : Hz} (x : HLo K g H o h) (s : Same H H') : HLo K g H' o h := by
  obtain ⟨a, b, c, xs, ys, x⟩ := x
  exact ⟨a, b, c, xs, ys, x.same s⟩
theorem HLo.kp {K : PySem.W.Frag} {d g o : Addr} {H H' : Hp} {h : Hz} (x : HLo K g H o h) (dl : Feed d g H) (k : Kp d g H H') : HLo K g H' o h := by
  obtain ⟨a, b, c, xs, ys, x⟩ := x
  exact ⟨a, b, c, xs, ys, x.kp dl k⟩
def spNames : Sp := fun vs H Q _ => vs = [] ∧ ∀ (H' : Hp) (p : Addr), Same H H' → H p = none → H' p = some (.lst (four.map V.str)) → Q (.ref p) H'
def spFHouse (K : PySem.W.Frag) : Sp := fun vs H Q _ => ∃ (d g : Addr) (most many : Int), vs = [.ref d, .int most, .int many] ∧ Feed d g H ∧ 2 ≤ most ∧ most ≤ 6 ∧ 0 ≤ many ∧ many ≤ 4 ∧
  ∀ (H' : Hp) (o : Addr) (h : Hz), Feed d g H' → Kp d g H H' → H o = none → HLo K g H' o h → Hok h most (most + 1) (four.take many.toNat) → 2 ≤ h.rooms → Q (.ref o) H'
theorem Feed.kfree {d g p : Addr} {H H' : Hp} (x : Feed d g H') (k : Kp d g H H') (n : H' p = none) : H p = none := by
  obtain ⟨a, b⟩ := x.free n
  cases e : H p with
  | none => rfl
  | some o =>
    rw [k p o a b e] at n
    cases n
/-- what stands while a house is drawn -/
structure FI (K : PySem.W.Frag) (d g F G t : Addr) (nv : List V) (H0 H : Hp) (ds : List Dr) (fs : List Fl) : Prop where
  dl : Feed d g H
  kp : Kp d g H0 H
  hF : ∃ vs, H F = some (.lst vs) ∧ TDs K H vs (ds.map encD)
  hG : ∃ vs, H G = some (.lst vs) ∧ TDs K H vs (fs.map encF)
  hN : H t = some (.lst nv)
  nF : H0 F = none
  nG : H0 G = none
  FG : F ≠ G
  Ft : F ≠ t
  Gt : G ≠ t
  Fd : F ≠ d ∧ F ≠ g
  Gd : G ≠ d ∧ G ≠ g
  td : t ≠ d ∧ t ≠ g
section
variable {K : PySem.W.Frag} {d g F G t : Addr} {nv : List V} {H0 H H' : Hp} {ds : List Dr} {fs : List Fl}
theorem FI.go (x : FI K d g F G t nv H0 H ds fs) (k : Kp d g H H') (dl : Feed d g H') : FI K d g F G t nv H0 H' ds fs := by
  have tk := x.dl.tk k
  obtain ⟨vs, h1, h2⟩ := x.hF
  obtain ⟨us, h3, h4⟩ := x.hG
  exact ⟨dl, x.kp.trans k, ⟨vs, k _ _ x.Fd.1 x.Fd.2 h1, TDs.keep tk h2⟩, ⟨us, k _ _ x.Gd.1 x.Gd.2 h3, TDs.keep tk h4⟩, k _ _ x.td.1 x.td.2 x.hN, x.nF, x.nG, x.FG, x.Ft, x.Gt, x.Fd, x.Gd, x.td⟩
theorem FI.same (x : FI K d g F G t nv H0 H ds fs) (s : Same H H') : FI K d g F G t nv H0 H' ds fs := x.go (Hb.Same.kp s) (x.dl.same s)
theorem FI.addD (x : FI K d g F G t nv H0 H ds fs) {vs : List V} {u : Addr} {e : Dr} (h1 : H F = some (.lst vs)) (h2 : TDs K H vs (ds.map encD)) (hu : SqT K H u [.int e.1, .int e.2.1, nzV e.2.2]) : FI K d g F G t nv H0 (upd H F (.lst (vs ++ [.ref u]))) (ds ++ [e]) fs := by
  have tk := tk_acc (ys := vs ++ [.ref u]) h1
  obtain ⟨us, h3, h4⟩ := x.hG
  refine ⟨x.dl.set x.Fd.1 x.Fd.2, x.kp.acc x.nF, ⟨_, upd_same, ?_⟩, ⟨us, by rw [upd_ne x.FG.symm]; exact h3, TDs.keep tk h4⟩, by rw [upd_ne x.Ft.symm]; exact x.hN, x.nF, x.nG, x.FG, x.Ft, x.Gt, x.Fd, x.Gd, x.td⟩
  rw [List.map_append]
  exact TDs.app (TDs.keep tk h2) (.cons (TD.keep tk (TD.door (x := e) hu)) .nil)
theorem FI.addF (x : FI K d g F G t nv H0 H ds fs) {vs ws : List V} {gs : List Fl} (h1 : H G = some (.lst vs)) (h2 : TDs K H vs (fs.map encF)) (hu : TDs K H ws (gs.map encF)) : FI K d g F G t nv H0 (upd H G (.lst (vs ++ ws))) ds (fs ++ gs) := by
  have tk := tk_acc (ys := vs ++ ws) h1
  obtain ⟨us, h3, h4⟩ := x.hF
  refine ⟨x.dl.set x.Gd.1 x.Gd.2, x.kp.acc x.nG, ⟨us, by rw [upd_ne x.FG]; exact h3, TDs.keep tk h4⟩, ⟨_, upd_same, ?_⟩, by rw [upd_ne x.Gt.symm]; exact x.hN, x.nF, x.nG, x.FG, x.Ft, x.Gt, x.Fd, x.Gd, x.td⟩
  rw [List.map_append]
  exact TDs.app (TDs.keep tk h2) (TDs.keep tk hu)
end
section
variable {P : Program} {w : World} {K : PySem.W.Frag} {mg : Str → Option Value} {base : Heap}
theorem c_names (D : Df K mg "_law_names" s_names) (T : Tx K mg) : C8.Cal P w K mg base 1 "_law_names" spNames [] := by
  refine cal_mk D sc_names bd_names (fun vs H Q E h => ?_) fun f cdv A outer s H vs Q E hr h => ?_
  · obtain ⟨rfl, _⟩ := h
    rfl
  · obtain ⟨rfl, k⟩ := h
    refine ⟨_, (pss_one (ps_ret (pe_lst (pa_cons pe_str (pa_cons pe_str (pa_cons pe_str (pa_cons pe_str pa_nil))))))), ?_⟩
    exact ⟨by show 4 ≤ sizeLine; decide, fun p np => k _ p (Same.new np) np upd_same⟩
theorem c_house (D : Df K mg "_law_house" s_house) (T : Tx K mg) (c_take : C8.Cal P w K mg base 1 "_law_take" spDraw []) (c_pick : C8.Cal P w K mg base 2 "_law_pick" (spPick K) []) (c_mixed : C8.Cal P w K mg base 2 "_law_mixed" (spMixed K) []) (c_names : C8.Cal P w K mg base 1 "_law_names" spNames []) :
    C8.Cal P w K mg base 3 "_law_house" (spFHouse K) [] := by
  refine cal_mk D sc_house bd_house (fun vs H Q E h => ?_) fun f cdv A outer s H vs Q E hr h => ?_
  · obtain ⟨d, g, most, many, rfl, _⟩ := h
    rfl
  · obtain ⟨d, g, most, many, rfl, dl, m2, m6, n0, n4, k⟩ := h
    have line := sizeLine_eq
    refine ⟨_, (pss_cons (ps_par3 (i := 3) (j := 4) (l := 5) (by rfl) sc_house.nd rfl rfl rfl (by decide) (by decide) (by decide) rfl rfl rfl (pa_cons (pe_op op_add pe_int (C8.pe_c c_take hr (by decide) rfl (pa_cons (pv 0) (pa_cons (pe_op op_sub (pv 1) pe_int) pa_nil)))) (pa_cons (pe_lst pa_nil) (pa_cons (pe_lst pa_nil) pa_nil))) (by rfl))
 (pss_cons (ps_set (i := 6) sc_house.nd rfl (Or.inl rfl) (pe_op op_cat (pe_lst (pa_cons pe_non (pa_cons pe_non pa_nil))) (pe_slice sl_list (Hb.pe_c0 c_names hr (by decide) rfl) po_none (po_some (pv 2)))))
 (pss_cons (ps_for PassesOwn.never rfl (pi_range2 (by rfl) T.n_range (pa_cons pe_int (pa_cons (pv 3) pa_nil))) (pg_name (i := 7) sc_house.nd rfl (Or.inl rfl))
 (pss_one (ps_expr (pe_bm PySem.F.plainAttrs_list PySem.F.slot_list_append PySem.F.type_list_append mt_append (pv 4) (pa_cons (pe_tup (pa_cons (C8.pe_c c_take hr (by decide) rfl (pa_cons (pv 0) (pa_cons (pv 7) pa_nil))) (pa_cons (pv 7) (pa_cons (C8.pe_c c_pick hr (by decide) rfl (pa_cons (pv 0) (pa_cons (pv 6) pa_nil))) pa_nil)))) pa_nil)))))
 (pss_cons (ps_for PassesOwn.never rfl (pi_range1 (by rfl) T.n_range (pa_cons (C8.pe_c c_take hr (by decide) rfl (pa_cons (pv 0) (pa_cons pe_int pa_nil))) pa_nil)) (pg_name (i := 8) sc_house.nd rfl (Or.inl rfl))
 (pss_cons (ps_set (i := 9) sc_house.nd rfl (Or.inl rfl) (pe_slice sl_list (C8.pe_c c_mixed hr (by decide) rfl (pa_cons (pv 0) (pa_cons (L2.pe_listRg rfl (by rfl) T.n_list (L2.prg_1 (by rfl) T.n_range (pv 3))) pa_nil))) po_none (po_some pe_int)))
 (pss_one (ps_expr (pe_bm PySem.F.plainAttrs_list PySem.F.slot_list_append PySem.F.type_list_append mt_append (pv 4) (pa_cons (pe_tup (pa_cons (pe_ix ix_list (pv 9) pe_int (fun _ _ => rfl)) (pa_cons (pe_ix ix_list (pv 9) pe_int (fun _ _ => rfl)) (pa_cons (C8.pe_c c_pick hr (by decide) rfl (pa_cons (pv 0) (pa_cons (pv 6) pa_nil))) pa_nil)))) pa_nil))))))
 (pss_cons (ps_for PassesOwn.never rfl (pi_range1 (by rfl) T.n_range (pa_cons (pv 3) pa_nil)) (pg_name (i := 7) sc_house.nd rfl (Or.inl rfl))
 (pss_cons (ps_set (i := 10) sc_house.nd rfl (Or.inl rfl) (C8.pe_c c_pick hr (by decide) rfl (pa_cons (pv 0) (pa_cons (pv 6) pa_nil))))
 (pss_one (ps_expr (pe_bm PySem.F.plainAttrs_list PySem.F.slot_list_extend PySem.F.type_list_extend mt_extend (pv 5) (pa_cons (pe_ifExp (PW.pt (pw_and (pt_cmpR op_notN (pv 10) pe_non (by first | exact nomark _ | rfl)) (pw_and1 (pt_cmpR op_eq (C8.pe_c c_take hr (by decide) rfl (pa_cons (pv 0) (pa_cons pe_int pa_nil))) pe_int (by first | exact nomark _ | rfl))))) (pe_lst (pa_cons (pe_tup (pa_cons (pv 7) (pa_cons (pv 10) pa_nil))) pa_nil)) (pe_lst pa_nil)) pa_nil))))))
 (pss_cons (ps_setLc (i := 11) (own := [("_law_room", 7)]) (by rfl) sc_house.nd rfl rfl (sw_true rfl rfl rfl (by decide +kernel)) (pi_range2 (by rfl) T.n_range (pa_cons pe_int (pa_cons (pv 3) pa_nil))) (blkOk_by (N := N_house) (sc := defScope s_house) (by decide +kernel)) (fun _ _ _ _ _ => (pg_name (i := 7) sc_house.nd rfl (Or.inl rfl))) (fun _ _ _ _ _ => (pts_one (pt_cmpR op_eq (C8.pe_c c_take hr (by decide) rfl (pa_cons (pv 0) (pa_cons pe_int pa_nil))) pe_int (by first | exact nomark _ | rfl)))) (fun _ _ _ _ _ => (pv 7)))
 (pss_one (ps_ret (pe_tup (pa_cons (pv 3) (pa_cons (C8.pe_c c_mixed hr (by decide) rfl (pa_cons (pv 0) (pa_cons (pv 4) pa_nil))) (pa_cons (pv 5) (pa_cons (pv 11) pa_nil))))))))))))), ?_⟩
    refine ⟨_, rfl, _, rfl, _, _, rfl, rfl, d, g, most - 1, rfl, dl, by omega, by omega, fun H1 r0 dl1 k1 a0 a1 => ⟨_, _, rfl, rfl, ?_⟩⟩
    refine ⟨Nat.zero_le _, fun F nF => ⟨Nat.zero_le _, fun G nG => ?_⟩⟩
    refine ⟨_, _, _, rfl, by show 2 ≤ sizeLine; omega, fun u nu => ?_⟩
    refine ⟨rfl, fun H2 p s2 np hp => ⟨_, rfl, _, rfl, p, _, rfl, SqL.of hp, fun q nq => ?_⟩⟩
    rw [cut_take _ n0, ← List.map_take]
    have wl : (four.take many.toNat).length ≤ 4 := by rw [List.length_take]; show min _ 4 ≤ 4; omega
    have wmem : ∀ n ∈ four.take many.toNat, n ∈ four := fun n hn => List.mem_of_mem_take hn
    generalize four.take many.toNat = W at wl wmem k ⊢
    have nFn : F ≠ G := fun e => by rw [← e, upd_same] at nG; cases nG
    have nG1 : H1 G = none := by rw [upd_ne nFn.symm] at nG; exact nG
    have sA : Same H1 (upd (upd H1 F (.lst [])) G (.lst [])) := (Same.new nF).trans (Same.new nG)
    have hFA : upd (upd H1 F (.lst [])) G (.lst []) F = some (.lst []) := by rw [upd_ne nFn]; exact upd_same
    have hGA : upd (upd H1 F (.lst [])) G (.lst []) G = some (.lst []) := upd_same
    have dlA := dl1.same sA
    have sB : Same (upd (upd H1 F (.lst [])) G (.lst [])) (upd (upd (upd H1 F (.lst [])) G (.lst [])) u (.lst [.non, .non])) := Same.new nu
    have hu : upd (upd (upd H1 F (.lst [])) G (.lst [])) u (.lst [.non, .non]) u = some (.lst [.non, .non]) := upd_same
    generalize upd (upd (upd H1 F (.lst [])) G (.lst [])) u (.lst [.non, .non]) = HB at sB hu s2 np ⊢
    generalize upd (upd H1 F (.lst [])) G (.lst []) = HA at sA sB hFA hGA dlA nu ⊢
    have sq : Same H2 (upd H2 q (.lst (W.map V.str))) := Same.new nq
    refine ⟨u, q, _, _, rfl, rfl, sq _ _ (s2 _ _ hu), upd_same, by show 2 + (W.map V.str).length ≤ sizeLine; rw [List.length_map]; omega, fun t nt => ?_⟩
    have s3 := ((sB.trans s2).trans sq).trans (Same.new nt (o := .lst ([V.non, .non] ++ W.map V.str)))
    have hN : upd (upd H2 q (.lst (W.map V.str))) t (.lst ([V.non, .non] ++ W.map V.str)) t = some (.lst ([V.non, .non] ++ W.map V.str)) := upd_same
    have nt1 := ((sB.trans s2).trans sq).free nt
    have nnv : ([V.non, .non] ++ W.map V.str) ≠ [] := by simp
    have fnv : ([V.non, .non] ++ W.map V.str).length < 1000000 := by rw [List.length_append, List.length_map]; show 2 + _ < _; omega
    have k1A : Kp d g H1 HA := Hb.Same.kp sA
    have x0 : FI K d g F G t ([V.non, .non] ++ W.map V.str) H (upd (upd H2 q (.lst (W.map V.str))) t (.lst ([V.non, .non] ++ W.map V.str))) [] [] :=
      ⟨dlA.same s3, (k1.trans k1A).trans (Hb.Same.kp s3), ⟨[], s3 _ _ hFA, .nil⟩, ⟨[], s3 _ _ hGA, .nil⟩, hN, dl1.kfree k1 nF, dl1.kfree k1 nG1, nFn, ne_of_none hFA nt1, ne_of_none hGA nt1, dl1.free nF, dl1.free nG1, dlA.free nt1⟩
    generalize upd (upd H2 q (.lst (W.map V.str))) t (.lst ([V.non, .non] ++ W.map V.str)) = HC at x0 ⊢
    clear hN s3 sq hu sB s2 np nq hp dlA sA k1A hFA hGA nu nt nt1 nF nG nG1 nFn dl1 k1
    obtain ⟨M, hM⟩ : ∃ M : Int, 2 + r0 = M := ⟨_, rfl⟩
    dsimp only [L2.start]
    rw [hM]
    refine ⟨_, rfl, 1, M, rfl, ⟨by decide, by decide, by omega, by omega⟩, for_range (lo := 1) (n := (M - 1).toNat) (fun i σ H' => (∃ v7, σ = [some (.ref d), some (.int most), some (.int many), some (.int M), some (.ref F), some (.ref G), some (.ref t), v7, none, none, none, none]) ∧ ∃ ds : List Dr, FI K d g F G t ([V.non, .non] ++ W.map V.str) H H' ds [] ∧ (∀ x ∈ ds, DrW M W x) ∧ ds.length = i)
      ⟨⟨_, rfl⟩, [], x0, (fun x h => nomatch h), rfl⟩ ?_ ?_⟩
    · clear x0 HC
      rintro i σ H3 hi ⟨⟨v7, rfl⟩, ds, x3, ok, len⟩
      obtain ⟨vs, hF, td⟩ := x3.hF
      refine ⟨_, rfl, .inl ⟨rfl, _, SqL.of hF⟩, _, rfl, _, rfl, d, g, (1 + i), rfl, x3.dl, by omega, by omega, fun H4 b dl4 k4 b0 b1 => ?_⟩
      have x4 := x3.go k4 dl4
      refine ⟨_, rfl, _, rfl, _, rfl, d, g, t, _, rfl, dl4, .inl ⟨x4.hN, x4.td.2⟩, nnv, fnv, fun H5 v hv dl5 k5 => ⟨by show 3 ≤ sizeLine; omega, fun u nu => ?_⟩⟩
      obtain ⟨nz, rfl, hnz⟩ := noise_in hv
      have s6 : Same H5 (upd H5 u (.tup [.int b, .int (1 + i), nzV nz])) := Same.new nu
      have x6 := (x4.go k5 dl5).same s6
      have hF6 := s6 _ _ (k5 _ _ x4.Fd.1 x4.Fd.2 (k4 _ _ x4.Fd.1 x4.Fd.2 hF))
      have td6 := TDs.keep (Same.tk s6) (TDs.keep (dl4.tk k5) (TDs.keep (x3.dl.tk k4) td))
      have tl := td.length
      rw [List.length_map] at tl
      refine ⟨F, vs, _, rfl, rfl, hF6, by omega, ⟨_, rfl⟩, ds ++ [(b, 1 + (i : Int), nz)], x6.addD hF6 td6 (SqT.of upd_same), fun x hx => ?_, by rw [List.length_append, len]; rfl⟩
      rcases List.mem_append.mp hx with hx | hx
      · exact ok x hx
      · rw [List.mem_singleton.mp hx]
        exact ⟨⟨by omega, by show b < M; omega⟩, ⟨by show (0 : Int) ≤ 1 + i; omega, by show (1 : Int) + i < M; omega⟩, by show b ≠ 1 + i; omega, hnz⟩
    · clear x0 HC
      rintro σ H3 ⟨⟨v7, rfl⟩, ds, x3, ok, len⟩
      refine ⟨_, rfl, d, g, 3, rfl, x3.dl, by decide, by decide, fun H4 n dl4 k4 b0 b1 => ⟨n, rfl, by omega, by omega, for_range (lo := 0) (n := n.toNat) (fun i σ H' => (∃ v7 v8 v9, σ = [some (.ref d), some (.int most), some (.int many), some (.int M), some (.ref F), some (.ref G), some (.ref t), v7, v8, v9, none, none]) ∧ ∃ ds : List Dr, FI K d g F G t ([V.non, .non] ++ W.map V.str) H H' ds [] ∧ (∀ x ∈ ds, DrW M W x) ∧ ds.length = (M - 1).toNat + i)
        ⟨⟨_, _, _, rfl⟩, ds, x3.go k4 dl4, ok, len⟩ ?_ ?_⟩⟩
      · clear x3 ok len ds k4 dl4 v7
        rintro i σ H5 hi ⟨⟨v7, v8, v9, rfl⟩, ds, x5, ok, len⟩
        refine ⟨_, rfl, _, rfl, M, rfl, RgOk.of_le (by decide) (by omega) (by decide) (by omega), fun q nq => ?_⟩
        have x6 := x5.same (Same.new nq (o := .lst (rgV 0 M)))
        refine ⟨d, g, q, _, rfl, x6.dl, .inl (SqL.of upd_same), by rw [rgV_length]; omega, (fun v hv => ?_), fun H7 p4 ys dl7 k7 np4 hp4 pg4 pm => ?_⟩
        · obtain ⟨A, rfl, _⟩ := rg_mem hv
          exact good_int _
        have x7 := x6.go k7 dl7
        refine ⟨_, rfl, p4, _, rfl, SqL.of hp4, fun pp npp => ?_⟩
        rw [cut_take _ (by decide)]
        obtain ⟨A, B, eAB, iA, iB, nAB⟩ := take_two pm (by omega)
        have eAB2 : ys.take (2 : Int).toNat = [.int A, .int B] := eAB
        rw [eAB2]
        have x8 := x7.same (Same.new npp (o := .lst [.int A, .int B]))
        have hpp : upd H7 pp (.lst [.int A, .int B]) pp = some (.lst [.int A, .int B]) := upd_same
        generalize upd H7 pp (.lst [.int A, .int B]) = H8 at x8 hpp ⊢
        clear x5 x6 x7
        obtain ⟨vs, hF, td⟩ := x8.hF
        refine ⟨_, rfl, .inl ⟨rfl, _, SqL.of hF⟩, _, rfl, pp, _, 0, _, rfl, rfl, SqL.of hpp, rfl, _, rfl, pp, _, 1, _, rfl, rfl, SqL.of hpp, rfl, ?_⟩
        refine ⟨_, rfl, _, rfl, d, g, t, _, rfl, x8.dl, .inl ⟨x8.hN, x8.td.2⟩, nnv, fnv, fun H5 v hv dl5 k5 => ⟨by show 3 ≤ sizeLine; omega, fun u nu => ?_⟩⟩
        obtain ⟨nz, rfl, hnz⟩ := noise_in hv
        have s6 : Same H5 (upd H5 u (.tup [.int A, .int B, nzV nz])) := Same.new nu
        have x6 := (x8.go k5 dl5).same s6
        have hF6 := s6 _ _ (k5 _ _ x8.Fd.1 x8.Fd.2 hF)
        have td6 := TDs.keep (Same.tk s6) (TDs.keep (x8.dl.tk k5) td)
        have tl := td.length
        rw [List.length_map] at tl
        refine ⟨F, vs, _, rfl, rfl, hF6, by omega, ⟨_, _, _, rfl⟩, ds ++ [(A, B, nz)], x6.addD hF6 td6 (SqT.of upd_same), fun x hx => ?_, by rw [List.length_append, len]; rfl⟩
        rcases List.mem_append.mp hx with hx | hx
        · exact ok x hx
        · rw [List.mem_singleton.mp hx]
          exact ⟨iA, iB, nAB, hnz⟩
      · clear x3 ok len ds k4 dl4 v7
        rintro σ H5 ⟨⟨v7, v8, v9, rfl⟩, ds, x5, ok, len⟩
        have dlen : ds.length ≤ 7 := by omega
        refine ⟨_, rfl, M, rfl, by omega, by omega, for_range (lo := 0) (n := M.toNat) (fun i σ H' => (∃ v7 v8 v9 v10, σ = [some (.ref d), some (.int most), some (.int many), some (.int M), some (.ref F), some (.ref G), some (.ref t), v7, v8, v9, v10, none]) ∧ ∃ fs : List Fl, FI K d g F G t ([V.non, .non] ++ W.map V.str) H H' ds fs ∧ (∀ x ∈ fs, 0 ≤ x.1 ∧ x.1 < (i : Nat) ∧ x.2 ∈ W) ∧ (fs.map Prod.fst).Pairwise (· < ·) ∧ fs.length ≤ i)
          ⟨⟨_, _, _, _, rfl⟩, [], x5, (fun x h => nomatch h), .nil, Nat.le_refl _⟩ ?_ ?_⟩
        · clear x5 v7 v8 v9
          rintro i σ H6 hi ⟨⟨v7, v8, v9, v10, rfl⟩, fs, x6, okf, srt, fl⟩
          refine ⟨_, rfl, _, rfl, d, g, t, _, rfl, x6.dl, .inl ⟨x6.hN, x6.td.2⟩, nnv, fnv, fun H7 v hv dl7 k7 => ?_⟩
          obtain ⟨nz, rfl, hnz⟩ := noise_in hv
          have x7 := x6.go k7 dl7
          clear x6
          obtain ⟨us, hG, tg⟩ := x7.hG
          refine ⟨_, rfl, .inl ⟨rfl, _, SqL.of hG⟩, _, rfl, rfl, _, rfl, ?_⟩
          have tl := tg.length
          rw [List.length_map] at tl
          cases nz with
          | none =>
            refine iteF (iteF ⟨Nat.zero_le _, fun q nq => ?_⟩)
            have s8 : Same H7 (upd H7 q (.lst [])) := Same.new nq
            have x8 := x7.same s8
            refine ⟨G, q, us, [], rfl, rfl, s8 _ _ hG, upd_same, by show us.length + 0 ≤ _; omega, ⟨_, _, _, _, rfl⟩, fs, ?_, fun x hx => ⟨(okf x hx).1, by have := (okf x hx).2.1; omega, (okf x hx).2.2⟩, srt, by omega⟩
            have := x8.addF (gs := []) (s8 _ _ hG) (TDs.keep (Same.tk s8) tg) .nil
            rw [show fs ++ [] = fs from List.append_nil fs] at this
            exact this
          | some nm =>
            refine iteT ⟨_, rfl, d, g, 2, rfl, dl7, by decide, by decide, fun H8 e dl8 k8 c0 c1 => ⟨rfl, _, rfl, ?_⟩⟩
            have x8 := x7.go k8 dl8
            have hG8 := k8 _ _ x7.Gd.1 x7.Gd.2 hG
            have tg8 := TDs.keep (dl7.tk k8) tg
            refine ite2 (fun _ => ?_) (fun _ => ?_)
            · refine ⟨_, rfl, _, rfl, by show 2 ≤ sizeLine; omega, fun u nu => ⟨by show 1 ≤ sizeLine; omega, fun q nq => ?_⟩⟩
              have s9 : Same H8 (upd H8 u (.tup [.int (0 + (i : Nat)), nzV (some nm)])) := Same.new nu
              have hu : SqT K (upd H8 u (.tup [.int (0 + (i : Nat)), nzV (some nm)])) u [.int (0 + (i : Nat)), nzV (some nm)] := SqT.of upd_same
              generalize upd H8 u (.tup [.int (0 + (i : Nat)), nzV (some nm)]) = H9 at s9 hu nq ⊢
              have s10 : Same H9 (upd H9 q (.lst [.ref u])) := Same.new nq
              have x10 := x8.same (s9.trans s10)
              have hG10 := (s9.trans s10) _ _ hG8
              refine ⟨G, q, us, [.ref u], rfl, rfl, hG10, upd_same, by show us.length + 1 ≤ _; omega, ⟨_, _, _, _, rfl⟩, fs ++ [((0 + (i : Nat) : Int), nm)], ?_, fun x hx => ?_, ?_, by rw [List.length_append]; show _ + 1 ≤ _; omega⟩
              · exact x10.addF (gs := [((0 + (i : Nat) : Int), nm)]) hG10 (TDs.keep (Same.tk (s9.trans s10)) tg8) (.cons (TD.floor (x := ((0 + (i : Nat) : Int), nm)) (SqT.keep (Same.tk s10) hu)) .nil)
              · rcases List.mem_append.mp hx with hx | hx
                · obtain ⟨a, b, c⟩ := okf x hx
                  exact ⟨a, by omega, c⟩
                · rw [List.mem_singleton.mp hx]
                  exact ⟨by show (0 : Int) ≤ 0 + (i : Nat); omega, by show (0 : Int) + (i : Nat) < ((i + 1 : Nat) : Int); omega, hnz _ rfl⟩
              · rw [List.map_append]
                refine List.pairwise_append.mpr ⟨srt, List.pairwise_singleton _ _, fun a ha b hb => ?_⟩
                obtain ⟨x, hx, rfl⟩ := List.mem_map.mp ha
                have hb2 : b = 0 + (i : Nat) := by simpa using hb
                have := (okf x hx).2.1
                omega
            · refine ⟨Nat.zero_le _, fun q nq => ?_⟩
              have s9 : Same H8 (upd H8 q (.lst [])) := Same.new nq
              have x9 := x8.same s9
              refine ⟨G, q, us, [], rfl, rfl, s9 _ _ hG8, upd_same, by show us.length + 0 ≤ _; omega, ⟨_, _, _, _, rfl⟩, fs, ?_, fun x hx => ⟨(okf x hx).1, by have := (okf x hx).2.1; omega, (okf x hx).2.2⟩, srt, by omega⟩
              have := x9.addF (gs := []) (s9 _ _ hG8) (TDs.keep (Same.tk s9) tg8) .nil
              rw [show fs ++ [] = fs from List.append_nil fs] at this
              exact this
        · clear x5 v7 v8 v9
          rintro σ H6 ⟨⟨v7, v8, v9, v10, rfl⟩, fs, x6, okf, srt, fl⟩
          obtain ⟨vs, hF, td⟩ := x6.hF
          obtain ⟨us, hG, tg⟩ := x6.hG
          refine ⟨_, rfl, 1, M, rfl, ⟨by decide, by decide, by omega, by omega⟩, fun D2 nD2 => lc_range (lo := 1) (n := (M - 1).toNat) (fun i H2 => Feed d g H2 ∧ Kp d g H6 H2 ∧ ∃ cs : List Int, H2 D2 = some (.lst (cs.map V.int)) ∧ (∀ x ∈ cs, 0 ≤ x ∧ x < 1 + (i : Nat)) ∧ cs.Pairwise (· < ·) ∧ cs.length ≤ i)
            ⟨x6.dl.new nD2, Hb.Same.kp (Same.new nD2), [], upd_same, (fun x h => by cases h), .nil, Nat.le_refl _⟩ ?_ ?_⟩
          · rintro i H2 hi ⟨dlC, kC, cs, hC, okc, srtc, cl⟩
            have D2d := (x6.dl.free nD2).1
            have D2g := (x6.dl.free nD2).2
            refine ⟨rfl, ?_⟩
            refine ⟨_, rfl, d, g, 2, rfl, dlC, by decide, by decide, fun HB e dlB kB b0 b1 => ⟨rfl, _, rfl, ?_⟩⟩
            refine ite2 (fun _ => ?_) (fun _ => ?_)
            · refine ⟨_, rfl, _, kB D2 _ D2d D2g hC, by rw [List.length_map]; omega, dlB.set D2d D2g, fun b o n1 n2 q => ?_, cs ++ [(1 + (i : Nat) : Int)], ?_, ?_, ?_, ?_⟩
              · rw [upd_ne (ne_of_none q nD2)]
                exact kB b o n1 n2 (kC b o n1 n2 q)
              · rw [upd_same, List.map_append]
                rfl
              · intro x hx
                rcases List.mem_append.mp hx with hx | hx
                · obtain ⟨a, b⟩ := okc x hx
                  exact ⟨a, by omega⟩
                · rw [List.mem_singleton.mp hx]
                  exact ⟨by omega, by omega⟩
              · refine List.pairwise_append.mpr ⟨srtc, List.pairwise_singleton _ _, fun a ha b hb => ?_⟩
                have hb2 : b = 1 + (i : Nat) := by simpa using hb
                have := (okc a ha).2
                omega
              · rw [List.length_append]
                show _ + 1 ≤ _
                omega
            · exact ⟨dlB, kC.trans kB, cs, kB D2 _ D2d D2g hC, fun x hx => ⟨(okc x hx).1, by have := (okc x hx).2; omega⟩, srtc, by omega⟩
          · rintro H2 ⟨dlC, kC, cs, hC, okc, srtc, cl⟩
            have D2d := (x6.dl.free nD2).1
            have D2g := (x6.dl.free nD2).2
            have x7 := x6.go kC dlC
            have hF7 := kC _ _ x6.Fd.1 x6.Fd.2 hF
            have td7 := TDs.keep (x6.dl.tk kC) td
            have tl := td.length
            rw [List.length_map] at tl
            refine ⟨_, rfl, _, rfl, _, rfl, d, g, F, vs, rfl, dlC, .inl (SqL.of hF7), by omega, (fun v hv => ?_), fun H3 p ys dl3 k3 np hp pg pm => ?_⟩
            · obtain ⟨i, hi⟩ := List.mem_iff_getElem?.mp hv
              obtain ⟨x, hx, tx⟩ := TDs.at_map td7 hi
              exact ⟨_, tx, shp_door fun n hn => four_ok n (wmem n ((ok x (List.mem_of_getElem? hx)).2.2.2 n hn))⟩
            obtain ⟨es, pe, tde⟩ := perm_td pm (TDs.keep (dlC.tk k3) td7)
            have x8 := x7.go k3 dl3
            have hG8 := k3 _ _ x7.Gd.1 x7.Gd.2 (kC _ _ x6.Gd.1 x6.Gd.2 hG)
            have tg8 := TDs.keep (dlC.tk k3) (TDs.keep (x6.dl.tk kC) tg)
            have hC8 := k3 _ _ D2d D2g hC
            refine ⟨_, rfl, _, rfl, by show 4 ≤ sizeLine; omega, fun o no => ?_⟩
            have s9 : Same H3 (upd H3 o (.tup [.int M, .ref p, .ref G, .ref D2])) := Same.new no
            refine k _ o ⟨M, es, fs, cs⟩ (dl3.same s9) (x8.kp.trans (Hb.Same.kp s9)) (dl3.kfree x8.kp no) ⟨p, G, D2, ys, us, ⟨SqT.of upd_same, s9 _ _ hp, TDs.keep (Same.tk s9) tde, s9 _ _ hG8, TDs.keep (Same.tk s9) tg8, s9 _ _ hC8, pg, x6.Gd.2, D2g⟩⟩
              ⟨by show 1 ≤ M; omega, by show M ≤ most; omega, fun x hx => ok x (pe.mem_iff.mp hx), ?_, fun x hx => ⟨⟨(okf x hx).1, ?_⟩, (okf x hx).2.2⟩, srt, ?_, fun x hx => ⟨(okc x hx).1, ?_⟩, srtc, ?_⟩ (by show 2 ≤ M; omega)
            · show ((es.length : Nat) : Int) ≤ most + 1
              rw [pe.length_eq]
              omega
            · show x.1 < M
              have := (okf x hx).2.1
              omega
            · show ((fs.length : Nat) : Int) ≤ M
              omega
            · show x < M
              have := (okc x hx).2
              omega
            · show ((cs.length : Nat) : Int) ≤ M
              omega
end
end Lw
set_option Elab.async false
set_option linter.all false
set_option maxRecDepth 100000
set_option maxHeartbeats 8000000
namespace Lw
open PySem PySem.Spec PyProof.Rows L2 Hb
def spHome (K : PySem.W.Frag) (C : Addr) : Sp := fun vs H Q _ => ∃ (g o : Addr) (h : Hz), vs = [.ref o] ∧ HLo K g H o h ∧ Hin h ∧ ∀ H' p, Same H H' → H p = none → HAt K C H' p h → Q (.ref p) H'
section
variable {P : Program} {w : World} {K : PySem.W.Frag} {mg : Str → Option Value} {base : Heap}
theorem c_home (D : Df K mg "_law_home" s_home) (T : Tx K mg) (m_House : C8.Mak P w K mg base 5 "House" (He.ga K "House") (spHInit K (He.ga K "House")) []) :
    C8.Cal P w K mg base 7 "_law_home" (spHome K (He.ga K "House")) [] := by
  refine cal_mk D sc_home bd_home (fun vs H Q E h => ?_) fun f cdv A outer s H vs Q E hr h => ?_
  · obtain ⟨g, o, h, rfl, _⟩ := h
    rfl
  · obtain ⟨g, o, h, rfl, ⟨a, b, c, xs, ys, ho⟩, hi, k⟩ := h
    refine ⟨_, (pss_one (ps_ret (C8.pe_mk m_House hr (by decide) rfl (pa_cons (pe_ix ix_tup (pv 0) pe_int (fun _ _ => rfl)) (pa_cons (pe_ix ix_tup (pv 0) pe_int (fun _ _ => rfl)) (pa_cons (pe_ix ix_tup (pv 0) pe_int (fun _ _ => rfl)) (pa_cons (pe_ix ix_tup (pv 0) pe_int (fun _ _ => rfl)) pa_nil))))))), ?_⟩
    refine ⟨_, rfl, o, _, 0, _, rfl, rfl, ho.ho, rfl, _, rfl, o, _, 1, _, rfl, rfl, ho.ho, rfl, _, rfl, o, _, 2, _, rfl, rfl, ho.ho, rfl, _, rfl, o, _, 3, _, rfl, rfl, ho.ho, rfl, ?_⟩
    intro x dx nx ndx ne
    have s1 : Same H (upd (upd H dx (.own x)) x (.ins (He.ga K "House") dx [])) := fun b u e => by
      rw [upd_ne (ne_of_none e nx), upd_ne (ne_of_none e ndx)]
      exact e
    have tk := Same.tk s1
    exact ⟨x, dx, a, b, c, xs, ys, h, rfl, upd_same, .inl (SqL.of (s1 _ _ ho.ha)), TDs.keep tk ho.tx, .inl (SqL.of (s1 _ _ ho.hb)), TDs.keep tk ho.ty, .inl (SqL.of (s1 _ _ ho.hc)), hi, fun H' kp hz => ⟨rfl, k H' x (fun b u e => kp b u (ne_of_none e nx) (s1 b u e)) nx hz⟩⟩
end
end Lw
set_option Elab.async false
set_option linter.all false
set_option maxRecDepth 100000
set_option maxHeartbeats 8000000
namespace Lw
open PySem PySem.Spec PyProof.Rows L2 Hb
theorem lkF_mem : ∀ {fs : List Fl} {r : Int} {x : Str}, fs.lookup r = some x → (r, x) ∈ fs
  | [], _, _, e => by cases e
  | p :: fs, r, x, e => by
    rw [List.lookup_cons] at e
    by_cases q : r = p.1
    · rw [q, beq_self_eq_true] at e
      cases e
      rw [q]
      exact List.mem_cons_self
    · rw [beq_eq_false_iff_ne.mpr q] at e
      exact List.mem_cons_of_mem _ (lkF_mem e)
theorem lkF_of : ∀ {fs : List Fl} {r : Int} {x : Str}, (fs.map Prod.fst).Nodup → (r, x) ∈ fs → fs.lookup r = some x
  | p :: fs, r, x, nd, m => by
    rw [List.map_cons, List.nodup_cons] at nd
    rw [List.lookup_cons]
    rcases List.mem_cons.mp m with rfl | m
    · rw [beq_self_eq_true]
    · have q : ¬ r = p.1 := fun e => nd.1 (by rw [← e]; exact List.mem_map_of_mem (f := Prod.fst) m)
      rw [beq_eq_false_iff_ne.mpr q]
      exact lkF_of nd.2 m
theorem lkF_sort {fs : List Fl} (nd : (fs.map Prod.fst).Nodup) (r : Int) : (sortF fs).lookup r = fs.lookup r := by
  have pm := sortF_perm fs
  cases e : fs.lookup r with
  | some x => exact lkF_of ((pm.map Prod.fst).nodup_iff.mpr nd) (pm.mem_iff.mpr (lkF_mem e))
  | none => cases e2 : (sortF fs).lookup r with
    | none => rfl
    | some x =>
      have := lkF_of nd (pm.mem_iff.mp (lkF_mem e2))
      rw [e] at this
      cases this
theorem none_upd {H : Hp} {p l : Addr} {o : HO} (e : upd H p o l = none) : H l = none := by
  by_cases z : l = p
  · rw [z, upd_same] at e
    cases e
  · rw [upd_ne z] at e
    exact e
theorem lkF_none : ∀ {fs : List Fl} {r : Int}, r ∉ fs.map Prod.fst → fs.filter (fun p => decide (p.1 = r)) = []
  | [], _, _ => rfl
  | p :: fs, r, h => by
    rw [List.map_cons, List.mem_cons, not_or] at h
    rw [List.filter_cons, if_neg (by rw [decide_eq_true_iff]; exact fun e => h.1 e.symm)]
    exact lkF_none h.2
theorem lkF_filter : ∀ {fs : List Fl} (_ : (fs.map Prod.fst).Nodup) (r : Int), (fs.filter fun p => decide (p.1 = r)).map Prod.snd = (fs.lookup r).toList
  | [], _, _ => rfl
  | p :: fs, nd, r => by
    rw [List.map_cons, List.nodup_cons] at nd
    rw [List.filter_cons, List.lookup_cons]
    by_cases q : r = p.1
    · subst q
      rw [if_pos (decide_eq_true rfl), beq_self_eq_true, lkF_none nd.1]
      rfl
    · rw [if_neg (by rw [decide_eq_true_iff]; exact fun e => q e.symm), beq_eq_false_iff_ne.mpr q]
      exact lkF_filter nd.2 r
theorem nz_told {h : Hz} (nd : (h.floors.map Prod.fst).Nodup) (d : Dr) (r : Int) : nzStep h d r = d.2.2.toList ++ (h.floors.filter fun p => decide (p.1 = r)).map Prod.snd := by
  unfold nzStep
  rw [lkF_sort nd, lkF_filter nd]
def waysTo (h : Hz) (r : Int) (m : Nat) : List Stp := (stepsTo h m).filter fun s => decide (s.le = r)
theorem ways_next {h : Hz} {r : Int} {i : Nat} {d : Dr} (e : h.doors[i]? = some d) : waysTo h r (i + 1) = waysTo h r i ++ (stepsAt h i d).filter fun s => decide (s.le = r) := by
  unfold waysTo
  rw [steps_next e, List.filter_append]
/-! ### the doors at a room, by the law -/
def waysR (h : Hz) (r : Int) : List Stp := waysTo h r h.doors.length
theorem mem_waysR {h : Hz} {r : Int} {s : Stp} : s ∈ waysR h r ↔ s ∈ allSteps h ∧ s.le = r := by
  unfold waysR waysTo allSteps
  rw [List.mem_filter, decide_eq_true_iff]
structure WaysAt (K : PySem.W.Frag) (H0 H : Hp) (xs : List V) (ws : List Stp) : Prop where
  len : xs.length = ws.length
  at_ : ∀ (i : Nat) (v : V), xs[i]? = some v → ∃ (t l : Addr) (s : Stp), v = .ref t ∧ ws[i]? = some s ∧ SqT K H t [.int s.n, .int s.ri, .ref l] ∧ H l = some (.lst (s.ns.map V.str)) ∧ H0 l = none
theorem WaysAt.same {K : PySem.W.Frag} {H0 H H' : Hp} {xs : List V} {ws : List Stp} (x : WaysAt K H0 H xs ws) (s : Same H H') : WaysAt K H0 H' xs ws := ⟨x.len, fun i v e => by
  obtain ⟨t, l, st, e1, e2, e3, e4, e5⟩ := x.at_ i v e
  exact ⟨t, l, st, e1, e2, SqT.keep (Same.tk s) e3, s _ _ e4, e5⟩⟩
/-- another list is changed that was there before -/
theorem WaysAt.put {K : PySem.W.Frag} {H0 H : Hp} {xs us vs : List V} {ws : List Stp} {q : Addr} (x : WaysAt K H0 H xs ws) (e : H q = some (.lst us)) (n : ∀ l, H0 l = none → l ≠ q) : WaysAt K H0 (upd H q (.lst vs)) xs ws := ⟨x.len, fun i v h => by
  obtain ⟨t, l, st, e1, e2, e3, e4, e5⟩ := x.at_ i v h
  exact ⟨t, l, st, e1, e2, SqT.keep (tk_acc e) e3, by rw [upd_ne (n l e5)]; exact e4, e5⟩⟩
theorem WaysAt.kp {K : PySem.W.Frag} {d g : Addr} {H0 H H' : Hp} {xs : List V} {ws : List Stp} (x : WaysAt K H0 H xs ws) (dl0 : Feed d g H0) (dl : Feed d g H) (k : Kp d g H H') : WaysAt K H0 H' xs ws := ⟨x.len, fun i v h => by
  obtain ⟨t, l, st, e1, e2, e3, e4, e5⟩ := x.at_ i v h
  have n := dl0.free e5
  exact ⟨t, l, st, e1, e2, SqT.keep (dl.tk k) e3, k _ _ n.1 n.2 e4, e5⟩⟩
theorem WaysAt.base {K : PySem.W.Frag} {H0 H1 H : Hp} {xs : List V} {ws : List Stp} (x : WaysAt K H1 H xs ws) (s : Same H0 H1) : WaysAt K H0 H xs ws := ⟨x.len, fun i v e => by
  obtain ⟨t, l, st, e1, e2, e3, e4, e5⟩ := x.at_ i v e
  exact ⟨t, l, st, e1, e2, e3, e4, s.free e5⟩⟩
theorem WaysAt.app {K : PySem.W.Frag} {H0 H : Hp} {xs : List V} {ws : List Stp} {t l : Addr} {s : Stp} (x : WaysAt K H0 H xs ws) (h1 : SqT K H t [.int s.n, .int s.ri, .ref l]) (h2 : H l = some (.lst (s.ns.map V.str))) (h3 : H0 l = none) : WaysAt K H0 H (xs ++ [.ref t]) (ws ++ [s]) := by
  refine ⟨by rw [List.length_append, List.length_append, x.len]; rfl, fun i v e => ?_⟩
  by_cases c : i < xs.length
  · rw [List.getElem?_append_left c] at e
    obtain ⟨t', l', st, e1, e2, e3⟩ := x.at_ i v e
    exact ⟨t', l', st, e1, by rw [List.getElem?_append_left (by rw [← x.len]; exact c)]; exact e2, e3⟩
  · have ci : i = xs.length := by
      have := (List.getElem?_eq_some_iff.mp e).1
      rw [List.length_append] at this
      have : ([V.ref t] : List V).length = 1 := rfl
      omega
    subst ci
    rw [List.getElem?_append_right (Nat.le_refl _), Nat.sub_self] at e
    obtain rfl := Option.some.inj e
    exact ⟨t, l, s, rfl, by rw [x.len, List.getElem?_append_right (Nat.le_refl _), Nat.sub_self]; rfl, h1, h2, h3⟩
def spWays (K : PySem.W.Frag) : Sp := fun vs H Q _ => ∃ (g o : Addr) (h : Hz) (r : Int), vs = [.ref o, .int r] ∧ HLo K g H o h ∧ h.doors.length ≤ 100 ∧ h.floors.length ≤ 100 ∧ (h.floors.map Prod.fst).Nodup ∧ (∀ x ∈ h.doors, x.1 ≠ x.2.1) ∧
  ∀ H' q xs, Same H H' → H q = none → H' q = some (.lst xs) → WaysAt K H H' xs (waysR h r) → Q (.ref q) H'
section
variable {P : Program} {w : World} {K : PySem.W.Frag} {mg : Str → Option Value} {base : Heap}
theorem c_ways (D : Df K mg "_law_ways" s_ways) (T : Tx K mg) : C8.Cal P w K mg base 1 "_law_ways" (spWays K) [] := by
  refine cal_mk D sc_ways bd_ways (fun vs H Q E h => ?_) fun f cdv A outer s H vs Q E hr h => ?_
  · obtain ⟨g, o, h, r, rfl, _⟩ := h
    rfl
  · obtain ⟨g, o, h, r, rfl, ⟨a, b, c, xs, ys, ho⟩, dfew, ffew, fnd, dne, k⟩ := h
    have line := sizeLine_eq
    refine ⟨_, (pss_cons (ps_set (i := 2) sc_ways.nd rfl (Or.inl rfl) (pe_lst pa_nil))
 (pss_cons (ps_for PassesOwn.never rfl (pi_enum (by rfl) T.n_enumerate (pa_cons (pe_ix ix_tup (pv 0) pe_int (fun _ _ => rfl)) pa_nil)) (pg_tup (by rfl) (pgs_cons (pg_name (i := 3) sc_ways.nd rfl (Or.inl rfl)) (pgs_cons (pg_tup (by rfl) (pgs_cons (pg_name (i := 4) sc_ways.nd rfl (Or.inl rfl)) (pgs_cons (pg_name (i := 5) sc_ways.nd rfl (Or.inl rfl)) (pgs_cons (pg_name (i := 6) sc_ways.nd rfl (Or.inl rfl)) pgs_nil)))) pgs_nil)))
 (pss_one (ps_if (pt_cmpR op_in_seq (pv 1) (pe_tup (pa_cons (pv 4) (pa_cons (pv 5) pa_nil))) (by first | exact nomark _ | rfl))
 (pss_cons (ps_set (i := 7) sc_ways.nd rfl (Or.inr rfl) (pe_ifExp (pt_cmpR op_eq (pv 1) (pv 4) (by first | exact nomark _ | rfl)) (pv 5) (pv 4)))
 (pss_cons (ps_set (i := 8) sc_ways.nd rfl (Or.inl rfl) (pe_ifExp (pt_cmpR op_notN (pv 6) pe_non (by first | exact nomark _ | rfl)) (pe_lst (pa_cons (pv 6) pa_nil)) (pe_lst pa_nil)))
 (pss_one (ps_expr (pe_bm PySem.F.plainAttrs_list PySem.F.slot_list_append PySem.F.type_list_append mt_append (pv 2) (pa_cons (pe_tup (pa_cons (pv 3) (pa_cons (pv 7) (pa_cons (pe_op op_cat (pv 8) (pe_lc (own := [("_law_spot", 9), ("_law_name", 10)]) (g := (gTup K 2 (gCons (gName 9) (gCons (gName 10) gNil)))) (by rfl) sc_ways.nd (pi_list (pe_ix ix_tup (pv 0) pe_int (fun _ _ => rfl))) (blkOk_by (N := N_ways) (sc := defScope s_ways) (by decide +kernel)) (fun _ _ _ _ _ => (pg_tup (by rfl) (pgs_cons (pg_name (i := 9) sc_ways.nd rfl (Or.inl rfl)) (pgs_cons (pg_name (i := 10) sc_ways.nd rfl (Or.inl rfl)) pgs_nil)))) (fun _ _ _ _ _ => (pts_one (pt_cmpR op_eq (pv 9) (pv 7) (by first | exact nomark _ | rfl)))) (fun _ _ _ _ _ => (pv 10)))) pa_nil)))) pa_nil))))))
 pss_nil)))
 (pss_one (ps_ret (pv 2))))), ?_⟩
    refine ⟨Nat.zero_le _, fun q nq => ?_⟩
    have s1 : Same H (upd H q (.lst [])) := Same.new nq
    have hq1 : upd H q (.lst []) q = some (.lst []) := upd_same
    generalize upd H q (.lst []) = H1 at s1 hq1 ⊢
    have ho1 := ho.same s1
    refine ⟨_, rfl, o, _, 1, _, rfl, rfl, ho1.ho, rfl, a, _, rfl, SqL.of ho1.ha, for_it walk_enum (fun i σ H' => (∃ v3 v4 v5 v6 v7 v8 v9 v10, σ = [some (.ref o), some (.int r), some (.ref q), v3, v4, v5, v6, v7, v8, v9, v10]) ∧ Same H H' ∧ (∀ l, H' l = none → H1 l = none) ∧ ∃ zs, H' q = some (.lst zs) ∧ WaysAt K H1 H' zs (waysTo h r i) ∧ zs.length ≤ i)
      ⟨⟨_, _, _, _, _, _, _, _, rfl⟩, s1, (fun l e => e), [], hq1, ⟨rfl, fun i v e => by cases e⟩, Nat.le_refl _⟩ (fun i σ H' _ e => SqL.of (e.2.1 _ _ ho.ha)) ?_ ?_⟩
    · rintro i v σ H2 H3 hi ⟨⟨v3, v4, v5, v6, v7, v8, v9, v10, rfl⟩, s2, f2, zs, hq, wa, zl⟩ ⟨Tp, u1, u2, rfl, nT, rfl, e1, e2⟩
      injection e1 with e1
      subst e1
      replace e2 : xs[i]? = some u2 := e2
      obtain ⟨d, hd, tdd⟩ := TDs.at_map (TDs.keep (Same.tk s2) ho.tx) e2
      obtain ⟨dt, rfl, hdt⟩ := TD.door_inv tdd
      have s3 : Same H2 (upd H2 Tp (.tup [.int (i : Nat), .ref dt])) := Same.new nT
      refine ⟨Tp, _, rfl, SqT.of upd_same, rfl, _, _, rfl, ?_⟩
      have hq3 := s3 _ _ hq
      have wa3 := wa.same s3
      have hdt3 := SqT.keep (Same.tk s3) hdt
      have s23 := s2.trans s3
      have f3 : ∀ l, upd H2 Tp (.tup [.int (i : Nat), .ref dt]) l = none → H1 l = none := fun l e => f2 l (none_upd e)
      generalize upd H2 Tp (.tup [.int (i : Nat), .ref dt]) = H3 at hq3 wa3 hdt3 s23 f3 ⊢
      refine ⟨_, _, rfl, dt, _, rfl, hdt3, rfl, _, _, rfl, _, _, rfl, _, _, rfl, rfl, rfl, ?_⟩
      refine ⟨_, rfl, _, rfl, _, rfl, by show 2 ≤ sizeLine; omega, fun tp ntp => ⟨tp, _, rfl, .inr (SqT.of upd_same), rfl, rfl, _, rfl, ?_⟩⟩
      have s4 : Same H3 (upd H3 tp (.tup [.int d.1, .int d.2.1])) := Same.new ntp
      rw [if_neg Bool.false_ne_true, show inV (.int r) [V.int d.1, .int d.2.1] = decide (r ∈ [d.1, d.2.1]) from inV_ints r [d.1, d.2.1]]
      have hq4 := s4 _ _ hq3
      have wa4 := wa3.same s4
      have f4 : ∀ l, upd H3 tp (.tup [.int d.1, .int d.2.1]) l = none → H1 l = none := fun l e => f3 l (none_upd e)
      have s24 := s23.trans s4
      generalize upd H3 tp (.tup [.int d.1, .int d.2.1]) = H4 at hq4 wa4 s24 f4 ⊢
      clear ntp hdt3 hq3 wa3 s23 s4 wa hq s2
      have dn := dne d (List.mem_of_getElem? hd)
      refine ite2 (fun c => ?_) (fun c => ?_)
      · have c2 := of_decide_eq_true c
        simp only [List.mem_cons, List.not_mem_nil, or_false] at c2
        obtain ⟨oth, ho2, nx⟩ : ∃ oth, (r = d.1 ∧ oth = d.2.1 ∨ r ≠ d.1 ∧ oth = d.1) ∧ (stepsAt h i d).filter (fun s => decide (s.le = r)) = [⟨(i : Nat), r, oth, nzStep h d oth⟩] := by
          by_cases e : r = d.1
          · refine ⟨d.2.1, .inl ⟨e, rfl⟩, ?_⟩
            unfold stepsAt
            rw [List.filter_cons, if_pos (decide_eq_true e.symm), List.filter_cons, if_neg (by rw [decide_eq_true_iff]; exact fun z => dn (e.symm.trans z.symm)), List.filter_nil, e]
          · have e2 := c2.resolve_left e
            refine ⟨d.1, .inr ⟨e, rfl⟩, ?_⟩
            unfold stepsAt
            rw [List.filter_cons, if_neg (by rw [decide_eq_true_iff]; exact fun z => e z.symm), List.filter_cons, if_pos (decide_eq_true e2.symm), List.filter_nil, e2]
        refine cut_seq (fun σ H' => σ = [some (.ref o), some (.int r), some (.ref q), some (.int (i : Nat)), some (.int d.1), some (.int d.2.1), some (nzV d.2.2), some (.int oth), v8, v9, v10] ∧ H' = H4) ?_ fun rest => ?_
        · rintro σ H9 ⟨rfl, rfl⟩
          refine cut_seq (fun σ H' => ∃ m, σ = [some (.ref o), some (.int r), some (.ref q), some (.int (i : Nat)), some (.int d.1), some (.int d.2.1), some (nzV d.2.2), some (.int oth), some (.ref m), v9, v10] ∧ Same H9 H' ∧ H' m = some (.lst (d.2.2.toList.map V.str))) ?_ fun rest => ?_
          · rintro σ H5 ⟨m, rfl, s5, hm⟩
            have s25 := s24.trans s5
            have ho5 := ho.same s25
            refine ⟨_, rfl, .inl ⟨rfl, _, SqL.of (s5 _ _ hq4)⟩, _, rfl, _, rfl, _, rfl, _, rfl, o, _, 2, _, rfl, rfl, ho5.ho, rfl, b, rfl, ⟨_, SqL.of ho5.hb⟩, fun DL nDL => lc_list (K := K) (a := b) (xs := ys) (fun j H' => Same H5 H' ∧ H' DL = some (.lst (((h.floors.take j).filter fun p => decide (p.1 = oth)).map fun p => V.str p.2))) ⟨Same.new nDL, by rw [upd_same]; rfl⟩ (fun j H' _ p => SqL.of (p.1 _ _ ho5.hb)) ?_ ?_⟩
            · rintro j v H6 hv ⟨s6, hD⟩
              obtain ⟨fl, hfl, tdf⟩ := TDs.at_map (TDs.keep (Same.tk s6) ho5.ty) hv
              obtain ⟨ft, rfl, hft⟩ := TD.floor_inv tdf
              have jl : j < h.floors.length := (List.getElem?_eq_some_iff.mp hfl).1
              have nx2 : (h.floors.take (j + 1)).filter (fun p => decide (p.1 = oth)) = (h.floors.take j).filter (fun p => decide (p.1 = oth)) ++ if fl.1 = oth then [fl] else [] := by
                rw [List.take_add_one, hfl, List.filter_append]
                by_cases z : fl.1 = oth <;> simp [z]
              refine ⟨ft, _, rfl, hft, rfl, _, _, rfl, _, _, rfl, rfl, rfl, _, rfl, _, rfl, rfl, _, rfl, ?_⟩
              rw [nx2]
              refine ite2 (fun z => ?_) (fun z => ?_)
              · have z2 : fl.1 = oth := by have := of_decide_eq_true z; injection this
                refine ⟨_, rfl, _, hD, ?_, Hb.Same.acc s6 nDL, ?_⟩
                · have q := List.length_filter_le (fun p : Fl => decide (p.1 = oth)) (h.floors.take j)
                  rw [List.length_take] at q
                  rw [List.length_map]
                  omega
                · rw [upd_same, if_pos z2, List.map_append]
                  rfl
              · have z2 : ¬ fl.1 = oth := fun e => z (decide_eq_true (by rw [e]))
                refine ⟨s6, ?_⟩
                rw [if_neg z2, List.append_nil]
                exact hD
            · rintro H6 ⟨s6, hD⟩
              have yl := ho.ty.length
              rw [List.length_map] at yl
              rw [yl, List.take_length] at hD
              have fl := List.length_filter_le (fun p : Fl => decide (p.1 = oth)) h.floors
              have fl2 : ((h.floors.filter fun p => decide (p.1 = oth)).map fun p => V.str p.2).length ≤ 100 := by rw [List.length_map]; omega
              have ml : (d.2.2.toList.map V.str).length ≤ 1 := by rw [List.length_map]; cases d.2.2 <;> simp
              refine ⟨m, DL, _, _, rfl, rfl, s6 _ _ hm, hD, Nat.le_trans (Nat.add_le_add ml fl2) (by omega), fun l nl => ⟨by show 3 ≤ sizeLine; omega, fun t nt => ?_⟩⟩
              have el : d.2.2.toList.map V.str ++ (h.floors.filter fun p => decide (p.1 = oth)).map (fun p => V.str p.2) = (nzStep h d oth).map V.str := by
                rw [nz_told fnd, List.map_append, List.map_map]
                rfl
              rw [el] at nt ⊢
              have s7 : Same H6 (upd H6 l (.lst ((nzStep h d oth).map V.str))) := Same.new nl
              have hl7 : upd H6 l (.lst ((nzStep h d oth).map V.str)) l = some (.lst ((nzStep h d oth).map V.str)) := upd_same
              have nl1 : H1 l = none := f4 l ((s5.trans s6).free nl)
              generalize upd H6 l (.lst ((nzStep h d oth).map V.str)) = H7 at s7 hl7 nt ⊢
              have s8 : Same H7 (upd H7 t (.tup [.int (i : Nat), .int oth, .ref l])) := Same.new nt
              have ht8 : SqT K (upd H7 t (.tup [.int (i : Nat), .int oth, .ref l])) t [.int (i : Nat), .int oth, .ref l] := SqT.of upd_same
              have hl8 := s8 _ _ hl7
              have s58 := ((s5.trans s6).trans s7).trans s8
              have hq8 := s58 _ _ hq4
              have wa8 := wa4.same s58
              generalize upd H7 t (.tup [.int (i : Nat), .int oth, .ref l]) = H8 at s58 hq8 wa8 ht8 hl8 ⊢
              refine ⟨q, zs, _, rfl, rfl, hq8, by have := (List.getElem?_eq_some_iff.mp hd).1; omega, ⟨_, _, _, _, _, _, _, _, rfl⟩, Hb.Same.acc (s24.trans s58) nq, (fun l e => f4 l (s58.free (none_upd e))), _, upd_same, ?_, by rw [List.length_append]; show _ + 1 ≤ _; omega⟩
              rw [ways_next hd, nx]
              have n1 : ∀ l, H1 l = none → l ≠ q := fun l e => (ne_of_none hq1 e).symm
              exact (wa8.put hq8 n1).app (s := ⟨(i : Nat), r, oth, nzStep h d oth⟩) (SqT.keep (tk_acc hq8) ht8) (by rw [upd_ne (n1 l nl1)]; exact hl8) nl1
          · refine ⟨_, rfl, rfl, _, rfl, ?_⟩
            cases e : d.2.2 with
            | none =>
              rw [e] at rest
              exact iteF ⟨Nat.zero_le _, fun m nm => rest _ _ ⟨m, rfl, Same.new nm, upd_same⟩⟩
            | some nm0 =>
              rw [e] at rest
              exact iteT ⟨_, rfl, by show 1 ≤ sizeLine; omega, fun m nm => rest _ _ ⟨m, rfl, Same.new nm, upd_same⟩⟩
        · refine ⟨_, rfl, _, rfl, rfl, _, rfl, ?_⟩
          refine ite2 (fun z => ?_) (fun z => ?_)
          · have z2 : r = d.1 := by have := of_decide_eq_true z; injection this
            obtain rfl : oth = d.2.1 := (ho2.resolve_right fun y => y.1 z2).2
            exact ⟨_, rfl, rest _ _ ⟨rfl, rfl⟩⟩
          · have z2 : ¬ r = d.1 := fun e => z (decide_eq_true (by rw [e]))
            obtain rfl : oth = d.1 := (ho2.resolve_left fun y => z2 y.1).2
            exact ⟨_, rfl, rest _ _ ⟨rfl, rfl⟩⟩
      · refine ⟨⟨_, _, _, _, _, _, _, _, rfl⟩, s24, f4, zs, hq4, ?_, by omega⟩
        rw [ways_next hd]
        have c2 : ¬ r ∈ [d.1, d.2.1] := fun z => c (decide_eq_true z)
        simp only [List.mem_cons, List.not_mem_nil, or_false, not_or] at c2
        unfold stepsAt
        rw [List.filter_cons, if_neg (by rw [decide_eq_true_iff]; exact fun z => c2.1 z.symm), List.filter_cons, if_neg (by rw [decide_eq_true_iff]; exact fun z => c2.2 z.symm), List.filter_nil, List.append_nil]
        exact wa4
    · rintro σ H2 ⟨⟨v3, v4, v5, v6, v7, v8, v9, v10, rfl⟩, s2, f2, zs, hq, wa, zl⟩
      have xl := ho.tx.length
      rw [List.length_map] at xl
      rw [xl] at wa
      exact ⟨_, rfl, k _ _ _ s2 nq hq (wa.base s1)⟩
end
end Lw
set_option Elab.async false
set_option linter.all false
set_option maxRecDepth 100000
set_option maxHeartbeats 8000000
namespace Lw
open PySem PySem.Spec PyProof.Rows L2 Hb
/-! ### the rooms behind a lot, by the law -/
def lqR (h : Hz) (ns : List Str) (r : Int) : List Stp := (waysR h r).filter fun s => s.ns.all fun n => decide (n ∈ ns)
def lqs (h : Hz) (ns : List Str) (rs : List Int) : List Stp := rs.flatMap (lqR h ns)
theorem mem_lqs {h : Hz} {ns : List Str} {rs : List Int} {s : Stp} : s ∈ lqs h ns rs ↔ s ∈ quietR (allSteps h) rs ns := by
  unfold lqs lqR quietR
  simp only [List.mem_flatMap, List.mem_filter, mem_waysR, Bool.and_eq_true, decide_eq_true_iff]
  constructor
  · rintro ⟨r, hr, ⟨a, rfl⟩, b⟩
    exact ⟨a, hr, b⟩
  · rintro ⟨a, hr, b⟩
    exact ⟨s.le, hr, ⟨a, rfl⟩, b⟩
theorem ways_few {h : Hz} {r : Int} (dne : ∀ x ∈ h.doors, x.1 ≠ x.2.1) : ∀ m, m ≤ h.doors.length → (waysTo h r m).length ≤ m := by
  intro m
  induction m with
  | zero => exact fun _ => Nat.le_refl _
  | succ m ih =>
    intro hm
    have e := List.getElem?_eq_getElem (show m < h.doors.length by omega)
    rw [ways_next e, List.length_append]
    have := ih (by omega)
    have dn := dne _ (List.mem_of_getElem? e)
    have : ((stepsAt h m h.doors[m]).filter fun s => decide (s.le = r)).length ≤ 1 := by
      unfold stepsAt
      rw [List.filter_cons, List.filter_cons, List.filter_nil]
      split
      · split
        · rename_i a b
          exact absurd ((of_decide_eq_true a).trans (of_decide_eq_true b).symm) dn
        · exact Nat.le_refl _
      · split <;> simp
    omega
theorem lqs_few {h : Hz} {ns : List Str} (dne : ∀ x ∈ h.doors, x.1 ≠ x.2.1) : ∀ rs : List Int, (lqs h ns rs).length ≤ rs.length * h.doors.length
  | [] => Nat.zero_le _
  | r :: rs => by
    have := lqs_few (ns := ns) dne rs
    unfold lqs at this ⊢
    rw [List.flatMap_cons, List.length_append, List.length_cons, Nat.succ_mul]
    have : (lqR h ns r).length ≤ h.doors.length := Nat.le_trans (List.length_filter_le _ _) (ways_few dne _ (Nat.le_refl _))
    omega
theorem steps_le2 {h : Hz} {s : Stp} (m : s ∈ allSteps h) : s.ns.length ≤ 2 := by
  have go : ∀ m, m ≤ h.doors.length → ∀ s ∈ stepsTo h m, s.ns.length ≤ 2 := by
    intro m
    induction m with
    | zero => exact fun _ s hs => nomatch hs
    | succ m ih =>
      intro hm s hs
      rw [steps_next (List.getElem?_eq_getElem (show m < h.doors.length by omega))] at hs
      rcases List.mem_append.mp hs with hs | hs
      · exact ih (by omega) s hs
      · simp only [stepsAt, List.mem_cons, List.not_mem_nil, or_false] at hs
        rcases hs with rfl | rfl <;> exact nzStep_le _ _ _
  exact go _ (Nat.le_refl _) s m
theorem flat_len {xs : List Stp} (h : ∀ s ∈ xs, s.ns.length ≤ 2) : (xs.flatMap (·.ns)).length ≤ 2 * xs.length := by
  induction xs with
  | nil => exact Nat.le_refl _
  | cons x xs ih =>
    rw [List.flatMap_cons, List.length_append, List.length_cons]
    have := ih fun s hs => h s (List.mem_cons_of_mem _ hs)
    have := h x List.mem_cons_self
    omega
theorem eq_nilL {K : PySem.W.Frag} {H : Hp} {Q : VK} {q l : Addr} {vs : List V} {ds : List PyData} (hq : SqL K H q vs) (ht : TDs K H vs ds) (hl : SqL K H l []) (sh : SeqAt.shaped (.list ds) = true) (k : Q (.bl ds.isEmpty) H) : rEqD K (.ref q) (.ref l) H Q :=
  ⟨.list ds, .list [], .lst hq (TDs.dp ht), .lst hl (TDs.dp .nil), sh, by decide +kernel, by rw [eqv_nil]; cases ds <;> exact k⟩
theorem shaped_strs {ns : List Str} (h : ∀ n ∈ ns, PyData.strOk n = true) : SeqAt.shaped (.list (ns.map PyData.str)) = true := shaped_list fun d hd => by
  obtain ⟨x, hx, rfl⟩ := List.mem_map.mp hd
  exact ⟨by simp only [PyData.canLay0]; exact h x hx, by simp [PyData.depth]⟩
theorem filt_snoc {α : Type} (p : α → Bool) {xs : List α} {k : Nat} {x : α} (e : xs[k]? = some x) : (xs.take (k + 1)).filter p = (xs.take k).filter p ++ if p x = true then [x] else [] := by
  rw [List.take_add_one, e, List.filter_append]
  congr 1
  cases h : p x <;> simp [h]
theorem filt_empty {xs ns : List Str} : ((xs.filter fun x => !decide (x ∈ ns)).map PyData.str).isEmpty = xs.all fun n => decide (n ∈ ns) := by
  induction xs with
  | nil => rfl
  | cons x xs ih =>
    rw [List.filter_cons, List.all_cons]
    by_cases z : x ∈ ns
    · simp only [z, decide_true, Bool.not_true, Bool.false_eq_true, if_false, Bool.true_and]
      exact ih
    · simp [z]
structure HwOk (h : Hz) : Prop where
  df : h.doors.length ≤ 7
  ff : h.floors.length ≤ 100
  fnd : (h.floors.map Prod.fst).Nodup
  dne : ∀ x ∈ h.doors, x.1 ≠ x.2.1
  nok : ∀ s ∈ allSteps h, ∀ n ∈ s.ns, PyData.strOk n = true
def spLRooms (K : PySem.W.Frag) : Sp := fun vs H Q _ => ∃ (g o l n : Addr) (h : Hz) (rs : List Int) (ns : List Str), vs = [.ref o, .ref l, .ref n] ∧ HLo K g H o h ∧ HwOk h ∧ SqL K H l (rs.map V.int) ∧ rs.length ≤ 6 ∧ SqA K H n (ns.map V.str) ∧ ns.length ≤ 1000 ∧ (∀ x ∈ ns, PyData.strOk x = true) ∧
  (nextR (allSteps h) rs ns = none → ∀ H', Same H H' → Q .non H') ∧ ∀ rs', nextR (allSteps h) rs ns = some rs' → ∀ H' p, Same H H' → H p = none → H' p = some (.lst (rs'.map V.int)) → Q (.ref p) H'
end Lw
set_option Elab.async false
set_option linter.all false
set_option maxRecDepth 100000
set_option maxHeartbeats 8000000
namespace Lw
open PySem PySem.Spec PyProof.Rows L2 Hb
/-! ### led on by lots, by the law -/
structure HwR (h : Hz) : Prop where
  r1 : 1 ≤ h.rooms
  r6 : h.rooms ≤ 6
  ri : ∀ s ∈ allSteps h, inR h.rooms s.ri
theorem in_few {r : Int} {rs : List Int} (r6 : r ≤ 6) (nd : rs.Nodup) (ok : ∀ x ∈ rs, inR r x) : rs.length ≤ 6 := by
  have := nodup_leI (ys := (List.range 6).map Int.ofNat) nd fun x hx => by
    obtain ⟨a, b⟩ := ok x hx
    exact List.mem_map.mpr ⟨x.toNat, List.mem_range.mpr (by omega), by show ((x.toNat : Nat) : Int) = x; omega⟩
  simpa using this
theorem nextR_ok {h : Hz} {rs rs' : List Int} {ns : List Str} (hw : HwR h) (ok : ∀ x ∈ rs, inR h.rooms x) (e : nextR (allSteps h) rs ns = some rs') : rs'.Nodup ∧ ∀ x ∈ rs', inR h.rooms x := by
  unfold nextR at e
  split at e
  · cases e
    refine ⟨nodup_asc asc_uniqI, fun x hx => ?_⟩
    rcases List.mem_append.mp (mem_uniqI.mp hx) with hx | hx
    · exact ok x hx
    · obtain ⟨s, hs, rfl⟩ := List.mem_map.mp hx
      exact hw.ri s (List.mem_filter.mp hs).1
  · cases e
theorem last_snoc {α : Type} (a : α) (xs : List α) (y : α) (h : a :: (xs ++ [y]) ≠ []) : (a :: (xs ++ [y])).getLast h = y := by
  have : a :: (xs ++ [y]) = (a :: xs) ++ [y] := rfl
  simp only [this, List.getLast_append, List.getLast_singleton]
  simp
def lastR (h : Hz) (lots : List (List Str)) : List Int := (([0] : List Int) :: behindR (allSteps h) [0] lots).getLast (by simp)
def spLed (K : PySem.W.Frag) : Sp := fun vs H Q _ => ∃ (g o l : Addr) (h : Hz) (xs : List V) (lots : List (List Str)), vs = [.ref o, .ref l] ∧ HLo K g H o h ∧ HwOk h ∧ HwR h ∧ SqA K H l xs ∧ LotsAt K H xs lots ∧ (∀ ns ∈ lots, LotOk ns ∧ ∀ x ∈ ns, PyData.strOk x = true) ∧ lots.length ≤ 1000 ∧
  ∀ H' t p, Same H H' → SqT K H' t [.ref p, .int ((behindR (allSteps h) [0] lots).length : Nat)] → H' p = some (.lst ((lastR h lots).map V.int)) → H p = none → Q (.ref t) H'
end Lw
set_option Elab.async false
set_option linter.all false
set_option maxRecDepth 100000
set_option maxHeartbeats 8000000
namespace Lw
open PySem PySem.Spec PyProof.Rows L2 Hb
/-! ### walks of guests and what can be heard of them -/
inductive Fe where
  | tick
  | step (p : Int) (s : Stp)
def feT : Fe → Str
  | .tick => "tick"
  | .step p s => (("step " : Str) ++ ((toString p : String) : Str)) ++ (" " : Str) ++ ((toString s.n : String) : Str)
structure Gw where
  pl : List Int
  mv : List Int
  ls : List (List Str)
  cu : List Str
def Gw.all (w : Gw) : List (List Str) := w.ls ++ [w.cu]
def placeOf (w : Gw) (p : Int) : Int := w.pl.getD p.toNat 0
def newN (cu ns : List Str) : List Str := ((ns.zipIdx).filter fun x => !decide (x.1 ∈ cu) && !decide (x.1 ∈ ns.take x.2)).map (·.1)
def doFe (w : Gw) : Fe → Gw
  | .tick => { w with mv := [], ls := w.ls ++ [w.cu], cu := [] }
  | .step p s => { w with pl := w.pl.set p.toNat s.ri, mv := w.mv ++ [p], cu := w.cu ++ newN w.cu s.ns }
def CanFe (h : Hz) (w : Gw) : Fe → Prop
  | .tick => True
  | .step p s => (0 ≤ p ∧ p < (w.pl.length : Nat)) ∧ p ∉ w.mv ∧ s ∈ allSteps h ∧ s.le = placeOf w p
def wk0 (k : Nat) : Gw := ⟨List.replicate k 0, [], [], []⟩
def runFe (w : Gw) (es : List Fe) : Gw := es.foldl doFe w
def PossFe (h : Hz) : Gw → List Fe → Prop
  | _, [] => True
  | w, e :: es => CanFe h w e ∧ PossFe h (doFe w e) es
theorem runFe_app (w : Gw) (es fs : List Fe) : runFe w (es ++ fs) = runFe (runFe w es) fs := List.foldl_append
theorem PossFe.app {h : Hz} : ∀ {es : List Fe} {w : Gw} {e : Fe}, PossFe h w es → CanFe h (runFe w es) e → PossFe h w (es ++ [e])
  | [], _, _, _, c => ⟨c, trivial⟩
  | _ :: _, _, _, a, c => ⟨a.1, PossFe.app a.2 c⟩
theorem newN_mem {cu ns : List Str} (l : ns.length ≤ 2) {n : Str} : n ∈ cu ++ newN cu ns ↔ n ∈ cu ∨ n ∈ ns := by
  match ns, l with
  | [], _ => simp [newN]
  | [a], _ =>
    by_cases c : a ∈ cu
    · simp [newN, c]
      exact fun e => by rw [e]; exact c
    · simp [newN, c]
  | [a, b], _ =>
    by_cases c : a ∈ cu <;> by_cases d : b ∈ cu <;> by_cases e : b = a <;> simp [newN, c, d, e, List.zipIdx] <;> grind
theorem newN_nd {cu ns : List Str} (l : ns.length ≤ 2) (nd : cu.Nodup) : (cu ++ newN cu ns).Nodup := by
  match ns, l with
  | [], _ => simpa [newN] using nd
  | [a], _ =>
    by_cases c : a ∈ cu
    · simpa [newN, c] using nd
    · simp only [newN, c, List.zipIdx]
      simp [List.nodup_append, nd, c]
      intro x hx e
      exact c (e ▸ hx)
  | [a, b], _ =>
    by_cases c : a ∈ cu <;> by_cases d : b ∈ cu <;> by_cases e : b = a <;> simp [newN, c, d, e, List.zipIdx, List.nodup_append, nd] <;> grind
theorem newN_len {cu ns : List Str} : (newN cu ns).length ≤ ns.length := by
  unfold newN
  rw [List.length_map]
  exact Nat.le_trans (List.length_filter_le _ _) (by rw [List.length_zipIdx]; exact Nat.le_refl _)
/-! behindR of rows -/
def lastOf (ss : List Stp) (rs : List Int) (lots : List (List Str)) : List Int := (rs :: behindR ss rs lots).getLast (by simp)
theorem behind_app {ss : List Stp} : ∀ {a : List (List Str)} {rs : List Int} (b : List (List Str)), (behindR ss rs a).length = a.length → behindR ss rs (a ++ b) = behindR ss rs a ++ behindR ss (lastOf ss rs a) b
  | [], _, _, _ => rfl
  | ns :: a, rs, b, h => by
    cases e : nextR ss rs ns with
    | none =>
      have : behindR ss rs (ns :: a) = [] := by
        unfold behindR
        rw [e]
      rw [this] at h
      cases h
    | some r =>
      have q : ∀ x, behindR ss rs (ns :: x) = r :: behindR ss r x := fun x => by
        conv => lhs; unfold behindR
        rw [e]
      have q0 := q a
      rw [q0] at h
      have ih := behind_app (a := a) (rs := r) b (Nat.succ.inj h)
      have l : lastOf ss rs (ns :: a) = lastOf ss r a := by
        unfold lastOf
        simp only [q0]
        rw [List.getLast_cons (by simp)]
      rw [List.cons_append, q, ih, q0, l]
      rfl
theorem last_app {ss : List Stp} {a : List (List Str)} {rs rs' : List Int} {ns : List Str} (h : (behindR ss rs a).length = a.length) (e : nextR ss (lastOf ss rs a) ns = some rs') :
    (behindR ss rs (a ++ [ns])).length = (a ++ [ns]).length ∧ lastOf ss rs (a ++ [ns]) = rs' := by
  have q : behindR ss rs (a ++ [ns]) = behindR ss rs a ++ [rs'] := by
    rw [behind_app [ns] h]
    congr 1
    unfold behindR
    rw [e]
    rfl
  refine ⟨by rw [q, List.length_append, List.length_append, h]; rfl, ?_⟩
  unfold lastOf
  simp only [q]
  exact last_snoc _ _ _ _
theorem mem_quiet {ss : List Stp} {rs : List Int} {ns : List Str} {s : Stp} : s ∈ quietR ss rs ns ↔ s ∈ ss ∧ s.le ∈ rs ∧ ∀ n ∈ s.ns, n ∈ ns := by
  unfold quietR
  rw [List.mem_filter, Bool.and_eq_true, decide_eq_true_iff, List.all_eq_true]
  simp only [decide_eq_true_iff]
theorem next_some {ss : List Stp} {rs : List Int} {ns : List Str} (h : ∀ n ∈ ns, ∃ s ∈ quietR ss rs ns, n ∈ s.ns) : nextR ss rs ns = some (uniqI (rs ++ (quietR ss rs ns).map (·.ri))) := if_pos (by
  rw [List.all_eq_true]
  intro n hn
  obtain ⟨s, hs, m⟩ := h n hn
  exact List.any_eq_true.mpr ⟨s, hs, decide_eq_true m⟩)
/-- what holds of a walk so far -/
structure GwOk (h : Hz) (w : Gw) : Prop where
  full : (behindR (allSteps h) [0] w.ls).length = w.ls.length
  zero : 0 ∈ lastOf (allSteps h) [0] w.ls
  stay : ∀ p : Int, 0 ≤ p → p < (w.pl.length : Nat) → p ∉ w.mv → placeOf w p ∈ lastOf (allSteps h) [0] w.ls
  gone : ∀ x ∈ w.pl, x ∈ lastOf (allSteps h) [0] w.ls ∨ ∃ s ∈ quietR (allSteps h) (lastOf (allSteps h) [0] w.ls) w.cu, s.ri = x
  made : ∀ n ∈ w.cu, ∃ s ∈ quietR (allSteps h) (lastOf (allSteps h) [0] w.ls) w.cu, n ∈ s.ns
  nd : ∀ ns ∈ w.ls ++ [w.cu], ns.Nodup
  nm : ∀ ns ∈ w.ls ++ [w.cu], ∀ n ∈ ns, ∃ s ∈ allSteps h, n ∈ s.ns
theorem GwOk.zero_ (h : Hz) (k : Nat) : GwOk h (wk0 k) where
  full := rfl
  zero := by show (0 : Int) ∈ [0]; simp
  stay := fun p p0 p1 _ => by
    show (List.replicate k (0 : Int)).getD p.toNat 0 ∈ [0]
    have : (List.replicate k (0 : Int)).getD p.toNat 0 = 0 := by
      rw [List.getD_eq_getElem?_getD, List.getElem?_replicate]
      split <;> rfl
    rw [this]
    simp
  gone := fun x hx => .inl (by
    obtain ⟨_, rfl⟩ := List.mem_replicate.mp hx
    show (0 : Int) ∈ [0]
    simp)
  made := fun n hn => nomatch hn
  nd := fun ns hn => by
    have : ns = [] := by simpa [wk0] using hn
    rw [this]
    exact .nil
  nm := fun ns hn n hm => by
    have : ns = [] := by simpa [wk0] using hn
    rw [this] at hm
    cases hm
/-- the rooms behind what was heard so far -/
theorem GwOk.now {h : Hz} {w : Gw} (x : GwOk h w) : (behindR (allSteps h) [0] w.all).length = w.all.length ∧ (∀ r ∈ lastOf (allSteps h) [0] w.ls, r ∈ lastOf (allSteps h) [0] w.all) ∧ ∀ r ∈ w.pl, r ∈ lastOf (allSteps h) [0] w.all := by
  have e := next_some x.made
  obtain ⟨a, b⟩ := last_app x.full e
  refine ⟨a, fun r hr => ?_, fun r hr => ?_⟩
  · show r ∈ lastOf (allSteps h) [0] (w.ls ++ [w.cu])
    rw [b, mem_uniqI]
    exact List.mem_append_left _ hr
  · show r ∈ lastOf (allSteps h) [0] (w.ls ++ [w.cu])
    rw [b, mem_uniqI]
    rcases x.gone r hr with hr | ⟨s, hs, rfl⟩
    · exact List.mem_append_left _ hr
    · exact List.mem_append_right _ (List.mem_map_of_mem hs)
theorem placeOf_set {w : Gw} {p q : Int} {r : Int} {w' : Gw} (e : w'.pl = w.pl.set p.toNat r) (q0 : 0 ≤ q) (p0 : 0 ≤ p) (n : q ≠ p) : placeOf w' q = placeOf w q := by
  unfold placeOf
  rw [e, List.getD_eq_getElem?_getD, List.getD_eq_getElem?_getD, List.getElem?_set_ne (by omega)]
theorem GwOk.go {h : Hz} {w : Gw} {e : Fe} (x : GwOk h w) (c : CanFe h w e) : GwOk h (doFe w e) := by
  cases e with
  | tick =>
    obtain ⟨a, b, d⟩ := x.now
    refine ⟨a, b 0 x.zero, fun p p0 p1 _ => ?_, fun r hr => .inl (d r hr), (fun n hn => nomatch hn), fun ns hn => ?_, fun ns hn n hm => ?_⟩
    · refine d _ ?_
      show w.pl.getD p.toNat 0 ∈ w.pl
      have p1' : p < (w.pl.length : Nat) := p1
      have : p.toNat < w.pl.length := by omega
      rw [List.getD_eq_getElem?_getD, List.getElem?_eq_getElem this]
      exact List.getElem_mem this
    · rcases List.mem_append.mp hn with hn | hn
      · exact x.nd ns hn
      · rw [List.mem_singleton.mp hn]
        exact .nil
    · rcases List.mem_append.mp hn with hn | hn
      · exact x.nm ns hn n hm
      · rw [List.mem_singleton.mp hn] at hm
        cases hm
  | step p s =>
    obtain ⟨⟨p0, p1⟩, pm, ms, el⟩ := c
    have l2 := steps_le2 ms
    have mem : ∀ {n : Str}, n ∈ w.cu ++ newN w.cu s.ns ↔ n ∈ w.cu ∨ n ∈ s.ns := newN_mem l2
    have qs : s ∈ quietR (allSteps h) (lastOf (allSteps h) [0] w.ls) (w.cu ++ newN w.cu s.ns) := mem_quiet.mpr ⟨ms, by rw [el]; exact x.stay p p0 p1 pm, fun n hn => mem.mpr (.inr hn)⟩
    have mono : ∀ {t : Stp}, t ∈ quietR (allSteps h) (lastOf (allSteps h) [0] w.ls) w.cu → t ∈ quietR (allSteps h) (lastOf (allSteps h) [0] w.ls) (w.cu ++ newN w.cu s.ns) := fun ht => by
      obtain ⟨a, b, c⟩ := mem_quiet.mp ht
      exact mem_quiet.mpr ⟨a, b, fun n hn => mem.mpr (.inl (c n hn))⟩
    refine ⟨x.full, x.zero, fun q q0 q1 qm => ?_, fun r hr => ?_, fun n hn => ?_, fun ns hn => ?_, fun ns hn n hm => ?_⟩
    · have qm2 : q ∉ w.mv ++ [p] := qm
      rw [List.mem_append, not_or, List.mem_singleton] at qm2
      rw [placeOf_set (w := w) (w' := doFe w (.step p s)) rfl q0 p0 qm2.2]
      exact x.stay q q0 (by
        have : q < ((w.pl.set p.toNat s.ri).length : Nat) := q1
        rw [List.length_set] at this
        exact this) qm2.1
    · rcases List.mem_or_eq_of_mem_set hr with hr | rfl
      · exact (x.gone r hr).imp id fun ⟨t, ht, e⟩ => ⟨t, mono ht, e⟩
      · exact .inr ⟨s, qs, rfl⟩
    · rcases mem.mp hn with hn | hn
      · obtain ⟨t, ht, e⟩ := x.made n hn
        exact ⟨t, mono ht, e⟩
      · exact ⟨s, qs, hn⟩
    · rcases List.mem_append.mp hn with hn | hn
      · exact x.nd ns (List.mem_append_left _ hn)
      · rw [List.mem_singleton.mp hn]
        exact newN_nd l2 (x.nd w.cu (by simp))
    · rcases List.mem_append.mp hn with hn | hn
      · exact x.nm ns (List.mem_append_left _ hn) n hm
      · rw [List.mem_singleton.mp hn] at hm
        rcases mem.mp hm with hm | hm
        · exact x.nm w.cu (by simp) n hm
        · exact ⟨s, ms, hm⟩
theorem GwOk.run {h : Hz} : ∀ {es : List Fe} {w : Gw}, GwOk h w → PossFe h w es → GwOk h (runFe w es)
  | [], _, x, _ => x
  | _ :: es, _, x, p => GwOk.run (es := es) (x.go p.1) p.2
end Lw
set_option Elab.async false
set_option linter.all false
set_option maxRecDepth 100000
set_option maxHeartbeats 8000000
namespace Lw
open PySem PySem.Spec PyProof.Rows L2 Hb
/-! ### walks of guests, drawn -/
structure LotsN (K : PySem.W.Frag) (H0 H : Hp) (xs : List V) (lots : List (List Str)) : Prop where
  len : xs.length = lots.length
  at_ : ∀ (i : Nat) (v : V), xs[i]? = some v → ∃ (a : Addr) (ns : List Str), v = .ref a ∧ lots[i]? = some ns ∧ H a = some (.lst (ns.map V.str)) ∧ H0 a = none
section
variable {K : PySem.W.Frag} {H0 H H' : Hp} {xs : List V} {lots : List (List Str)}
theorem LotsN.la (x : LotsN K H0 H xs lots) : LotsAt K H xs lots := ⟨x.len, fun i v e => by
  obtain ⟨a, ns, e1, e2, e3, _⟩ := x.at_ i v e
  exact ⟨a, ns, e1, e2, .inl (SqL.of e3)⟩⟩
theorem LotsN.same (x : LotsN K H0 H xs lots) (s : Same H H') : LotsN K H0 H' xs lots := ⟨x.len, fun i v e => by
  obtain ⟨a, ns, e1, e2, e3, e4⟩ := x.at_ i v e
  exact ⟨a, ns, e1, e2, s _ _ e3, e4⟩⟩
theorem LotsN.kp {d g : Addr} (x : LotsN K H0 H xs lots) (dl0 : Feed d g H0) (k : Kp d g H H') : LotsN K H0 H' xs lots := ⟨x.len, fun i v e => by
  obtain ⟨a, ns, e1, e2, e3, e4⟩ := x.at_ i v e
  exact ⟨a, ns, e1, e2, k _ _ (dl0.free e4).1 (dl0.free e4).2 e3, e4⟩⟩
theorem LotsN.put {q : Addr} {o : HO} (x : LotsN K H0 H xs lots) (n : ∀ a, V.ref a ∈ xs → a ≠ q) : LotsN K H0 (upd H q o) xs lots := ⟨x.len, fun i v e => by
  obtain ⟨a, ns, rfl, e2, e3, e4⟩ := x.at_ i v e
  exact ⟨a, ns, rfl, e2, by rw [upd_ne (n a (List.mem_of_getElem? e))]; exact e3, e4⟩⟩
theorem LotsN.base {H1 : Hp} (x : LotsN K H1 H xs lots) (s : ∀ l, H1 l = none → H0 l = none) : LotsN K H0 H xs lots := ⟨x.len, fun i v e => by
  obtain ⟨a, ns, e1, e2, e3, e4⟩ := x.at_ i v e
  exact ⟨a, ns, e1, e2, e3, s _ e4⟩⟩
theorem LotsN.app {a : Addr} {ns : List Str} (x : LotsN K H0 H xs lots) (h : H a = some (.lst (ns.map V.str))) (n : H0 a = none) : LotsN K H0 H (xs ++ [.ref a]) (lots ++ [ns]) := by
  refine ⟨by rw [List.length_append, List.length_append, x.len]; rfl, fun i v e => ?_⟩
  by_cases c : i < xs.length
  · rw [List.getElem?_append_left c] at e
    obtain ⟨b, ms, e1, e2, e3⟩ := x.at_ i v e
    exact ⟨b, ms, e1, by rw [List.getElem?_append_left (by rw [← x.len]; exact c)]; exact e2, e3⟩
  · have ci : i = xs.length := by
      have := (List.getElem?_eq_some_iff.mp e).1
      rw [List.length_append] at this
      have : ([V.ref a] : List V).length = 1 := rfl
      omega
    subst ci
    rw [List.getElem?_append_right (Nat.le_refl _), Nat.sub_self] at e
    obtain rfl := Option.some.inj e
    exact ⟨a, ns, rfl, by rw [x.len, List.getElem?_append_right (Nat.le_refl _), Nat.sub_self]; rfl, h, n⟩
end
/-- what stands while a walk is drawn -/
structure WI (K : PySem.W.Frag) (d g : Addr) (H0 : Hp) (P M L E C : Addr) (xs : List V) (w : Gw) (evs : List Str) (H : Hp) : Prop where
  dl0 : Feed d g H0
  dl : Feed d g H
  kp : Kp d g H0 H
  hP : H P = some (.lst (w.pl.map V.int))
  hM : H M = some (.lst (w.mv.map V.int))
  hE : H E = some (.lst (evs.map V.str))
  hL : H L = some (.lst (xs ++ [.ref C]))
  hC : H C = some (.lst (w.cu.map V.str))
  la : LotsN K H0 H xs w.ls
  nP : H0 P = none
  nM : H0 M = none
  nL : H0 L = none
  nE : H0 E = none
  nC : H0 C = none
  ne : (P ≠ M ∧ P ≠ L ∧ P ≠ E ∧ P ≠ C) ∧ (M ≠ L ∧ M ≠ E ∧ M ≠ C) ∧ (L ≠ E ∧ L ≠ C) ∧ E ≠ C
  nx : ∀ a, V.ref a ∈ xs → a ≠ P ∧ a ≠ M ∧ a ≠ E ∧ a ≠ C
section
variable {K : PySem.W.Frag} {d g P M L E C : Addr} {H0 H H' : Hp} {xs : List V} {w : Gw} {evs : List Str}
theorem WI.go (x : WI K d g H0 P M L E C xs w evs H) (k : Kp d g H H') (dl : Feed d g H') : WI K d g H0 P M L E C xs w evs H' := by
  have f : ∀ {q : Addr} {o : HO}, H0 q = none → H q = some o → H' q = some o := fun n e => k _ _ (x.dl0.free n).1 (x.dl0.free n).2 e
  exact ⟨x.dl0, dl, x.kp.trans k, f x.nP x.hP, f x.nM x.hM, f x.nE x.hE, f x.nL x.hL, f x.nC x.hC, x.la.kp x.dl0 k, x.nP, x.nM, x.nL, x.nE, x.nC, x.ne, x.nx⟩
theorem WI.same (x : WI K d g H0 P M L E C xs w evs H) (s : Same H H') : WI K d g H0 P M L E C xs w evs H' := x.go (Hb.Same.kp s) (x.dl.same s)
theorem acc_kp (x : Kp d g H0 H) {q : Addr} {o : HO} (n : H0 q = none) : Kp d g H0 (upd H q o) := fun b u n1 n2 e => by
  rw [upd_ne (ne_of_none e n)]
  exact x b u n1 n2 e
theorem WI.putE (x : WI K d g H0 P M L E C xs w evs H) (t : Str) : WI K d g H0 P M L E C xs w (evs ++ [t]) (upd H E (.lst (evs.map V.str ++ [.str t]))) := by
  obtain ⟨⟨a1, a2, a3, a4⟩, ⟨b1, b2, b3⟩, ⟨c1, c2⟩, d1⟩ := x.ne
  exact ⟨x.dl0, x.dl.set (x.dl0.free x.nE).1 (x.dl0.free x.nE).2, acc_kp x.kp x.nE, by rw [upd_ne a3]; exact x.hP, by rw [upd_ne b2]; exact x.hM, by rw [upd_same, List.map_append]; rfl, by rw [upd_ne c1]; exact x.hL, by rw [upd_ne d1.symm]; exact x.hC, x.la.put fun a m => (x.nx a m).2.2.1, x.nP, x.nM, x.nL, x.nE, x.nC, x.ne, x.nx⟩
theorem WI.putP (x : WI K d g H0 P M L E C xs w evs H) {w' : Gw} {vs : List V} (e : vs = w'.pl.map V.int) (e1 : w'.mv = w.mv) (e2 : w'.ls = w.ls) (e3 : w'.cu = w.cu) : WI K d g H0 P M L E C xs w' evs (upd H P (.lst vs)) := by
  obtain ⟨⟨a1, a2, a3, a4⟩, ⟨b1, b2, b3⟩, ⟨c1, c2⟩, d1⟩ := x.ne
  exact ⟨x.dl0, x.dl.set (x.dl0.free x.nP).1 (x.dl0.free x.nP).2, acc_kp x.kp x.nP, by rw [upd_same, e], by rw [upd_ne a1.symm, e1]; exact x.hM, by rw [upd_ne a3.symm]; exact x.hE, by rw [upd_ne a2.symm]; exact x.hL, by rw [upd_ne a4.symm, e3]; exact x.hC, by rw [e2]; exact x.la.put fun a m => (x.nx a m).1, x.nP, x.nM, x.nL, x.nE, x.nC, x.ne, x.nx⟩
theorem WI.putM (x : WI K d g H0 P M L E C xs w evs H) {w' : Gw} {vs : List V} (e : vs = w'.mv.map V.int) (e1 : w'.pl = w.pl) (e2 : w'.ls = w.ls) (e3 : w'.cu = w.cu) : WI K d g H0 P M L E C xs w' evs (upd H M (.lst vs)) := by
  obtain ⟨⟨a1, a2, a3, a4⟩, ⟨b1, b2, b3⟩, ⟨c1, c2⟩, d1⟩ := x.ne
  exact ⟨x.dl0, x.dl.set (x.dl0.free x.nM).1 (x.dl0.free x.nM).2, acc_kp x.kp x.nM, by rw [upd_ne a1, e1]; exact x.hP, by rw [upd_same, e], by rw [upd_ne b2.symm]; exact x.hE, by rw [upd_ne b1.symm]; exact x.hL, by rw [upd_ne b3.symm, e3]; exact x.hC, by rw [e2]; exact x.la.put fun a m => (x.nx a m).2.1, x.nP, x.nM, x.nL, x.nE, x.nC, x.ne, x.nx⟩
theorem WI.putC (x : WI K d g H0 P M L E C xs w evs H) {w' : Gw} {vs : List V} (e : vs = w'.cu.map V.str) (e1 : w'.pl = w.pl) (e2 : w'.ls = w.ls) (e3 : w'.mv = w.mv) : WI K d g H0 P M L E C xs w' evs (upd H C (.lst vs)) := by
  obtain ⟨⟨a1, a2, a3, a4⟩, ⟨b1, b2, b3⟩, ⟨c1, c2⟩, d1⟩ := x.ne
  exact ⟨x.dl0, x.dl.set (x.dl0.free x.nC).1 (x.dl0.free x.nC).2, acc_kp x.kp x.nC, by rw [upd_ne a4, e1]; exact x.hP, by rw [upd_ne b3, e3]; exact x.hM, by rw [upd_ne d1]; exact x.hE, by rw [upd_ne c2]; exact x.hL, by rw [upd_same, e], by rw [e2]; exact x.la.put fun a m => (x.nx a m).2.2.2, x.nP, x.nM, x.nL, x.nE, x.nC, x.ne, x.nx⟩
end
def spWalked (K : PySem.W.Frag) : Sp := fun vs H Q _ => ∃ (d g o : Addr) (h : Hz) (people many : Int), vs = [.ref d, .ref o, .int people, .int many] ∧ Feed d g H ∧ HLo K g H o h ∧ HwOk h ∧ 1 ≤ people ∧ people ≤ 10 ∧ 0 ≤ many ∧ many ≤ 100 ∧
  ∀ H' t E L P xs es, Feed d g H' → Kp d g H H' → SqT K H' t [.ref E, .ref L, .ref P] → H' E = some (.lst ((es.map feT).map V.str)) → H' L = some (.lst xs) → LotsN K H H' xs (runFe (wk0 people.toNat) es).all → H' P = some (.lst ((runFe (wk0 people.toNat) es).pl.map V.int)) →
    H E = none → H L = none → H P = none → PossFe h (wk0 people.toNat) es → es.length = many.toNat → Q (.ref t) H'
def encWy (s : Stp) : PyData := .tuple [.int s.n, .int s.ri, .list (s.ns.map PyData.str)]
theorem ways_dp {K : PySem.W.Frag} {H : Hp} : ∀ {xs : List V} {ws : List Stp}, xs.length = ws.length → (∀ (i : Nat) (v : V), xs[i]? = some v → ∃ (t l : Addr) (s : Stp), v = .ref t ∧ ws[i]? = some s ∧ SqT K H t [.int s.n, .int s.ri, .ref l] ∧ H l = some (.lst (s.ns.map V.str))) → L2.DpAll K H xs (ws.map encWy)
  | [], [], _, _ => .nil
  | [], _ :: _, e, _ => by cases e
  | _ :: _, [], e, _ => by cases e
  | x :: xs, w :: ws, e, h => by
    obtain ⟨t, l, s, rfl, e2, e3, e4⟩ := h 0 x rfl
    obtain rfl := Option.some.inj e2
    exact .cons (.tup e3 (.cons (.int _) (.cons (.int _) (.cons (.lst (SqL.of e4) (TDs.dp (tds_strs _))) .nil)))) (ways_dp (Nat.succ.inj e) fun i v q => h (i + 1) v q)
theorem shp_way {s : Stp} (h : ∀ n ∈ s.ns, PyData.strOk n = true) : Shp (encWy s) := by
  have a : ∀ {ns : List Str}, (∀ n ∈ ns, PyData.strOk n = true) → PyData.canLayAll0 (ns.map PyData.str) = true ∧ PyData.depthAll (ns.map PyData.str) ≤ 1 := by
    intro ns
    induction ns with
    | nil => exact fun _ => ⟨rfl, by simp [PyData.depthAll]⟩
    | cons n ns ih =>
      intro q
      obtain ⟨b, c⟩ := ih fun x hx => q x (List.mem_cons_of_mem _ hx)
      refine ⟨?_, ?_⟩
      · rw [List.map_cons]
        simp only [PyData.canLayAll0, PyData.canLay0, Bool.and_eq_true]
        exact ⟨q n List.mem_cons_self, b⟩
      · rw [List.map_cons]
        simp only [PyData.depthAll, PyData.depth]
        omega
  obtain ⟨b, c⟩ := a h
  refine ⟨?_, ?_⟩
  · simp only [encWy, PyData.canLay0, PyData.canLayAll0, Bool.and_eq_true, b]
    simp
  · simp only [encWy, PyData.depth, PyData.depthAll]
    omega
theorem ifS_cut {tt : TT} {t u : TS} {D : Ends} {σ : L2.St} {H : Hp} (R1 R2 : Hp → Prop) (h1 : ∀ H', R1 H' → t D σ H') (h2 : ∀ H', R2 H' → u D σ H') (h : (∀ H', R1 H' → t D σ H') → (∀ H', R2 H' → u D σ H') → tt σ H fun b H' => if b = true then t D σ H' else u D σ H') : tIfS tt t u D σ H := h h1 h2
theorem eq_nilDp {K : PySem.W.Frag} {H : Hp} {Q : VK} {q l : Addr} {vs : List V} {ds : List PyData} (hq : SqL K H q vs) (ht : L2.DpAll K H vs ds) (hl : SqL K H l []) (sh : SeqAt.shaped (.list ds) = true) (k : Q (.bl ds.isEmpty) H) : rEqD K (.ref q) (.ref l) H Q :=
  ⟨.list ds, .list [], .lst hq ht, .lst hl (TDs.dp .nil), sh, by decide +kernel, by rw [eqv_nil]; cases ds <;> exact k⟩
theorem tick_WI {K : PySem.W.Frag} {d g P M L E C M2 C2 T2 L2 tp : Addr} {H0 H : Hp} {xs : List V} {w : Gw} {evs : List Str} {o : HO} (y : WI K d g H0 P M L E C xs w evs H) (h2 : H M2 = none) (h3 : upd H M2 (.lst []) C2 = none) (h4 : upd (upd H M2 (.lst [])) C2 (.lst []) T2 = none)
    (h5 : upd (upd (upd H M2 (.lst [])) C2 (.lst [])) T2 (.lst [.ref C2]) L2 = none) (h6 : upd (upd (upd (upd H M2 (.lst [])) C2 (.lst [])) T2 (.lst [.ref C2])) L2 (.lst (xs ++ [.ref C] ++ [.ref C2])) tp = none) :
    WI K d g H0 P M2 L2 E C2 (xs ++ [.ref C]) (doFe w .tick) evs (upd (upd (upd (upd (upd H M2 (.lst [])) C2 (.lst [])) T2 (.lst [.ref C2])) L2 (.lst (xs ++ [.ref C] ++ [.ref C2]))) tp o) := by
  have s2 : Same H (upd H M2 (.lst [])) := Same.new h2
  have s3 := Same.new h3 (o := .lst [])
  have s4 := Same.new h4 (o := .lst [.ref C2])
  have s5 := Same.new h5 (o := .lst (xs ++ [.ref C] ++ [.ref C2]))
  have s6 := Same.new h6 (o := o)
  have f3 := s2.free h3
  have f5 := ((s2.trans s3).trans s4).free h5
  have z := y.same ((((s2.trans s3).trans s4).trans s5).trans s6)
  have M2C2 : M2 ≠ C2 := ne_of_none upd_same h3
  have M2L2 : M2 ≠ L2 := ne_of_none ((s3.trans s4) _ _ upd_same) h5
  have C2L2 : C2 ≠ L2 := ne_of_none (s4 _ _ upd_same) h5
  obtain ⟨⟨a1, a2, a3, a4⟩, ⟨b1, b2, b3⟩, ⟨c1, c2⟩, d1⟩ := y.ne
  refine ⟨z.dl0, z.dl, z.kp, z.hP, ((((s3.trans s4).trans s5).trans s6) _ _ upd_same), z.hE, s6 _ _ upd_same, (((s4.trans s5).trans s6) _ _ upd_same), z.la.app z.hC z.nC, z.nP, y.dl.kfree y.kp h2, y.dl.kfree y.kp f5, z.nE, y.dl.kfree y.kp f3,
    ⟨⟨ne_of_none y.hP h2, ne_of_none y.hP f5, a3, ne_of_none y.hP f3⟩, ⟨M2L2, (ne_of_none y.hE h2).symm, M2C2⟩, ⟨(ne_of_none y.hE f5).symm, C2L2.symm⟩, ne_of_none y.hE f3⟩, fun a ha => ?_⟩
  rcases List.mem_append.mp ha with ha | ha
  · obtain ⟨e1, e2, e3, e4⟩ := y.nx a ha
    obtain ⟨i, hi⟩ := List.mem_iff_getElem?.mp ha
    obtain ⟨b, ns, q1, q2, q3, q4⟩ := y.la.at_ i _ hi
    cases q1
    exact ⟨e1, ne_of_none q3 h2, e3, ne_of_none q3 f3⟩
  · cases List.mem_singleton.mp ha
    exact ⟨a4.symm, ne_of_none y.hC h2, d1.symm, ne_of_none y.hC f3⟩
theorem step_num {h : Hz} (hw : HwOk h) {s : Stp} (m : s ∈ allSteps h) : 0 ≤ s.n ∧ s.n ≤ 7 := by
  have go : ∀ m, m ≤ h.doors.length → ∀ s ∈ stepsTo h m, 0 ≤ s.n ∧ s.n ≤ (m : Nat) := by
    intro m
    induction m with
    | zero => exact fun _ s hs => nomatch hs
    | succ m ih =>
      intro hm s hs
      rw [steps_next (List.getElem?_eq_getElem (show m < h.doors.length by omega))] at hs
      rcases List.mem_append.mp hs with hs | hs
      · have := ih (by omega) s hs
        omega
      · simp only [stepsAt, List.mem_cons, List.not_mem_nil, or_false] at hs
        rcases hs with rfl | rfl
        · exact ⟨by show (0 : Int) ≤ (m : Nat); omega, by show (m : Int) ≤ ((m + 1 : Nat) : Int); omega⟩
        · exact ⟨by show (0 : Int) ≤ (m : Nat); omega, by show (m : Int) ≤ ((m + 1 : Nat) : Int); omega⟩
  have := go _ (Nat.le_refl _) s m
  have := hw.df
  omega
theorem app_len (a b : Str) : (a ++ b).length = a.length + b.length := by
  show (a.cps ++ b.cps).size = _
  rw [Array.size_append]
  rfl
theorem num_few : ∀ i ∈ List.range 128, ((toString (i : Int) : String) : Str).length ≤ 3 ∧ (i : Int).natAbs.log2 < 1920 := by decide +kernel
theorem num_lo {i : Int} (h0 : 0 ≤ i) (h1 : i < 128) : ((toString i : String) : Str).length ≤ 3 ∧ i.natAbs.log2 < 1920 := by
  obtain ⟨n, rfl⟩ := Int.eq_ofNat_of_zero_le h0
  exact num_few n (List.mem_range.mpr (by omega))
section
variable {P : Program} {w : World} {K : PySem.W.Frag} {mg : Str → Option Value} {base : Heap}
theorem c_walked (D : Df K mg "_law_walked" s_walked) (T : Tx K mg) (c_take : C8.Cal P w K mg base 1 "_law_take" spDraw []) (c_pick : C8.Cal P w K mg base 2 "_law_pick" (spPick K) []) (c_ways : C8.Cal P w K mg base 1 "_law_ways" (spWays K) []) : C8.Cal P w K mg base 3 "_law_walked" (spWalked K) [] := by
  refine cal_mk D sc_walked bd_walked (fun vs H Q E h => ?_) fun f cdv A outer s H vs Q E hr h => ?_
  · obtain ⟨d, g, o, h, people, many, rfl, _⟩ := h
    rfl
  · obtain ⟨d, g, o, h, people, many, rfl, dl, ho, hw, p1, p10, m0, m1, k⟩ := h
    have line := sizeLine_eq
    refine ⟨_, (pss_cons (ps_asg (pe_tup (pa_cons (pe_op op_rep (pe_lst (pa_cons pe_int pa_nil)) (pv 2)) (pa_cons (pe_lst pa_nil) (pa_cons (pe_lst (pa_cons (pe_lst pa_nil) pa_nil)) (pa_cons (pe_lst pa_nil) pa_nil))))) (pg_tup (by rfl) (pgs_cons (pg_name (i := 4) sc_walked.nd rfl (Or.inl rfl)) (pgs_cons (pg_name (i := 5) sc_walked.nd rfl (Or.inl rfl)) (pgs_cons (pg_name (i := 6) sc_walked.nd rfl (Or.inr rfl)) (pgs_cons (pg_name (i := 7) sc_walked.nd rfl (Or.inl rfl)) pgs_nil))))))
 (pss_cons (ps_for PassesOwn.never rfl (pi_range1 (by rfl) T.n_range (pa_cons (pv 3) pa_nil)) (pg_name (i := 8) sc_walked.nd rfl (Or.inl rfl))
 (pss_cons (ps_set (i := 9) sc_walked.nd rfl (Or.inl rfl) (C8.pe_c c_take hr (by decide) rfl (pa_cons (pv 0) (pa_cons (pv 2) pa_nil))))
 (pss_cons (ps_set (i := 10) sc_walked.nd rfl (Or.inl rfl) (C8.pe_c c_ways hr (by decide) rfl (pa_cons (pv 1) (pa_cons (pe_ix ix_list (pv 4) (pv 9) (fun _ _ => rfl)) pa_nil))))
 (pss_one (ps_if (PW.pt (pw_or (pt_cmpR op_in_seq (pv 9) (pv 5) (by first | exact nomark _ | rfl)) (pw_or (pt_cmpR (op_eqD (room64F hr)) (pv 10) (pe_lst pa_nil) (by first | exact nomark _ | rfl)) (pw_or1 (pt_cmpR op_eq (C8.pe_c c_take hr (by decide) rfl (pa_cons (pv 0) (pa_cons pe_int pa_nil))) pe_int (by first | exact nomark _ | rfl))))))
 (pss_cons (ps_expr (pe_bm PySem.F.plainAttrs_list PySem.F.slot_list_append PySem.F.type_list_append mt_append (pv 7) (pa_cons pe_str pa_nil)))
 (pss_one (ps_asg (pe_tup (pa_cons (pe_lst pa_nil) (pa_cons (pe_op op_cat (pv 6) (pe_lst (pa_cons (pe_lst pa_nil) pa_nil))) pa_nil))) (pg_tup (by rfl) (pgs_cons (pg_name (i := 5) sc_walked.nd rfl (Or.inl rfl)) (pgs_cons (pg_name (i := 6) sc_walked.nd rfl (Or.inr rfl)) pgs_nil))))))
 (pss_cons (ps_asg (C8.pe_c c_pick hr (by decide) rfl (pa_cons (pv 0) (pa_cons (pv 10) pa_nil))) (pg_tup (by rfl) (pgs_cons (pg_name (i := 11) sc_walked.nd rfl (Or.inl rfl)) (pgs_cons (pg_name (i := 12) sc_walked.nd rfl (Or.inl rfl)) (pgs_cons (pg_name (i := 13) sc_walked.nd rfl (Or.inr rfl)) pgs_nil)))))
 (pss_cons (ps_expr (pe_bm PySem.F.plainAttrs_list PySem.F.slot_list_append PySem.F.type_list_append mt_append (pv 7) (pa_cons (pe_op (show OpR _ _ (fun x y H Q => ∃ a b : Str, x = .str a ∧ y = .str b ∧ a.length + b.length ≤ sizeLine ∧ Q (.str (a ++ b)) H) from op_add_str) (pe_op (show OpR _ _ (fun x y H Q => ∃ a b : Str, x = .str a ∧ y = .str b ∧ a.length + b.length ≤ sizeLine ∧ Q (.str (a ++ b)) H) from op_add_str) (pe_op (show OpR _ _ (fun x y H Q => ∃ a b : Str, x = .str a ∧ y = .str b ∧ a.length + b.length ≤ sizeLine ∧ Q (.str (a ++ b)) H) from op_add_str) pe_str (pe_callTy (show CallR _ _ (fun xs H Q => ∃ n : Int, xs = [.int n] ∧ n.natAbs.log2 < 1920 ∧ Q (.str ((toString n : String) : Str)) H) from call_str_int) (by rfl) T.n_str (by decide +kernel) (pa_cons (pv 9) pa_nil))) pe_str) (pe_callTy (show CallR _ _ (fun xs H Q => ∃ n : Int, xs = [.int n] ∧ n.natAbs.log2 < 1920 ∧ Q (.str ((toString n : String) : Str)) H) from call_str_int) (by rfl) T.n_str (by decide +kernel) (pa_cons (pv 11) pa_nil))) pa_nil)))
 (pss_cons (ps_asg (pv 12) (pg_sub (pv 4) (pv 9) set_list))
 (pss_cons (ps_expr (pe_bm PySem.F.plainAttrs_list PySem.F.slot_list_append PySem.F.type_list_append mt_append (pv 5) (pa_cons (pv 9) pa_nil)))
 (pss_one (ps_expr (pe_bm PySem.F.plainAttrs_list PySem.F.slot_list_extend PySem.F.type_list_extend mt_extend (pe_ix ix_list (pv 6) (pe_un un_neg pe_int) (fun _ _ => rfl)) (pa_cons (pe_lc (own := [("_law_at", 14), ("_law_name", 15)]) (g := (gTup K 2 (gCons (gName 14) (gCons (gName 15) gNil)))) (by rfl) sc_walked.nd (pi_enum (by rfl) T.n_enumerate (pa_cons (pv 13) pa_nil)) (blkOk_by (N := N_walked) (sc := defScope s_walked) (by decide +kernel)) (fun _ _ _ _ _ => (pg_tup (by rfl) (pgs_cons (pg_name (i := 14) sc_walked.nd rfl (Or.inl rfl)) (pgs_cons (pg_name (i := 15) sc_walked.nd rfl (Or.inl rfl)) pgs_nil)))) (fun _ _ _ _ _ => (pts_one (PW.pt (pw_and (pt_cmpR (show OpR _ _ (rIn K true) from op_notIn_seq) (pv 15) (pe_ix (show IxR _ (rIxL K) from ix_list) (pv 6) (pe_un un_neg pe_int) (fun _ _ => rfl)) (by first | exact nomark _ | rfl)) (pw_and1 (pt_cmpR (show OpR _ _ (rIn K true) from op_notIn_seq) (pv 15) (pe_slice (show SlR _ (rSlL K) from sl_list) (pv 13) po_none (po_some (pv 14))) (by first | exact nomark _ | rfl))))))) (fun _ _ _ _ _ => (pv 15))) pa_nil)))))))))))))
 (pss_one (ps_ret (pe_tup (pa_cons (pv 7) (pa_cons (pv 6) (pa_cons (pv 4) pa_nil)))))))), ?_⟩
    have df := hw.df
    refine ⟨by show 1 ≤ sizeLine; omega, fun z0 nz0 => ⟨_, rfl, z0, people, [.int 0], rfl, rfl, upd_same, by omega, by omega, by show 1 * people.toNat ≤ sizeLine; omega, fun P0 nP0 => ⟨Nat.zero_le _, fun M0 nM0 => ⟨Nat.zero_le _, fun C0 nC0 => ⟨by show 1 ≤ sizeLine; omega, fun L0 nL0 => ⟨Nat.zero_le _, fun E0 nE0 => ⟨by show 4 ≤ sizeLine; omega, fun tp ntp => ⟨tp, _, rfl, SqT.of upd_same, rfl, _, _, rfl, _, _, rfl, _, _, rfl, _, _, rfl, rfl, ?_⟩⟩⟩⟩⟩⟩⟩⟩
    have erep : (List.replicate people.toNat [V.int 0]).flatten = (List.replicate people.toNat (0 : Int)).map V.int := by
      generalize people.toNat = k
      induction k with
      | zero => rfl
      | succ k ih => rw [List.replicate_succ, List.replicate_succ, List.flatten_cons, ih]; rfl
    rw [erep] at ntp nE0 nL0 nC0 nM0 ⊢
    generalize hHz : upd H z0 (.lst [.int 0]) = Hz at nP0 nM0 nC0 nL0 nE0 ntp ⊢
    have sz : Same H Hz := by rw [← hHz]; exact Same.new nz0
    generalize hHP : upd Hz P0 (.lst ((List.replicate people.toNat (0 : Int)).map V.int)) = HP at nM0 nC0 nL0 nE0 ntp ⊢
    have sP : Same Hz HP := by rw [← hHP]; exact Same.new nP0
    have hP : HP P0 = some (.lst ((List.replicate people.toNat (0 : Int)).map V.int)) := by rw [← hHP]; exact upd_same
    generalize hHM : upd HP M0 (.lst []) = HM at nC0 nL0 nE0 ntp ⊢
    have sM : Same HP HM := by rw [← hHM]; exact Same.new nM0
    have hM : HM M0 = some (.lst []) := by rw [← hHM]; exact upd_same
    generalize hHC : upd HM C0 (.lst []) = HC at nL0 nE0 ntp ⊢
    have sC : Same HM HC := by rw [← hHC]; exact Same.new nC0
    have hC : HC C0 = some (.lst []) := by rw [← hHC]; exact upd_same
    generalize hHL : upd HC L0 (.lst [.ref C0]) = HL at nE0 ntp ⊢
    have sL : Same HC HL := by rw [← hHL]; exact Same.new nL0
    have hL : HL L0 = some (.lst [.ref C0]) := by rw [← hHL]; exact upd_same
    generalize hHE : upd HL E0 (.lst []) = HE at ntp ⊢
    have sE : Same HL HE := by rw [← hHE]; exact Same.new nE0
    have hE : HE E0 = some (.lst []) := by rw [← hHE]; exact upd_same
    have sT : Same HE (upd HE tp (.tup [.ref P0, .ref M0, .ref L0, .ref E0])) := Same.new ntp
    have fP := sz.free nP0
    have fM := (sz.trans sP).free nM0
    have fC := ((sz.trans sP).trans sM).free nC0
    have fL := (((sz.trans sP).trans sM).trans sC).free nL0
    have fE := ((((sz.trans sP).trans sM).trans sC).trans sL).free nE0
    have sAll := (((((sz.trans sP).trans sM).trans sC).trans sL).trans sE).trans sT
    have x0 : WI K d g H P0 M0 L0 E0 C0 [] (wk0 people.toNat) [] (upd HE tp (.tup [.ref P0, .ref M0, .ref L0, .ref E0])) :=
      ⟨dl, dl.same sAll, Hb.Same.kp sAll, ((((sM.trans sC).trans sL).trans sE).trans sT) _ _ hP, (((sC.trans sL).trans sE).trans sT) _ _ hM, sT _ _ hE, (sE.trans sT) _ _ hL, ((sL.trans sE).trans sT) _ _ hC, ⟨rfl, fun i v e => nomatch e⟩, fP, fM, fL, fE, fC,
        ⟨⟨ne_of_none hP nM0, ne_of_none ((sM.trans sC) _ _ hP) nL0, ne_of_none (((sM.trans sC).trans sL) _ _ hP) nE0, ne_of_none (sM _ _ hP) nC0⟩, ⟨ne_of_none (sC _ _ hM) nL0, ne_of_none ((sC.trans sL) _ _ hM) nE0, ne_of_none hM nC0⟩, ⟨ne_of_none hL nE0, (ne_of_none hC nL0).symm⟩, (ne_of_none (sL _ _ hC) nE0).symm⟩, fun a ha => nomatch ha⟩
    generalize upd HE tp (.tup [.ref P0, .ref M0, .ref L0, .ref E0]) = HT at x0 ⊢
    clear sz sP hP sM hM sC hC sL hL sE hE sT sAll fP fM fC fL fE hHz hHP hHM hHC hHL hHE ntp nE0 nL0 nC0 nM0 nP0 nz0
    refine ⟨_, rfl, many, rfl, by omega, by omega, for_range (lo := 0) (n := many.toNat) (fun i σ H' => ∃ M L C xs es, WI K d g H P0 M L E0 C xs (runFe (wk0 people.toNat) es) (es.map feT) H' ∧ PossFe h (wk0 people.toNat) es ∧ GwOk h (runFe (wk0 people.toNat) es) ∧ (runFe (wk0 people.toNat) es).pl.length = people.toNat ∧ (runFe (wk0 people.toNat) es).mv.length ≤ i ∧ (runFe (wk0 people.toNat) es).ls.length ≤ i ∧ (runFe (wk0 people.toNat) es).cu.length ≤ 2 * i ∧ es.length = i ∧ ∃ v8 v9 v10 v11 v12 v13 v14 v15, σ = [some (.ref d), some (.ref o), some (.int people), some (.int many), some (.ref P0), some (.ref M), some (.ref L), some (.ref E0), v8, v9, v10, v11, v12, v13, v14, v15])
      ⟨M0, L0, C0, [], [], x0, trivial, GwOk.zero_ h _, List.length_replicate, Nat.zero_le _, Nat.zero_le _, Nat.zero_le _, rfl, _, _, _, _, _, _, _, _, rfl⟩ ?_ ?_⟩
    · clear x0
      rintro i σ H1 hi ⟨M, L, C, xs, es, x, ps, wok, pll, mvl, lsl, cul, el, v8, v9, v10, v11, v12, v13, v14, v15, rfl⟩
      generalize hw0 : runFe (wk0 people.toNat) es = w at x wok pll mvl lsl cul
      refine ⟨_, rfl, _, rfl, d, g, people, rfl, x.dl, by omega, by omega, fun H2 p dl2 k2 p0 p1 => ?_⟩
      replace x := x.go k2 dl2
      have plt : p.toNat < w.pl.length := by omega
      have hpl : (w.pl.map V.int)[p.toNat]? = some (.int (placeOf w p)) := by
        unfold placeOf
        rw [List.getElem?_map, List.getD_eq_getElem?_getD, List.getElem?_eq_getElem plt]
        rfl
      have at_ : atI (w.pl.map V.int) p = some (.int (placeOf w p)) := by
        have q := atI_nat hpl
        rw [show ((p.toNat : Nat) : Int) = p by omega] at q
        exact q
      have ho2 := ho.kp dl x.kp
      refine ⟨_, rfl, _, rfl, _, rfl, P0, _, p, _, rfl, rfl, SqL.of x.hP, at_, g, o, h, placeOf w p, rfl, ho2, Nat.le_trans hw.df (by decide), hw.ff, hw.fnd, hw.dne, fun H3 q zs s3 nq hq wa => ?_⟩
      have dlb := x.dl
      have xb := x
      replace x := x.same s3
      have qg := (dlb.free nq).2
      have len := wa.len
      dsimp only [gName]
      refine ifS_cut (fun H' => WI K d g H P0 M L E0 C xs w (es.map feT) H') (fun H' => WI K d g H P0 M L E0 C xs w (es.map feT) H' ∧ H' q = some (.lst zs) ∧ WaysAt K H2 H' zs (waysR h (placeOf w p)) ∧ zs ≠ [] ∧ p ∉ w.mv) ?tick ?step fun ht hs => ?test
      case test =>
        refine ⟨_, rfl, _, rfl, M, _, rfl, .inl (SqL.of x.hM), rfl, flat_ints _, _, rfl, ?_⟩
        rw [if_neg Bool.false_ne_true, inV_ints]
        refine ite2 (fun c => iteT (ht _ x)) (fun c => ?_)
        have pm : p ∉ w.mv := fun z => c (decide_eq_true z)
        refine ⟨_, rfl, Nat.zero_le _, fun z nz => ?_⟩
        have s4 : Same H3 (upd H3 z (.lst [])) := Same.new nz
        have wa4 := wa.same s4
        refine eq_nilDp (SqL.of (s4 _ _ hq)) (ways_dp wa4.len fun i v e => by
          obtain ⟨t, l, s, e1, e2, e3, e4, _⟩ := wa4.at_ i v e
          exact ⟨t, l, s, e1, e2, e3, e4⟩) (SqL.of upd_same) (shaped_list fun y hy => by
          obtain ⟨s, hs, rfl⟩ := List.mem_map.mp hy
          exact shp_way fun n hn => hw.nok s (mem_waysR.mp hs).1 n hn) ⟨_, rfl, ?_⟩
        replace x := x.same s4
        have hq4 := s4 _ _ hq
        generalize upd H3 z (.lst []) = H4 at x wa4 hq4 ⊢
        refine ite2 (fun c2 => iteT (ht _ x)) (fun c2 => ?_)
        have zne : zs ≠ [] := fun e => c2 (by
          rw [e] at len
          rw [List.length_eq_zero_iff.mp len.symm]
          rfl)
        refine ⟨_, rfl, d, g, 4, rfl, x.dl, by decide, by decide, fun H5 r dl5 k5 _ _ => ⟨rfl, _, rfl, ?_⟩⟩
        have hq5 := k5 _ _ (dlb.free nq).1 qg hq4
        have wa5 := wa4.kp dlb x.dl k5
        exact ite2 (fun c3 => ht _ (x.go k5 dl5)) (fun c3 => hs _ ⟨x.go k5 dl5, hq5, wa5, zne, pm⟩)
      case tick =>
        clear x wa hq
        intro H4 x
        refine ⟨_, rfl, .inl ⟨rfl, _, SqL.of x.hE⟩, E0, _, _, rfl, rfl, x.hE, by rw [List.length_map, List.length_map, el]; omega, ?_⟩
        have y := x.putE "tick"
        generalize upd H4 E0 (.lst ((es.map feT).map V.str ++ [.str "tick"])) = H5 at y ⊢
        refine ⟨Nat.zero_le _, fun M2 nM2 => ⟨_, rfl, Nat.zero_le _, fun C2 nC2 => ⟨by show 1 ≤ sizeLine; omega, fun T2 nT2 => ⟨L, T2, _, _, rfl, rfl, Same.new nT2 _ _ (Same.new nC2 _ _ (Same.new nM2 _ _ y.hL)), upd_same, ?_, fun L2 nL2 => ⟨by show 2 ≤ sizeLine; omega, fun tp ntp => ⟨tp, _, rfl, SqT.of upd_same, rfl, _, _, rfl, _, _, rfl, rfl, ?_⟩⟩⟩⟩⟩⟩
        · have := y.la.len
          rw [List.length_append]
          show xs.length + 1 + 1 ≤ sizeLine
          omega
        · have erun : runFe (wk0 people.toNat) (es ++ [Fe.tick]) = doFe w .tick := by rw [runFe_app, hw0]; rfl
          have eT : (es ++ [Fe.tick]).map feT = es.map feT ++ [("tick" : Str)] := by rw [List.map_append]; rfl
          have z := tick_WI (o := .tup [.ref M2, .ref L2]) (h2 := nM2) (h3 := nC2) (h4 := nT2) (h5 := nL2) (h6 := ntp) y
          refine ⟨M2, L2, C2, xs ++ [.ref C], es ++ [.tick], ?_, ps.app (by rw [hw0]; trivial), ?_, ?_, ?_, ?_, ?_, by rw [List.length_append, el]; rfl, _, _, _, _, _, _, _, _, rfl⟩
          · rw [erun, eT]
            exact z
          · rw [erun]
            exact wok.go trivial
          · rw [erun]
            exact pll
          · rw [erun]
            exact Nat.zero_le _
          · rw [erun]
            show (w.ls ++ [w.cu]).length ≤ _
            rw [List.length_append]
            show _ + 1 ≤ _
            omega
          · rw [erun]
            exact Nat.zero_le _
      case step =>
        clear x wa hq
        rintro H4 ⟨x, hq, wa, zne, pm⟩
        refine ⟨_, rfl, _, rfl, d, g, q, zs, rfl, x.dl, .inl ⟨hq, qg⟩, zne, ?_, fun H5 v hv dl5 k5 => ?_⟩
        · have := ways_few (r := placeOf w p) hw.dne h.doors.length (Nat.le_refl _)
          have : (waysR h (placeOf w p)).length ≤ h.doors.length := this
          omega
        have wa5 := wa.kp dlb x.dl k5
        replace x := x.go k5 dl5
        obtain ⟨j, hj⟩ := List.mem_iff_getElem?.mp hv
        obtain ⟨t, lw, s, rfl, hs1, ht, hlw, nlw⟩ := wa5.at_ j v hj
        obtain ⟨ms, sle⟩ := mem_waysR.mp (List.mem_of_getElem? hs1)
        have l2 := steps_le2 ms
        have can : CanFe h w (.step p s) := ⟨⟨p0, by omega⟩, pm, ms, sle⟩
        obtain ⟨sn0, sn1⟩ := step_num hw ms
        obtain ⟨q1, q2⟩ := num_lo (i := p) p0 (by omega)
        obtain ⟨q3, q4⟩ := num_lo (i := s.n) sn0 (by omega)
        refine ⟨t, _, rfl, ht, rfl, _, _, rfl, _, _, rfl, _, _, rfl, rfl, ?_⟩
        have ll : ("step " : Str).length = 5 ∧ (" " : Str).length = 1 := by decide +kernel
        refine ⟨_, rfl, .inl ⟨rfl, _, SqL.of x.hE⟩, _, rfl, p, rfl, q2, _, _, rfl, rfl, by omega, _, _, rfl, rfl, ?_, _, rfl, s.n, rfl, q4, _, _, rfl, rfl, ?_, E0, _, _, rfl, rfl, x.hE, by rw [List.length_map, List.length_map, el]; omega, ?_⟩
        · rw [app_len]
          omega
        · rw [app_len, app_len]
          omega
        · have y := x.putE (feT (.step p s))
          have eF : feT (.step p s) = (((("step " : Str) ++ ((toString p : String) : Str)) ++ (" " : Str)) ++ ((toString s.n : String) : Str)) := rfl
          have eT : (es ++ [Fe.step p s]).map feT = es.map feT ++ [feT (.step p s)] := by rw [List.map_append]; rfl
          rw [← eT, eF] at y
          have hlw6 : upd H5 E0 (.lst ((es.map feT).map V.str ++ [.str (((("step " : Str) ++ ((toString p : String) : Str)) ++ (" " : Str)) ++ ((toString s.n : String) : Str))])) lw = some (.lst (s.ns.map V.str)) := by rw [upd_ne (ne_of_none xb.hE nlw).symm]; exact hlw
          generalize upd H5 E0 (.lst ((es.map feT).map V.str ++ [.str (((("step " : Str) ++ ((toString p : String) : Str)) ++ (" " : Str)) ++ ((toString s.n : String) : Str))])) = H6 at y hlw6 ⊢
          have plen : p.toNat < (w.pl.map V.int).length := by rw [List.length_map]; exact plt
          refine ⟨_, rfl, _, rfl, _, rfl, P0, _, p, p.toNat, rfl, rfl, y.hP, (by unfold ixN; rw [if_pos p0, if_pos (by omega)]), ?_⟩
          have y2 := y.putP (w' := { w with pl := w.pl.set p.toNat s.ri }) (vs := (w.pl.map V.int).set p.toNat (.int s.ri)) (by rw [List.map_set]) rfl rfl rfl
          have hlw7 : upd H6 P0 (.lst ((w.pl.map V.int).set p.toNat (.int s.ri))) lw = some (.lst (s.ns.map V.str)) := by rw [upd_ne (ne_of_none xb.hP nlw).symm]; exact hlw6
          generalize upd H6 P0 (.lst ((w.pl.map V.int).set p.toNat (.int s.ri))) = H7 at y2 hlw7 ⊢
          refine ⟨_, rfl, .inl ⟨rfl, _, SqL.of y2.hM⟩, _, rfl, M, w.mv.map V.int, _, rfl, rfl, y2.hM, by rw [List.length_map]; omega, ?_⟩
          have y3 := y2.putM (w' := { w with pl := w.pl.set p.toNat s.ri, mv := w.mv ++ [p] }) (vs := w.mv.map V.int ++ [.int p]) (by rw [List.map_append]; rfl) rfl rfl rfl
          have hlw8 : upd H7 M (.lst (w.mv.map V.int ++ [.int p])) lw = some (.lst (s.ns.map V.str)) := by rw [upd_ne (ne_of_none xb.hM nlw).symm]; exact hlw7
          generalize upd H7 M (.lst (w.mv.map V.int ++ [.int p])) = H8 at y3 hlw8 ⊢
          refine ⟨_, rfl, 1, rfl, L, _, -1, _, rfl, rfl, SqL.of y3.hL, atI_last _ _, .inl ⟨rfl, _, SqL.of y3.hC⟩, ?_⟩
          refine ⟨_, rfl, lw, _, rfl, SqL.of hlw8, fun DL nDL => lc_it walk_enum (fun j H' => Same H8 H' ∧ H' DL = some (.lst ((((s.ns.zipIdx.take j).filter fun x => !decide (x.1 ∈ w.cu) && !decide (x.1 ∈ s.ns.take x.2)).map (·.1)).map V.str))) ⟨Same.new nDL, by rw [upd_same]; rfl⟩ (fun j H' _ e => SqL.of (e.1 _ _ hlw8)) ?_ ?_⟩
          · rintro j v2 H9 H10 hj ⟨s9, hD⟩ ⟨Tp, u1, u2, rfl, nT, rfl, e1, e2⟩
            injection e1 with e1
            subst e1
            replace e2 : (s.ns.map V.str)[j]? = some u2 := e2
            rw [List.getElem?_map] at e2
            obtain ⟨nm, hnm, rfl⟩ := Option.map_eq_some_iff.mp e2
            have s10 : Same H9 (upd H9 Tp (.tup [.int (j : Nat), .str nm])) := Same.new nT
            refine ⟨Tp, _, rfl, SqT.of upd_same, rfl, _, _, rfl, _, _, rfl, rfl, rfl, ?_⟩
            have hD10 := s10 _ _ hD
            have s810 := s9.trans s10
            have nT8 : H8 DL = none := nDL
            generalize upd H9 Tp (.tup [.int (j : Nat), .str nm]) = H10 at s810 hD10 ⊢
            have nx := filt_snoc (fun x : Str × Nat => !decide (x.1 ∈ w.cu) && !decide (x.1 ∈ s.ns.take x.2)) (xs := s.ns.zipIdx) (k := j) (x := (nm, j)) (by rw [List.getElem?_zipIdx, hnm]; simp)
            refine ⟨_, rfl, _, rfl, 1, rfl, L, _, -1, _, rfl, rfl, SqL.of (s810 _ _ y3.hL), atI_last _ _, C, _, rfl, .inl (SqL.of (s810 _ _ y3.hC)), rfl, flat_strs _, _, rfl, ?_⟩
            rw [if_pos rfl, inV_strs]
            have fin : ∀ {H' : Hp}, Same H8 H' → H' DL = some (.lst ((((s.ns.zipIdx.take j).filter fun x => !decide (x.1 ∈ w.cu) && !decide (x.1 ∈ s.ns.take x.2)).map (·.1)).map V.str)) → (!decide (nm ∈ w.cu) && !decide (nm ∈ s.ns.take j)) = false → Same H8 H' ∧ H' DL = some (.lst ((((s.ns.zipIdx.take (j + 1)).filter fun x => !decide (x.1 ∈ w.cu) && !decide (x.1 ∈ s.ns.take x.2)).map (·.1)).map V.str)) := fun a b c => ⟨a, by rw [nx, if_neg (by rw [show _ = false from c]; exact Bool.false_ne_true), List.append_nil]; exact b⟩
            have few : ((((s.ns.zipIdx.take j).filter fun x => !decide (x.1 ∈ w.cu) && !decide (x.1 ∈ s.ns.take x.2)).map (·.1)).map V.str).length < sizeLine := by
              have a := List.length_filter_le (fun x : Str × Nat => !decide (x.1 ∈ w.cu) && !decide (x.1 ∈ s.ns.take x.2)) (s.ns.zipIdx.take j)
              rw [List.length_take, List.length_zipIdx] at a
              rw [List.length_map, List.length_map]
              omega
            refine ite2 (fun c => ?_) (fun c => ?_)
            · refine ⟨_, rfl, _, rfl, _, rfl, _, rfl, lw, _, rfl, SqL.of (s810 _ _ hlw8), fun p2 np2 => ⟨p2, (s.ns.take j).map V.str, rfl, .inl ?_, rfl, flat_strs _, _, rfl, ?_⟩⟩
              · rw [cut_take _ (by omega), List.map_take]
                exact SqL.of upd_same
              · rw [if_pos rfl, inV_strs]
                have s11 := s810.trans (Same.new np2 (o := .lst (cutV (s.ns.map V.str) none (some (j : Nat)))))
                have hD11 := (Same.new np2 (o := .lst (cutV (s.ns.map V.str) none (some (j : Nat))))) _ _ hD10
                refine ite2 (fun c2 => ⟨_, rfl, _, hD11, few, Hb.Same.acc s11 nDL, ?_⟩) (fun c2 => fin s11 hD11 (by rw [c, Bool.true_and]; exact Bool.eq_false_iff.mpr c2))
                rw [upd_same, nx, if_pos (by show (_ && _) = true; rw [c, c2]; rfl), List.map_append, List.map_append]
                rfl
            · exact fin s810 hD10 (by rw [Bool.eq_false_iff.mpr c]; rfl)
          · rintro H9 ⟨s9, hD⟩
            rw [List.length_map, ← List.length_zipIdx (l := s.ns) (i := 0), List.take_length] at hD
            have y9 := y3.same s9
            have nl := newN_len (cu := w.cu) (ns := s.ns)
            refine ⟨C, DL, w.cu.map V.str, (newN w.cu s.ns).map V.str, rfl, rfl, y9.hC, hD, by rw [List.length_map, List.length_map]; omega, ?_⟩
            have y10 := y9.putC (w' := doFe w (.step p s)) (vs := w.cu.map V.str ++ (newN w.cu s.ns).map V.str) (by rw [← List.map_append]; rfl) rfl rfl rfl
            have erun : runFe (wk0 people.toNat) (es ++ [Fe.step p s]) = doFe w (.step p s) := by rw [runFe_app, hw0]; rfl
            refine ⟨M, L, C, xs, es ++ [.step p s], ?_, ps.app (by rw [hw0]; exact can), ?_, ?_, ?_, ?_, ?_, by rw [List.length_append, el]; rfl, _, _, _, _, _, _, _, _, rfl⟩
            · rw [erun]
              exact y10
            · rw [erun]
              exact wok.go can
            · rw [erun]
              show (w.pl.set p.toNat s.ri).length = _
              rw [List.length_set]
              exact pll
            · rw [erun]
              show (w.mv ++ [p]).length ≤ _
              rw [List.length_append]
              show _ + 1 ≤ _
              omega
            · rw [erun]
              show w.ls.length ≤ _
              omega
            · rw [erun]
              show (w.cu ++ newN w.cu s.ns).length ≤ _
              rw [List.length_append]
              omega
    · rintro σ H1 ⟨M, L, C, xs, es, x, ps, wok, pll, mvl, lsl, cul, el, v8, v9, v10, v11, v12, v13, v14, v15, rfl⟩
      refine ⟨_, rfl, _, rfl, _, rfl, by show 3 ≤ sizeLine; omega, fun t nt => ?_⟩
      have y := x.same (Same.new nt (o := .tup [.ref E0, .ref L, .ref P0]))
      exact k _ t E0 L P0 _ es y.dl y.kp (SqT.of upd_same) y.hE y.hL (y.la.app y.hC y.nC) y.hP y.nE y.nL y.nP ps el
end
end Lw
set_option Elab.async false
set_option linter.all false
set_option maxRecDepth 100000
set_option maxHeartbeats 8000000
/-! what is told of rooms, as data and shown -/
namespace Lw
open PySem PySem.Spec PyProof.Rows L2 Hb
theorem few_shown : ∀ i : Fin 256, (PyData.int (i.val : Int)).shown.length ≤ 8 ∧ (PyData.int (i.val : Int)).showable = true := by decide +kernel
theorem int_shown {i : Int} (h0 : 0 ≤ i) (h1 : i < 256) : (PyData.int i).shown.length ≤ 8 ∧ (PyData.int i).showable = true := by
  obtain ⟨n, rfl⟩ := Int.eq_ofNat_of_zero_le h0
  exact few_shown ⟨n, by omega⟩
/-- data whose text is at most n signs -/
structure Sh (n : Nat) (d : PyData) : Prop where
  le : d.shown.length ≤ n
  sh : d.showable = true
  nd : d.hasDict = false
theorem showableAll_of : ∀ {ds : List PyData}, (∀ d ∈ ds, d.showable = true) → PyData.showableAll ds = true
  | [], _ => rfl
  | d :: ds, h => by simp only [PyData.showableAll, h d List.mem_cons_self, showableAll_of fun e he => h e (List.mem_cons_of_mem _ he), Bool.and_self]
theorem hasDictAll_of : ∀ {ds : List PyData}, (∀ d ∈ ds, d.hasDict = false) → PyData.hasDictAll ds = false
  | [], _ => rfl
  | d :: ds, h => by simp only [PyData.hasDictAll, h d List.mem_cons_self, hasDictAll_of fun e he => h e (List.mem_cons_of_mem _ he), Bool.or_self]
theorem Sh.tup {n m k : Nat} {ds : List PyData} (h : ∀ d ∈ ds, Sh n d) (hm : ds.length ≤ m) (hk : (n + 2) * m + 3 ≤ k) : Sh k (.tuple ds) :=
  ⟨Nat.le_trans (tup_le (fun d hd => (h d hd).le) hm) hk, by simp only [PyData.showable]; exact showableAll_of fun d hd => (h d hd).sh, by simp only [PyData.hasDict]; exact hasDictAll_of fun d hd => (h d hd).nd⟩
theorem Sh.int {i : Int} (h0 : 0 ≤ i) (h1 : i < 256) : Sh 8 (.int i) := ⟨(int_shown h0 h1).1, (int_shown h0 h1).2, rfl⟩
/-! the rooms behind rows -/
theorem behind_ok {h : Hz} (hw : HwR h) : ∀ {lots : List (List Str)} {rs : List Int}, (∀ x ∈ rs, inR h.rooms x) → ∀ r ∈ behindR (allSteps h) rs lots, r.Nodup ∧ ∀ x ∈ r, inR h.rooms x
  | [], _, _, r, m => nomatch m
  | ns :: lots, rs, ok, r, m => by
    unfold behindR at m
    cases e : nextR (allSteps h) rs ns with
    | none =>
      rw [e] at m
      cases m
    | some r' =>
      rw [e] at m
      have q := nextR_ok hw ok e
      rcases List.mem_cons.mp m with rfl | m
      · exact q
      · exact behind_ok hw q.2 r m
theorem last_ok {h : Hz} (hw : HwR h) (lots : List (List Str)) : (lastR h lots).Nodup ∧ ∀ x ∈ lastR h lots, inR h.rooms x := by
  unfold lastR
  have m := List.getLast_mem (show (([0] : List Int) :: behindR (allSteps h) [0] lots) ≠ [] by simp)
  have z : ∀ x ∈ ([0] : List Int), inR h.rooms x := fun x hx => by
    rw [List.mem_singleton.mp hx]
    exact ⟨by decide, by have := hw.r1; omega⟩
  rcases List.mem_cons.mp m with e | m
  · rw [e]
    exact ⟨by simp, z⟩
  · exact behind_ok hw z _ m
theorem where_eq (h : Hz) (lots : List (List Str)) : whereOf h lots = if (behindR (allSteps h) [0] lots).length < lots.length then none else some (lastR h lots) := rfl
theorem where_last {h : Hz} {lots : List (List Str)} {rs : List Int} (e : whereOf h lots = some rs) : rs = lastR h lots := by
  rw [where_eq] at e
  split at e
  · cases e
  · exact (Option.some.inj e).symm
def whereD : Option (List Int) → PyData
  | none => .none
  | some rs => encR rs
theorem shaped_R (rs : List Int) : SeqAt.shaped (encR rs) = true := shaped_tup fun d hd => by
  obtain ⟨x, _, rfl⟩ := List.mem_map.mp hd
  exact ⟨by simp [PyData.canLay0], by simp [PyData.depth]⟩
theorem shaped_W (o : Option (List Int)) : SeqAt.shaped (whereD o) = true := by
  cases o with
  | none => decide +kernel
  | some rs => exact shaped_R rs
theorem encR_inj {rs ss : List Int} (e : encR rs = encR ss) : rs = ss := by
  have q := PyData.tuple.inj e
  exact (List.map_inj_right fun a b h => PyData.int.inj h).mp q
theorem depthAll_ints : ∀ rs : List Int, PyData.depthAll (rs.map PyData.int) ≤ 1
  | [] => by simp [PyData.depthAll]
  | r :: rs => by
    have := depthAll_ints rs
    rw [List.map_cons]
    simp only [PyData.depthAll, PyData.depth]
    omega
/-- what repr wants of data -/
structure RpOk (K : PySem.W.Frag) (H : Hp) (v : V) (d : PyData) : Prop where
  dp : Dp K H v d
  sh : d.showable = true
  nd : d.hasDict = false
  de : d.depth ≤ 60
  le : d.shown.length ≤ sizeLine
  ni : ∀ i, d = .int i → i.natAbs.log2 < 1920
  nx : ∀ x, d ≠ .str x
theorem rp_W {K : PySem.W.Frag} {H : Hp} {v : V} {h : Hz} {lots : List (List Str)} (hw : HwR h) (hd : TD K H v (whereD (whereOf h lots))) : RpOk K H v (whereD (whereOf h lots)) := by
  have line := sizeLine_eq
  have dp := TD.dp hd
  clear hd
  cases e : whereOf h lots with
  | none => 
    rw [e] at dp
    exact ⟨dp, by decide +kernel, by decide +kernel, by decide +kernel, by decide +kernel, (fun i e => by cases e), (fun x e => by cases e)⟩
  | some rs =>
    rw [e] at dp
    obtain rfl := where_last e
    obtain ⟨nd, inr⟩ := last_ok hw lots
    have few := in_few hw.r6 nd inr
    have r6 := hw.r6
    have s : Sh 100 (encR (lastR h lots)) := Sh.tup (n := 8) (m := 6) (fun d hd => by
      obtain ⟨x, hx, rfl⟩ := List.mem_map.mp hd
      obtain ⟨a, b⟩ := inr x hx
      exact Sh.int a (by omega)) (by rw [List.length_map]; exact few) (by decide)
    exact ⟨dp, s.sh, s.nd, (by simp only [whereD, encR, PyData.depth]; have := depthAll_ints (lastR h lots); omega), Nat.le_trans s.le (by omega), (fun i e => by cases e), (fun x e => by cases e)⟩
/-! lots of drawn walks -/
theorem _root_.Hb.HAt.feed {K : PySem.W.Frag} {C d g : Addr} {H H' : Hp} {p : Addr} {h : Hz} (x : HAt K C H p h) (dl : Feed d g H) (k : Kp d g H H') : HAt K C H' p h := by
  have x2 := x
  obtain ⟨dx, a, b, c, xs, ys, h1, _⟩ := x2
  exact x.keep (dl.tk k) fun o e => k _ _ (dl.ne_d h1 (by intro kvs e; cases e)) (dl.ne_g h1 (by intro xs e; cases e)) e
theorem mem_steps {h : Hz} {s : Stp} (m : s ∈ allSteps h) : ∃ d ∈ h.doors, (s.ri = d.2.1 ∧ s.le = d.1 ∨ s.ri = d.1 ∧ s.le = d.2.1) ∧ ∃ r, s.ns = nzStep h d r := by
  have go : ∀ m, m ≤ h.doors.length → ∀ s ∈ stepsTo h m, ∃ d ∈ h.doors, (s.ri = d.2.1 ∧ s.le = d.1 ∨ s.ri = d.1 ∧ s.le = d.2.1) ∧ ∃ r, s.ns = nzStep h d r := by
    intro m
    induction m with
    | zero => exact fun _ s hs => nomatch hs
    | succ m ih =>
      intro hm s hs
      have e := List.getElem?_eq_getElem (show m < h.doors.length by omega)
      rw [steps_next e] at hs
      rcases List.mem_append.mp hs with hs | hs
      · exact ih (by omega) s hs
      · simp only [stepsAt, List.mem_cons, List.not_mem_nil, or_false] at hs
        rcases hs with rfl | rfl
        · exact ⟨_, List.mem_of_getElem? e, .inl ⟨rfl, rfl⟩, _, rfl⟩
        · exact ⟨_, List.mem_of_getElem? e, .inr ⟨rfl, rfl⟩, _, rfl⟩
  exact go _ (Nat.le_refl _) s m
theorem nz_in {h : Hz} {r m : Int} {ws : List Str} (hk : Hok h r m ws) {d : Dr} (hd : d ∈ h.doors) {q : Int} : ∀ n ∈ nzStep h d q, n ∈ ws := by
  intro n hn
  unfold nzStep at hn
  rcases List.mem_append.mp hn with hn | hn
  · exact (hk.d d hd).2.2.2 n (Option.mem_toList.mp hn)
  · have e := Option.mem_toList.mp hn
    have e2 : (sortF h.floors).lookup q = some n := e
    exact (hk.f _ ((sortF_perm h.floors).mem_iff.mp (lkF_mem e2))).2
theorem steps_in {h : Hz} {r m : Int} {ws : List Str} (hk : Hok h r m ws) {s : Stp} (ms : s ∈ allSteps h) : ∀ n ∈ s.ns, n ∈ ws := by
  obtain ⟨d, hd, _, q, e⟩ := mem_steps ms
  rw [e]
  exact nz_in hk hd
theorem hw_ok {h : Hz} {r m : Int} {ws : List Str} (hk : Hok h r m ws) (m7 : m ≤ 7) (r6 : r ≤ 6) (sub : ∀ n ∈ ws, n ∈ four) : HwOk h ∧ HwR h := by
  have a := hk.dm
  have b := hk.fm
  have c := hk.r2
  refine ⟨⟨by omega, by omega, hk.fs.imp fun a b => by omega, fun x hx => (hk.d x hx).2.2.1, fun s hs n hn => four_ok n (sub n (steps_in hk hs n hn))⟩, hk.r1, by omega, fun s hs => ?_⟩
  obtain ⟨d, hd, e, _⟩ := mem_steps hs
  have q := hk.d d hd
  rcases e with ⟨e, _⟩ | ⟨e, _⟩ <;> rw [e]
  · exact q.2.1
  · exact q.1
theorem lot_ok {ns : List Str} (h : ∀ n ∈ ns, n ∈ four) (nd : ns.Nodup) : LotOk ns ∧ ∀ x ∈ ns, PyData.strOk x = true := by
  refine ⟨⟨fun n hn => ⟨(four_nm n (h n hn)).1, by have := (four_nm n (h n hn)).2; omega⟩, nd, ?_⟩, fun x hx => four_ok x (h x hx)⟩
  have := nodup_leI nd h
  have : four.length = 4 := rfl
  omega
/-- the lots of a drawn walk: names that are heard, possible, the people where they can be -/
structure LotsOf (h : Hz) (lots : List (List Str)) (pl : List Int) : Prop where
  ok : ∀ ns ∈ lots, LotOk ns ∧ ∀ x ∈ ns, PyData.strOk x = true
  full : whereOf h lots = some (lastR h lots)
  pl : ∀ r ∈ pl, r ∈ lastR h lots
  zero : 0 ∈ lastR h lots
theorem lots_of {h : Hz} {r m : Int} {ws : List Str} (hk : Hok h r m ws) (sub : ∀ n ∈ ws, n ∈ four) {k : Nat} {es : List Fe} (ps : PossFe h (wk0 k) es) : LotsOf h (runFe (wk0 k) es).all (runFe (wk0 k) es).pl := by
  have x := GwOk.run (GwOk.zero_ h k) ps
  obtain ⟨a, b, c⟩ := x.now
  refine ⟨fun ns hn => lot_ok (fun n hm => ?_) (x.nd ns hn), ?_, c, b 0 x.zero⟩
  · obtain ⟨s, hs, e⟩ := x.nm ns hn n hm
    exact sub n (steps_in hk hs n e)
  · rw [where_eq, if_neg (by omega)]
theorem pl_len {k : Nat} {es : List Fe} : (runFe (wk0 k) es).pl.length = k := by
  have go : ∀ (es : List Fe) (w : Gw), (runFe w es).pl.length = w.pl.length := by
    intro es
    induction es with
    | nil => exact fun w => rfl
    | cons e es ih =>
      intro w
      have := ih (doFe w e)
      have q : (doFe w e).pl.length = w.pl.length := by
        cases e with
        | tick => rfl
        | step p s => exact List.length_set
      exact this.trans q
  rw [go]
  exact List.length_replicate
theorem all_len {k : Nat} : ∀ {es : List Fe} {w : Gw}, (runFe w es).all.length ≤ w.all.length + es.length
  | [], _ => Nat.le_refl _
  | e :: es, w => by
    have := all_len (k := k) (es := es) (w := doFe w e)
    have q : (doFe w e).all.length ≤ w.all.length + 1 := by
      cases e with
      | tick => show ((w.ls ++ [w.cu]) ++ [[]]).length ≤ (w.ls ++ [w.cu]).length + 1; rw [List.length_append]; exact Nat.le_refl _
      | step p s => show (w.ls ++ [w.cu ++ newN w.cu s.ns]).length ≤ (w.ls ++ [w.cu]).length + 1; rw [List.length_append, List.length_append]; exact Nat.le_succ _
    show (runFe (doFe w e) es).all.length ≤ _
    rw [List.length_cons]
    omega
end Lw
set_option Elab.async false
set_option linter.all false
set_option maxRecDepth 100000
set_option maxHeartbeats 8000000
namespace Lw
open PySem PySem.Spec PyProof.Rows L2 Hb
/-! ### lots of which one is otherwise -/
def five : List Str := ["gate", "plnk", "a", "drip", "zz"]
theorem five_ok : ∀ w ∈ five, PyData.strOk w = true ∧ nameB w = true ∧ w.length ≤ 10 ∧ (PyData.str w).shown.length ≤ 30 := by decide +kernel
structure Lot5 (ns : List Str) : Prop where
  m : ∀ n ∈ ns, n ∈ five
  nd : ns.Nodup
theorem Lot5.few {ns : List Str} (x : Lot5 ns) : ns.length ≤ 5 := nodup_leI x.nd x.m
theorem Lot5.ok {ns : List Str} (x : Lot5 ns) : LotOk ns ∧ ∀ n ∈ ns, PyData.strOk n = true := by
  have := x.few
  exact ⟨⟨fun n hn => ⟨(five_ok n (x.m n hn)).2.1, by have := (five_ok n (x.m n hn)).2.2.1; omega⟩, x.nd, by omega⟩, fun n hn => (five_ok n (x.m n hn)).1⟩
theorem lotsN_set {K : PySem.W.Frag} {H0 H : Hp} {zs : List V} {ls : List (List Str)} {i : Nat} {c : Addr} {ns : List Str} (x : LotsN K H0 H zs ls) (nd : zs.Nodup) (e : zs[i]? = some (.ref c)) : LotsN K H0 (upd H c (.lst (ns.map V.str))) zs (ls.set i ns) := by
  refine ⟨by rw [List.length_set, x.len], fun j v hv => ?_⟩
  obtain ⟨a, ms, rfl, e2, e3, e4⟩ := x.at_ j v hv
  by_cases q : j = i
  · subst q
    rw [e] at hv
    cases hv
    have jl := (List.getElem?_eq_some_iff.mp e2).1
    exact ⟨_, ns, rfl, by rw [List.getElem?_set_self jl], upd_same, e4⟩
  · have ne : a ≠ c := fun z => by
      subst z
      obtain ⟨h1, e1⟩ := List.getElem?_eq_some_iff.mp hv
      obtain ⟨h2, e2⟩ := List.getElem?_eq_some_iff.mp e
      exact q ((List.getElem?_inj h1 nd).mp (hv.trans e.symm))
    exact ⟨a, ms, rfl, by rw [List.getElem?_set_ne (fun z => q z.symm)]; exact e2, by rw [upd_ne ne]; exact e3, e4⟩
theorem lotsN_take2 {K : PySem.W.Frag} {H0 H : Hp} {xs : List V} {ls : List (List Str)} (x : LotsN K H0 H xs ls) (m : Nat) : LotsN K H0 H (xs.take m) (ls.take m) := by
  refine ⟨by rw [List.length_take, List.length_take, x.len], fun i v e => ?_⟩
  have il : i < m := by
    have := (List.getElem?_eq_some_iff.mp e).1
    rw [List.length_take] at this
    omega
  rw [List.getElem?_take, if_pos il] at e
  obtain ⟨a, ns, e1, e2, e3, e4⟩ := x.at_ i v e
  exact ⟨a, ns, e1, by rw [List.getElem?_take, if_pos il]; exact e2, e3, e4⟩
theorem lotsN_ins {K : PySem.W.Frag} {H0 H : Hp} {xs : List V} {ls : List (List Str)} {m : Addr} {ns : List Str} (x : LotsN K H0 H xs ls) (h : H m = some (.lst (ns.map V.str))) (n : H0 m = none) (i : Nat) : LotsN K H0 H (xs.take i ++ [.ref m] ++ xs.drop i) (ls.take i ++ [ns] ++ ls.drop i) := by
  have a := (lotsN_take2 x i).app h n
  have len := x.len
  refine ⟨by rw [List.length_append, List.length_append (as := ls.take i ++ [ns]), a.len, List.length_drop, List.length_drop, len], fun j v e => ?_⟩
  by_cases c : j < (xs.take i ++ [V.ref m]).length
  · rw [List.getElem?_append_left c] at e
    obtain ⟨b, ms, e1, e2, e3⟩ := a.at_ j v e
    exact ⟨b, ms, e1, by rw [List.getElem?_append_left (by rw [← a.len]; exact c)]; exact e2, e3⟩
  · rw [List.getElem?_append_right (by omega), List.getElem?_drop] at e
    obtain ⟨b, ms, e1, e2, e3⟩ := x.at_ _ v e
    refine ⟨b, ms, e1, ?_, e3⟩
    rw [List.getElem?_append_right (by rw [← a.len]; omega), ← a.len, List.getElem?_drop]
    exact e2
def spBent (K : PySem.W.Frag) : Sp := fun vs H Q _ => ∃ (d g l : Addr) (xs : List V) (lots : List (List Str)), vs = [.ref d, .ref l] ∧ Feed d g H ∧ H l = some (.lst xs) ∧ LotsAt K H xs lots ∧ lots.length ≤ 60 ∧ 1 ≤ lots.length ∧ (∀ ns ∈ lots, Lot5 ns) ∧
  ∀ H' q ys ls', Feed d g H' → Kp d g H H' → H q = none → H' q = some (.lst ys) → LotsN K H H' ys ls' → (∀ ns ∈ ls', Lot5 ns) → 1 ≤ ls'.length → ls'.length ≤ 30 → Q (.ref q) H'
end Lw
set_option Elab.async false
set_option linter.all false
set_option maxRecDepth 100000
set_option maxHeartbeats 8000000
/-! lots, shown; lots in another order -/
namespace Lw
open PySem PySem.Spec PyProof.Rows L2 Hb
theorem textFrom_le : ∀ (ts : List Str) (k : Nat) (acc : Str), (textFrom k acc ts).length ≤ acc.length + piled ts
  | [], k, acc => by show acc.length ≤ acc.length + _; omega
  | t :: r, k, acc => by
    have h := textFrom_le r (k + 1) (acc ++ (if k > 0 then ", " else "" : String) ++ t)
    have e : (acc ++ (if k > 0 then ", " else "" : String) ++ t).length ≤ acc.length + 2 + t.length := by
      rw [Str.length_append, Str.length_append]
      have : ((if k > 0 then ", " else "" : String) : Str).length ≤ 2 := by split <;> decide
      omega
    rw [piled_cons]
    show (textFrom (k + 1) _ r).length ≤ _
    omega
theorem lst_le {n m : Nat} {ds : List PyData} (h : ∀ d ∈ ds, d.shown.length ≤ n) (hm : ds.length ≤ m) : (PyData.list ds).shown.length ≤ (n + 2) * m + 2 := by
  simp only [PyData.shown]
  unfold listText
  rw [Str.length_append]
  have a := textFrom_le (PyData.shownAll ds) 0 "["
  have b := piled_le (shownAll_le h)
  rw [shownAll_len] at b
  have c := Nat.mul_le_mul_left (n + 2) hm
  have d : ("[" : Str).length = 1 := rfl
  have e : ("]" : Str).length = 1 := rfl
  omega
theorem Sh.lst {n m k : Nat} {ds : List PyData} (h : ∀ d ∈ ds, Sh n d) (hm : ds.length ≤ m) (hk : (n + 2) * m + 2 ≤ k) : Sh k (.list ds) :=
  ⟨Nat.le_trans (lst_le (fun d hd => (h d hd).le) hm) hk, by simp only [PyData.showable]; exact showableAll_of fun d hd => (h d hd).sh, by simp only [PyData.hasDict]; exact hasDictAll_of fun d hd => (h d hd).nd⟩
def lotsD (ls : List (List Str)) : PyData := .list (ls.map fun ns => .list (ns.map PyData.str))
theorem lots_dp {K : PySem.W.Frag} {H0 H : Hp} : ∀ {xs : List V} {ls : List (List Str)}, LotsN K H0 H xs ls → L2.DpAll K H xs (ls.map fun ns => .list (ns.map PyData.str))
  | [], [], _ => .nil
  | [], _ :: _, x => by cases x.len
  | _ :: _, [], x => by cases x.len
  | x :: xs, l :: ls, h => by
    obtain ⟨a, ns, rfl, e2, e3, _⟩ := h.at_ 0 x rfl
    obtain rfl := Option.some.inj e2
    exact .cons (.lst (SqL.of e3) (TDs.dp (tds_strs _))) (lots_dp (ls := ls) ⟨Nat.succ.inj h.len, fun i v q => h.at_ (i + 1) v q⟩)
theorem depthAll_strs : ∀ ns : List Str, PyData.depthAll (ns.map PyData.str) ≤ 1
  | [] => by simp [PyData.depthAll]
  | r :: rs => by
    have := depthAll_strs rs
    rw [List.map_cons]
    simp only [PyData.depthAll, PyData.depth]
    omega
theorem depthAll_lots : ∀ ls : List (List Str), PyData.depthAll (ls.map fun ns => .list (ns.map PyData.str)) ≤ 3
  | [] => by simp [PyData.depthAll]
  | r :: rs => by
    have := depthAll_lots rs
    have := depthAll_strs r
    rw [List.map_cons]
    simp only [PyData.depthAll, PyData.depth]
    omega
theorem rp_L {K : PySem.W.Frag} {H0 H : Hp} {q : Addr} {ys : List V} {ls : List (List Str)} (hq : H q = some (.lst ys)) (x : LotsN K H0 H ys ls) (ok : ∀ ns ∈ ls, Lot5 ns) (few : ls.length ≤ 60) : RpOk K H (.ref q) (lotsD ls) := by
  have line := sizeLine_eq
  have s : Sh 20000 (lotsD ls) := Sh.lst (n := 200) (m := 60) (fun d hd => by
    obtain ⟨ns, hn, rfl⟩ := List.mem_map.mp hd
    exact Sh.lst (n := 30) (m := 5) (fun e he => by
      obtain ⟨x, hx, rfl⟩ := List.mem_map.mp he
      exact ⟨(five_ok x ((ok ns hn).m x hx)).2.2.2, rfl, rfl⟩) (by rw [List.length_map]; exact (ok ns hn).few) (by decide)) (by rw [List.length_map]; exact few) (by decide)
  exact ⟨.lst (SqL.of hq) (lots_dp x), s.sh, s.nd, (by simp only [lotsD, PyData.depth]; have := depthAll_lots ls; omega), Nat.le_trans s.le (by omega), (fun i e => by cases e), (fun x e => by cases e)⟩
/-! the same names in another order -/
def SameN (a b : List Str) : Prop := ∀ n, n ∈ a ↔ n ∈ b
theorem quiet_congr {ss : List Stp} {rs : List Int} {a b : List Str} (h : SameN a b) : quietR ss rs a = quietR ss rs b := by
  unfold quietR
  congr 1
  funext s
  congr 2
  funext n
  exact decide_eq_decide.mpr (h n)
theorem next_congr {ss : List Stp} {rs : List Int} {a b : List Str} (h : SameN a b) : nextR ss rs a = nextR ss rs b := by
  unfold nextR
  rw [quiet_congr h]
  have e : (a.all fun n => (quietR ss rs b).any fun s => decide (n ∈ s.ns)) = b.all fun n => (quietR ss rs b).any fun s => decide (n ∈ s.ns) := by
    rw [Bool.eq_iff_iff, List.all_eq_true, List.all_eq_true]
    exact ⟨fun q n hn => q n ((h n).mpr hn), fun q n hn => q n ((h n).mp hn)⟩
  rw [e]
inductive SameL : List (List Str) → List (List Str) → Prop where
  | nil : SameL [] []
  | cons {a b : List Str} {as bs : List (List Str)} : SameN a b → SameL as bs → SameL (a :: as) (b :: bs)
theorem SameL.length {a b : List (List Str)} (h : SameL a b) : a.length = b.length := by
  induction h with
  | nil => rfl
  | cons _ _ ih => rw [List.length_cons, List.length_cons, ih]
theorem behind_congr {ss : List Stp} {a b : List (List Str)} (h : SameL a b) : ∀ rs, behindR ss rs a = behindR ss rs b := by
  induction h with
  | nil => exact fun _ => rfl
  | cons n _ ih =>
    intro rs
    unfold behindR
    rw [next_congr n]
    split
    · rfl
    · rw [ih]
theorem SameL.app {a b : List (List Str)} {x y : List Str} (h : SameL a b) (n : SameN x y) : SameL (a ++ [x]) (b ++ [y]) := by
  induction h with
  | nil => exact .cons n .nil
  | cons m _ ih => exact .cons m ih
theorem wrong_congr {h : Hz} {a b : List (List Str)} (e : SameL a b) : wrongOf h a = wrongOf h b := by
  unfold wrongOf
  rw [behind_congr e, e.length]
theorem where_congr {h : Hz} {a b : List (List Str)} (e : SameL a b) : whereOf h a = whereOf h b := by
  rw [where_eq, where_eq, behind_congr e, e.length]
  unfold lastR
  simp only [behind_congr e]
theorem wrong_where {h : Hz} {lots : List (List Str)} : whereOf h lots = some (lastR h lots) → wrongOf h lots = none := by
  rw [where_eq]
  unfold wrongOf
  intro e
  split at e
  · cases e
  · rename_i c
    rw [if_neg c]
end Lw
set_option Elab.async false
set_option linter.all false
set_option maxRecDepth 100000
set_option maxHeartbeats 8000000
/-! beginnings of rows; more lots; houses without noises -/
namespace Lw
open PySem PySem.Spec PyProof.Rows L2 Hb
theorem behind_take {ss : List Stp} : ∀ (lots : List (List Str)) (rs : List Int) (m : Nat), behindR ss rs (lots.take m) = (behindR ss rs lots).take m
  | [], rs, m => by rw [List.take_nil]; exact List.take_nil.symm
  | ns :: lots, rs, 0 => rfl
  | ns :: lots, rs, m + 1 => by
    rw [List.take_succ_cons]
    unfold behindR
    cases e : nextR ss rs ns with
    | none => exact List.take_nil.symm
    | some r =>
      show r :: behindR ss r (lots.take m) = (r :: behindR ss r lots).take (m + 1)
      rw [List.take_succ_cons, behind_take lots r m]
theorem next_sup {ss : List Stp} {rs a : List Int} {ns : List Str} (e : nextR ss rs ns = some a) : ∀ x ∈ rs, x ∈ a := by
  unfold nextR at e
  split at e
  · cases e
    exact fun x hx => mem_uniqI.mpr (List.mem_append_left _ hx)
  · cases e
theorem next_mono {ss : List Stp} {rs rs' a : List Int} {ns : List Str} (sub : ∀ x ∈ rs, x ∈ rs') (e : nextR ss rs ns = some a) : ∃ b, nextR ss rs' ns = some b ∧ ∀ x ∈ a, x ∈ b := by
  have q : ∀ s ∈ quietR ss rs ns, s ∈ quietR ss rs' ns := fun s hs => by
    obtain ⟨h1, h2, h3⟩ := mem_quiet.mp hs
    exact mem_quiet.mpr ⟨h1, sub _ h2, h3⟩
  unfold nextR at e
  split at e
  · rename_i c
    cases e
    refine ⟨_, next_some fun n hn => ?_, fun x hx => ?_⟩
    · obtain ⟨s, hs, m⟩ := List.any_eq_true.mp (List.all_eq_true.mp c n hn)
      exact ⟨s, q s hs, of_decide_eq_true m⟩
    · rw [mem_uniqI] at hx ⊢
      rcases List.mem_append.mp hx with hx | hx
      · exact List.mem_append_left _ (sub x hx)
      · obtain ⟨s, hs, rfl⟩ := List.mem_map.mp hx
        exact List.mem_append_right _ (List.mem_map_of_mem (q s hs))
  · cases e
theorem behind_mono {ss : List Stp} : ∀ {lots : List (List Str)} {rs rs' : List Int}, (∀ x ∈ rs, x ∈ rs') → (behindR ss rs lots).length = lots.length → (behindR ss rs' lots).length = lots.length ∧ ∀ x ∈ lastOf ss rs lots, x ∈ lastOf ss rs' lots
  | [], rs, rs', sub, _ => ⟨rfl, sub⟩
  | ns :: lots, rs, rs', sub, h => by
    cases e : nextR ss rs ns with
    | none =>
      have : behindR ss rs (ns :: lots) = [] := by
        unfold behindR
        rw [e]
      rw [this] at h
      cases h
    | some r =>
      obtain ⟨r', e', sub'⟩ := next_mono sub e
      have q : behindR ss rs (ns :: lots) = r :: behindR ss r lots := by
        conv => lhs; unfold behindR
        rw [e]
      have q' : behindR ss rs' (ns :: lots) = r' :: behindR ss r' lots := by
        conv => lhs; unfold behindR
        rw [e']
      rw [q] at h
      obtain ⟨h1, h2⟩ := behind_mono (lots := lots) sub' (Nat.succ.inj h)
      have l : lastOf ss rs (ns :: lots) = lastOf ss r lots := by
        unfold lastOf
        simp only [q]
        rw [List.getLast_cons (by simp)]
      have l' : lastOf ss rs' (ns :: lots) = lastOf ss r' lots := by
        unfold lastOf
        simp only [q']
        rw [List.getLast_cons (by simp)]
      rw [l, l', q']
      exact ⟨by rw [List.length_cons, List.length_cons, h1], h2⟩
theorem last_R {h : Hz} {lots : List (List Str)} : lastR h lots = lastOf (allSteps h) [0] lots := rfl
/-- how far a row is possible -/
def farOf (h : Hz) (lots : List (List Str)) : Nat := (behindR (allSteps h) [0] lots).length
theorem far_le {h : Hz} {lots : List (List Str)} : farOf h lots ≤ lots.length := behind_le _ _ _
theorem wrong_far {h : Hz} {lots : List (List Str)} : wrongOf h lots = if farOf h lots < lots.length then some ((farOf h lots : Nat) : Int) else none := rfl
theorem take_far {h : Hz} {lots : List (List Str)} (m : Nat) : farOf h (lots.take m) = min m (farOf h lots) := by
  unfold farOf
  rw [behind_take, List.length_take]
theorem take_good {h : Hz} {lots : List (List Str)} {m : Nat} (c : m ≤ farOf h lots) : wrongOf h (lots.take m) = none ∧ whereOf h (lots.take m) = some (lastR h (lots.take m)) := by
  have l := far_le (h := h) (lots := lots)
  have t := take_far (h := h) (lots := lots) m
  have tl : (lots.take m).length = m := by rw [List.length_take]; omega
  refine ⟨by rw [wrong_far, if_neg (by omega)], ?_⟩
  rw [where_eq, if_neg]
  show ¬ farOf h (lots.take m) < _
  omega
theorem take_bad {h : Hz} {lots : List (List Str)} {m : Nat} (c : farOf h lots < m) (d : m ≤ lots.length) : wrongOf h (lots.take m) = some ((farOf h lots : Nat) : Int) ∧ whereOf h (lots.take m) = none := by
  have t := take_far (h := h) (lots := lots) m
  have tl : (lots.take m).length = m := by rw [List.length_take]; omega
  refine ⟨by rw [wrong_far, if_pos (by omega), t, Nat.min_eq_right (by omega)], ?_⟩
  rw [where_eq, if_pos]
  show farOf h (lots.take m) < _
  omega
theorem take_sup {h : Hz} {lots : List (List Str)} {m : Nat} (c : m ≤ farOf h lots) : ∀ x ∈ lastR h (lots.take (m - 1)), x ∈ lastR h (lots.take m) := by
  cases m with
  | zero => exact fun x hx => hx
  | succ m =>
    have l := far_le (h := h) (lots := lots)
    have e : lots.take (m + 1) = lots.take m ++ [lots[m]'(by omega)] := by
      rw [List.take_add_one, List.getElem?_eq_getElem (by omega)]
      rfl
    have full : (behindR (allSteps h) [0] (lots.take m)).length = (lots.take m).length := by
      have := take_far (h := h) (lots := lots) m
      unfold farOf at this c l
      rw [this, List.length_take]
      omega
    have f2 := take_far (h := h) (lots := lots) (m + 1)
    cases q : nextR (allSteps h) (lastOf (allSteps h) [0] (lots.take m)) (lots[m]'(by omega)) with
    | none =>
      have : behindR (allSteps h) [0] (lots.take (m + 1)) = behindR (allSteps h) [0] (lots.take m) := by
        rw [e, behind_app _ full]
        have : behindR (allSteps h) (lastOf (allSteps h) [0] (lots.take m)) [lots[m]'(by omega)] = [] := by
          unfold behindR
          rw [q]
        rw [this, List.append_nil]
      unfold farOf at f2 c l
      rw [this, full, List.length_take, Nat.min_eq_left (by omega), Nat.min_eq_left c] at f2
      omega
    | some r =>
      obtain ⟨_, b⟩ := last_app full q
      rw [last_R, last_R, e, b]
      exact fun x hx => next_sup q x hx
theorem far_ahead {h : Hz} {lots : List (List Str)} (w : wrongOf h lots = none) : wrongOf h ([] :: lots) = none ∧ whereOf h ([] :: lots) = some (lastR h ([] :: lots)) ∧ ∀ x ∈ lastR h lots, x ∈ lastR h ([] :: lots) := by
  have l := far_le (h := h) (lots := lots)
  have full : (behindR (allSteps h) [0] lots).length = lots.length := by
    rw [wrong_far] at w
    split at w
    · cases w
    · have : farOf h lots = lots.length := by omega
      exact this
  have e : ∃ r, nextR (allSteps h) [0] [] = some r := ⟨_, next_some fun n hn => nomatch hn⟩
  obtain ⟨r, e⟩ := e
  have q : behindR (allSteps h) [0] ([] :: lots) = r :: behindR (allSteps h) r lots := by
    conv => lhs; unfold behindR
    rw [e]
  obtain ⟨h1, h2⟩ := behind_mono (next_sup e) full
  have f : farOf h ([] :: lots) = ([] :: lots).length := by
    unfold farOf
    rw [q, List.length_cons, List.length_cons, h1]
  have la : lastR h ([] :: lots) = lastOf (allSteps h) r lots := by
    unfold lastR lastOf
    simp only [q]
    rw [List.getLast_cons (by simp)]
  refine ⟨by rw [wrong_far, if_neg (by omega)], ?_, fun x hx => by rw [la]; exact h2 x hx⟩
  rw [where_eq, if_neg]
  show ¬ farOf h _ < _
  omega
/-! all noises mended -/
theorem less_quiet {h : Hz} {ns : List Str} (hd : ∀ d ∈ h.doors, ∀ n, d.2.2 = some n → n ∈ ns) (hf : ∀ p ∈ h.floors, p.2 ∈ ns) : ∀ s ∈ allSteps (lessH h ns), s.ns = [] := by
  intro s hs
  obtain ⟨d, hd2, _, r, e⟩ := mem_steps hs
  rw [e]
  have ef : (lessH h ns).floors = [] := List.filter_eq_nil_iff.mpr fun p hp => by
    have := hf p ((sortF_perm h.floors).mem_iff.mp hp)
    simp [this]
  unfold nzStep
  rw [ef]
  obtain ⟨d0, h0, rfl⟩ := List.mem_map.mp (show d ∈ h.doors.map fun x => (x.1, x.2.1, nmOk ns x.2.2) from hd2)
  have : nmOk ns d0.2.2 = none := by
    cases q : d0.2.2 with
    | none => rfl
    | some n => exact if_pos (hd d0 h0 n q)
  show (nmOk ns d0.2.2).toList ++ ((sortF ([] : List Fl)).lookup r).toList = []
  rw [this]
  have : sortF ([] : List Fl) = [] := List.perm_nil.mp (sortF_perm [])
  rw [this]
  rfl
theorem quiet_house {h : Hz} (q : ∀ s ∈ allSteps h, s.ns = []) : wrongOf h [[("a" : Str)]] = some 0 ∧ ∀ m, wrongOf h (List.replicate m []) = none := by
  have n1 : nextR (allSteps h) [0] [("a" : Str)] = none := by
    refine if_neg fun c => ?_
    obtain ⟨s, hs, m⟩ := List.any_eq_true.mp (List.all_eq_true.mp c "a" (by simp))
    have := of_decide_eq_true m
    rw [q s (mem_quiet.mp hs).1] at this
    exact absurd this List.not_mem_nil
  have rep : ∀ m rs, (behindR (allSteps h) rs (List.replicate m [])).length = m := by
    intro m
    induction m with
    | zero => exact fun _ => rfl
    | succ m ih =>
      intro rs
      rw [List.replicate_succ]
      unfold behindR
      rw [next_some (ns := []) fun n hn => absurd hn List.not_mem_nil]
      show (behindR (allSteps h) _ _).length + 1 = _
      rw [ih]
  refine ⟨?_, fun m => ?_⟩
  · have : behindR (allSteps h) [0] [[("a" : Str)]] = [] := by
      unfold behindR
      rw [n1]
    unfold wrongOf
    rw [this]
    rfl
  · unfold wrongOf
    rw [if_neg (by rw [rep, List.length_replicate]; omega)]
theorem less_nz {h : Hz} {ns : List Str} (hd : ∀ d ∈ h.doors, ∀ n, d.2.2 = some n → n ∈ ns) (hf : ∀ p ∈ h.floors, p.2 ∈ ns) : nzOf (lessH h ns) = [] := by
  unfold nzOf
  have ef : (lessH h ns).floors = [] := List.filter_eq_nil_iff.mpr fun p hp => by
    have := hf p ((sortF_perm h.floors).mem_iff.mp hp)
    simp [this]
  have : sortF ([] : List Fl) = [] := List.perm_nil.mp (sortF_perm [])
  rw [ef, this, List.map_nil, List.append_nil]
  refine List.filterMap_eq_nil_iff.mpr fun d hd2 => ?_
  obtain ⟨d0, h0, rfl⟩ := List.mem_map.mp (show d ∈ h.doors.map fun x => (x.1, x.2.1, nmOk ns x.2.2) from hd2)
  show nmOk ns d0.2.2 = none
  cases q : d0.2.2 with
  | none => rfl
  | some n => exact if_pos (hd d0 h0 n q)
end Lw
set_option Elab.async false
set_option linter.all false
set_option maxRecDepth 100000
set_option maxHeartbeats 4000000
namespace Lw
open PySem PySem.Spec PyProof.Rows L2 Hb
section
variable {P : Program} {w : World} {K : PySem.W.Frag} {mg : Str → Option Value} {base : Heap}
def spSortedName (K : PySem.W.Frag) : Sp := fun vs H Q _ => ∃ (a : Addr) (x y : Str), vs = [.ref a] ∧ SqT K H a [.str x, .str y] ∧ x.length ≤ 1000 ∧ ∀ H', Same H H' → Q (.bl (nameB x && decide (y ∈ fourS))) H'
theorem c_is_sorted_name (D : Df K mg "is_sorted_name" s_is_sorted_name) (T : Tx K mg) (c_is_tuple_of : C8.Cal P w K mg base 1 "is_tuple_of" (spTupOf K) []) (c_is_name : C8.Cal P w K mg base 1 "is_name" spName []) :
    C8.Cal P w K mg base 2 "is_sorted_name" (spSortedName K) [] := by
  refine cal_mk D sc_is_sorted_name bd_is_sorted_name (fun vs H Q E h => ?_) fun f cdv A outer s H vs Q E hr h => ?_
  · obtain ⟨a, x, y, rfl, _⟩ := h
    rfl
  · obtain ⟨a, x, y, rfl, hq, few, k⟩ := h
    refine ⟨_, (pss_one (ps_ret (pe_and (C8.pe_c c_is_tuple_of hr (by decide) rfl (pa_cons (pv 0) (pa_cons pe_int pa_nil))) (pe_and (C8.pe_c c_is_name hr (by decide) rfl (pa_cons (pe_ix ix_tup (pv 0) pe_int (fun _ _ => rfl)) pa_nil)) (pe_one (pe_cmpR op_in_seq (pe_ix ix_tup (pv 0) pe_int (fun _ _ => rfl)) (pe_glob (v := .ref _) rfl T.g_SORTS rfl) (by first | exact nomark _ | rfl))))))), ?_⟩
    refine ⟨_, rfl, a, _, 2, rfl, hq, _, rfl, iteT ?_⟩
    refine ⟨_, rfl, a, _, 0, .str x, rfl, rfl, hq, rfl, x, rfl, few, fun H1 s1 => ⟨_, rfl, ?_⟩⟩
    cases e : nameB x with
    | false =>
      have k2 := k H1 s1
      rw [e] at k2
      exact iteF k2
    | true =>
      have k2 := k H1 s1
      rw [e] at k2
      refine iteT ⟨_, rfl, a, _, 1, .str y, rfl, rfl, SqT.keep (Same.tk s1) hq, rfl, _, _, rfl, .inr (T.t_SORTS _), rfl, rfl, ?_⟩
      rw [if_neg Bool.false_ne_true]
      have q := inV_strs y fourS
      show Q (V.bl (inV (V.str y) (fourS.map V.str))) H1
      rw [q]
      exact k2
def spSorts (K : PySem.W.Frag) : Sp := fun vs H Q _ => ∃ (a : Addr) (xs : List V) (prs : List (Str × Str)), vs = [.ref a] ∧ (SqL K H a xs ∨ SqT K H a xs) ∧ TDs K H xs (prs.map encP) ∧
  (∀ p ∈ prs, nameB p.1 = true ∧ p.2 ∈ fourS) ∧ (prs.map Prod.fst).Nodup ∧ prs.length ≤ 100 ∧ ∀ H', Same H H' → Q (.bl true) H'
theorem pair_at {K : PySem.W.Frag} {H : Hp} {xs : List V} {prs : List (Str × Str)} {i : Nat} {x : V} (td : TDs K H xs (prs.map encP)) (h : xs[i]? = some x) : ∃ t p, x = .ref t ∧ prs[i]? = some p ∧ SqT K H t [.str p.1, .str p.2] := by
  obtain ⟨d, h1, h2⟩ := TDs.at td h
  rw [List.getElem?_map] at h1
  obtain ⟨p, h3, h4⟩ := Option.map_eq_some_iff.mp h1
  subst h4
  obtain ⟨t, ys, e, h5, h6⟩ := TD.tup_inv h2
  obtain rfl := TDs.strs_inv (xs := [p.1, p.2]) h6
  exact ⟨t, p, e, h3, h5⟩
theorem c_are_sorts (D : Df K mg "are_sorts" s_are_sorts) (T : Tx K mg) (c_is_row : C8.Cal P w K mg base 1 "is_row" (spRow K) []) (c_is_sorted_name : C8.Cal P w K mg base 2 "is_sorted_name" (spSortedName K) [])
    (c_are_unlike : C8.Cal P w K mg base 1 "are_unlike" (spUnlike K) []) : C8.Cal P w K mg base 3 "are_sorts" (spSorts K) [] := by
  refine cal_mk D sc_are_sorts bd_are_sorts (fun vs H Q E h => ?_) fun f cdv A outer s H vs Q E hr h => ?_
  · obtain ⟨a, xs, prs, rfl, _⟩ := h
    rfl
  · obtain ⟨a, xs, prs, rfl, hq, td, ok, nd, few, k⟩ := h
    have line := sizeLine_eq
    have len : xs.length = prs.length := by rw [td.length, List.length_map]
    refine ⟨_, (pss_cons (ps_if (PW.pt (pw_or (pt_not (pt_val (C8.pe_c c_is_row hr (by decide) rfl (pa_cons (pv 0) pa_nil)))) (pw_or1 (pt_not (pt_val (pe_callB (cr_all rfl) (by rfl) T.n_all (by decide +kernel) (pa_cons (pe_lc (own := [("pair", 1)]) (by rfl) sc_are_sorts.nd (pi_seq (pv 0)) (blkOk_by (N := N_are_sorts) (sc := defScope s_are_sorts) (by decide +kernel)) (fun _ _ _ _ _ => (pg_name (i := 1) sc_are_sorts.nd rfl (Or.inl rfl))) (fun _ _ _ _ _ => pts_nil) (fun _ _ _ _ _ => (C8.pe_c c_is_sorted_name hr (by decide) rfl (pa_cons (pv 1) pa_nil)))) pa_nil)))))))
 (pss_one (ps_ret pe_bl))
 pss_nil)
 (pss_one (ps_ret (C8.pe_c c_are_unlike hr (by decide) rfl (pa_cons (pe_lc (own := [("pair", 1)]) (by rfl) sc_are_sorts.nd (pi_seq (pv 0)) (blkOk_by (N := N_are_sorts) (sc := defScope s_are_sorts) (by decide +kernel)) (fun _ _ _ _ _ => (pg_name (i := 1) sc_are_sorts.nd rfl (Or.inl rfl))) (fun _ _ _ _ _ => pts_nil) (fun _ _ _ _ _ => (pe_ix (show IxR _ (rIxT K) from ix_tup) (pv 1) pe_int (fun _ _ => rfl)))) pa_nil))))), ?_⟩
    refine ⟨_, rfl, a, xs, rfl, hq, fun H1 s1 => ⟨_, rfl, iteF ?_⟩⟩
    have hq1 : SqL K H1 a xs ∨ SqT K H1 a xs := hq.imp (Same.seq s1) (SqT.keep (Same.tk s1))
    refine ⟨_, rfl, a, xs, rfl, hq1, fun J G hG wk D nD => lc_it wk (fun i H' => Same H1 H' ∧ H' D = some (.lst (List.replicate i (.bl true)))) ⟨Same.new nD, upd_same⟩ (fun i H' _ p => hG _ p.1) ?_ ?_⟩
    · rintro i x H' H2 hi ⟨s2, hD⟩ ⟨rfl, hx⟩
      obtain ⟨t, p, rfl, hp, ht⟩ := pair_at (TDs.keep (Same.tk (s1.trans s2)) td) hx
      have okp := ok p (List.mem_of_getElem? hp)
      refine ⟨rfl, yes_ ⟨_, rfl, t, p.1, p.2, rfl, ht, Nat.le_trans (name_short okp.1) (by decide), fun H3 s3 => ?_⟩⟩
      rw [okp.1, decide_eq_true okp.2]
      refine ⟨_, s3 _ _ hD, by rw [List.length_replicate]; omega, Hb.Same.acc (s2.trans s3) nD, ?_⟩
      rw [upd_same, List.replicate_succ']
      rfl
    · rintro H2 ⟨s2, hD⟩
      refine ⟨D, List.replicate xs.length true, rfl, SqL.of (by rw [hD, List.map_replicate]), _, rfl, ?_⟩
      rw [show (List.replicate xs.length true).all id = true by simp]
      refine iteF ?_
      have hq2 : SqL K H2 a xs ∨ SqT K H2 a xs := hq1.imp (Same.seq s2) (SqT.keep (Same.tk s2))
      have s12 := s1.trans s2
      refine ⟨_, rfl, a, xs, rfl, hq2, fun J G hG wk D2 nD2 => lc_it wk (fun i H' => H' = upd H2 D2 (.lst (((prs.take i).map Prod.fst).map V.str))) (by simp) (fun i H' _ p => by rw [p]; exact hG _ (Same.new nD2)) ?_ ?_⟩
      · rintro i x H' H3 hi rfl ⟨e, hx⟩
        subst e
        have s3 : Same H2 (upd H2 D2 (.lst (((prs.take i).map Prod.fst).map V.str))) := Same.new nD2
        obtain ⟨t, p, rfl, hp, ht⟩ := pair_at (TDs.keep (Same.tk (s12.trans s3)) td) hx
        refine ⟨rfl, yes_ ⟨_, rfl, t, _, 0, .str p.1, rfl, rfl, ht, rfl, _, upd_same, ?_, ?_⟩⟩
        · rw [List.length_map, List.length_map, List.length_take]
          omega
        · rw [upd_upd]
          show upd H2 D2 _ = upd H2 D2 _
          rw [List.take_add_one, hp]
          simp
      · rintro H3 rfl
        rw [len, List.take_length]
        exact ⟨D2, rfl, .inl ⟨prs.map Prod.fst, .inl (SqL.of upd_same), nd, by rw [List.length_map]; omega⟩, k _ (s12.trans (Same.new nD2))⟩
end
end Lw
set_option Elab.async false
set_option linter.all false
set_option maxRecDepth 100000
set_option maxHeartbeats 4000000
namespace Lw
open PySem PySem.Spec PyProof.Rows L2 Hb
theorem notin_no {A B : Prop} {y : V} {xs : List V} (h : inV y xs = true) (k : B) : if (if true = true then !inV y xs else inV y xs) = true then A else B := by
  rw [h]
  simpa using k
/-- what may be handed to Sleeper -/
structure Zin (z : Zz) : Prop where
  nd : (z.sorts.map Prod.fst).Nodup
  ok : ∀ p ∈ z.sorts, nameB p.1 = true ∧ p.2 ∈ fourS
  few : z.sorts.length ≤ 100
  s1 : 1 ≤ z.stir
  d1 : 1 ≤ z.doze
  n1 : 1 ≤ z.near
  lo : z.loud ∈ threeS
def spInit (K : PySem.W.Frag) (C : Addr) : Sp := fun vs H Q _ => ∃ (x dx a : Addr) (xs : List V) (z : Zz), vs = [.ref x, .ref a, .int z.stir, .int z.doze, .int z.near, .str z.loud] ∧ H x = some (.ins C dx []) ∧
  (SqL K H a xs ∨ SqT K H a xs) ∧ TDs K H xs (z.sorts.map encP) ∧ Zin z ∧ ∀ H', (∀ b o, b ≠ x → H b = some o → H' b = some o) → SlpAt K C H' x z → Q .non H'
section
variable {P : Program} {w : World} {K : PySem.W.Frag} {mg : Str → Option Value} {base : Heap}
theorem m_Sleeper_mk (D : Df1 K mg "Sleeper" "Sleeper.__init__" s_Sleeper_init) (T : Tx K mg) (c_are_sorts : C8.Cal P w K mg base 3 "are_sorts" (spSorts K) []) (c_is_positive : C8.Cal P w K mg base 2 "is_positive" spPos []) :
    C8.Mak P w K mg base 4 "Sleeper" (He.ga K "Sleeper") (spInit K (He.ga K "Sleeper")) [] := by
  refine mak_mk D sc_Sleeper_init bd_Sleeper_init (fun vs H Q E h => ?_) fun f cdv A outer s H vs Q E hr h => ?_
  · obtain ⟨x, dx, a, xs, z, rfl, _⟩ := h
    rfl
  · obtain ⟨x, dx, a, xs, z, rfl, hx, hq, td, zi, k⟩ := h
    refine ⟨_, (pss_cons (ps_if (pt_not (pt_val (C8.pe_c c_are_sorts hr (by decide) rfl (pa_cons (pv 1) pa_nil))))
 (pss_one ps_never)
 pss_nil)
 (pss_cons (ps_if (pt_not (pt_val (C8.pe_c c_is_positive hr (by decide) rfl (pa_cons (pv 2) pa_nil))))
 (pss_one ps_never)
 pss_nil)
 (pss_cons (ps_if (pt_not (pt_val (C8.pe_c c_is_positive hr (by decide) rfl (pa_cons (pv 3) pa_nil))))
 (pss_one ps_never)
 pss_nil)
 (pss_cons (ps_if (pt_not (pt_val (C8.pe_c c_is_positive hr (by decide) rfl (pa_cons (pv 4) pa_nil))))
 (pss_one ps_never)
 pss_nil)
 (pss_cons (ps_if (pt_cmpR op_notIn_seq (pv 5) (pe_glob (v := .ref _) rfl T.g_LOUD_RULES rfl) (by first | exact nomark _ | rfl))
 (pss_one ps_never)
 pss_nil)
 (pss_cons (ps_fld (pv 0) (pe_callTy call_tuple_of (by rfl) T.n_tuple (by decide +kernel) (pa_cons (pe_callB (cr_sortedAny encP hr.units) (by rfl) T.n_sorted (by decide +kernel) (pa_cons (pv 1) pa_nil)) pa_nil)) rfl)
 (pss_cons (ps_fld (pv 0) (pv 2) rfl)
 (pss_cons (ps_fld (pv 0) (pv 3) rfl)
 (pss_cons (ps_fld (pv 0) (pv 4) rfl)
 (pss_one (ps_fld (pv 0) (pv 5) rfl))))))))))), ?_⟩
    refine ⟨_, rfl, a, xs, z.sorts, rfl, hq, td, zi.ok, zi.nd, zi.few, fun H1 s1 => ⟨_, rfl, iteF ?_⟩⟩
    refine ⟨_, rfl, z.stir, rfl, _, rfl, ?_⟩
    rw [decide_eq_true zi.s1]
    refine iteF ⟨_, rfl, z.doze, rfl, _, rfl, ?_⟩
    rw [decide_eq_true zi.d1]
    refine iteF ⟨_, rfl, z.near, rfl, _, rfl, ?_⟩
    rw [decide_eq_true zi.n1]
    refine iteF ⟨_, rfl, _, _, rfl, .inr (T.t_LOUD_RULES _), rfl, rfl, _, rfl, ?_⟩
    refine notin_no (xs := threeS.map V.str) (by rw [inV_strs]; exact decide_eq_true zi.lo) ?_
    have hq1 : SqL K H1 a xs ∨ SqT K H1 a xs := hq.imp (Same.seq s1) (SqT.keep (Same.tk s1))
    have td1 := TDs.keep (Same.tk s1) td
    have len : xs.length = z.sorts.length := by rw [td.length, List.length_map]
    have ztd := zip_td td1
    refine ⟨_, rfl, a, xs.zip z.sorts, rfl, by rw [zip_fst len]; exact hq1, fun y hy => TD.dp (ztd y hy), PySem.W.AllAlike.of (fun b b' => alike_P b.2 b'.2), PySem.W.Sortable.tuples (fun b => ⟨_, _, rfl⟩), fun y _ => depth_P y.2, fun p np => ?_⟩
    generalize hzs : (xs.zip z.sorts).mergeSort (PySem.W.dataLe false fun y => encP y.2) = zs
    have pz : zs.Perm (xs.zip z.sorts) := by rw [← hzs]; exact List.mergeSort_perm _ _
    have snd : zs.map (·.2) = sortP z.sorts := by rw [← hzs, sort_zip, zip_snd len]
    have tds : TDs K H1 (zs.map (·.1)) ((sortP z.sorts).map encP) := by
      rw [← snd]
      exact td_zip fun y hy => ztd y (pz.mem_iff.mp hy)
    have s2 : Same H1 (upd H1 p (.lst (zs.map (·.1)))) := Same.new np
    refine ⟨p, _, rfl, .inl ⟨SqL.of upd_same, fun t nt => ?_⟩⟩
    have s3 : Same H1 (upd (upd H1 p (.lst (zs.map (·.1)))) t (.tup (zs.map (·.1)))) := s2.trans (Same.new nt)
    have s4 := s1.trans s3
    have xt : x ≠ t := ne_of_none (s2 _ _ (s1 _ _ hx)) nt
    refine ⟨_, rfl, x, _, dx, [], rfl, s4 _ _ hx, T.cls_Sleeper, T.a_sorts, by decide, ?_⟩
    refine ⟨_, rfl, _, rfl, x, _, dx, _, rfl, upd_same, T.cls_Sleeper, T.a_stir, by show 1 < 1000; decide, ?_⟩
    refine ⟨_, rfl, _, rfl, x, _, dx, _, rfl, upd_same, T.cls_Sleeper, T.a_doze, by show 2 < 1000; decide, ?_⟩
    refine ⟨_, rfl, _, rfl, x, _, dx, _, rfl, upd_same, T.cls_Sleeper, T.a_near, by show 3 < 1000; decide, ?_⟩
    refine ⟨_, rfl, _, rfl, x, _, dx, _, rfl, upd_same, T.cls_Sleeper, T.a_loud, by show 4 < 1000; decide, ?_⟩
    rw [upd_upd, upd_upd, upd_upd, upd_upd]
    have tk : TK (upd (upd H1 p (.lst (zs.map (·.1)))) t (.tup (zs.map (·.1)))) (upd (upd (upd H1 p (.lst (zs.map (·.1)))) t (.tup (zs.map (·.1)))) x (.ins (He.ga K "Sleeper") dx (slpFs t z))) := TK.put (s4 _ _ hx) (by intro xs e; cases e) (by intro q u e; cases e)
    refine k _ (fun b o n e => by rw [upd_ne n]; exact s4 b o e) ⟨dx, t, _, Eq.trans upd_same (congrArg (fun q => some (HO.ins (He.ga K "Sleeper") dx q)) rfl), SqT.keep tk (SqT.of upd_same), TDs.keep tk (TDs.keep (Same.tk s3) tds)⟩
end
end Lw
set_option Elab.async false
set_option linter.all false
set_option maxRecDepth 100000
set_option maxHeartbeats 4000000
namespace Lw
open PySem PySem.Spec PyProof.Rows L2 Hb
def spSortOf (K : PySem.W.Frag) (C : Addr) : Sp := fun vs H Q _ => ∃ (p : Addr) (z : Zz) (n : Str), vs = [.ref p, .str n] ∧ SlpAt K C H p z ∧ Q (soV (sortOf z n)) H
section
variable {P : Program} {w : World} {K : PySem.W.Frag} {mg : Str → Option Value} {base : Heap}
theorem c_sort_of (D : Df K mg "sort_of" s_sort_of) (T : Tx K mg) : C8.Cal P w K mg base 1 "sort_of" (spSortOf K (He.ga K "Sleeper")) [] := by
  refine cal_mk D sc_sort_of bd_sort_of (fun vs H Q E h => ?_) fun f cdv A outer s H vs Q E hr h => ?_
  · obtain ⟨p, z, n, rfl, _⟩ := h
    rfl
  · obtain ⟨p, z, n, rfl, ⟨dx, t, xs, hp, ht, td⟩, k⟩ := h
    refine ⟨_, (pss_cons (ps_for PassesOwn.never rfl (pi_tup (pe_fld (pv 0) rfl)) (pg_tup (by rfl) (pgs_cons (pg_name (i := 2) sc_sort_of.nd rfl (Or.inl rfl)) (pgs_cons (pg_name (i := 3) sc_sort_of.nd rfl (Or.inl rfl)) pgs_nil)))
 (pss_one (ps_if (pt_cmpR op_eq (pv 2) (pv 1) (by first | exact nomark _ | rfl))
 (pss_one (ps_ret (pv 3)))
 pss_nil)))
 (pss_one (ps_ret pe_non))), ?_⟩
    have len : xs.length = (sortP z.sorts).length := by rw [td.length, List.length_map]
    refine ⟨_, rfl, p, _, dx, _, _, rfl, hp, T.cls_Sleeper, T.a_sorts, rfl, t, rfl, ⟨_, ht⟩, for_tup (K := K) (a := t) (xs := xs) (fun i σ H' => H' = H ∧ (∃ v2 v3, σ = [some (.ref p), some (.str n), v2, v3]) ∧ sortOf z n = ((sortP z.sorts).drop i).lookup n)
      ⟨rfl, ⟨_, _, rfl⟩, rfl⟩ (fun i σ H' _ q => by rw [q.1]; exact ht) ?_ ?_⟩
    · rintro i x σ H' hx ⟨rfl, ⟨v2, v3, rfl⟩, e⟩
      obtain ⟨q, pr, rfl, hpr, hq⟩ := pair_at td hx
      obtain ⟨hlt, hget⟩ := List.getElem?_eq_some_iff.mp hpr
      rw [List.drop_eq_getElem_cons hlt, hget] at e
      refine ⟨q, _, rfl, hq, rfl, _, _, rfl, _, _, rfl, rfl, ?_⟩
      refine ⟨_, rfl, _, rfl, rfl, _, rfl, ?_⟩
      refine ite2 (fun h => ?_) (fun h => ?_)
      · have h2 : pr.1 = n := by have h3 := of_decide_eq_true h; injection h3
        have e2 : sortOf z n = some pr.2 := by rw [e, ← h2]; simp [List.lookup]
        rw [e2] at k
        exact ⟨_, rfl, k⟩
      · have h2 : ¬ pr.1 = n := fun q => h (decide_eq_true (by rw [q]))
        have h3 : (n == pr.1) = false := beq_eq_false_iff_ne.mpr fun q => h2 q.symm
        exact ⟨rfl, ⟨_, _, rfl⟩, by rw [e]; simp [List.lookup, h3]⟩
    · rintro σ H' ⟨rfl, ⟨v2, v3, rfl⟩, e⟩
      rw [List.drop_eq_nil_of_le (by omega)] at e
      rw [show soV (sortOf z n) = V.non by rw [e]; rfl] at k
      exact k
def spSt (K : PySem.W.Frag) (C : Addr) (f : Zz → S0 → S0) : Sp := fun vs H Q _ => ∃ (p : Addr) (v : V) (z : Zz) (s : S0), vs = [.ref p, v] ∧ SlpAt K C H p z ∧ StAt K H v s ∧ ∀ H' v', Same H H' → StAt K H' v' (f z s) → Q v' H'
/-- dozing anew -/
def spAnew (K : PySem.W.Frag) (C : Addr) : Sp := fun vs H Q _ => ∃ (p : Addr) (z : Zz), vs = [.ref p] ∧ SlpAt K C H p z ∧ ∀ H' v', Same H H' → StAt K H' v' (.doz z.doze) → Q v' H'
theorem c_dozing_anew (D : Df K mg "dozing_anew" s_dozing_anew) (T : Tx K mg) : C8.Cal P w K mg base 1 "dozing_anew" (spAnew K (He.ga K "Sleeper")) [] := by
  refine cal_mk D sc_dozing_anew bd_dozing_anew (fun vs H Q E h => ?_) fun f cdv A outer s H vs Q E hr h => ?_
  · obtain ⟨p, z, rfl, _⟩ := h
    rfl
  · obtain ⟨p, z, rfl, ⟨dx, t, xs, hp, ht, td⟩, k⟩ := h
    refine ⟨_, (pss_one (ps_ret (pe_tup (pa_cons pe_str (pa_cons (pe_fld (pv 0) rfl) pa_nil))))), ?_⟩
    exact ⟨_, rfl, p, _, dx, _, _, rfl, hp, T.cls_Sleeper, T.a_doze, rfl, by show 2 ≤ sizeLine; decide, fun q nq => k _ _ (Same.new nq) ⟨q, rfl, SqT.of upd_same⟩⟩
def loudDoz (z : Zz) (s : S0) : S0 := if z.loud = "wake" then .wok else if z.loud = "again" then .doz z.doze else s
theorem c_heard_loud_dozing (D : Df K mg "heard_loud_dozing" s_heard_loud_dozing) (T : Tx K mg) (c_dozing_anew : C8.Cal P w K mg base 1 "dozing_anew" (spAnew K (He.ga K "Sleeper")) []) :
    C8.Cal P w K mg base 2 "heard_loud_dozing" (spSt K (He.ga K "Sleeper") loudDoz) [] := by
  refine cal_mk D sc_heard_loud_dozing bd_heard_loud_dozing (fun vs H Q E h => ?_) fun f cdv A outer s H vs Q E hr h => ?_
  · obtain ⟨p, v, z, s, rfl, _⟩ := h
    rfl
  · obtain ⟨p, v, z, s, rfl, hz, hs, k⟩ := h
    obtain ⟨dx, t, xs, hp, ht, td⟩ := id hz
    refine ⟨_, (pss_cons (ps_if (pt_cmpR op_eq (pe_fld (pv 0) rfl) pe_str (by first | exact nomark _ | rfl))
 (pss_one (ps_ret (pe_glob (v := .ref _) rfl T.g_WOKEN rfl)))
 pss_nil)
 (pss_one (ps_ret (pe_ifExp (pt_cmpR op_eq (pe_fld (pv 0) rfl) pe_str (by first | exact nomark _ | rfl)) (C8.pe_c c_dozing_anew hr (by decide) rfl (pa_cons (pv 0) pa_nil)) (pv 1))))), ?_⟩
    refine ⟨_, rfl, p, _, dx, _, _, rfl, hp, T.cls_Sleeper, T.a_loud, rfl, rfl, _, rfl, ?_⟩
    by_cases h1 : z.loud = "wake"
    · rw [decide_eq_true (show V.str z.loud = V.str "wake" by rw [h1])]
      exact iteT (k _ _ (Same.refl H) ⟨_, rfl, by rw [show loudDoz z s = S0.wok from if_pos h1]; exact T.t_WOKEN _⟩)
    · rw [decide_eq_false (show ¬ V.str z.loud = V.str "wake" from fun q => h1 (by injection q))]
      refine iteF ⟨_, rfl, p, _, dx, _, _, rfl, hp, T.cls_Sleeper, T.a_loud, rfl, rfl, _, rfl, ?_⟩
      by_cases h2 : z.loud = "again"
      · rw [decide_eq_true (show V.str z.loud = V.str "again" by rw [h2])]
        have e : loudDoz z s = S0.doz z.doze := (if_neg h1).trans (if_pos h2)
        rw [e] at k
        exact iteT ⟨_, rfl, p, z, rfl, hz, k⟩
      · rw [decide_eq_false (show ¬ V.str z.loud = V.str "again" from fun q => h2 (by injection q))]
        have e : loudDoz z s = s := (if_neg h1).trans (if_neg h2)
        rw [e] at k
        exact iteF ⟨_, rfl, k _ _ (Same.refl H) hs⟩
end
end Lw
set_option Elab.async false
set_option linter.all false
set_option maxRecDepth 100000
set_option maxHeartbeats 4000000
namespace Lw
open PySem PySem.Spec PyProof.Rows L2 Hb
/-- behind a noise of a sort, asleep -/
def spAslp (K : PySem.W.Frag) (C : Addr) : Sp := fun vs H Q _ => ∃ (p : Addr) (v : V) (z : Zz) (s : S0) (n : Str) (so : Option Str), vs = [.ref p, v, .str n, soV so] ∧ SlpAt K C H p z ∧ StAt K H v s ∧ s.word = "asleep" ∧ ∀ H' v', Same H H' → StAt K H' v' (hear z so n s) → Q v' H'
def spHeard (K : PySem.W.Frag) (C : Addr) : Sp := fun vs H Q _ => ∃ (p : Addr) (v : V) (z : Zz) (s : S0) (n : Str), vs = [.ref p, v, .str n] ∧ SlpAt K C H p z ∧ StAt K H v s ∧ ∀ H' v', Same H H' → StAt K H' v' (hear z (sortOf z n) n s) → Q v' H'
section
variable {P : Program} {w : World} {K : PySem.W.Frag} {mg : Str → Option Value} {base : Heap}
theorem c_heard_asleep (D : Df K mg "heard_asleep" s_heard_asleep) (T : Tx K mg) : C8.Cal P w K mg base 1 "heard_asleep" (spAslp K (He.ga K "Sleeper")) [] := by
  refine cal_mk D sc_heard_asleep bd_heard_asleep (fun vs H Q E h => ?_) fun f cdv A outer s H vs Q E hr h => ?_
  · obtain ⟨p, v, z, s, n, so, rfl, _⟩ := h
    rfl
  · obtain ⟨p, v, z, s, n, so, rfl, ⟨dx, t, xs, hp, ht, td⟩, hs, hw, k⟩ := h
    have sl : s = .asl ∨ ∃ m a, s = .kept m a := by
      obtain ⟨h1, h2, h3, h4, h5, h6, h7, h8, h9, h10⟩ := words_ne
      cases s
      case up => exact absurd hw.symm h1
      case doz => exact absurd hw h5.symm
      case asl => exact .inl rfl
      case kept => exact .inr ⟨_, _, rfl⟩
      case stir => exact absurd hw h8
      case wok => exact absurd hw h9
    obtain ⟨a, rfl, hs⟩ := hs
    refine ⟨_, (pss_cons (ps_if (pt_cmpR op_eq (pv 3) pe_str (by first | exact nomark _ | rfl))
 (pss_one (ps_ret (pe_tup (pa_cons pe_str (pa_cons (pe_fld (pv 0) rfl) pa_nil)))))
 pss_nil)
 (pss_cons (ps_if (PW.pt (pw_or (pt_cmpR op_eq (pv 3) pe_str (by first | exact nomark _ | rfl)) (pw_or1 (pt_cmpR op_eq (pv 3) pe_str (by first | exact nomark _ | rfl)))))
 (pss_one (ps_ret (pe_glob (v := .ref _) rfl T.g_WOKEN rfl)))
 pss_nil)
 (pss_cons (ps_if (pt_cmpR op_eq (pv 3) pe_str (by first | exact nomark _ | rfl))
 (pss_one (ps_ret (pe_ifExp (PW.pt (pw_and (pt_cmpR op_eq (pe_callB call_len (by rfl) T.n_len (by decide +kernel) (pa_cons (pv 1) pa_nil)) pe_int (by first | exact nomark _ | rfl)) (pw_and1 (pt_cmpR op_ne (pe_ix ix_tup (pv 1) pe_int (fun _ _ => rfl)) (pv 2) (by first | exact nomark _ | rfl))))) (pe_glob (v := .ref _) rfl T.g_WOKEN rfl) (pe_tup (pa_cons pe_str (pa_cons (pv 2) (pa_cons pe_int pa_nil)))))))
 pss_nil)
 (pss_one (ps_ret (pv 1)))))), ?_⟩
    refine ⟨_, rfl, soV_scal so _, _, rfl, ?_⟩
    rw [soV_eq]
    by_cases h1 : so = some ("soft" : Str)
    · rw [decide_eq_true h1]
      refine iteT ⟨_, rfl, p, _, dx, _, _, rfl, hp, T.cls_Sleeper, T.a_stir, rfl, by show 2 ≤ sizeLine; decide, fun q nq => k _ _ (Same.new nq) ⟨q, rfl, ?_⟩⟩
      have e : hear z so n s = .stir z.stir := by rcases sl with rfl | ⟨m, a, rfl⟩ <;> (show ite _ _ _ = _; rw [if_pos h1])
      rw [e]
      exact SqT.of upd_same
    · rw [decide_eq_false h1]
      refine iteF ⟨_, rfl, soV_scal so _, _, rfl, ?_⟩
      rw [soV_eq]
      by_cases h2 : so = some ("loud" : Str)
      · rw [decide_eq_true h2]
        have e : hear z so n s = .wok := by rcases sl with rfl | ⟨m, a, rfl⟩ <;> (show ite _ _ _ = _; rw [if_neg h1, if_pos (Or.inl h2)])
        rw [e] at k
        exact iteT (k _ _ (Same.refl H) ⟨_, rfl, T.t_WOKEN _⟩)
      · rw [decide_eq_false h2]
        refine iteF ⟨_, rfl, soV_scal so _, _, rfl, ?_⟩
        rw [soV_eq]
        by_cases h3 : so = some ("sudden" : Str)
        · rw [decide_eq_true h3]
          have e : hear z so n s = .wok := by rcases sl with rfl | ⟨m, a, rfl⟩ <;> (show ite _ _ _ = _; rw [if_neg h1, if_pos (Or.inr h3)])
          rw [e] at k
          exact iteT (k _ _ (Same.refl H) ⟨_, rfl, T.t_WOKEN _⟩)
        · rw [decide_eq_false h3]
          refine iteF ⟨_, rfl, soV_scal so _, _, rfl, ?_⟩
          rw [soV_eq]
          by_cases h4 : so = some ("faint" : Str)
          · rw [decide_eq_true h4]
            refine iteT ?_
            rcases sl with rfl | ⟨m, ago, rfl⟩
            · refine ⟨_, rfl, .ref a, 1, rfl, .inr ⟨_, hs, rfl⟩, rfl, _, rfl, iteF (iteF ⟨_, rfl, by show 3 ≤ sizeLine; decide, fun q nq => ?_⟩)⟩
              have e : hear z so n .asl = .kept n 0 := by show ite _ _ _ = _; rw [if_neg h1, if_neg (fun q => q.elim h2 h3), if_pos h4]
              rw [e] at k
              exact k _ _ (Same.new nq) ⟨q, rfl, SqT.of upd_same⟩
            · refine ⟨_, rfl, .ref a, 3, rfl, .inr ⟨_, hs, rfl⟩, rfl, _, rfl, iteT ⟨_, rfl, a, _, 1, .str m, rfl, rfl, hs, rfl, _, rfl, rfl, _, rfl, ?_⟩⟩
              by_cases h5 : m = n
              · rw [decide_eq_true (show V.str m = V.str n by rw [h5])]
                refine iteF ⟨_, rfl, by show 3 ≤ sizeLine; decide, fun q nq => ?_⟩
                have e : hear z so n (.kept m ago) = .kept n 0 := by show ite _ _ _ = _; rw [if_neg h1, if_neg (fun q => q.elim h2 h3), if_pos h4, if_pos h5]
                rw [e] at k
                exact k _ _ (Same.new nq) ⟨q, rfl, SqT.of upd_same⟩
              · rw [decide_eq_false (show ¬ V.str m = V.str n from fun q => h5 (by injection q))]
                have e : hear z so n (.kept m ago) = .wok := by show ite _ _ _ = _; rw [if_neg h1, if_neg (fun q => q.elim h2 h3), if_pos h4, if_neg h5]
                rw [e] at k
                exact iteT (k _ _ (Same.refl H) ⟨_, rfl, T.t_WOKEN _⟩)
          · rw [decide_eq_false h4]
            refine iteF ⟨_, rfl, ?_⟩
            have e : hear z so n s = s := by rcases sl with rfl | ⟨m, a, rfl⟩ <;> (show ite _ _ _ = _; rw [if_neg h1, if_neg (fun q => q.elim h2 h3), if_neg h4])
            rw [e] at k
            exact k _ _ (Same.refl H) ⟨a, rfl, hs⟩
theorem word_eq (s : S0) (x : Str) : decide (V.str s.word = V.str x) = decide (s.word = x) := by
  by_cases h : s.word = x
  · rw [decide_eq_true h, decide_eq_true (show V.str s.word = V.str x by rw [h])]
  · rw [decide_eq_false h, decide_eq_false (show ¬ V.str s.word = V.str x from fun q => h (by injection q))]
theorem hear_doz {z : Zz} {so : Option Str} {n : Str} {t : Int} (h : so = some ("loud" : Str)) : hear z so n (.doz t) = loudDoz z (.doz t) := by
  show ite _ _ _ = _
  rw [if_pos h]
  rfl
theorem c_heard (D : Df K mg "heard" s_heard) (T : Tx K mg) (c_sort_of : C8.Cal P w K mg base 1 "sort_of" (spSortOf K (He.ga K "Sleeper")) []) (c_heard_asleep : C8.Cal P w K mg base 1 "heard_asleep" (spAslp K (He.ga K "Sleeper")) [])
    (c_heard_loud_dozing : C8.Cal P w K mg base 2 "heard_loud_dozing" (spSt K (He.ga K "Sleeper") loudDoz) []) : C8.Cal P w K mg base 3 "heard" (spHeard K (He.ga K "Sleeper")) [] := by
  refine cal_mk D sc_heard bd_heard (fun vs H Q E h => ?_) fun f cdv A outer s H vs Q E hr h => ?_
  · obtain ⟨p, v, z, s, n, rfl, _⟩ := h
    rfl
  · obtain ⟨p, v, z, s, n, rfl, hz, hs, k⟩ := h
    obtain ⟨a, rfl, ha⟩ := id hs
    obtain ⟨q1, q2, q3, q4, q5, q6, q7, q8, q9, q10⟩ := words_ne
    refine ⟨_, (pss_cons (ps_set (i := 3) sc_heard.nd rfl (Or.inl rfl) (C8.pe_c c_sort_of hr (by decide) rfl (pa_cons (pv 0) (pa_cons (pv 2) pa_nil))))
 (pss_cons (ps_if (pt_cmpR op_eq (pe_ix ix_tup (pv 1) pe_int (fun _ _ => rfl)) pe_str (by first | exact nomark _ | rfl))
 (pss_one (ps_ret (C8.pe_c c_heard_asleep hr (by decide) rfl (pa_cons (pv 0) (pa_cons (pv 1) (pa_cons (pv 2) (pa_cons (pv 3) pa_nil)))))))
 pss_nil)
 (pss_cons (ps_if (PW.pt (pw_and (pt_cmpR op_eq (pe_ix ix_tup (pv 1) pe_int (fun _ _ => rfl)) pe_str (by first | exact nomark _ | rfl)) (pw_and1 (pt_cmpR op_eq (pv 3) pe_str (by first | exact nomark _ | rfl)))))
 (pss_one (ps_ret (C8.pe_c c_heard_loud_dozing hr (by decide) rfl (pa_cons (pv 0) (pa_cons (pv 1) pa_nil)))))
 pss_nil)
 (pss_cons (ps_if (PW.pt (pw_and (pt_cmpR op_eq (pe_ix ix_tup (pv 1) pe_int (fun _ _ => rfl)) pe_str (by first | exact nomark _ | rfl)) (pw_and1 (pt_cmpR op_eq (pv 3) pe_str (by first | exact nomark _ | rfl)))))
 (pss_one (ps_ret (pe_glob (v := .ref _) rfl T.g_WOKEN rfl)))
 pss_nil)
 (pss_one (ps_ret (pv 1))))))), ?_⟩
    refine ⟨_, rfl, _, rfl, p, z, n, rfl, hz, ?_⟩
    refine ⟨_, rfl, a, _, 0, _, rfl, rfl, ha, s.head, rfl, _, rfl, ?_⟩
    rw [word_eq]
    by_cases h1 : s.word = "asleep"
    · rw [decide_eq_true h1]
      exact iteT ⟨_, rfl, _, rfl, _, rfl, _, rfl, p, _, z, s, n, sortOf z n, rfl, hz, hs, h1, k⟩
    · rw [decide_eq_false h1]
      refine iteF ⟨_, rfl, a, _, 0, _, rfl, rfl, ha, s.head, rfl, _, rfl, ?_⟩
      rw [word_eq]
      by_cases h2 : s.word = "dozing"
      · rw [decide_eq_true h2]
        obtain ⟨t, rfl⟩ : ∃ t, s = .doz t := by
          cases s
          case up => exact absurd h2.symm q2
          case doz t => exact ⟨t, rfl⟩
          case asl => exact absurd rfl h1
          case kept => exact absurd rfl h1
          case stir => exact absurd h2 q6
          case wok => exact absurd h2 q7
        refine iteT ⟨_, rfl, soV_scal _ _, _, rfl, ?_⟩
        rw [soV_eq]
        by_cases h3 : sortOf z n = some ("loud" : Str)
        · rw [decide_eq_true h3]
          rw [hear_doz h3] at k
          exact iteT ⟨_, rfl, _, rfl, p, _, z, _, rfl, hz, hs, k⟩
        · rw [decide_eq_false h3]
          refine iteF ⟨_, rfl, a, _, 0, _, rfl, rfl, ha, rfl, rfl, _, rfl, iteF (iteF ⟨_, rfl, ?_⟩)⟩
          have e : hear z (sortOf z n) n (.doz t) = .doz t := by show ite _ _ _ = _; rw [if_neg h3]
          rw [e] at k
          exact k _ _ (Same.refl H) hs
      · rw [decide_eq_false h2]
        refine iteF (iteF ⟨_, rfl, a, _, 0, _, rfl, rfl, ha, s.head, rfl, _, rfl, ?_⟩)
        rw [word_eq]
        by_cases h4 : s.word = "stirring"
        · rw [decide_eq_true h4]
          obtain ⟨t, rfl⟩ : ∃ t, s = .stir t := by
            cases s
            case up => exact absurd h4.symm q3
            case doz t => exact absurd rfl h2
            case asl => exact absurd rfl h1
            case kept => exact absurd rfl h1
            case stir t => exact ⟨t, rfl⟩
            case wok => exact absurd h4 q10
          refine iteT ⟨_, rfl, soV_scal _ _, _, rfl, ?_⟩
          rw [soV_eq]
          by_cases h3 : sortOf z n = some ("loud" : Str)
          · rw [decide_eq_true h3]
            have e : hear z (sortOf z n) n (.stir t) = .wok := by show ite _ _ _ = _; rw [if_pos h3]
            rw [e] at k
            exact iteT (k _ _ (Same.refl H) ⟨_, rfl, T.t_WOKEN _⟩)
          · rw [decide_eq_false h3]
            have e : hear z (sortOf z n) n (.stir t) = .stir t := by show ite _ _ _ = _; rw [if_neg h3]
            rw [e] at k
            exact iteF ⟨_, rfl, k _ _ (Same.refl H) hs⟩
        · rw [decide_eq_false h4]
          have e : hear z (sortOf z n) n s = s := by
            cases s
            case up => rfl
            case doz t => exact absurd rfl h2
            case asl => exact absurd rfl h1
            case kept => exact absurd rfl h1
            case stir t => exact absurd rfl h4
            case wok => rfl
          rw [e] at k
          exact iteF (iteF ⟨_, rfl, k _ _ (Same.refl H) hs⟩)
theorem c_ticked (D : Df K mg "ticked" s_ticked) (T : Tx K mg) : C8.Cal P w K mg base 1 "ticked" (spSt K (He.ga K "Sleeper") tick) [] := by
  refine cal_mk D sc_ticked bd_ticked (fun vs H Q E h => ?_) fun f cdv A outer s H vs Q E hr h => ?_
  · obtain ⟨p, v, z, s, rfl, _⟩ := h
    rfl
  · obtain ⟨p, v, z, s, rfl, hz, hs, k⟩ := h
    obtain ⟨dx, t0, xs, hp, ht, td⟩ := id hz
    obtain ⟨a, rfl, ha⟩ := id hs
    refine ⟨_, (pss_cons (ps_if (pt_cmpR op_eq (pe_ix ix_tup (pv 1) pe_int (fun _ _ => rfl)) pe_str (by first | exact nomark _ | rfl))
 (pss_one (ps_ret (pe_ifExp (pt_cmpR op_gt (pe_ix ix_tup (pv 1) pe_int (fun _ _ => rfl)) pe_int (by first | exact nomark _ | rfl)) (pe_tup (pa_cons pe_str (pa_cons (pe_op op_sub (pe_ix ix_tup (pv 1) pe_int (fun _ _ => rfl)) pe_int) pa_nil))) (pe_glob (v := .ref _) rfl T.g_ASLEEP rfl))))
 pss_nil)
 (pss_cons (ps_if (pt_cmpR op_eq (pe_ix ix_tup (pv 1) pe_int (fun _ _ => rfl)) pe_str (by first | exact nomark _ | rfl))
 (pss_one (ps_ret (pe_ifExp (pt_cmpR op_gt (pe_ix ix_tup (pv 1) pe_int (fun _ _ => rfl)) pe_int (by first | exact nomark _ | rfl)) (pe_tup (pa_cons pe_str (pa_cons (pe_op op_sub (pe_ix ix_tup (pv 1) pe_int (fun _ _ => rfl)) pe_int) pa_nil))) (pe_glob (v := .ref _) rfl T.g_WOKEN rfl))))
 pss_nil)
 (pss_cons (ps_if (PW.pt (pw_and (pt_cmpR op_eq (pe_ix ix_tup (pv 1) pe_int (fun _ _ => rfl)) pe_str (by first | exact nomark _ | rfl)) (pw_and1 (pt_cmpR op_eq (pe_callB call_len (by rfl) T.n_len (by decide +kernel) (pa_cons (pv 1) pa_nil)) pe_int (by first | exact nomark _ | rfl)))))
 (pss_one (ps_ret (pe_ifExp (pt_cmpR op_lt (pe_ix ix_tup (pv 1) pe_int (fun _ _ => rfl)) (pe_fld (pv 0) rfl) (by first | exact nomark _ | rfl)) (pe_tup (pa_cons pe_str (pa_cons (pe_ix ix_tup (pv 1) pe_int (fun _ _ => rfl)) (pa_cons (pe_op op_add (pe_ix ix_tup (pv 1) pe_int (fun _ _ => rfl)) pe_int) pa_nil)))) (pe_glob (v := .ref _) rfl T.g_ASLEEP rfl))))
 pss_nil)
 (pss_one (ps_ret (pv 1)))))), ?_⟩
    cases s with
    | doz t =>
      refine ⟨_, rfl, a, _, 0, _, rfl, rfl, ha, rfl, rfl, _, rfl, iteT ⟨_, rfl, a, _, 1, .int t, rfl, rfl, ha, rfl, _, _, rfl, rfl, _, rfl, ite2 (fun h => ?_) (fun h => ?_)⟩⟩
      · have h1 : 1 < t := of_decide_eq_true h
        refine ⟨_, rfl, a, _, 1, .int t, rfl, rfl, ha, rfl, _, _, rfl, rfl, by show 2 ≤ sizeLine; decide, fun q nq => k _ _ (Same.new nq) ⟨q, rfl, ?_⟩⟩
        rw [show tick z (.doz t) = .doz (t - 1) from if_pos h1]
        exact SqT.of upd_same
      · have h1 : ¬ 1 < t := fun q => h (decide_eq_true q)
        rw [show tick z (.doz t) = .asl from if_neg h1] at k
        exact k _ _ (Same.refl H) ⟨_, rfl, T.t_ASLEEP _⟩
    | stir t =>
      refine ⟨_, rfl, a, _, 0, _, rfl, rfl, ha, rfl, rfl, _, rfl, iteF ⟨_, rfl, a, _, 0, _, rfl, rfl, ha, rfl, rfl, _, rfl, iteT ⟨_, rfl, a, _, 1, .int t, rfl, rfl, ha, rfl, _, _, rfl, rfl, _, rfl, ite2 (fun h => ?_) (fun h => ?_)⟩⟩⟩
      · have h1 : 1 < t := of_decide_eq_true h
        refine ⟨_, rfl, a, _, 1, .int t, rfl, rfl, ha, rfl, _, _, rfl, rfl, by show 2 ≤ sizeLine; decide, fun q nq => k _ _ (Same.new nq) ⟨q, rfl, ?_⟩⟩
        rw [show tick z (.stir t) = .stir (t - 1) from if_pos h1]
        exact SqT.of upd_same
      · have h1 : ¬ 1 < t := fun q => h (decide_eq_true q)
        rw [show tick z (.stir t) = .wok from if_neg h1] at k
        exact k _ _ (Same.refl H) ⟨_, rfl, T.t_WOKEN _⟩
    | kept m ago =>
      refine ⟨_, rfl, a, _, 0, _, rfl, rfl, ha, rfl, rfl, _, rfl, iteF ⟨_, rfl, a, _, 0, _, rfl, rfl, ha, rfl, rfl, _, rfl, iteF ⟨_, rfl, a, _, 0, _, rfl, rfl, ha, rfl, rfl, _, rfl, iteT ⟨_, rfl, .ref a, 3, rfl, .inr ⟨_, ha, rfl⟩, rfl, _, rfl, iteT ?_⟩⟩⟩⟩
      refine ⟨_, rfl, a, _, 2, .int ago, rfl, rfl, ha, rfl, _, rfl, p, _, dx, _, _, rfl, hp, T.cls_Sleeper, T.a_near, rfl, _, _, rfl, rfl, _, rfl, ite2 (fun h => ?_) (fun h => ?_)⟩
      · have h1 : ago < z.near := of_decide_eq_true h
        refine ⟨_, rfl, a, _, 1, .str m, rfl, rfl, ha, rfl, _, rfl, a, _, 2, .int ago, rfl, rfl, ha, rfl, _, _, rfl, rfl, by show 3 ≤ sizeLine; decide, fun q nq => k _ _ (Same.new nq) ⟨q, rfl, ?_⟩⟩
        rw [show tick z (.kept m ago) = .kept m (ago + 1) from if_pos h1]
        exact SqT.of upd_same
      · have h1 : ¬ ago < z.near := fun q => h (decide_eq_true q)
        rw [show tick z (.kept m ago) = .asl from if_neg h1] at k
        exact k _ _ (Same.refl H) ⟨_, rfl, T.t_ASLEEP _⟩
    | asl =>
      refine ⟨_, rfl, a, _, 0, _, rfl, rfl, ha, rfl, rfl, _, rfl, iteF ⟨_, rfl, a, _, 0, _, rfl, rfl, ha, rfl, rfl, _, rfl, iteF ⟨_, rfl, a, _, 0, _, rfl, rfl, ha, rfl, rfl, _, rfl, iteT ⟨_, rfl, .ref a, 1, rfl, .inr ⟨_, ha, rfl⟩, rfl, _, rfl, iteF ⟨_, rfl, k _ _ (Same.refl H) hs⟩⟩⟩⟩⟩
    | up =>
      refine ⟨_, rfl, a, _, 0, _, rfl, rfl, ha, rfl, rfl, _, rfl, iteF ⟨_, rfl, a, _, 0, _, rfl, rfl, ha, rfl, rfl, _, rfl, iteF ⟨_, rfl, a, _, 0, _, rfl, rfl, ha, rfl, rfl, _, rfl, iteF (iteF ⟨_, rfl, k _ _ (Same.refl H) hs⟩)⟩⟩⟩
    | wok =>
      refine ⟨_, rfl, a, _, 0, _, rfl, rfl, ha, rfl, rfl, _, rfl, iteF ⟨_, rfl, a, _, 0, _, rfl, rfl, ha, rfl, rfl, _, rfl, iteF ⟨_, rfl, a, _, 0, _, rfl, rfl, ha, rfl, rfl, _, rfl, iteF (iteF ⟨_, rfl, k _ _ (Same.refl H) hs⟩)⟩⟩⟩
def spHum (K : PySem.W.Frag) (C : Addr) : Sp := fun vs H Q _ => ∃ (p : Addr) (v : V) (z : Zz) (s : S0) (x : Str), vs = [.ref p, v, .str x] ∧ SlpAt K C H p z ∧ StAt K H v s ∧ s.ok ∧ ∀ H' v', Same H H' → StAt K H' v' (hum z x s) → Q v' H'
theorem c_hummed (D : Df K mg "hummed" s_hummed) (T : Tx K mg) (c_dozing_anew : C8.Cal P w K mg base 1 "dozing_anew" (spAnew K (He.ga K "Sleeper")) []) : C8.Cal P w K mg base 2 "hummed" (spHum K (He.ga K "Sleeper")) [] := by
  refine cal_mk D sc_hummed bd_hummed (fun vs H Q E h => ?_) fun f cdv A outer s H vs Q E hr h => ?_
  · obtain ⟨p, v, z, s, x, rfl, _⟩ := h
    rfl
  · obtain ⟨p, v, z, s, x, rfl, hz, hs, ok, k⟩ := h
    have hw : StAt K H (.ref (He.ga K "WOKEN")) .wok := ⟨_, rfl, T.t_WOKEN _⟩
    refine ⟨_, (pss_cons (ps_if (pt_cmpR (op_eqD hr.units) (pv 1) (pe_glob (v := .ref _) rfl T.g_WOKEN rfl) (by first | exact nomark _ | rfl))
 (pss_one (ps_ret (pv 1)))
 pss_nil)
 (pss_one (ps_ret (pe_ifExp (pt_cmpR op_eq (pv 2) pe_str (by first | exact nomark _ | rfl)) (pe_glob (v := .ref _) rfl T.g_UP rfl) (C8.pe_c c_dozing_anew hr (by decide) rfl (pa_cons (pv 0) pa_nil)))))), ?_⟩
    refine ⟨_, rfl, _, _, TD.dp hs.td, TD.dp hw.td, (S0.shp ok).shaped, (S0.shp (s := .wok) trivial).shaped, _, rfl, ?_⟩
    rw [eqv_st]
    by_cases h1 : s = .wok
    · subst h1
      exact iteT ⟨_, rfl, k _ _ (Same.refl H) hs⟩
    · rw [decide_eq_false h1]
      refine iteF ⟨_, rfl, rfl, _, rfl, ?_⟩
      by_cases h2 : x = "up"
      · rw [decide_eq_true (show V.str x = V.str "up" by rw [h2])]
        have e : hum z x s = .up := by cases s <;> first | exact absurd rfl h1 | exact if_pos h2
        rw [e] at k
        exact iteT (k _ _ (Same.refl H) ⟨_, rfl, T.t_UP _⟩)
      · rw [decide_eq_false (show ¬ V.str x = V.str "up" from fun q => h2 (by injection q))]
        have e : hum z x s = .doz z.doze := by cases s <;> first | exact absurd rfl h1 | exact if_neg h2
        rw [e] at k
        exact iteF ⟨_, rfl, p, z, rfl, hz, k⟩
end
end Lw
set_option Elab.async false
set_option linter.all false
set_option maxRecDepth 100000
set_option maxHeartbeats 4000000
namespace Lw
open PySem PySem.Spec PyProof.Rows L2 Hb
section
variable {P : Program} {w : World} {K : PySem.W.Frag} {mg : Str → Option Value} {base : Heap}
def firstS (z : Zz) (how : Str) : S0 := if how = "dozing" then .doz z.doze else if how = "asleep" then .asl else .up
def spFirst (K : PySem.W.Frag) (C : Addr) : Sp := fun vs H Q _ => ∃ (p : Addr) (z : Zz) (x : Str), vs = [.ref p, .str x] ∧ SlpAt K C H p z ∧ ∀ H' v', Same H H' → StAt K H' v' (firstS z x) → Q v' H'
theorem c_first_state (D : Df K mg "first_state" s_first_state) (T : Tx K mg) (c_dozing_anew : C8.Cal P w K mg base 1 "dozing_anew" (spAnew K (He.ga K "Sleeper")) []) : C8.Cal P w K mg base 2 "first_state" (spFirst K (He.ga K "Sleeper")) [] := by
  refine cal_mk D sc_first_state bd_first_state (fun vs H Q E h => ?_) fun f cdv A outer s H vs Q E hr h => ?_
  · obtain ⟨p, z, x, rfl, _⟩ := h
    rfl
  · obtain ⟨p, z, x, rfl, hz, k⟩ := h
    refine ⟨_, (pss_cons (ps_if (pt_cmpR op_eq (pv 1) pe_str (by first | exact nomark _ | rfl))
 (pss_one (ps_ret (C8.pe_c c_dozing_anew hr (by decide) rfl (pa_cons (pv 0) pa_nil))))
 pss_nil)
 (pss_one (ps_ret (pe_ifExp (pt_cmpR op_eq (pv 1) pe_str (by first | exact nomark _ | rfl)) (pe_glob (v := .ref _) rfl T.g_ASLEEP rfl) (pe_glob (v := .ref _) rfl T.g_UP rfl))))), ?_⟩
    refine ⟨_, rfl, rfl, _, rfl, ?_⟩
    by_cases h1 : x = "dozing"
    · rw [decide_eq_true (show V.str x = V.str "dozing" by rw [h1])]
      have e : firstS z x = .doz z.doze := if_pos h1
      rw [e] at k
      exact iteT ⟨_, rfl, p, z, rfl, hz, k⟩
    · rw [decide_eq_false (show ¬ V.str x = V.str "dozing" from fun q => h1 (by injection q))]
      refine iteF ⟨_, rfl, rfl, _, rfl, ?_⟩
      by_cases h2 : x = "asleep"
      · rw [decide_eq_true (show V.str x = V.str "asleep" by rw [h2])]
        have e : firstS z x = .asl := (if_neg h1).trans (if_pos h2)
        rw [e] at k
        exact iteT (k _ _ (Same.refl H) ⟨_, rfl, T.t_ASLEEP _⟩)
      · rw [decide_eq_false (show ¬ V.str x = V.str "asleep" from fun q => h2 (by injection q))]
        have e : firstS z x = .up := (if_neg h1).trans (if_neg h2)
        rw [e] at k
        exact iteF (k _ _ (Same.refl H) ⟨_, rfl, T.t_UP _⟩)
end
theorem InS.first {z : Zz} {ws : List Str} (zk : Zok z ws) (x : Str) : InS z (firstS z x) := by
  unfold firstS
  split
  · exact ⟨zk.d1, Int.le_refl _⟩
  · split <;> trivial
end Lw
set_option Elab.async false
set_option linter.all false
set_option maxRecDepth 100000
set_option maxHeartbeats 8000000
namespace Lw
open PySem PySem.Spec PyProof.Rows L2 Hb
def isDigit (c : Nat) : Bool := decide (c ∈ ("0123456789" : Str).cps.toList)
/-- whether a word is a number -/
def numB (w : Str) : Bool := decide (1 ≤ w.length ∧ w.length ≤ 2) && (w.cps.toList.all isDigit && (decide (w.length = 1) || !decide (w.cps.toList[0]? = some 48)))
def spNumeral : Sp := fun vs H Q _ => ∃ x : Str, vs = [.str x] ∧ x.length ≤ 1000 ∧ ∀ H', Same H H' → Q (.bl (numB x)) H'
section
variable {P : Program} {w : World} {K : PySem.W.Frag} {mg : Str → Option Value} {base : Heap}
theorem c_is_numeral (D : Df K mg "is_numeral" s_is_numeral) (T : Tx K mg) : C8.Cal P w K mg base 1 "is_numeral" spNumeral [] := by
  refine cal_mk D sc_is_numeral bd_is_numeral (fun vs H Q E h => ?_) fun f cdv A outer s H vs Q E hr h => ?_
  · obtain ⟨i, rfl, _⟩ := h
    rfl
  · obtain ⟨x, rfl, few, k⟩ := h
    obtain ⟨tL, hDIGITS⟩ := T.s_DIGITS
    have line := sizeLine_eq
    refine ⟨_, (pss_cons (ps_if (pt_not (pt_chain op_le op_le pe_int (pe_callB call_len (by rfl) T.n_len (by decide +kernel) (pa_cons (pv 0) pa_nil)) pe_int))
 (pss_one (ps_ret pe_bl))
 pss_nil)
 (pss_cons (ps_if (pt_not (pt_val (pe_callB (cr_all rfl) (by rfl) T.n_all (by decide +kernel) (pa_cons (pe_lc (own := [("digit", 1)]) (by rfl) sc_is_numeral.nd (pi_str (pv 0)) (blkOk_by (N := N_is_numeral) (sc := defScope s_is_numeral) (by decide +kernel)) (fun _ _ _ _ _ => (pg_name (i := 1) sc_is_numeral.nd rfl (Or.inl rfl))) (fun _ _ _ _ _ => pts_nil) (fun _ _ _ _ _ => (pe_cmpR op_in_sign (pv 1) (pe_glob (v := .str "0123456789") rfl hDIGITS ⟨_, rfl⟩) (by first | exact nomark _ | rfl)))) pa_nil))))
 (pss_one (ps_ret pe_bl))
 pss_nil)
 (pss_one (ps_ret (pe_or (pe_cmpR op_eq (pe_callB call_len (by rfl) T.n_len (by decide +kernel) (pa_cons (pv 0) pa_nil)) pe_int (by first | exact nomark _ | rfl)) (pe_one (pe_cmpR op_ne (pe_ix ix_str (pv 0) pe_int (fun _ _ => rfl)) pe_str (by first | exact nomark _ | rfl)))))))), ?_⟩
    refine ⟨_, rfl, .str x, x.length, rfl, ⟨by omega, rfl⟩, _, _, rfl, rfl, _, rfl, ?_⟩
    by_cases h1 : (1 : Int) ≤ (x.length : Nat)
    · rw [decide_eq_true h1]
      refine iteT ⟨_, _, rfl, rfl, _, rfl, ?_⟩
      by_cases h2 : ((x.length : Nat) : Int) ≤ 2
      · rw [decide_eq_true h2]
        refine iteF ⟨_, rfl, x, rfl, fun D nD => lc_it (walk_str (z := x)) (fun i H' => H' = upd H D (.lst (((x.cps.toList.take i).map isDigit).map V.bl))) (by simp) (fun _ _ _ _ => trivial) ?_ ?_⟩
        · rintro i v H' H2 hi rfl ⟨e, c, hc, rfl⟩
          subst e
          refine ⟨rfl, yes_ ⟨_, rfl, c, _, rfl, rfl, _, upd_same, ?_, ?_⟩⟩
          · rw [List.length_map, List.length_map, List.length_take]
            have el : x.cps.toList.length = x.length := by simp [Str.length]
            omega
          · rw [upd_upd]
            have hc2 : x.cps.toList[i]? = some c := by rw [Array.getElem?_toList]; exact hc
            show upd H D _ = upd H D _
            rw [List.take_add_one, hc2]
            simp [isDigit]
        · rintro H' rfl
          have el : x.cps.size = x.cps.toList.length := by simp
          have el2 : x.cps.toList.length = x.length := by simp [Str.length]
          have q : decide (1 ≤ x.length ∧ x.length ≤ 2) = true := decide_eq_true ⟨by omega, by omega⟩
          refine ⟨D, x.cps.toList.map isDigit, rfl, SqL.of (by rw [el, List.take_length]; exact upd_same), _, rfl, ?_⟩
          have sD : Same H (upd H D (.lst (((x.cps.toList.take x.cps.size).map isDigit).map V.bl))) := Same.new nD
          have ea : (x.cps.toList.map isDigit).all id = x.cps.toList.all isDigit := by rw [List.all_map]; rfl
          rw [ea]
          cases hall : x.cps.toList.all isDigit with
          | false =>
            refine iteT ?_
            have k2 := k _ sD
            rw [numB, q, hall] at k2
            exact k2
          | true =>
            refine iteF ⟨_, rfl, .str x, x.length, rfl, ⟨by omega, rfl⟩, rfl, _, rfl, ?_⟩
            by_cases h3 : x.length = 1
            · rw [decide_eq_true (show V.int ((x.length : Nat) : Int) = V.int 1 by rw [h3]; rfl)]
              refine iteT ?_
              have k2 := k _ sD
              rw [numB, q, hall, decide_eq_true h3] at k2
              exact k2
            · rw [decide_eq_false (show ¬ V.int ((x.length : Nat) : Int) = V.int 1 from fun z => h3 (by injection z with z; omega))]
              obtain ⟨c, hc⟩ : ∃ c, x.cps.toList[0]? = some c := ⟨_, List.getElem?_eq_getElem (by omega)⟩
              refine iteF ⟨_, rfl, x, 0, c, rfl, rfl, by omega, ?_, ?_⟩
              · have hlen : (0 : Int) < (x.cps.toList.length : Nat) := by omega
                unfold atI ixN
                rw [if_pos (Int.le_refl 0), if_pos hlen]
                exact hc
              · refine ⟨rfl, ?_⟩
                have k2 := k _ sD
                have e0 : decide (V.str (⟨#[c]⟩ : Str) = V.str "0") = decide (x.cps.toList[0]? = some 48) := by
                  rw [hc]
                  refine decide_eq_decide.mpr ⟨fun z => ?_, fun z => ?_⟩
                  · injection z with z
                    have z2 := congrArg (fun y : Str => y.cps.toList) z
                    have z3 : ([c] : List Nat) = [48] := z2
                    injection z3 with z4
                    rw [z4]
                  · injection z with z
                    rw [z]
                    rfl
                rw [numB, q, hall, decide_eq_false h3, ← e0] at k2
                exact k2
      · rw [decide_eq_false h2]
        refine iteT ?_
        have q : numB x = false := by
          have q : decide (1 ≤ x.length ∧ x.length ≤ 2) = false := decide_eq_false (by omega)
          rw [numB, q, Bool.false_and]
        have k2 := k H (Same.refl H)
        rw [q] at k2
        exact k2
    · rw [decide_eq_false h1]
      refine iteF ⟨_, rfl, iteT ?_⟩
      have q : numB x = false := by
        have q : decide (1 ≤ x.length ∧ x.length ≤ 2) = false := decide_eq_false (by omega)
        rw [numB, q, Bool.false_and]
      have k2 := k H (Same.refl H)
      rw [q] at k2
      exact k2
end
end Lw
set_option Elab.async false
set_option linter.all false
set_option maxRecDepth 100000
set_option maxHeartbeats 8000000
namespace Lw
open PySem PySem.Spec PyProof.Rows L2 Hb
def tI (i : Int) : Str := ((toString i : String) : Str)
def wordB (w : Str) : Bool := decide (32 ∉ TL.tl w) && decide (10 ∉ TL.tl w)
theorem no32 {w : Str} (h : wordB w = true) : 32 ∉ TL.tl w := of_decide_eq_true (Bool.and_eq_true_iff.mp h).1
theorem split_words {ws : List Str} (hne : ws ≠ []) (h : ∀ w ∈ ws, wordB w = true) : Txt.split (Txt.join " " ws) " " = ws := TL.split_join (s := 32) (S := []) rfl (by decide +kernel) hne fun p hp => no32 (h p hp)
theorem num_ints : ∀ i ∈ List.range 64, numB (tI (i : Int)) = true ∧ PySem.intText? (tI (i : Int)) = some (i : Int) ∧ (tI (i : Int)).length ≤ 2 ∧ wordB (tI (i : Int)) = true ∧ (i : Int).natAbs.log2 < 1920 := by decide +kernel
theorem num_tI {i : Int} (h : 0 ≤ i ∧ i < 64) : numB (tI i) = true ∧ PySem.intText? (tI i) = some i ∧ (tI i).length ≤ 2 ∧ wordB (tI i) = true ∧ i.natAbs.log2 < 1920 := by
  obtain ⟨n, rfl⟩ := Int.eq_ofNat_of_zero_le h.1
  exact num_ints n (List.mem_range.mpr (by omega))
theorem v_str_ne {x y : Str} (h : x ≠ y) : decide (V.str x = V.str y) = false := decide_eq_false fun e => h (by injection e)
theorem str_dec (x y : Str) : decide (V.str x = V.str y) = decide (x = y) := decide_eq_decide.mpr ⟨fun e => by injection e, fun e => by rw [e]⟩
/-- an event, told -/
inductive Ev where
  | tick | hum (p : Int) (d : Bool) | step (p n : Int)
def evW : Ev → List Str
  | .tick => ["tick"]
  | .hum p d => ["hum", tI p, if d then "doze" else "up"]
  | .step p n => ["step", tI p, tI n]
def evT (e : Ev) : Str := Txt.join " " (evW e)
def EvOk (k : Int) : Ev → Prop
  | .tick => True
  | .hum p _ => 0 ≤ p ∧ p < k
  | .step p n => (0 ≤ p ∧ p < k) ∧ 0 ≤ n ∧ n < 64
theorem lit_ne : ("hum" : Str) ≠ "step" ∧ ("tick" : Str) ≠ "step" ∧ ("tick" : Str) ≠ "hum" := by decide +kernel
theorem lit_words : wordB "hum" = true ∧ wordB "step" = true ∧ wordB "tick" = true ∧ wordB "doze" = true ∧ wordB "up" = true := by decide +kernel
theorem lit_len : ("hum" : Str).length = 3 ∧ ("step" : Str).length = 4 ∧ ("tick" : Str).length = 4 ∧ ("doze" : Str).length = 4 ∧ ("up" : Str).length = 2 ∧ (" " : Str).length = 1 := by decide +kernel
theorem tick_T : evT .tick = "tick" := by decide +kernel
theorem split_ev {k : Int} {e : Ev} (hk : k ≤ 64) (ok : EvOk k e) : Txt.split (evT e) " " = evW e := by
  obtain ⟨l1, l2, l3, l4, l5⟩ := lit_words
  refine split_words (by cases e <;> simp [evW]) fun w hw => ?_
  cases e with
  | tick =>
    rw [List.mem_singleton.mp hw]
    exact l3
  | hum p d =>
    have np := num_tI ⟨ok.1, Int.lt_of_lt_of_le ok.2 hk⟩
    simp only [evW, List.mem_cons, List.not_mem_nil, or_false] at hw
    rcases hw with rfl | rfl | rfl
    · exact l1
    · exact np.2.2.2.1
    · cases d
      · exact l5
      · exact l4
  | step p n =>
    have np := num_tI ⟨ok.1.1, Int.lt_of_lt_of_le ok.1.2 hk⟩
    have nn := num_tI ok.2
    simp only [evW, List.mem_cons, List.not_mem_nil, or_false] at hw
    rcases hw with rfl | rfl | rfl
    · exact l2
    · exact np.2.2.2.1
    · exact nn.2.2.2.1
theorem str_join_le (sep : Str) : ∀ ts : List Str, (Str.join sep ts).length ≤ (ts.map (·.length)).sum + ts.length * sep.length
  | [] => by simp [Str.join]; rfl
  | [x] => by show x.length ≤ _; simp
  | x :: y :: r => by
    have ih := str_join_le sep (y :: r)
    show (x ++ sep ++ Str.join sep (y :: r)).length ≤ _
    rw [Str.length_append, Str.length_append, List.map_cons, List.sum_cons, List.length_cons, Nat.succ_mul]
    omega
theorem ev_short {k : Int} {e : Ev} (hk : k ≤ 64) (ok : EvOk k e) : (evT e).length ≤ 20 := by
  obtain ⟨l1, l2, l3, l4, l5, l6⟩ := lit_len
  have z := str_join_le " " (evW e)
  rw [← TL.join_eq] at z
  change (evT e).length ≤ _ at z
  cases e with
  | tick =>
    rw [tick_T, l3]
    decide
  | hum p d =>
    have np := (num_tI ⟨ok.1, Int.lt_of_lt_of_le ok.2 hk⟩).2.2.1
    cases d <;> simp [evW, l1, l4, l5, l6] at z <;> omega
  | step p n =>
    have np := (num_tI ⟨ok.1.1, Int.lt_of_lt_of_le ok.1.2 hk⟩).2.2.1
    have nn := (num_tI ok.2).2.2.1
    simp [evW, l2, l6] at z
    omega
def spNumber : Sp := fun vs H Q _ => ∃ i : Int, vs = [.int i] ∧ Q (.bl (decide (0 ≤ i))) H
def spPerson : Sp := fun vs H Q _ => ∃ (k p : Int), vs = [.int k, .str (tI p)] ∧ 0 ≤ p ∧ p < k ∧ k ≤ 64 ∧ ∀ H', Same H H' → Q (.bl true) H'
def spEvent : Sp := fun vs H Q _ => ∃ (k : Int) (e : Ev), vs = [.int k, .str (evT e)] ∧ EvOk k e ∧ k ≤ 64 ∧ ∀ H', Same H H' → Q (.bl true) H'
section
variable {P : Program} {w : World} {K : PySem.W.Frag} {mg : Str → Option Value} {base : Heap}
theorem c_is_number (D : Df K mg "is_number" s_is_number) (T : Tx K mg) (c_is_whole : C8.Cal P w K mg base 1 "is_whole" spWhole []) : C8.Cal P w K mg base 2 "is_number" spNumber [] := by
  refine cal_mk D sc_is_number bd_is_number (fun vs H Q E h => ?_) fun f cdv A outer s H vs Q E hr h => ?_
  · obtain ⟨i, rfl, _⟩ := h
    rfl
  · obtain ⟨i, rfl, k⟩ := h
    refine ⟨_, (pss_one (ps_ret (pe_and (C8.pe_c c_is_whole hr (by decide) rfl (pa_cons (pv 0) pa_nil)) (pe_one (pe_cmpR op_ge (pv 0) pe_int (by first | exact nomark _ | rfl)))))), ?_⟩
    exact ⟨_, rfl, i, rfl, _, rfl, iteT ⟨_, rfl, _, _, rfl, rfl, k⟩⟩
theorem c_is_person (D : Df K mg "is_person" s_is_person) (T : Tx K mg) (c_is_numeral : C8.Cal P w K mg base 1 "is_numeral" spNumeral []) : C8.Cal P w K mg base 2 "is_person" spPerson [] := by
  refine cal_mk D sc_is_person bd_is_person (fun vs H Q E h => ?_) fun f cdv A outer s H vs Q E hr h => ?_
  · obtain ⟨k, p, rfl, _⟩ := h
    rfl
  · obtain ⟨k, p, rfl, p0, pk, k64, c⟩ := h
    obtain ⟨a1, a2, a3, a4, a5⟩ := num_tI (i := p) ⟨p0, by omega⟩
    refine ⟨_, (pss_one (ps_ret (pe_and (C8.pe_c c_is_numeral hr (by decide) rfl (pa_cons (pv 1) pa_nil)) (pe_one (pe_cmpR op_lt (pe_callTy call_int_str (by rfl) T.n_int (by decide +kernel) (pa_cons (pv 1) pa_nil)) (pv 0) (by first | exact nomark _ | rfl)))))), ?_⟩
    refine ⟨_, rfl, tI p, rfl, by omega, fun H1 s1 => ?_⟩
    rw [a1]
    refine ⟨_, rfl, iteT ⟨_, rfl, tI p, p, rfl, a2, by omega, _, rfl, _, _, rfl, rfl, ?_⟩⟩
    have e : V.bl (decide (p < k)) = V.bl true := by rw [decide_eq_true pk]
    show Q (V.bl (decide (p < k))) H1
    rw [e]
    exact c H1 s1
theorem c_is_event (D : Df K mg "is_event" s_is_event) (T : Tx K mg) (c_is_numeral : C8.Cal P w K mg base 1 "is_numeral" spNumeral []) (c_is_person : C8.Cal P w K mg base 2 "is_person" spPerson []) : C8.Cal P w K mg base 3 "is_event" spEvent [] := by
  refine cal_mk D sc_is_event bd_is_event (fun vs H Q E h => ?_) fun f cdv A outer s H vs Q E hr h => ?_
  · obtain ⟨k, e, rfl, _⟩ := h
    rfl
  · obtain ⟨k, e, rfl, ok, k64, c⟩ := h
    have short := ev_short k64 ok
    have line := sizeLine_eq
    obtain ⟨n1, n2, n3⟩ := lit_ne
    refine ⟨_, (pss_cons (ps_if (pt_not (pt_val (pe_callB call_isi (by rfl) T.n_isinstance (by decide +kernel) (pa_cons (pv 1) (pa_cons (pe_bltn (v := .ty "str") (u := .type "str") rfl T.n_str (by decide +kernel) rfl) pa_nil)))))
 (pss_one (ps_ret pe_bl))
 pss_nil)
 (pss_cons (ps_set (i := 2) sc_is_event.nd rfl (Or.inl rfl) (pe_split (pv 1) pe_str))
 (pss_cons (ps_if (pt_cmpR op_eq (pe_ix ix_list (pv 2) pe_int (fun _ _ => rfl)) pe_str (by first | exact nomark _ | rfl))
 (pss_one (ps_ret (pe_and (pe_cmpR op_eq (pe_callB call_len (by rfl) T.n_len (by decide +kernel) (pa_cons (pv 2) pa_nil)) pe_int (by first | exact nomark _ | rfl)) (pe_and (C8.pe_c c_is_person hr (by decide) rfl (pa_cons (pv 0) (pa_cons (pe_ix ix_list (pv 2) pe_int (fun _ _ => rfl)) pa_nil))) (pe_one (C8.pe_c c_is_numeral hr (by decide) rfl (pa_cons (pe_ix ix_list (pv 2) pe_int (fun _ _ => rfl)) pa_nil)))))))
 pss_nil)
 (pss_cons (ps_if (pt_cmpR op_eq (pe_ix ix_list (pv 2) pe_int (fun _ _ => rfl)) pe_str (by first | exact nomark _ | rfl))
 (pss_one (ps_ret (pe_and (pe_cmpR op_eq (pe_callB call_len (by rfl) T.n_len (by decide +kernel) (pa_cons (pv 2) pa_nil)) pe_int (by first | exact nomark _ | rfl)) (pe_and (C8.pe_c c_is_person hr (by decide) rfl (pa_cons (pv 0) (pa_cons (pe_ix ix_list (pv 2) pe_int (fun _ _ => rfl)) pa_nil))) (pe_one (pe_cmpR op_in_seq (pe_ix ix_list (pv 2) pe_int (fun _ _ => rfl)) (pe_glob (v := .ref _) rfl T.g_HUMMED rfl) (by first | exact nomark _ | rfl)))))))
 pss_nil)
 (pss_one (ps_ret (pe_cmpR op_eq (pv 1) pe_str (by first | exact nomark _ | rfl)))))))), ?_⟩
    refine ⟨_, rfl, _, _, _, _, true, rfl, .ty _, .base (.str _), kit_ty (by decide +kernel), _, rfl, iteF ?_⟩
    refine ⟨_, rfl, ⟨_, rfl⟩, evT e, " ", rfl, rfl, by decide +kernel, by omega, fun p np => ?_⟩
    rw [split_ev k64 ok]
    have sp : Same H (upd H p (.lst ((evW e).map V.str))) := Same.new np
    have hp : SqL K (upd H p (.lst ((evW e).map V.str))) p ((evW e).map V.str) := SqL.of upd_same
    generalize upd H p (.lst ((evW e).map V.str)) = H1 at sp hp ⊢
    cases e with
    | tick =>
      refine ⟨_, rfl, p, _, 0, .str "tick", rfl, rfl, hp, rfl, rfl, _, rfl, ?_⟩
      rw [v_str_ne n2]
      refine iteF ⟨_, rfl, p, _, 0, .str "tick", rfl, rfl, hp, rfl, rfl, _, rfl, ?_⟩
      rw [v_str_ne n3]
      refine iteF ⟨_, rfl, rfl, ?_⟩
      rw [str_dec, tick_T, decide_eq_true rfl]
      exact c H1 sp
    | hum q d =>
      refine ⟨_, rfl, p, _, 0, .str "hum", rfl, rfl, hp, rfl, rfl, _, rfl, ?_⟩
      rw [v_str_ne n1]
      refine iteF ⟨_, rfl, p, _, 0, .str "hum", rfl, rfl, hp, rfl, rfl, _, rfl, ?_⟩
      rw [decide_eq_true rfl]
      refine iteT ⟨_, rfl, .ref p, 3, rfl, .inl ⟨_, hp, rfl⟩, rfl, _, rfl, iteT ?_⟩
      refine ⟨_, rfl, _, rfl, p, _, 1, .str (tI q), rfl, rfl, hp, rfl, k, q, rfl, ok.1, ok.2, k64, fun H2 s2 => ⟨_, rfl, iteT ?_⟩⟩
      refine ⟨_, rfl, p, _, 2, .str (if d then "doze" else "up"), rfl, rfl, Same.seq s2 hp, rfl, _, _, rfl, .inr (T.t_HUMMED _), rfl, rfl, ?_⟩
      have e : V.bl (if false = true then !inV (.str (if d then "doze" else "up")) [V.str "doze", V.str "up"] else inV (.str (if d then "doze" else "up")) [V.str "doze", V.str "up"]) = V.bl true := by
        cases d <;> decide +kernel
      rw [e]
      exact c H2 (sp.trans s2)
    | step q n =>
      refine ⟨_, rfl, p, _, 0, .str "step", rfl, rfl, hp, rfl, rfl, _, rfl, ?_⟩
      rw [decide_eq_true rfl]
      refine iteT ⟨_, rfl, .ref p, 3, rfl, .inl ⟨_, hp, rfl⟩, rfl, _, rfl, iteT ?_⟩
      refine ⟨_, rfl, _, rfl, p, _, 1, .str (tI q), rfl, rfl, hp, rfl, k, q, rfl, ok.1.1, ok.1.2, k64, fun H2 s2 => ⟨_, rfl, iteT ?_⟩⟩
      have nn := num_tI ok.2
      refine ⟨_, rfl, p, _, 2, .str (tI n), rfl, rfl, Same.seq s2 hp, rfl, tI n, rfl, by omega, fun H3 s3 => ?_⟩
      rw [nn.1]
      exact c H3 ((sp.trans s2).trans s3)
end
end Lw
set_option Elab.async false
set_option linter.all false
set_option maxRecDepth 100000
set_option maxHeartbeats 8000000
namespace Lw
open PySem PySem.Spec PyProof.Rows L2 Hb
/-- a walk, told -/
structure Wk where
  g : Int
  n : Int
  f : Str
  es : List Str
def EvS (k : Int) (s : Str) : Prop := ∃ e, s = evT e ∧ EvOk k e
def firstL : List Str := ["asleep", "dozing", "up"]
structure WkOk (w : Wk) : Prop where
  g0 : 0 ≤ w.g
  n0 : 0 ≤ w.n
  few : w.g + w.n ≤ 64
  f : w.f ∈ firstL
  es : ∀ s ∈ w.es, EvS (w.g + w.n) s
  len : w.es.length ≤ 1000
def wFs (t : Addr) (w : Wk) : List (Str × V) := [("guests", .int w.g), ("nurses", .int w.n), ("first", .str w.f), ("events", .ref t)]
def WAt (K : PySem.W.Frag) (C : Addr) (H : Hp) (p : Addr) (w : Wk) : Prop := ∃ dx t, H p = some (.ins C dx (wFs t w)) ∧ SqT K H t (w.es.map V.str)
theorem WAt.same {K : PySem.W.Frag} {C : Addr} {H H' : Hp} {p : Addr} {w : Wk} (x : WAt K C H p w) (s : Same H H') : WAt K C H' p w := by
  obtain ⟨dx, t, h1, h2⟩ := x
  exact ⟨dx, t, s _ _ h1, SqT.keep (Same.tk s) h2⟩
theorem flat_strs' (xs : List Str) : (xs.map V.str).all flatV = true := by
  induction xs with
  | nil => rfl
  | cons x xs ih => rw [List.map_cons, List.all_cons, ih]; rfl
abbrev dflW (K : PySem.W.Frag) : Addr := He.dflAt ("Walk", some "__init__") 0 K
def spWInit (K : PySem.W.Frag) (C : Addr) : Sp := fun vs H Q _ => ∃ (x dx a : Addr) (w : Wk), vs = [.ref x, .int w.g, .int w.n, .str w.f, .ref a] ∧ H x = some (.ins C dx []) ∧
  (SqL K H a (w.es.map V.str) ∨ SqT K H a (w.es.map V.str)) ∧ WkOk w ∧ ∀ H', (∀ b o, b ≠ x → H b = some o → H' b = some o) → WAt K C H' x w → Q .non H'
section
variable {P : Program} {w : World} {K : PySem.W.Frag} {mg : Str → Option Value} {base : Heap}
theorem m_Walk_mk (D : Df1v K mg "Walk" "Walk.__init__" s_Walk_init [.ref (dflW K)]) (T : Tx K mg) (c_is_number : C8.Cal P w K mg base 2 "is_number" spNumber []) (c_is_row : C8.Cal P w K mg base 1 "is_row" (spRow K) [])
    (c_is_event : C8.Cal P w K mg base 3 "is_event" spEvent []) :
    C8.Mak P w K mg base 4 "Walk" (He.ga K "Walk") (spWInit K (He.ga K "Walk")) [] ∧ C8.Mak P w K mg base 4 "Walk" (He.ga K "Walk") (spWInit K (He.ga K "Walk")) [.ref (dflW K)] := by
  refine mak_mkD2 (n := 4) (by simp) rfl D sc_Walk_init bk_Walk_init bkp_Walk_init (fun vs H Q E h => ?_) fun f cdv A outer s H vs Q E hr h => ?_
  · obtain ⟨x, dx, a, z, rfl, _⟩ := h
    rfl
  · obtain ⟨x, dx, a, z, rfl, hx, ha, ok, k⟩ := h
    refine ⟨_, (pss_cons (ps_if (pt_not (pt_val (C8.pe_c c_is_number hr (by decide) rfl (pa_cons (pv 1) pa_nil))))
 (pss_one ps_never)
 pss_nil)
 (pss_cons (ps_if (pt_not (pt_val (C8.pe_c c_is_number hr (by decide) rfl (pa_cons (pv 2) pa_nil))))
 (pss_one ps_never)
 pss_nil)
 (pss_cons (ps_if (pt_cmpR op_notIn_seq (pv 3) (pe_glob (v := .ref _) rfl T.g_FIRSTS rfl) (by first | exact nomark _ | rfl))
 (pss_one ps_never)
 pss_nil)
 (pss_cons (ps_if (pt_not (pt_val (C8.pe_c c_is_row hr (by decide) rfl (pa_cons (pv 4) pa_nil))))
 (pss_one ps_never)
 pss_nil)
 (pss_cons (ps_for PassesOwn.never rfl (pi_enumS (by rfl) T.n_enumerate (pa_cons (pv 4) pa_nil)) (pg_tup (by rfl) (pgs_cons (pg_name (i := 5) sc_Walk_init.nd rfl (Or.inl rfl)) (pgs_cons (pg_name (i := 6) sc_Walk_init.nd rfl (Or.inl rfl)) pgs_nil)))
 (pss_one (ps_if (pt_not (pt_val (C8.pe_c c_is_event hr (by decide) rfl (pa_cons (pe_op op_add (pv 1) (pv 2)) (pa_cons (pv 6) pa_nil)))))
 (pss_one ps_never)
 pss_nil)))
 (pss_cons (ps_fld (pv 0) (pv 1) rfl)
 (pss_cons (ps_fld (pv 0) (pv 2) rfl)
 (pss_cons (ps_fld (pv 0) (pv 3) rfl)
 (pss_one (ps_fld (pv 0) (pe_callTy call_tuple_of (by rfl) T.n_tuple (by decide +kernel) (pa_cons (pv 4) pa_nil)) rfl)))))))))), ?_⟩
    refine ⟨_, rfl, z.g, rfl, _, rfl, ?_⟩
    rw [decide_eq_true ok.g0]
    refine iteF ⟨_, rfl, z.n, rfl, _, rfl, ?_⟩
    rw [decide_eq_true ok.n0]
    refine iteF ⟨_, rfl, _, _, rfl, .inr (T.t_FIRSTS _), rfl, rfl, _, rfl, ?_⟩
    rw [if_pos rfl]
    have eF : inV (.str z.f) [V.str "asleep", V.str "dozing", V.str "up"] = true := by
      show inV (.str z.f) (firstL.map V.str) = true
      rw [inV_strs, decide_eq_true ok.f]
    rw [eF]
    refine iteF ⟨_, rfl, a, _, rfl, ha, fun H1 s1 => ⟨_, rfl, iteF ?_⟩⟩
    have ha1 : SqL K H1 a (z.es.map V.str) ∨ SqT K H1 a (z.es.map V.str) := ha.imp (Same.seq s1) (SqT.keep (Same.tk s1))
    refine ⟨_, rfl, a, _, rfl, ha1, fun J G hG wk => for_it wk (fun i σ H' => (∃ v5 v6, σ = [some (.ref x), some (.int z.g), some (.int z.n), some (.str z.f), some (.ref a), v5, v6]) ∧ Same H1 H') ⟨⟨_, _, rfl⟩, Same.refl _⟩ (fun i σ H' _ e => hG _ e.2) ?_ ?_⟩
    · rintro i y σ H' H2 hi ⟨⟨v5, v6, rfl⟩, s2⟩ ⟨Tp, u, v, rfl, hT, rfl, e1, e2⟩
      injection e1 with e1
      subst e1
      replace e2 : (z.es.map V.str)[i]? = some v := e2
      rw [List.getElem?_map] at e2
      obtain ⟨s, hs, rfl⟩ := Option.map_eq_some_iff.mp e2
      obtain ⟨e, rfl, oe⟩ := ok.es s (List.mem_of_getElem? hs)
      have s3 : Same H' (upd H' Tp (.tup [.int (i : Nat), .str (evT e)])) := Same.new hT
      refine ⟨Tp, _, rfl, SqT.of upd_same, rfl, _, _, rfl, _, _, rfl, rfl, ?_⟩
      refine ⟨_, rfl, _, rfl, _, _, rfl, rfl, _, rfl, z.g + z.n, e, rfl, oe, ok.few, fun H3 s4 => ⟨_, rfl, iteF ?_⟩⟩
      exact ⟨⟨_, _, rfl⟩, (s2.trans s3).trans s4⟩
    · rintro σ H2 ⟨⟨v5, v6, rfl⟩, s2⟩
      have s12 := s1.trans s2
      have ha2 : SqL K H2 a (z.es.map V.str) ∨ SqT K H2 a (z.es.map V.str) := ha.imp (Same.seq s12) (SqT.keep (Same.tk s12))
      have hx2 := s12 _ _ hx
      refine ⟨_, rfl, _, rfl, x, _, dx, [], rfl, hx2, T.cls_Walk, T.a_guests, by decide, ?_⟩
      have h3 : upd H2 x (.ins (He.ga K "Walk") dx (putF "guests" (.int z.g) [])) x = some (.ins (He.ga K "Walk") dx [("guests", .int z.g)]) := upd_same
      have k3 : KX x H2 (upd H2 x (.ins (He.ga K "Walk") dx (putF "guests" (.int z.g) []))) := KX.put
      generalize upd H2 x (.ins (He.ga K "Walk") dx (putF "guests" (.int z.g) [])) = H3 at h3 k3 ⊢
      refine ⟨_, rfl, _, rfl, x, _, dx, _, rfl, h3, T.cls_Walk, T.a_nurses, by show 1 < 1000; decide, ?_⟩
      have h4 : upd H3 x (.ins (He.ga K "Walk") dx (putF "nurses" (.int z.n) [("guests", .int z.g)])) x = some (.ins (He.ga K "Walk") dx [("guests", .int z.g), ("nurses", .int z.n)]) := upd_same
      have k4 : KX x H3 (upd H3 x (.ins (He.ga K "Walk") dx (putF "nurses" (.int z.n) [("guests", .int z.g)]))) := KX.put
      generalize upd H3 x (.ins (He.ga K "Walk") dx (putF "nurses" (.int z.n) [("guests", .int z.g)])) = H4 at h4 k4 ⊢
      refine ⟨_, rfl, _, rfl, x, _, dx, _, rfl, h4, T.cls_Walk, T.a_first, by show 2 < 1000; decide, ?_⟩
      have h5 : upd H4 x (.ins (He.ga K "Walk") dx (putF "first" (.str z.f) [("guests", .int z.g), ("nurses", .int z.n)])) x = some (.ins (He.ga K "Walk") dx [("guests", .int z.g), ("nurses", .int z.n), ("first", .str z.f)]) := upd_same
      have k5 : KX x H4 (upd H4 x (.ins (He.ga K "Walk") dx (putF "first" (.str z.f) [("guests", .int z.g), ("nurses", .int z.n)]))) := KX.put
      generalize upd H4 x (.ins (He.ga K "Walk") dx (putF "first" (.str z.f) [("guests", .int z.g), ("nurses", .int z.n)])) = H5 at h5 k5 ⊢
      have k25 := (k3.trans k4).trans k5
      have kAll := (Hb.Same.kx s12).trans k25
      rcases ha2 with ha2 | ha2
      · refine ⟨_, rfl, a, _, rfl, .inl ⟨k25.seq hx2 ha2, fun t nt => ?_⟩⟩
        have s6 : Same H5 (upd H5 t (.tup (z.es.map V.str))) := Same.new nt
        have h6 := s6 _ _ h5
        refine ⟨_, rfl, x, _, dx, _, rfl, h6, T.cls_Walk, T.a_events, by show 3 < 1000; decide, ?_⟩
        exact k _ ((kAll.trans (Hb.Same.kx s6)).trans KX.put) ⟨dx, t, upd_same, SqT.keep (KX.tk KX.put h6) (SqT.of upd_same)⟩
      · refine ⟨_, rfl, a, _, rfl, .inr ⟨SqT.keep (k25.tk hx2) ha2, ?_⟩⟩
        refine ⟨_, rfl, x, _, dx, _, rfl, h5, T.cls_Walk, T.a_events, by show 3 < 1000; decide, ?_⟩
        exact k _ (kAll.trans KX.put) ⟨dx, a, upd_same, SqT.keep (KX.tk KX.put h5) (SqT.keep (k25.tk hx2) ha2)⟩
end
end Lw
set_option Elab.async false
set_option linter.all false
set_option maxRecDepth 100000
set_option maxHeartbeats 8000000
namespace Lw
open PySem PySem.Spec PyProof.Rows L2 Hb
theorem eqv_all {α : Type} [DecidableEq α] {enc : α → PyData} (h : ∀ x y, PyData.eqv (enc x) (enc y) = decide (x = y)) : ∀ ps qs : List α, PyData.eqvAll (ps.map enc) (qs.map enc) = decide (ps = qs)
  | [], [] => by simp [PyData.eqvAll]
  | [], q :: qs => by simp [PyData.eqvAll]
  | p :: ps, [] => by simp [PyData.eqvAll]
  | p :: ps, q :: qs => by
    rw [List.map_cons, List.map_cons, PyData.eqvAll, h, eqv_all h ps qs]
    by_cases h1 : p = q <;> by_cases h2 : ps = qs <;> simp [h1, h2]
theorem eqv_tup {α : Type} [DecidableEq α] {enc : α → PyData} (h : ∀ x y, PyData.eqv (enc x) (enc y) = decide (x = y)) (ps qs : List α) : PyData.eqv (.tuple (ps.map enc)) (.tuple (qs.map enc)) = decide (ps = qs) := by
  rw [PyData.eqv, eqv_all h]
theorem eqv_lst {α : Type} [DecidableEq α] {enc : α → PyData} (h : ∀ x y, PyData.eqv (enc x) (enc y) = decide (x = y)) (ps qs : List α) : PyData.eqv (.list (ps.map enc)) (.list (qs.map enc)) = decide (ps = qs) := by
  rw [PyData.eqv, eqv_all h]
theorem eqv_S (x y : Str) : PyData.eqv (.str x) (.str y) = decide (x = y) := by simp [PyData.eqv, beq_dec]
theorem strOk_tl (x : Str) : PyData.strOk x = (TL.tl x).all (· < 0x110000) := by
  unfold PyData.strOk TL.tl
  rw [← Array.all_toList]
theorem strOk_app {x y : Str} (hx : PyData.strOk x = true) (hy : PyData.strOk y = true) : PyData.strOk (x ++ y) = true := by
  rw [strOk_tl] at hx hy ⊢
  rw [TL.tl_append, List.all_append, hx, hy]
  rfl
theorem strOk_join : ∀ {ws : List Str}, (∀ w ∈ ws, PyData.strOk w = true) → PyData.strOk (Str.join " " ws) = true
  | [], _ => by decide +kernel
  | [w], h => h w List.mem_cons_self
  | w :: x :: r, h => strOk_app (strOk_app (h w List.mem_cons_self) (by decide +kernel)) (strOk_join (ws := x :: r) fun y hy => h y (List.mem_cons_of_mem _ hy))
theorem num_ok : ∀ i ∈ List.range 64, PyData.strOk (tI (i : Int)) = true := by decide +kernel
theorem lits_ok : PyData.strOk "hum" = true ∧ PyData.strOk "step" = true ∧ PyData.strOk "tick" = true ∧ PyData.strOk "doze" = true ∧ PyData.strOk "up" = true := by decide +kernel
theorem num_ok' {i : Int} (h : 0 ≤ i ∧ i < 64) : PyData.strOk (tI i) = true := by
  obtain ⟨n, rfl⟩ := Int.eq_ofNat_of_zero_le h.1
  exact num_ok n (List.mem_range.mpr (by omega))
theorem ev_ok {k : Int} (hk : k ≤ 64) {s : Str} (h : EvS k s) : PyData.strOk s = true := by
  obtain ⟨e, rfl, ok⟩ := h
  obtain ⟨l1, l2, l3, l4, l5⟩ := lits_ok
  unfold evT
  rw [TL.join_eq]
  refine strOk_join fun w hw => ?_
  cases e with
  | tick =>
    rw [List.mem_singleton.mp hw]
    exact l3
  | hum p d =>
    simp only [evW, List.mem_cons, List.not_mem_nil, or_false] at hw
    rcases hw with rfl | rfl | rfl
    · exact l1
    · exact num_ok' ⟨ok.1, Int.lt_of_lt_of_le ok.2 hk⟩
    · cases d
      · exact l5
      · exact l4
  | step p n =>
    simp only [evW, List.mem_cons, List.not_mem_nil, or_false] at hw
    rcases hw with rfl | rfl | rfl
    · exact l2
    · exact num_ok' ⟨ok.1.1, Int.lt_of_lt_of_le ok.1.2 hk⟩
    · exact num_ok' ok.2
theorem tds_strsW {K : PySem.W.Frag} {H : Hp} : ∀ xs : List Str, TDs K H (xs.map V.str) (xs.map PyData.str)
  | [] => .nil
  | x :: xs => .cons (.str x) (tds_strsW xs)
theorem shp_str {x : Str} (h : PyData.strOk x = true) : Shp (.str x) := ⟨by simp only [PyData.canLay0]; exact h, by simp [PyData.depth]⟩
theorem shaped_es {xs : List Str} (h : ∀ s ∈ xs, PyData.strOk s = true) : SeqAt.shaped (.tuple (xs.map PyData.str)) = true := shaped_tup fun d hd => by
  obtain ⟨x, hx, rfl⟩ := List.mem_map.mp hd
  exact shp_str (h x hx)
/-- alike walks -/
def wEq (a b : Wk) : Bool := decide (a.g = b.g) && (decide (a.n = b.n) && (decide (a.f = b.f) && decide (a.es = b.es)))
theorem wEq_refl (a : Wk) : wEq a a = true := by simp [wEq]
theorem ok_strs {z : Wk} (ok : WkOk z) : ∀ s ∈ z.es, PyData.strOk s = true := fun s hs => ev_ok ok.few (ok.es s hs)
def spUpto (K : PySem.W.Frag) (C : Addr) : Sp := fun vs H Q _ => ∃ (p : Addr) (m : Int) (z : Wk), vs = [.ref p, .int m] ∧ WAt K C H p z ∧ WkOk z ∧ 0 ≤ m ∧
  ∀ H' q, Same H H' → H q = none → WAt K C H' q ⟨z.g, z.n, z.f, z.es.take m.toNat⟩ → Q (.ref q) H'
def spFurther (K : PySem.W.Frag) (C : Addr) : Sp := fun vs H Q _ => ∃ (p a : Addr) (es : List Str) (z : Wk), vs = [.ref p, .ref a] ∧ WAt K C H p z ∧ WkOk z ∧ (SqL K H a (es.map V.str) ∨ SqT K H a (es.map V.str)) ∧ WkOk ⟨z.g, z.n, z.f, z.es ++ es⟩ ∧
  ∀ H' q, Same H H' → H q = none → WAt K C H' q ⟨z.g, z.n, z.f, z.es ++ es⟩ → Q (.ref q) H'
def spLenW (K : PySem.W.Frag) (C : Addr) : Sp := fun vs H Q _ => ∃ (p : Addr) (z : Wk), vs = [.ref p] ∧ WAt K C H p z ∧ WkOk z ∧ Q (.int z.es.length) H
def spEqW (K : PySem.W.Frag) (C : Addr) : Sp := fun vs H Q _ => ∃ (p : Addr) (y : V) (z : Wk), vs = [.ref p, y] ∧ WAt K C H p z ∧ WkOk z ∧ ((∃ q k, y = .ref q ∧ WAt K C H q k ∧ WkOk k ∧ Q (.bl (wEq z k)) H) ∨ ∃ t ∈ anyTy, TyX K H y (.type t) ∧ Q (.bl false) H)
theorem sIx_some (n : Nat) {i : Int} (h0 : 0 ≤ i) : HT.sIx n n (some i) = min i.toNat n := by
  have a : ¬ i < 0 := by omega
  simp [HT.sIx, a]
theorem app_nil {K : PySem.W.Frag} {H : Hp} {t : Addr} {xs ys : List V} (e : ys = []) (h : SqT K H t xs) : SqT K H t (xs ++ ys) := by
  rw [e, List.append_nil]
  exact h
/-- a walk made -/
theorem mk_W {K : PySem.W.Frag} {C : Addr} {H : Hp} {r x dx : Addr} {z : Wk} {R : VK} {E : XK} (hr : SqL K H r (z.es.map V.str) ∨ SqT K H r (z.es.map V.str)) (ok : WkOk z) (nx : H x = none) (ndx : H dx = none) (ne : dx ≠ x)
    (hR : ∀ H2, Same H H2 → WAt K C H2 x z → R .non H2) : spWInit K C [.ref x, .int z.g, .int z.n, .str z.f, .ref r] (upd (upd H dx (.own x)) x (.ins C dx [])) R E := by
  have s1 : Same H (upd (upd H dx (.own x)) x (.ins C dx [])) := fun b u e => by
    rw [upd_ne (ne_of_none e nx), upd_ne (ne_of_none e ndx)]
    exact e
  exact ⟨x, dx, r, z, rfl, upd_same, hr.imp (Same.seq s1) (SqT.keep (Same.tk s1)), ok, fun H2 kp hz => hR H2 (fun b u e => kp b u (ne_of_none e nx) (s1 b u e)) hz⟩

end Lw
set_option Elab.async false
set_option linter.all false
set_option maxRecDepth 100000
set_option maxHeartbeats 8000000
/-! Worlds: what a walk does. -/
namespace Lw
open PySem PySem.Spec PyProof.Rows L2 Hb
def intV : Option Int → V
  | none => .non
  | some i => .int i
def beyondO (ds : List Dr) (n r : Int) : Option Int := match ds[n.toNat]? with
  | none => none
  | some d => if r = d.1 then some d.2.1 else if r = d.2.1 then some d.1 else none
structure Wd where
  st : S0
  pl : List Int
  sp : List Int
  tk : Int
  md : List (Int × Str)
  wk : Option Int
  mn : Int
/-- the other side of a door -/
def behindD (d : Dr) (r : Int) : Int := if r = d.1 then d.2.1 else d.1
def doorAt (h : Hz) (n : Int) : Dr := h.doors.getD n.toNat (0, 0, none)
def placeAt (w : Wd) (p : Int) : Int := w.pl.getD p.toNat 0
def doEv (h : Hz) (z : Zz) (w : Wd) : Ev → Wd
  | .tick => { w with st := tick z w.st, tk := w.tk + 1, sp := [] }
  | .hum _ d => { w with st := hum z (if d then "doze" else "up") w.st }
  | .step p n => { w with st := rowS z w.st (nzStep h (doorAt h n) (behindD (doorAt h n) (placeAt w p))), pl := w.pl.set p.toNat (behindD (doorAt h n) (placeAt w p)), md := w.md ++ List.map (Prod.mk w.tk) (nzStep h (doorAt h n) (behindD (doorAt h n) (placeAt w p))), sp := w.sp ++ [p] }
def wokeAt (w : Wd) (s : S0) : Option Int := if w.wk = none ∧ s = .wok then some w.mn else w.wk
def goEv (h : Hz) (z : Zz) (w : Wd) (e : Ev) : Wd := { doEv h z w e with wk := wokeAt w (doEv h z w e).st, mn := w.mn + 1 }
def CanEv (h : Hz) (g : Int) (w : Wd) : Ev → Prop
  | .tick => True
  | .hum p _ => (0 ≤ p ∧ p < (w.pl.length : Nat)) ∧ g ≤ p ∧ placeAt w p ∈ h.cradles
  | .step p n => (0 ≤ p ∧ p < (w.pl.length : Nat)) ∧ (0 ≤ n ∧ n < (h.doors.length : Nat)) ∧ p ∉ w.sp ∧ (placeAt w p = (doorAt h n).1 ∨ placeAt w p = (doorAt h n).2.1)
instance (h : Hz) (g : Int) (w : Wd) (e : Ev) : Decidable (CanEv h g w e) := by cases e <;> (unfold CanEv; infer_instance)
def wd0 (z : Zz) (k : Int) (f : Str) : Wd := ⟨firstS z f, List.replicate k.toNat 0, [], 0, [], none, 0⟩
def runEv (h : Hz) (z : Zz) (w : Wd) (es : List Ev) : Wd := es.foldl (goEv h z) w
/-- each of them is possible in its turn -/
def Poss (h : Hz) (z : Zz) (g : Int) : Wd → List Ev → Prop
  | _, [] => True
  | w, e :: es => CanEv h g w e ∧ Poss h z g (goEv h z w e) es
theorem Poss.app {h : Hz} {z : Zz} {g : Int} : ∀ {w : Wd} {es fs : List Ev}, Poss h z g w (es ++ fs) ↔ Poss h z g w es ∧ Poss h z g (runEv h z w es) fs
  | _, [], _ => ⟨fun x => ⟨trivial, x⟩, fun x => x.2⟩
  | w, e :: es, fs => by
    show (_ ∧ Poss h z g _ (es ++ fs)) ↔ (_ ∧ Poss h z g _ es) ∧ _
    rw [Poss.app (es := es)]
    exact ⟨fun ⟨a, b, c⟩ => ⟨⟨a, b⟩, c⟩, fun ⟨⟨a, b⟩, c⟩ => ⟨a, b, c⟩⟩
theorem Poss.at {h : Hz} {z : Zz} {g : Int} {w : Wd} {es : List Ev} (x : Poss h z g w es) {i : Nat} {e : Ev} (hi : es[i]? = some e) : CanEv h g (runEv h z w (es.take i)) e := by
  have q : es = es.take i ++ e :: es.drop (i + 1) := by
    obtain ⟨hl, he⟩ := List.getElem?_eq_some_iff.mp hi
    rw [← he, ← List.drop_eq_getElem_cons hl, List.take_append_drop]
  rw [q] at x
  exact (Poss.app.mp x).2.1
theorem Poss.take {h : Hz} {z : Zz} {g : Int} {w : Wd} {es : List Ev} (x : Poss h z g w es) (i : Nat) : Poss h z g w (es.take i) := by
  rw [← List.take_append_drop i es] at x
  exact (Poss.app.mp x).1
theorem run_next {h : Hz} {z : Zz} {w : Wd} {es : List Ev} {i : Nat} {e : Ev} (hi : es[i]? = some e) : runEv h z w (es.take (i + 1)) = goEv h z (runEv h z w (es.take i)) e := by
  rw [List.take_add_one, hi]
  simp [runEv]
theorem run_snoc {h : Hz} {z : Zz} {w : Wd} {es : List Ev} {e : Ev} : runEv h z w (es ++ [e]) = goEv h z (runEv h z w es) e := by simp [runEv]
/-- bounds of a world behind so many events -/
structure WdB (h : Hz) (w : Wd) (k : Nat) (m : Nat) : Prop where
  pl : w.pl.length = k
  sp : w.sp.length ≤ m
  md : w.md.length ≤ 2 * m
  mn : w.mn = (m : Nat)
  tk0 : 0 ≤ w.tk
  tk : w.tk ≤ (m : Nat)
  mdt : ∀ x ∈ w.md, 0 ≤ x.1 ∧ x.1 ≤ w.tk
  wk : ∀ i, w.wk = some i → 0 ≤ i ∧ i < (m : Nat)
theorem WdB.zero (h : Hz) (z : Zz) {k : Int} (f : Str) : WdB h (wd0 z k f) k.toNat 0 := ⟨List.length_replicate, Nat.le_refl _, Nat.le_refl _, rfl, Int.le_refl _, Int.le_refl _, (fun x hx => nomatch hx), fun i e => nomatch e⟩
theorem WdB.go {h : Hz} {z : Zz} {w : Wd} {k m : Nat} (x : WdB h w k m) (e : Ev) : WdB h (goEv h z w e) k (m + 1) := by
  have wk : ∀ (s : S0) i, wokeAt w s = some i → 0 ≤ i ∧ i < ((m + 1 : Nat) : Int) := fun s i q => by
    unfold wokeAt at q
    split at q
    · have := x.mn
      simp at q
      omega
    · have := x.wk i q
      omega
  have mn : w.mn + 1 = ((m + 1 : Nat) : Int) := by have := x.mn; omega
  have t0 := x.tk0
  have t1 := x.tk
  have sp := x.sp
  have md := x.md
  cases e with
  | tick => exact ⟨x.pl, Nat.zero_le _, by show w.md.length ≤ _; omega, mn, by show 0 ≤ w.tk + 1; omega, by show w.tk + 1 ≤ _; omega, fun y hy => by have := x.mdt y hy; exact ⟨this.1, by show y.1 ≤ w.tk + 1; omega⟩, wk _⟩
  | hum p d => exact ⟨x.pl, by show w.sp.length ≤ _; omega, by show w.md.length ≤ _; omega, mn, t0, by show w.tk ≤ _; omega, x.mdt, wk _⟩
  | step p n =>
    refine ⟨by show (w.pl.set _ _).length = _; rw [List.length_set]; exact x.pl, by show (w.sp ++ [p]).length ≤ _; rw [List.length_append]; show _ + 1 ≤ _; omega, ?_, mn, t0, by show w.tk ≤ _; omega, fun y hy => ?_, wk _⟩
    · show (w.md ++ _).length ≤ _
      rw [List.length_append, List.length_map]
      have := nzStep_le h (doorAt h n) (behindD (doorAt h n) (placeAt w p))
      omega
    · rcases List.mem_append.mp hy with hy | hy
      · exact x.mdt y hy
      · obtain ⟨s, _, rfl⟩ := List.mem_map.mp hy
        exact ⟨t0, Int.le_refl _⟩
theorem WdB.run {h : Hz} (z : Zz) {k : Nat} : ∀ {es : List Ev} {w : Wd} {m : Nat}, WdB h w k m → WdB h (runEv h z w es) k (m + es.length)
  | [], _, _, x => x
  | e :: es, w, m, x => by
    have := WdB.run z (es := es) (x.go (z := z) e)
    rw [show m + 1 + es.length = m + (e :: es).length by rw [List.length_cons]; omega] at this
    exact this
def encM (x : Int × Str) : PyData := .tuple [.int x.1, .str x.2]
def movK (p : Int) : L2.Key × V := (Sum.inl p, .bl true)
theorem mov_val {sp : List Int} (p : Int) : (valV (sp.map movK) (Sum.inl p)).isSome = decide (p ∈ sp) := by
  induction sp with
  | nil => rfl
  | cons q sp ih =>
    by_cases e : q = p
    · subst e
      rw [List.map_cons, valV_pos (p := movK q) (k := Sum.inl q) rfl]
      simp
    · rw [List.map_cons, valV_neg (p := movK q) (fun z => e (by injection z)), ih]
      have e2 : ¬ p = q := fun z => e z.symm
      simp [e2]
theorem mov_put {sp : List Int} {p : Int} (h : p ∉ sp) : putK (sp.map movK) (Sum.inl p) (.bl true) = (sp ++ [p]).map movK := by
  have e := mov_val (sp := sp) p
  rw [decide_eq_false h] at e
  rw [putK_new _ (by simpa using e), List.map_append]
  rfl
end Lw
set_option Elab.async false
set_option linter.all false
set_option maxRecDepth 100000
set_option maxHeartbeats 8000000
namespace Lw
open PySem PySem.Spec PyProof.Rows L2 Hb
def spBeyond (K : PySem.W.Frag) (C : Addr) : Sp := fun vs H Q _ => ∃ (p : Addr) (h : Hz) (n r : Int), vs = [.ref p, .int n, .int r] ∧ HAt K C H p h ∧ 0 ≤ n ∧ h.doors.length ≤ 1000 ∧ Q (intV (beyondO h.doors n r)) H
section
variable {P : Program} {w : World} {K : PySem.W.Frag} {mg : Str → Option Value} {base : Heap}
theorem c_beyond (D : Df K mg "beyond" s_beyond) (T : Tx K mg) : C8.Cal P w K mg base 1 "beyond" (spBeyond K (He.ga K "House")) [] := by
  refine cal_mk D sc_beyond bd_beyond (fun vs H Q E h => ?_) fun f cdv A outer s H vs Q E hr h => ?_
  · obtain ⟨p, h, n, r, rfl, _⟩ := h
    rfl
  · obtain ⟨p, h, n, r, rfl, ⟨dx, a, b, c, xs, ys, hp, ha, td, _⟩, n0, few, k⟩ := h
    have line := sizeLine_eq
    have len : xs.length = h.doors.length := by rw [td.length, List.length_map]
    refine ⟨_, (pss_cons (ps_if (pt_cmpR op_ge (pv 1) (pe_callB call_len (by rfl) T.n_len (by decide +kernel) (pa_cons (pe_fld (pv 0) rfl) pa_nil)) (by first | exact nomark _ | rfl))
 (pss_one (ps_ret pe_non))
 pss_nil)
 (pss_cons (ps_asg (pe_ix ix_tup (pe_fld (pv 0) rfl) (pv 1) (fun _ _ => rfl)) (pg_tup (by rfl) (pgs_cons (pg_name (i := 3) sc_beyond.nd rfl (Or.inl rfl)) (pgs_cons (pg_name (i := 4) sc_beyond.nd rfl (Or.inl rfl)) (pgs_cons (pg_name (i := 5) sc_beyond.nd rfl (Or.inl rfl)) pgs_nil)))))
 (pss_cons (ps_if (pt_cmpR op_eq (pv 2) (pv 3) (by first | exact nomark _ | rfl))
 (pss_one (ps_ret (pv 4)))
 pss_nil)
 (pss_one (ps_ret (pe_ifExp (pt_cmpR op_eq (pv 2) (pv 4) (by first | exact nomark _ | rfl)) (pv 3) pe_non)))))), ?_⟩
    refine ⟨_, rfl, _, rfl, p, _, dx, _, _, rfl, hp, T.cls_House, T.a_doors, rfl, .ref a, xs.length, rfl, .inr ⟨_, ha, rfl⟩, _, _, rfl, rfl, _, rfl, ite2 (fun q => ?_) (fun q => ?_)⟩
    · have q2 : ((xs.length : Nat) : Int) ≤ n := of_decide_eq_true q
      have e : beyondO h.doors n r = none := by
        unfold beyondO
        rw [List.getElem?_eq_none (by omega)]
      rw [e] at k
      exact k
    · have q2 : ¬ ((xs.length : Nat) : Int) ≤ n := fun z => q (decide_eq_true z)
      have hlt : n.toNat < xs.length := by omega
      obtain ⟨d, hd, tdd⟩ := TDs.at_map td (List.getElem?_eq_getElem hlt)
      obtain ⟨t, et, ht⟩ := TD.door_inv tdd
      have at_ : atI xs n = some (.ref t) := by
        have q := atI_nat (xs := xs) (j := n.toNat) (v := .ref t) (by rw [List.getElem?_eq_getElem hlt, et])
        rw [show ((n.toNat : Nat) : Int) = n by omega] at q
        exact q
      have eb : beyondO h.doors n r = if r = d.1 then some d.2.1 else if r = d.2.1 then some d.1 else none := by
        unfold beyondO
        rw [hd]
      refine ⟨_, rfl, p, _, dx, _, _, rfl, hp, T.cls_House, T.a_doors, rfl, _, rfl, a, _, n, _, rfl, rfl, ha, at_, t, _, rfl, ht, rfl, _, _, rfl, _, _, rfl, _, _, rfl, rfl, ?_⟩
      refine ⟨_, rfl, _, rfl, rfl, _, rfl, ?_⟩
      by_cases e1 : r = d.1
      · rw [decide_eq_true (show V.int r = V.int d.1 by rw [e1])]
        rw [eb, if_pos e1] at k
        exact iteT ⟨_, rfl, k⟩
      · rw [decide_eq_false (show ¬ V.int r = V.int d.1 from fun q => e1 (by injection q))]
        rw [eb, if_neg e1] at k
        refine iteF ⟨_, rfl, _, rfl, rfl, _, rfl, ?_⟩
        by_cases e2 : r = d.2.1
        · rw [decide_eq_true (show V.int r = V.int d.2.1 by rw [e2])]
          rw [if_pos e2] at k
          exact iteT ⟨_, rfl, k⟩
        · rw [decide_eq_false (show ¬ V.int r = V.int d.2.1 from fun q => e2 (by injection q))]
          rw [if_neg e2] at k
          exact iteF k
def spHeardAll (K : PySem.W.Frag) (C : Addr) : Sp := fun vs H Q _ => ∃ (p : Addr) (v : V) (t : Addr) (z : Zz) (s : S0) (ns : List Str), vs = [.ref p, v, .ref t] ∧ SlpAt K C H p z ∧ StAt K H v s ∧ SqT K H t (ns.map V.str) ∧ ∀ H' v', Same H H' → StAt K H' v' (rowS z s ns) → Q v' H'
theorem c_heard_all (D : Df K mg "heard_all" s_heard_all) (T : Tx K mg) (c_heard : C8.Cal P w K mg base 3 "heard" (spHeard K (He.ga K "Sleeper")) []) : C8.Cal P w K mg base 4 "heard_all" (spHeardAll K (He.ga K "Sleeper")) [] := by
  refine cal_mk D sc_heard_all bd_heard_all (fun vs H Q E h => ?_) fun f cdv A outer s H vs Q E hr h => ?_
  · obtain ⟨p, v, t, z, s, ns, rfl, _⟩ := h
    rfl
  · obtain ⟨p, v, t, z, s, ns, rfl, hz, hs, ht, k⟩ := h
    refine ⟨_, (pss_cons (ps_set (i := 3) sc_heard_all.nd rfl (Or.inl rfl) (pv 1))
 (pss_cons (ps_for PassesOwn.never rfl (pi_tup (pv 2)) (pg_name (i := 4) sc_heard_all.nd rfl (Or.inl rfl))
 (pss_one (ps_set (i := 3) sc_heard_all.nd rfl (Or.inl rfl) (C8.pe_c c_heard hr (by decide) rfl (pa_cons (pv 0) (pa_cons (pv 3) (pa_cons (pv 4) pa_nil)))))))
 (pss_one (ps_ret (pv 3))))), ?_⟩
    refine ⟨_, rfl, _, rfl, t, rfl, ⟨_, ht⟩, for_tup (K := K) (a := t) (xs := ns.map V.str) (fun i σ H' => Same H H' ∧ ∃ v' v4, σ = [some (.ref p), some v, some (.ref t), some v', v4] ∧ StAt K H' v' (rowS z s (ns.take i)))
      ⟨Same.refl _, v, _, rfl, hs⟩ (fun i σ H' _ q => SqT.keep (Same.tk q.1) ht) ?_ ?_⟩
    · rintro i x σ H' hx ⟨s1, v', v4, rfl, hv⟩
      rw [List.getElem?_map] at hx
      obtain ⟨n, hn, rfl⟩ := Option.map_eq_some_iff.mp hx
      refine ⟨_, rfl, _, rfl, _, rfl, p, v', z, _, n, rfl, hz.same s1, hv, fun H2 v2 s2 hv2 => ⟨s1.trans s2, v2, _, rfl, ?_⟩⟩
      rw [List.take_add_one, hn]
      have e : rowS z s (ns.take i ++ (some n).toList) = hear z (sortOf z n) n (rowS z s (ns.take i)) := by simp [rowS]
      rw [e]
      exact hv2
    · rintro σ H' ⟨s1, v', v4, rfl, hv⟩
      rw [List.length_map, List.take_length] at hv
      exact ⟨_, rfl, k H' v' s1 hv⟩
end
end Lw
set_option Elab.async false
set_option linter.all false
set_option maxRecDepth 100000
set_option maxHeartbeats 8000000
namespace Lw
open PySem PySem.Spec PyProof.Rows L2 Hb
theorem ins_ne {H : Hp} {x a C C' dx dx' : Addr} {fs fs' : List (Str × V)} (h1 : H x = some (.ins C dx fs)) (h2 : H a = some (.ins C' dx' fs')) (n : fs.length ≠ fs'.length) : x ≠ a := fun e => by
  rw [e, h2] at h1
  injection h1 with h1
  injection h1 with _ _ h3
  exact n (by rw [h3])
theorem _root_.Hb.KX.free_ {x b : Addr} {H H' : Hp} (k : KX x H H') (n : b ≠ x) (e : H' b = none) : H b = none := by
  cases q : H b with
  | none => rfl
  | some o =>
    rw [k b o n q] at e
    cases e
def nFs (hm zm : Addr) (g : Int) (sv : V) (pl mv : Addr) (tk : Int) (md : Addr) : List (Str × V) := [("own_house", .ref hm), ("own_sleeper", .ref zm), ("guests", .int g), ("state", sv), ("places", .ref pl), ("moved", .ref mv), ("ticks", .int tk), ("made", .ref md)]
structure NIs (K : PySem.W.Frag) (C : Addr) (H : Hp) (x hm zm : Addr) (g : Int) (w : Wd) (dx : Addr) (sv : V) (pl mv md : Addr) (xs : List V) : Prop where
  o : H x = some (.ins C dx (nFs hm zm g sv pl mv w.tk md))
  st : StAt K H sv w.st
  hpl : H pl = some (.lst (w.pl.map V.int))
  hmv : H mv = some (.dK (w.sp.map movK))
  hmd : H md = some (.lst xs)
  td : TDs K H xs (w.md.map encM)
  ne : pl ≠ md
/-- a Night at x, all of it newer than G -/
def NightAt (K : PySem.W.Frag) (C : Addr) (G H : Hp) (x hm zm : Addr) (g : Int) (w : Wd) : Prop := ∃ dx sv pl mv md xs, NIs K C H x hm zm g w dx sv pl mv md xs ∧ Same G H ∧ G x = none ∧ G pl = none ∧ G mv = none ∧ G md = none
theorem NIs.same {K : PySem.W.Frag} {C : Addr} {H H' : Hp} {x hm zm : Addr} {g : Int} {w : Wd} {dx : Addr} {sv : V} {pl mv md : Addr} {xs : List V} (y : NIs K C H x hm zm g w dx sv pl mv md xs) (s : Same H H') : NIs K C H' x hm zm g w dx sv pl mv md xs :=
  ⟨s _ _ y.o, y.st.keep (Same.tk s), s _ _ y.hpl, s _ _ y.hmv, s _ _ y.hmd, TDs.keep (Same.tk s) y.td, y.ne⟩
theorem NightAt.same {K : PySem.W.Frag} {C : Addr} {G H H' : Hp} {x hm zm : Addr} {g : Int} {w : Wd} (y : NightAt K C G H x hm zm g w) (s : Same H H') : NightAt K C G H' x hm zm g w := by
  obtain ⟨dx, sv, pl, mv, md, xs, a, b, c⟩ := y
  exact ⟨dx, sv, pl, mv, md, xs, a.same s, b.trans s, c⟩
def spNInit (K : PySem.W.Frag) (C CS CW : Addr) : Sp := fun vs H Q _ => ∃ (x dx hm zm wa : Addr) (z : Zz) (wl : Wk), vs = [.ref x, .ref hm, .ref zm, .ref wa] ∧ H x = some (.ins C dx []) ∧ SlpAt K CS H zm z ∧ WAt K CW H wa wl ∧ WkOk wl ∧
  ∀ H' sv pl mv md xs, NIs K C H' x hm zm wl.g (wd0 z (wl.g + wl.n) wl.f) dx sv pl mv md xs → KX x H H' → H pl = none → H mv = none → H md = none → Q .non H'
def spNTick (K : PySem.W.Frag) (C CS : Addr) : Sp := fun vs H Q _ => ∃ (G : Hp) (x hm zm : Addr) (g : Int) (w : Wd) (h : Hz) (z : Zz), vs = [.ref x] ∧ NightAt K C G H x hm zm g w ∧ SlpAt K CS G zm z ∧ ∀ H', NightAt K C G H' x hm zm g (doEv h z w .tick) → Q .non H'
def spNStep (K : PySem.W.Frag) (C CS CH : Addr) : Sp := fun vs H Q _ => ∃ (G : Hp) (x hm zm : Addr) (g : Int) (w : Wd) (h : Hz) (z : Zz) (p n : Int), vs = [.ref x, .int p, .int n] ∧ NightAt K C G H x hm zm g w ∧ HAt K CH G hm h ∧ SlpAt K CS G zm z ∧ CanEv h g w (.step p n) ∧
  h.doors.length ≤ 1000 ∧ w.md.length ≤ 1000 ∧ w.sp.length ≤ 1000 ∧ ∀ H', NightAt K C G H' x hm zm g (doEv h z w (.step p n)) → Q .non H'
section
variable {P : Program} {w : World} {K : PySem.W.Frag} {mg : Str → Option Value} {base : Heap}
theorem m_Night_mk (D : Df1 K mg "Night" "Night.__init__" s_Night_init) (T : Tx K mg) (c_first_state : C8.Cal P w K mg base 2 "first_state" (spFirst K (He.ga K "Sleeper")) []) :
    C8.Mak P w K mg base 3 "Night" (He.ga K "Night") (spNInit K (He.ga K "Night") (He.ga K "Sleeper") (He.ga K "Walk")) [] := by
  refine mak_mk D sc_Night_init bd_Night_init (fun vs H Q E h => ?_) fun f cdv A outer s H vs Q E hr h => ?_
  · obtain ⟨x, dx, hm, zm, wa, z, wl, rfl, _⟩ := h
    rfl
  · obtain ⟨x, dx, hm, zm, wa, z, wl, rfl, hx, hz, ⟨dw, tw, hw, hwt⟩, ok, k⟩ := h
    have line := sizeLine_eq
    have xw : x ≠ wa := ins_ne hx hw (by show 0 ≠ 4; decide)
    refine ⟨_, (pss_cons (ps_fld (pv 0) (pv 1) rfl)
 (pss_cons (ps_fld (pv 0) (pv 2) rfl)
 (pss_cons (ps_fld (pv 0) (pe_fld (pv 3) rfl) rfl)
 (pss_cons (ps_fld (pv 0) (C8.pe_c c_first_state hr (by decide) rfl (pa_cons (pv 2) (pa_cons (pe_fld (pv 3) rfl) pa_nil))) rfl)
 (pss_cons (ps_fld (pv 0) (pe_op op_rep (pe_lst (pa_cons pe_int pa_nil)) (pe_op op_add (pe_fld (pv 3) rfl) (pe_fld (pv 3) rfl))) rfl)
 (pss_cons (ps_fld (pv 0) pe_dnewK rfl)
 (pss_cons (ps_fld (pv 0) pe_int rfl)
 (pss_one (ps_fld (pv 0) (pe_lst pa_nil) rfl))))))))), ?_⟩
    refine ⟨_, rfl, _, rfl, x, _, dx, [], rfl, hx, T.cls_Night, T.b_own_house, by decide, ?_⟩
    refine ⟨_, rfl, _, rfl, x, _, dx, _, rfl, upd_same, T.cls_Night, T.b_own_sleeper, by show 1 < 1000; decide, ?_⟩
    refine ⟨_, rfl, wa, _, dw, _, _, rfl, (by rw [upd_ne xw.symm, upd_ne xw.symm]; exact hw), T.cls_Walk, T.a_guests, rfl, _, rfl, x, _, dx, _, rfl, upd_same, T.cls_Night, T.b_guests, by show 2 < 1000; decide, ?_⟩
    rw [upd_upd, upd_upd]
    have hx1 : upd H x (.ins (He.ga K "Night") dx (putF "guests" (.int wl.g) (putF "own_sleeper" (.ref zm) (putF "own_house" (.ref hm) [])))) x = some (.ins (He.ga K "Night") dx [("own_house", .ref hm), ("own_sleeper", .ref zm), ("guests", .int wl.g)]) := upd_same
    have k1 : KX x H (upd H x (.ins (He.ga K "Night") dx (putF "guests" (.int wl.g) (putF "own_sleeper" (.ref zm) (putF "own_house" (.ref hm) []))))) := KX.put
    generalize upd H x (.ins (He.ga K "Night") dx (putF "guests" (.int wl.g) (putF "own_sleeper" (.ref zm) (putF "own_house" (.ref hm) [])))) = H1 at hx1 k1 ⊢
    have hw1 := k1 wa _ xw.symm hw
    have hz1 : SlpAt K (He.ga K "Sleeper") H1 zm z := hz.keep (k1.tk hx) fun o e => k1 zm o (by obtain ⟨_, _, _, h1, _⟩ := hz; exact ins_ne h1 hx (by show 5 ≠ 0; decide)) e
    refine ⟨_, rfl, _, rfl, wa, _, dw, _, _, rfl, hw1, T.cls_Walk, T.a_first, rfl, zm, z, wl.f, rfl, hz1, fun H2 sv s2 hsv => ?_⟩
    have hx2 := s2 _ _ hx1
    have hw2 := s2 _ _ hw1
    refine ⟨_, rfl, x, _, dx, _, rfl, hx2, T.cls_Night, T.b_state, by show 3 < 1000; decide, ?_⟩
    have k2 : KX x H (upd H2 x (.ins (He.ga K "Night") dx (putF "state" sv [("own_house", .ref hm), ("own_sleeper", .ref zm), ("guests", .int wl.g)]))) := (k1.trans (Hb.Same.kx s2)).trans KX.put
    have hx3 : upd H2 x (.ins (He.ga K "Night") dx (putF "state" sv [("own_house", .ref hm), ("own_sleeper", .ref zm), ("guests", .int wl.g)])) x = some (.ins (He.ga K "Night") dx [("own_house", .ref hm), ("own_sleeper", .ref zm), ("guests", .int wl.g), ("state", sv)]) := upd_same
    have hsv3 : StAt K (upd H2 x (.ins (He.ga K "Night") dx (putF "state" sv [("own_house", .ref hm), ("own_sleeper", .ref zm), ("guests", .int wl.g)]))) sv (firstS z wl.f) := hsv.keep (KX.tk KX.put hx2)
    generalize upd H2 x (.ins (He.ga K "Night") dx (putF "state" sv [("own_house", .ref hm), ("own_sleeper", .ref zm), ("guests", .int wl.g)])) = H3 at k2 hx3 hsv3 ⊢
    have hw3 := k2 wa _ xw.symm hw
    have g0 := ok.g0
    have n0 := ok.n0
    have few := ok.few
    refine ⟨by show 1 ≤ sizeLine; decide, fun u nu => ?_⟩
    have s4 : Same H3 (upd H3 u (.lst [.int 0])) := Same.new nu
    refine ⟨_, rfl, wa, _, dw, _, _, rfl, s4 _ _ hw3, T.cls_Walk, T.a_guests, rfl, _, rfl, wa, _, dw, _, _, rfl, s4 _ _ hw3, T.cls_Walk, T.a_nurses, rfl, _, _, rfl, rfl, u, _, _, rfl, rfl, upd_same, by omega, by omega, (by show 1 * _ ≤ _; omega), fun pl npl => ?_⟩
    rw [show (List.replicate (wl.g + wl.n).toNat [V.int 0]).flatten = (List.replicate (wl.g + wl.n).toNat (0 : Int)).map V.int by rw [List.map_replicate]; exact List.flatten_replicate_singleton]
    have s5 := s4.trans (Same.new npl (o := .lst ((List.replicate (wl.g + wl.n).toNat (0 : Int)).map V.int)))
    have hpl : upd (upd H3 u (.lst [.int 0])) pl (.lst ((List.replicate (wl.g + wl.n).toNat (0 : Int)).map V.int)) pl = some (.lst ((List.replicate (wl.g + wl.n).toNat (0 : Int)).map V.int)) := upd_same
    have npl3 : H3 pl = none := s4.free npl
    generalize upd (upd H3 u (.lst [.int 0])) pl (.lst ((List.replicate (wl.g + wl.n).toNat (0 : Int)).map V.int)) = H5 at s5 hpl ⊢
    have hx5 := s5 _ _ hx3
    have plx : pl ≠ x := fun e => by rw [e, hx3] at npl3; cases npl3
    refine ⟨_, rfl, x, _, dx, _, rfl, hx5, T.cls_Night, T.b_places, by show 4 < 1000; decide, ?_⟩
    have hx6 : upd H5 x (.ins (He.ga K "Night") dx (putF "places" (.ref pl) [("own_house", .ref hm), ("own_sleeper", .ref zm), ("guests", .int wl.g), ("state", sv)])) x = some (.ins (He.ga K "Night") dx [("own_house", .ref hm), ("own_sleeper", .ref zm), ("guests", .int wl.g), ("state", sv), ("places", .ref pl)]) := upd_same
    have k6 : KX x H3 (upd H5 x (.ins (He.ga K "Night") dx (putF "places" (.ref pl) [("own_house", .ref hm), ("own_sleeper", .ref zm), ("guests", .int wl.g), ("state", sv)]))) := (Hb.Same.kx s5).trans KX.put
    have hpl6 : upd H5 x (.ins (He.ga K "Night") dx (putF "places" (.ref pl) [("own_house", .ref hm), ("own_sleeper", .ref zm), ("guests", .int wl.g), ("state", sv)])) pl = some (.lst ((List.replicate (wl.g + wl.n).toNat (0 : Int)).map V.int)) := by rw [upd_ne plx]; exact hpl
    generalize upd H5 x (.ins (He.ga K "Night") dx (putF "places" (.ref pl) [("own_house", .ref hm), ("own_sleeper", .ref zm), ("guests", .int wl.g), ("state", sv)])) = H6 at hx6 k6 hpl6 ⊢
    intro mv nmv
    have mvx : mv ≠ x := fun e => by rw [e, hx6] at nmv; cases nmv
    have s7 : Same H6 (upd H6 mv (.dK [])) := Same.new nmv
    refine ⟨_, rfl, x, _, dx, _, rfl, s7 _ _ hx6, T.cls_Night, T.b_moved, by show 5 < 1000; decide, ?_⟩
    refine ⟨_, rfl, x, _, dx, _, rfl, upd_same, T.cls_Night, T.b_ticks, by show 6 < 1000; decide, ?_⟩
    rw [upd_upd]
    have hx8 : upd (upd H6 mv (.dK [])) x (.ins (He.ga K "Night") dx (putF "ticks" (.int 0) (putF "moved" (.ref mv) [("own_house", .ref hm), ("own_sleeper", .ref zm), ("guests", .int wl.g), ("state", sv), ("places", .ref pl)]))) x = some (.ins (He.ga K "Night") dx [("own_house", .ref hm), ("own_sleeper", .ref zm), ("guests", .int wl.g), ("state", sv), ("places", .ref pl), ("moved", .ref mv), ("ticks", .int 0)]) := upd_same
    have k8 : KX x H6 (upd (upd H6 mv (.dK [])) x (.ins (He.ga K "Night") dx (putF "ticks" (.int 0) (putF "moved" (.ref mv) [("own_house", .ref hm), ("own_sleeper", .ref zm), ("guests", .int wl.g), ("state", sv), ("places", .ref pl)])))) := (Hb.Same.kx s7).trans KX.put
    have hmv8 : upd (upd H6 mv (.dK [])) x (.ins (He.ga K "Night") dx (putF "ticks" (.int 0) (putF "moved" (.ref mv) [("own_house", .ref hm), ("own_sleeper", .ref zm), ("guests", .int wl.g), ("state", sv), ("places", .ref pl)]))) mv = some (.dK []) := by rw [upd_ne mvx]; exact upd_same
    have free6 : ∀ {b : Addr}, b ≠ x → H6 b = none → H b = none := fun {b} n e => by
      cases q : H b with
      | none => rfl
      | some o =>
        rw [k6 b o n (k2 b o n q)] at e
        cases e
    generalize upd (upd H6 mv (.dK [])) x (.ins (He.ga K "Night") dx (putF "ticks" (.int 0) (putF "moved" (.ref mv) [("own_house", .ref hm), ("own_sleeper", .ref zm), ("guests", .int wl.g), ("state", sv), ("places", .ref pl)]))) = H8 at hx8 k8 hmv8 ⊢
    refine ⟨Nat.zero_le _, fun md nmd => ?_⟩
    have mdx : md ≠ x := fun e => by rw [e, hx8] at nmd; cases nmd
    have s9 : Same H8 (upd H8 md (.lst [])) := Same.new nmd
    refine ⟨_, rfl, x, _, dx, _, rfl, s9 _ _ hx8, T.cls_Night, T.b_made, by show 7 < 1000; decide, ?_⟩
    have k9 : KX x H8 (upd (upd H8 md (.lst [])) x (.ins (He.ga K "Night") dx (putF "made" (.ref md) [("own_house", .ref hm), ("own_sleeper", .ref zm), ("guests", .int wl.g), ("state", sv), ("places", .ref pl), ("moved", .ref mv), ("ticks", .int 0)]))) := (Hb.Same.kx s9).trans KX.put
    have kall := ((k2.trans k6).trans k8).trans k9
    have tk3 := ((k6.trans k8).trans k9).tk hx3
    have hpl8 := k8 pl _ plx hpl6
    refine k _ sv pl mv md [] ⟨upd_same, hsv3.keep tk3, k9 pl _ plx hpl8, k9 mv _ mvx hmv8, ?_, .nil, fun e => ?_⟩ kall (k2.free_ plx npl3) (free6 mvx nmv) (free6 mdx ?_)
    · rw [upd_ne mdx]
      exact upd_same
    · rw [← e, hpl8] at nmd
      cases nmd
    · cases q : H6 md with
      | none => rfl
      | some o =>
        rw [k8 md o mdx q] at nmd
        cases nmd
end
end Lw
set_option Elab.async false
set_option linter.all false
set_option maxRecDepth 100000
set_option maxHeartbeats 8000000
namespace Lw
open PySem PySem.Spec PyProof.Rows L2 Hb
theorem place_at {w : Wd} {p : Int} (h : 0 ≤ p ∧ p < (w.pl.length : Nat)) : atI (w.pl.map V.int) p = some (.int (placeAt w p)) := by
  have hlt : p.toNat < w.pl.length := by omega
  have q := atI_nat (xs := w.pl.map V.int) (j := p.toNat) (v := .int (placeAt w p)) (by
    rw [List.getElem?_map, List.getElem?_eq_getElem hlt]
    unfold placeAt
    rw [List.getD_eq_getElem?_getD, List.getElem?_eq_getElem hlt]
    rfl)
  rw [show ((p.toNat : Nat) : Int) = p by omega] at q
  exact q
theorem door_get {h : Hz} {n : Int} (e : 0 ≤ n ∧ n < (h.doors.length : Nat)) : h.doors[n.toNat]? = some (doorAt h n) := by
  have hlt : n.toNat < h.doors.length := by omega
  unfold doorAt
  rw [List.getD_eq_getElem?_getD, List.getElem?_eq_getElem hlt]
  rfl
theorem beyond_can {h : Hz} {n r : Int} (e : 0 ≤ n ∧ n < (h.doors.length : Nat)) (q : r = (doorAt h n).1 ∨ r = (doorAt h n).2.1) : beyondO h.doors n r = some (behindD (doorAt h n) r) := by
  unfold beyondO behindD
  rw [door_get e]
  show (if _ then _ else _) = some (if _ then _ else _)
  by_cases e1 : r = (doorAt h n).1
  · rw [if_pos e1, if_pos e1]
  · rw [if_neg e1, if_neg e1]
    rcases q with q | q
    · exact absurd q e1
    · rw [if_pos q]
theorem ixN_in {n : Nat} {i : Int} (h0 : 0 ≤ i) (h1 : i < n) : ixN n i = some i.toNat := by
  unfold ixN
  rw [if_pos h0, if_pos h1]
theorem md_more (w : Wd) (ns : List Str) (i : Nat) (s : Str) (h : ns[i]? = some s) : (ns.take (i + 1)).map (fun s => encM (w.tk, s)) = (ns.take i).map (fun s => encM (w.tk, s)) ++ [encM (w.tk, s)] := by
  rw [List.take_add_one, h, List.map_append]
  rfl
section
variable {P : Program} {w : World} {K : PySem.W.Frag} {mg : Str → Option Value} {base : Heap}
theorem ok_tick {f : Addr} {fd : FuncData} (F : FunD K "tick" "Night.tick" (defArgs s_Night_tick) (defBody s_Night_tick) (defScope s_Night_tick) [] [] f fd) (T : Tx K mg) (c_ticked : C8.Cal P w K mg base 1 "ticked" (spSt K (He.ga K "Sleeper") tick) []) :
    FnOk P w K mg base CX0 2 f fd ["self"] (spNTick K (He.ga K "Night") (He.ga K "Sleeper")) := by
  refine F.ok sc_Night_tick (fun vs H Q E h => ?_) fun cdv A outer s H vs Q E hr h => ?_
  · obtain ⟨G, x, hm, zm, g, w, h, z, rfl, _⟩ := h
    rfl
  · obtain ⟨G, x, hm, zm, g, w, h, z, rfl, ⟨dx, sv, pl, mv, md, xs, y, sG, gx, gp, gm, gd⟩, hz, k⟩ := h
    suffices go : ∃ t, PSs (cxOf CX0 P _ K mg base N_Night_tick "Night.tick" (defScope s_Night_tick) f cdv A outer s H E).nox (defBody s_Night_tick) t ∧ t { nx := fun _ H' => Q .non H', rt := Q } (start N_Night_tick [.ref x]) H by
      obtain ⟨t, h1, h2⟩ := go
      exact ⟨t, h1.nox, h2⟩
    refine ⟨_, (pss_cons (ps_fld (pv 0) (C8.pe_c c_ticked hr (by decide) rfl (pa_cons (pe_fld (pv 0) rfl) (pa_cons (pe_fld (pv 0) rfl) pa_nil))) rfl)
 (pss_cons (ps_fldaug (pv 0) pe_int in_add)
 (pss_one (ps_fld (pv 0) pe_dnewK rfl)))), ?_⟩
    refine ⟨_, rfl, x, _, dx, _, _, rfl, y.o, T.cls_Night, T.b_own_sleeper, rfl, _, rfl, x, _, dx, _, _, rfl, y.o, T.cls_Night, T.b_state, rfl, zm, sv, z, w.st, rfl, hz.same sG, y.st, fun H1 v1 s1 hv1 => ?_⟩
    have y1 := y.same s1
    refine ⟨_, rfl, x, _, dx, _, rfl, y1.o, T.cls_Night, T.b_state, by show 8 < 1000; decide, ?_⟩
    refine ⟨_, rfl, x, _, dx, _, _, rfl, upd_same, T.cls_Night, T.b_ticks, rfl, _, _, rfl, rfl, dx, _, upd_same, by show 8 < 1000; decide, ?_⟩
    rw [upd_upd]
    have hx2 : upd H1 x (.ins (He.ga K "Night") dx (putF "ticks" (.int (w.tk + 1)) (putF "state" v1 (nFs hm zm g sv pl mv w.tk md)))) x = some (.ins (He.ga K "Night") dx (nFs hm zm g v1 pl mv (w.tk + 1) md)) := upd_same
    have k2 : KX x H1 (upd H1 x (.ins (He.ga K "Night") dx (putF "ticks" (.int (w.tk + 1)) (putF "state" v1 (nFs hm zm g sv pl mv w.tk md))))) := KX.put
    generalize upd H1 x (.ins (He.ga K "Night") dx (putF "ticks" (.int (w.tk + 1)) (putF "state" v1 (nFs hm zm g sv pl mv w.tk md)))) = H2 at hx2 k2 ⊢
    intro mv2 nmv
    have s3 : Same H2 (upd H2 mv2 (.dK [])) := Same.new nmv
    refine ⟨_, rfl, x, _, dx, _, rfl, s3 _ _ hx2, T.cls_Night, T.b_moved, by show 8 < 1000; decide, ?_⟩
    have mx : mv2 ≠ x := fun e => by rw [e, hx2] at nmv; cases nmv
    have plx : pl ≠ x := fun e => by have := y.hpl; rw [e, y.o] at this; cases this
    have mdx : md ≠ x := fun e => by have := y.hmd; rw [e, y.o] at this; cases this
    have k3 : KX x H1 (upd (upd H2 mv2 (.dK [])) x (.ins (He.ga K "Night") dx (putF "moved" (.ref mv2) (nFs hm zm g v1 pl mv (w.tk + 1) md)))) := (k2.trans (Hb.Same.kx s3)).trans KX.put
    have tk3 := k3.tk y1.o
    have gx2 : ∀ b o, G b = some o → b ≠ x := fun b o e q => by rw [q, gx] at e; cases e
    refine k _ ⟨dx, v1, pl, mv2, md, xs, ⟨upd_same, hv1.keep tk3, k3 pl _ plx y1.hpl, by rw [upd_ne mx]; exact upd_same, k3 md _ mdx y1.hmd, TDs.keep tk3 y1.td, y.ne⟩, fun b o e => k3 b o (gx2 b o e) (s1 _ _ (sG _ _ e)), gx, gp, ?_, gd⟩
    cases q : G mv2 with
    | none => rfl
    | some o =>
      rw [k2 mv2 o (gx2 _ _ q) (s1 _ _ (sG _ _ q))] at nmv
      cases nmv
theorem ok_step {f : Addr} {fd : FuncData} (F : FunD K "step" "Night.step" (defArgs s_Night_step) (defBody s_Night_step) (defScope s_Night_step) [] [] f fd) (T : Tx K mg) (c_beyond : C8.Cal P w K mg base 1 "beyond" (spBeyond K (He.ga K "House")) [])
    (c_noises_of_step : C8.Cal P w K mg base 2 "noises_of_step" (spNoises K (He.ga K "House")) []) (c_heard_all : C8.Cal P w K mg base 4 "heard_all" (spHeardAll K (He.ga K "Sleeper")) []) :
    FnOk P w K mg base CX0 5 f fd ["self", "person", "number"] (spNStep K (He.ga K "Night") (He.ga K "Sleeper") (He.ga K "House")) := by
  refine F.ok sc_Night_step (fun vs H Q E h => ?_) fun cdv A outer s H vs Q E hr h => ?_
  · obtain ⟨G, x, hm, zm, g, w, h, z, p, n, rfl, _⟩ := h
    rfl
  · obtain ⟨G, x, hm, zm, g, w, h, z, p, n, rfl, ⟨dx, sv, pl, mv, md, xs, y, sG, gx, gp, gm, gd⟩, hh, hz, ⟨pin, nin, psp, dor⟩, dfew, mfew, sfew, k⟩ := h
    have hu := hu_of hr
    have line := sizeLine_eq
    suffices go : ∃ t, PSs (cxOf CX0 P _ K mg base N_Night_step "Night.step" (defScope s_Night_step) f cdv A outer s H E).nox (defBody s_Night_step) t ∧ t { nx := fun _ H' => Q .non H', rt := Q } (start N_Night_step [.ref x, .int p, .int n]) H by
      obtain ⟨t, h1, h2⟩ := go
      exact ⟨t, h1.nox, h2⟩
    refine ⟨_, (pss_cons (ps_set (i := 3) sc_Night_step.nd rfl (Or.inl rfl) (C8.pe_c c_beyond hr (by decide) rfl (pa_cons (pe_fld (pv 0) rfl) (pa_cons (pv 2) (pa_cons (pe_ix ix_list (pe_fld (pv 0) rfl) (pv 1) (fun _ _ => rfl)) pa_nil)))))
 (pss_cons (ps_set (i := 4) sc_Night_step.nd rfl (Or.inl rfl) (C8.pe_c c_noises_of_step hr (by decide) rfl (pa_cons (pe_fld (pv 0) rfl) (pa_cons (pv 2) (pa_cons (pv 3) pa_nil)))))
 (pss_cons (ps_fld (pv 0) (C8.pe_c c_heard_all hr (by decide) rfl (pa_cons (pe_fld (pv 0) rfl) (pa_cons (pe_fld (pv 0) rfl) (pa_cons (pv 4) pa_nil)))) rfl)
 (pss_cons (ps_expr (pe_bm PySem.F.plainAttrs_list PySem.F.slot_list_extend PySem.F.type_list_extend mt_extend (pe_fld (pv 0) rfl) (pa_cons (pe_lc (own := [("noise", 5)]) (by rfl) sc_Night_step.nd (pi_tup (pv 4)) (blkOk_by (N := N_Night_step) (sc := defScope s_Night_step) (by decide +kernel)) (fun _ _ _ _ _ => (pg_name (i := 5) sc_Night_step.nd rfl (Or.inl rfl))) (fun _ _ _ _ _ => pts_nil) (fun _ _ _ _ _ => (pe_tup (pa_cons (show PE _ _ (tFld K _ "ticks") from pe_fld (pv 0) rfl) (pa_cons (pv 5) pa_nil))))) pa_nil)))
 (pss_cons (ps_asg (pv 3) (pg_sub (pe_fld (pv 0) rfl) (pv 1) set_list))
 (pss_one (ps_dput hu (pe_fld (pv 0) rfl) (pv 1) pe_bl rfl))))))), ?_⟩
    refine ⟨_, rfl, x, _, dx, _, _, rfl, y.o, T.cls_Night, T.b_own_house, rfl, _, rfl, _, rfl, x, _, dx, _, _, rfl, y.o, T.cls_Night, T.b_places, rfl, _, rfl, pl, _, p, _, rfl, rfl, SqL.of y.hpl, place_at pin, hm, h, n, placeAt w p, rfl, hh.same sG, nin.1, dfew, ?_⟩
    rw [beyond_can nin dor]
    generalize er : behindD (doorAt h n) (placeAt w p) = r
    refine ⟨_, rfl, x, _, dx, _, _, rfl, y.o, T.cls_Night, T.b_own_house, rfl, _, rfl, _, rfl, hm, h, n, r, _, rfl, hh.same sG, nin.1, door_get nin, fun H1 t s1 nt ht => ?_⟩
    generalize ens : nzStep h (doorAt h n) r = ns at ht
    have nfew : ns.length ≤ 2 := by rw [← ens]; exact nzStep_le _ _ _
    have y1 := y.same s1
    refine ⟨_, rfl, x, _, dx, _, _, rfl, y1.o, T.cls_Night, T.b_own_sleeper, rfl, _, rfl, x, _, dx, _, _, rfl, y1.o, T.cls_Night, T.b_state, rfl, _, rfl, zm, sv, t, z, w.st, ns, rfl, hz.same (sG.trans s1), y1.st, ht, fun H2 v2 s2 hv2 => ?_⟩
    have y2 := y1.same s2
    refine ⟨_, rfl, x, _, dx, _, rfl, y2.o, T.cls_Night, T.b_state, by show 8 < 1000; decide, ?_⟩
    have plx : pl ≠ x := fun e => by have := y.hpl; rw [e, y.o] at this; cases this
    have mdx : md ≠ x := fun e => by have := y.hmd; rw [e, y.o] at this; cases this
    have mvx : mv ≠ x := fun e => by have := y.hmv; rw [e, y.o] at this; cases this
    have hx3 : upd H2 x (.ins (He.ga K "Night") dx (putF "state" v2 (nFs hm zm g sv pl mv w.tk md))) x = some (.ins (He.ga K "Night") dx (nFs hm zm g v2 pl mv w.tk md)) := upd_same
    have k3 : KX x H2 (upd H2 x (.ins (He.ga K "Night") dx (putF "state" v2 (nFs hm zm g sv pl mv w.tk md)))) := KX.put
    have tk3 := k3.tk y2.o
    have ht3 := SqT.keep tk3 (SqT.keep (Same.tk s2) ht)
    have hv3 := hv2.keep tk3
    have hpl3 := k3 pl _ plx y2.hpl
    have hmd3 := k3 md _ mdx y2.hmd
    have hmv3 := k3 mv _ mvx y2.hmv
    have td3 := TDs.keep tk3 y2.td
    have gx2 : ∀ b o, G b = some o → b ≠ x := fun b o e q => by rw [q, gx] at e; cases e
    have sG3 : Same G (upd H2 x (.ins (He.ga K "Night") dx (putF "state" v2 (nFs hm zm g sv pl mv w.tk md)))) := fun b o e => k3 b o (gx2 b o e) (s2 _ _ (s1 _ _ (sG _ _ e)))
    generalize upd H2 x (.ins (He.ga K "Night") dx (putF "state" v2 (nFs hm zm g sv pl mv w.tk md))) = H3 at hx3 ht3 hv3 hpl3 hmd3 hmv3 td3 sG3 ⊢
    clear k3 tk3 y2 y1 hv2 s2 ht nt s1 H2 H1
    refine ⟨_, rfl, x, _, dx, _, _, rfl, hx3, T.cls_Night, T.b_made, rfl, .inl ⟨rfl, _, SqL.of hmd3⟩, _, rfl, t, rfl, ⟨_, ht3⟩, fun D nD => ?_⟩
    refine lc_tup (K := K) (a := t) (xs := ns.map V.str) (fun i H' => Same H3 H' ∧ ∃ acc, H' D = some (.lst acc) ∧ TDs K H' acc ((ns.take i).map fun s => encM (w.tk, s))) ⟨Same.new nD, [], upd_same, .nil⟩ (fun i H' _ q => SqT.keep (Same.tk q.1) ht3) ?_ ?_
    · rintro i v H' hv ⟨s4, acc, hD, tda⟩
      rw [List.getElem?_map] at hv
      obtain ⟨m, hm', rfl⟩ := Option.map_eq_some_iff.mp hv
      refine ⟨rfl, yes_ ⟨_, rfl, x, _, dx, _, _, rfl, s4 _ _ hx3, T.cls_Night, T.b_ticks, rfl, _, rfl, by show 2 ≤ sizeLine; decide, fun q nq => ?_⟩⟩
      have s5 : Same H' (upd H' q (.tup [.int w.tk, .str m])) := Same.new nq
      have al := tda.length
      rw [List.length_map, List.length_take] at al
      refine ⟨acc, s5 _ _ hD, by omega, Hb.Same.acc (s4.trans s5) nD, _, upd_same, ?_⟩
      rw [md_more w ns i m hm']
      have tkD := tk_acc (ys := acc ++ [.ref q]) (s5 _ _ hD)
      exact TDs.app (TDs.keep tkD (TDs.keep (Same.tk s5) tda)) (.cons (TD.keep tkD (.tup (SqT.of upd_same) (.cons (.int _) (.cons (.str _) .nil)))) .nil)
    · rintro H4 ⟨s4, acc, hD, tda⟩
      rw [List.length_map, List.take_length] at tda
      have al := tda.length
      have xl := td3.length
      rw [List.length_map] at al xl
      refine ⟨md, D, xs, acc, rfl, rfl, s4 _ _ hmd3, hD, by omega, ?_⟩
      have tk5 : TK H4 (upd H4 md (.lst (xs ++ acc))) := tk_acc (s4 _ _ hmd3)
      have hx5 : upd H4 md (.lst (xs ++ acc)) x = some (.ins (He.ga K "Night") dx (nFs hm zm g v2 pl mv w.tk md)) := by rw [upd_ne mdx.symm]; exact s4 _ _ hx3
      have hpl5 : upd H4 md (.lst (xs ++ acc)) pl = some (.lst (w.pl.map V.int)) := by rw [upd_ne y.ne]; exact s4 _ _ hpl3
      have mvd : mv ≠ md := fun e => by have := y.hmv; rw [e, y.hmd] at this; cases this
      have hmv5 : upd H4 md (.lst (xs ++ acc)) mv = some (.dK (w.sp.map movK)) := by rw [upd_ne mvd]; exact s4 _ _ hmv3
      have hmd5 : upd H4 md (.lst (xs ++ acc)) md = some (.lst (xs ++ acc)) := upd_same
      have td5 := TDs.keep tk5 (TDs.app (TDs.keep (Same.tk s4) td3) tda)
      have hv5 := (hv3.keep (Same.tk s4)).keep tk5
      have sG5 : Same G (upd H4 md (.lst (xs ++ acc))) := fun b o e => by
        rw [upd_ne (fun q => by rw [q, gd] at e; cases e)]
        exact s4 _ _ (sG3 _ _ e)
      generalize upd H4 md (.lst (xs ++ acc)) = H5 at tk5 hx5 hpl5 hmv5 hmd5 td5 hv5 sG5 ⊢
      have ix : ixN (w.pl.map V.int).length p = some p.toNat := ixN_in pin.1 (by rw [List.length_map]; exact pin.2)
      refine ⟨_, rfl, _, rfl, x, _, dx, _, _, rfl, hx5, T.cls_Night, T.b_places, rfl, _, rfl, pl, _, p, p.toNat, rfl, rfl, hpl5, ix, ?_⟩
      have tk6 : TK H5 (upd H5 pl (.lst ((w.pl.map V.int).set p.toNat (.int r)))) := tk_acc hpl5
      have mvp : mv ≠ pl := fun e => by have := y.hmv; rw [e, y.hpl] at this; cases this
      refine ⟨_, rfl, x, _, dx, _, _, rfl, (by rw [upd_ne plx.symm]; exact hx5), T.cls_Night, T.b_moved, rfl, _, rfl, mv, _, rfl, DPut.k (k := Sum.inl p) (by rw [upd_ne mvp]; exact hmv5) (by rw [List.length_map]; omega), ?_⟩
      rw [mov_put psp]
      have hmv6 : upd H5 pl (.lst ((w.pl.map V.int).set p.toNat (.int r))) mv = some (.dK (w.sp.map movK)) := by rw [upd_ne mvp]; exact hmv5
      have tk7 : TK (upd H5 pl (.lst ((w.pl.map V.int).set p.toNat (.int r)))) (upd (upd H5 pl (.lst ((w.pl.map V.int).set p.toNat (.int r)))) mv (.dK ((w.sp ++ [p]).map movK))) := TK.put hmv6 (by intro xs e; cases e) (by intro q u e; cases e)
      have tk57 := tk6.trans tk7
      refine k _ ⟨dx, v2, pl, mv, md, xs ++ acc, ⟨?_, ?_, ?_, ?_, ?_, ?_, y.ne⟩, fun b o e => ?_, gx, gp, gm, gd⟩
      · rw [upd_ne mvx.symm, upd_ne plx.symm]
        exact hx5
      · show StAt K _ v2 (rowS z w.st (nzStep h (doorAt h n) (behindD (doorAt h n) (placeAt w p))))
        rw [er, ens]
        exact hv5.keep tk57
      · rw [upd_ne mvp.symm, upd_same]
        show some (HO.lst ((w.pl.map V.int).set p.toNat (.int r))) = some (HO.lst ((w.pl.set p.toNat (behindD (doorAt h n) (placeAt w p))).map V.int))
        rw [er, List.map_set]
      · exact upd_same
      · rw [upd_ne mvd.symm, upd_ne y.ne.symm]
        exact hmd5
      · show TDs K _ (xs ++ acc) ((w.md ++ List.map (Prod.mk w.tk) (nzStep h (doorAt h n) (behindD (doorAt h n) (placeAt w p)))).map encM)
        have e : (w.md ++ List.map (Prod.mk w.tk) ns).map encM = w.md.map encM ++ ns.map fun s => encM (w.tk, s) := by
          rw [List.map_append, List.map_map]
          rfl
        rw [er, ens, e]
        exact TDs.keep tk57 td5
      · rw [upd_ne (fun q => by rw [q, gm] at e; cases e), upd_ne (fun q => by rw [q, gp] at e; cases e)]
        exact sG5 _ _ e
end
end Lw
set_option Elab.async false
set_option linter.all false
set_option maxRecDepth 100000
set_option maxHeartbeats 8000000
namespace Lw
open PySem PySem.Spec PyProof.Rows L2 Hb
theorem beyond_none {h : Hz} {n r : Int} (n0 : 0 ≤ n) : decide (intV (beyondO h.doors n r) = V.non) = !decide ((0 ≤ n ∧ n < (h.doors.length : Nat)) ∧ (r = (doorAt h n).1 ∨ r = (doorAt h n).2.1)) := by
  by_cases e : n < (h.doors.length : Nat)
  · by_cases q : r = (doorAt h n).1 ∨ r = (doorAt h n).2.1
    · rw [beyond_can ⟨n0, e⟩ q]
      have : decide ((0 ≤ n ∧ n < (h.doors.length : Nat)) ∧ (r = (doorAt h n).1 ∨ r = (doorAt h n).2.1)) = true := decide_eq_true ⟨⟨n0, e⟩, q⟩
      rw [this]
      rfl
    · have : decide ((0 ≤ n ∧ n < (h.doors.length : Nat)) ∧ (r = (doorAt h n).1 ∨ r = (doorAt h n).2.1)) = false := decide_eq_false fun z => q z.2
      rw [this]
      unfold beyondO
      rw [door_get ⟨n0, e⟩]
      show decide (intV (if _ then _ else if _ then _ else _) = _) = _
      rw [if_neg fun z => q (.inl z), if_neg fun z => q (.inr z)]
      rfl
  · have : decide ((0 ≤ n ∧ n < (h.doors.length : Nat)) ∧ (r = (doorAt h n).1 ∨ r = (doorAt h n).2.1)) = false := decide_eq_false fun z => e z.1.2
    rw [this]
    unfold beyondO
    rw [List.getElem?_eq_none (by omega)]
    rfl
def spNAllows (K : PySem.W.Frag) (C CH : Addr) : Sp := fun vs H Q _ => ∃ (G : Hp) (x q hm zm : Addr) (g : Int) (w : Wd) (h : Hz) (e : Ev), vs = [.ref x, .ref q] ∧ NightAt K C G H x hm zm g w ∧ HAt K CH G hm h ∧ SqL K H q ((evW e).map V.str) ∧
  EvOk (w.pl.length : Nat) e ∧ w.pl.length ≤ 64 ∧ h.doors.length ≤ 1000 ∧ Q (.bl (decide (CanEv h g w e))) H
def spNFollow (K : PySem.W.Frag) (C CS CH : Addr) : Sp := fun vs H Q _ => ∃ (G : Hp) (x q hm zm : Addr) (g : Int) (w : Wd) (h : Hz) (z : Zz) (e : Ev), vs = [.ref x, .ref q] ∧ NightAt K C G H x hm zm g w ∧ HAt K CH G hm h ∧ SlpAt K CS G zm z ∧ SqL K H q ((evW e).map V.str) ∧
  EvOk (w.pl.length : Nat) e ∧ w.pl.length ≤ 64 ∧ h.doors.length ≤ 1000 ∧ w.md.length ≤ 1000 ∧ w.sp.length ≤ 1000 ∧ w.st.ok ∧ CanEv h g w e ∧ ∀ H', NightAt K C G H' x hm zm g (doEv h z w e) → Q .non H'
section
variable {P : Program} {w : World} {K : PySem.W.Frag} {mg : Str → Option Value} {base : Heap}
theorem ok_allows {f : Addr} {fd : FuncData} (F : FunD K "allows" "Night.allows" (defArgs s_Night_allows) (defBody s_Night_allows) (defScope s_Night_allows) [] [] f fd) (T : Tx K mg) (c_beyond : C8.Cal P w K mg base 1 "beyond" (spBeyond K (He.ga K "House")) []) :
    FnOk P w K mg base CX0 2 f fd ["self", "words"] (spNAllows K (He.ga K "Night") (He.ga K "House")) := by
  refine F.ok sc_Night_allows (fun vs H Q E h => ?_) fun cdv A outer s H vs Q E hr h => ?_
  · obtain ⟨G, x, q, hm, zm, g, w, h, e, rfl, _⟩ := h
    rfl
  · obtain ⟨G, x, q, hm, zm, g, w, h, e, rfl, ⟨dx, sv, pl, mv, md, xs, y, sG, gx, gp, gm, gd⟩, hh, hq, eok, k64, dfew, k⟩ := h
    have hu := hu_of hr
    have line := sizeLine_eq
    obtain ⟨n1, n2, n3⟩ := lit_ne
    suffices go : ∃ t, PSs (cxOf CX0 P _ K mg base N_Night_allows "Night.allows" (defScope s_Night_allows) f cdv A outer s H E).nox (defBody s_Night_allows) t ∧ t { nx := fun _ H' => Q .non H', rt := Q } (start N_Night_allows [.ref x, .ref q]) H by
      obtain ⟨t, h1, h2⟩ := go
      exact ⟨t, h1.nox, h2⟩
    refine ⟨_, (pss_cons (ps_if (pt_cmpR op_eq (pe_ix ix_list (pv 1) pe_int (fun _ _ => rfl)) pe_str (by first | exact nomark _ | rfl))
 (pss_one (ps_ret pe_bl))
 pss_nil)
 (pss_cons (ps_set (i := 2) sc_Night_allows.nd rfl (Or.inl rfl) (pe_callTy call_int_str (by rfl) T.n_int (by decide +kernel) (pa_cons (pe_ix ix_list (pv 1) pe_int (fun _ _ => rfl)) pa_nil)))
 (pss_cons (ps_if (pt_cmpR op_eq (pe_ix ix_list (pv 1) pe_int (fun _ _ => rfl)) pe_str (by first | exact nomark _ | rfl))
 (pss_one (ps_ret (pe_and (pe_cmpR op_ge (pv 2) (pe_fld (pv 0) rfl) (by first | exact nomark _ | rfl)) (pe_one (pe_cmpR op_in_seq (pe_ix ix_list (pe_fld (pv 0) rfl) (pv 2) (fun _ _ => rfl)) (pe_fld (pe_fld (pv 0) rfl) rfl) (by first | exact nomark _ | rfl))))))
 pss_nil)
 (pss_one (ps_ret (pe_and (pe_cmp (pc_dnotin hu (pv 2) (pe_fld (pv 0) rfl)) rfl) (pe_one (pe_cmpR op_notN (C8.pe_c c_beyond hr (by decide) rfl (pa_cons (pe_fld (pv 0) rfl) (pa_cons (pe_callTy call_int_str (by rfl) T.n_int (by decide +kernel) (pa_cons (pe_ix ix_list (pv 1) pe_int (fun _ _ => rfl)) pa_nil)) (pa_cons (pe_ix ix_list (pe_fld (pv 0) rfl) (pv 2) (fun _ _ => rfl)) pa_nil)))) pe_non (by first | exact nomark _ | rfl))))))))), ?_⟩
    cases e with
    | tick =>
      refine ⟨_, rfl, q, _, 0, .str "tick", rfl, rfl, hq, rfl, rfl, _, rfl, ?_⟩
      rw [decide_eq_true rfl]
      exact iteT k
    | hum p d =>
      obtain ⟨a1, a2, a3, a4, a5⟩ := num_tI (i := p) ⟨eok.1, Int.lt_of_lt_of_le eok.2 (by omega)⟩
      refine ⟨_, rfl, q, _, 0, .str "hum", rfl, rfl, hq, rfl, rfl, _, rfl, ?_⟩
      rw [v_str_ne (show ("hum" : Str) ≠ "tick" from n3.symm)]
      refine iteF ⟨_, rfl, q, _, 1, .str (tI p), rfl, rfl, hq, rfl, tI p, p, rfl, a2, by omega, ?_⟩
      refine ⟨_, rfl, q, _, 0, .str "hum", rfl, rfl, hq, rfl, rfl, _, rfl, ?_⟩
      rw [decide_eq_true rfl]
      refine iteT ⟨_, rfl, _, rfl, x, _, dx, _, _, rfl, y.o, T.cls_Night, T.b_guests, rfl, _, _, rfl, rfl, _, rfl, ?_⟩
      by_cases hg : g ≤ p
      · rw [decide_eq_true hg]
        obtain ⟨dh, ah, bh, ch, xh, yh, hH, _, _, _, _, hc⟩ := hh.same sG
        refine iteT ⟨_, rfl, x, _, dx, _, _, rfl, y.o, T.cls_Night, T.b_places, rfl, _, rfl, pl, _, p, _, rfl, rfl, SqL.of y.hpl, place_at eok, _, rfl, x, _, dx, _, _, rfl, y.o, T.cls_Night, T.b_own_house, rfl, hm, _, dh, _, _, rfl, hH, T.cls_House, T.a_cradles, rfl, ch, _, rfl, .inr hc, rfl, flat_ints _, ?_⟩
        rw [if_neg Bool.false_ne_true, inV_ints]
        have e : decide (placeAt w p ∈ sortI h.cradles) = decide (CanEv h g w (.hum p d)) := decide_eq_decide.mpr ⟨fun z => ⟨eok, hg, (sortI_perm _).mem_iff.mp z⟩, fun z => (sortI_perm _).mem_iff.mpr z.2.2⟩
        rw [e]
        exact k
      · rw [decide_eq_false hg]
        have e : decide (CanEv h g w (.hum p d)) = false := decide_eq_false fun z => hg z.2.1
        rw [e] at k
        exact iteF k
    | step p n =>
      obtain ⟨a1, a2, a3, a4, a5⟩ := num_tI (i := p) ⟨eok.1.1, Int.lt_of_lt_of_le eok.1.2 (by omega)⟩
      obtain ⟨b1, b2, b3, b4, b5⟩ := num_tI eok.2
      refine ⟨_, rfl, q, _, 0, .str "step", rfl, rfl, hq, rfl, rfl, _, rfl, ?_⟩
      rw [v_str_ne (show ("step" : Str) ≠ "tick" from n2.symm)]
      refine iteF ⟨_, rfl, q, _, 1, .str (tI p), rfl, rfl, hq, rfl, tI p, p, rfl, a2, by omega, ?_⟩
      refine ⟨_, rfl, q, _, 0, .str "step", rfl, rfl, hq, rfl, rfl, _, rfl, ?_⟩
      rw [v_str_ne (show ("step" : Str) ≠ "hum" from n1.symm)]
      refine iteF ⟨_, rfl, _, rfl, x, _, dx, _, _, rfl, y.o, T.cls_Night, T.b_moved, rfl, mv, _, rfl, DGet.k (k := Sum.inl p) y.hmv, _, rfl, ?_⟩
      rw [mov_val]
      by_cases hp : p ∈ w.sp
      · rw [decide_eq_true hp]
        have e : decide (CanEv h g w (.step p n)) = false := decide_eq_false fun z => z.2.2.1 hp
        rw [e] at k
        exact iteF k
      · rw [decide_eq_false hp]
        refine iteT ⟨_, rfl, x, _, dx, _, _, rfl, y.o, T.cls_Night, T.b_own_house, rfl, _, rfl, q, _, 2, .str (tI n), rfl, rfl, hq, rfl, tI n, n, rfl, b2, by omega, _, rfl, x, _, dx, _, _, rfl, y.o, T.cls_Night, T.b_places, rfl, _, rfl, pl, _, p, _, rfl, rfl, SqL.of y.hpl, place_at eok.1, hm, h, n, placeAt w p, rfl, hh.same sG, eok.2.1, dfew, rfl, ?_⟩
        rw [beyond_none eok.2.1, Bool.not_not]
        have e : decide ((0 ≤ n ∧ n < (h.doors.length : Nat)) ∧ (placeAt w p = (doorAt h n).1 ∨ placeAt w p = (doorAt h n).2.1)) = decide (CanEv h g w (.step p n)) := decide_eq_decide.mpr ⟨fun z => ⟨eok.1, z.1, hp, z.2⟩, fun z => ⟨z.2.1, z.2.2.2⟩⟩
        rw [e]
        exact k
theorem ok_follow {f : Addr} {fd : FuncData} (F : FunD K "follow" "Night.follow" (defArgs s_Night_follow) (defBody s_Night_follow) (defScope s_Night_follow) [] [] f fd) (T : Tx K mg) (c_hummed : C8.Cal P w K mg base 2 "hummed" (spHum K (He.ga K "Sleeper")) [])
    (c_tick : C8.Met P w K mg base 2 (He.ga K "Night") "tick" (spNTick K (He.ga K "Night") (He.ga K "Sleeper")) []) (c_step : C8.Met P w K mg base 5 (He.ga K "Night") "step" (spNStep K (He.ga K "Night") (He.ga K "Sleeper") (He.ga K "House")) []) :
    FnOk P w K mg base CX0 6 f fd ["self", "words"] (spNFollow K (He.ga K "Night") (He.ga K "Sleeper") (He.ga K "House")) := by
  refine F.ok sc_Night_follow (fun vs H Q E h => ?_) fun cdv A outer s H vs Q E hr h => ?_
  · obtain ⟨G, x, q, hm, zm, g, w, h, z, e, rfl, _⟩ := h
    rfl
  · obtain ⟨G, x, q, hm, zm, g, w, h, z, e, rfl, hN, hh, hz, hq, eok, k64, dfew, mfew, sfew, sok, can, k⟩ := h
    have hu := hu_of hr
    obtain ⟨dx, sv, pl, mv, md, xs, y, sG, gx, gp, gm, gd⟩ := id hN
    obtain ⟨n1, n2, n3⟩ := lit_ne
    suffices go : ∃ t, PSs (cxOf CX0 P _ K mg base N_Night_follow "Night.follow" (defScope s_Night_follow) f cdv A outer s H E).nox (defBody s_Night_follow) t ∧ t { nx := fun _ H' => Q .non H', rt := Q } (start N_Night_follow [.ref x, .ref q]) H by
      obtain ⟨t, h1, h2⟩ := go
      exact ⟨t, h1.nox, h2⟩
    refine ⟨_, (pss_one (ps_if (pt_cmpR op_eq (pe_ix ix_list (pv 1) pe_int (fun _ _ => rfl)) pe_str (by first | exact nomark _ | rfl))
 (pss_one (ps_expr (C8.pe_mt0 c_tick hr (by decide) (pv 0))))
 (pss_one (ps_if (pt_cmpR op_eq (pe_ix ix_list (pv 1) pe_int (fun _ _ => rfl)) pe_str (by first | exact nomark _ | rfl))
 (pss_one (ps_fld (pv 0) (C8.pe_c c_hummed hr (by decide) rfl (pa_cons (pe_fld (pv 0) rfl) (pa_cons (pe_fld (pv 0) rfl) (pa_cons (pe_ix ix_list (pv 1) pe_int (fun _ _ => rfl)) pa_nil)))) rfl))
 (pss_one (ps_expr (C8.pe_mt c_step hr (by decide) (pv 0) (pa_cons (pe_callTy call_int_str (by rfl) T.n_int (by decide +kernel) (pa_cons (pe_ix ix_list (pv 1) pe_int (fun _ _ => rfl)) pa_nil)) (pa_cons (pe_callTy call_int_str (by rfl) T.n_int (by decide +kernel) (pa_cons (pe_ix ix_list (pv 1) pe_int (fun _ _ => rfl)) pa_nil)) pa_nil))))))))), ?_⟩
    cases e with
    | tick =>
      refine ⟨_, rfl, q, _, 0, .str "tick", rfl, rfl, hq, rfl, rfl, _, rfl, ?_⟩
      rw [decide_eq_true rfl]
      exact iteT ⟨_, rfl, x, dx, _, rfl, y.o, rfl, G, x, hm, zm, g, w, h, z, rfl, hN, hz, k⟩
    | hum p d =>
      refine ⟨_, rfl, q, _, 0, .str "hum", rfl, rfl, hq, rfl, rfl, _, rfl, ?_⟩
      rw [v_str_ne (show ("hum" : Str) ≠ "tick" from n3.symm)]
      refine iteF ⟨_, rfl, q, _, 0, .str "hum", rfl, rfl, hq, rfl, rfl, _, rfl, ?_⟩
      rw [decide_eq_true rfl]
      refine iteT ⟨_, rfl, x, _, dx, _, _, rfl, y.o, T.cls_Night, T.b_own_sleeper, rfl, _, rfl, x, _, dx, _, _, rfl, y.o, T.cls_Night, T.b_state, rfl, _, rfl, q, _, 2, .str (if d then "doze" else "up"), rfl, rfl, hq, rfl, zm, sv, z, w.st, _, rfl, hz.same sG, y.st, sok, fun H1 v1 s1 hv1 => ?_⟩
      have y1 := y.same s1
      refine ⟨_, rfl, x, _, dx, _, rfl, y1.o, T.cls_Night, T.b_state, by show 8 < 1000; decide, ?_⟩
      have plx : pl ≠ x := fun e => by have := y.hpl; rw [e, y.o] at this; cases this
      have mdx : md ≠ x := fun e => by have := y.hmd; rw [e, y.o] at this; cases this
      have mvx : mv ≠ x := fun e => by have := y.hmv; rw [e, y.o] at this; cases this
      have k3 : KX x H1 (upd H1 x (.ins (He.ga K "Night") dx (putF "state" v1 (nFs hm zm g sv pl mv w.tk md)))) := KX.put
      have tk3 := k3.tk y1.o
      exact k _ ⟨dx, v1, pl, mv, md, xs, ⟨upd_same, hv1.keep tk3, k3 pl _ plx y1.hpl, k3 mv _ mvx y1.hmv, k3 md _ mdx y1.hmd, TDs.keep tk3 y1.td, y.ne⟩, fun b o e => k3 b o (fun q => by rw [q, gx] at e; cases e) (s1 _ _ (sG _ _ e)), gx, gp, gm, gd⟩
    | step p n =>
      obtain ⟨a1, a2, a3, a4, a5⟩ := num_tI (i := p) ⟨eok.1.1, Int.lt_of_lt_of_le eok.1.2 (by omega)⟩
      obtain ⟨b1, b2, b3, b4, b5⟩ := num_tI eok.2
      refine ⟨_, rfl, q, _, 0, .str "step", rfl, rfl, hq, rfl, rfl, _, rfl, ?_⟩
      rw [v_str_ne (show ("step" : Str) ≠ "tick" from n2.symm)]
      refine iteF ⟨_, rfl, q, _, 0, .str "step", rfl, rfl, hq, rfl, rfl, _, rfl, ?_⟩
      rw [v_str_ne (show ("step" : Str) ≠ "hum" from n1.symm)]
      exact iteF ⟨_, rfl, x, dx, _, rfl, y.o, rfl, _, rfl, q, _, 1, .str (tI p), rfl, rfl, hq, rfl, tI p, p, rfl, a2, by omega, _, rfl, q, _, 2, .str (tI n), rfl, rfl, hq, rfl, tI n, n, rfl, b2, by omega, G, x, hm, zm, g, w, h, z, p, n, rfl, hN, hh, hz, can, dfew, mfew, sfew, k⟩
end
end Lw
set_option Elab.async false
set_option linter.all false
set_option maxRecDepth 100000
set_option maxHeartbeats 8000000
namespace Lw
open PySem PySem.Spec PyProof.Rows L2 Hb
def pFs (sv : V) (pl : Addr) (tk : Int) (md : Addr) (wk : Option Int) : List (Str × V) := [("state", sv), ("places", .ref pl), ("ticks", .int tk), ("made", .ref md), ("woke", intV wk)]
/-- a Played -/
def PlAt (K : PySem.W.Frag) (C : Addr) (H : Hp) (p : Addr) (w : Wd) : Prop := ∃ dx sv pl md xs, H p = some (.ins C dx (pFs sv pl w.tk md w.wk)) ∧ StAt K H sv w.st ∧ SqT K H pl (w.pl.map V.int) ∧ SqT K H md xs ∧ TDs K H xs (w.md.map encM)
theorem PlAt.same {K : PySem.W.Frag} {C : Addr} {H H' : Hp} {p : Addr} {w : Wd} (y : PlAt K C H p w) (s : Same H H') : PlAt K C H' p w := by
  obtain ⟨dx, sv, pl, md, xs, a, b, c, d, e⟩ := y
  exact ⟨dx, sv, pl, md, xs, s _ _ a, b.keep (Same.tk s), SqT.keep (Same.tk s) c, SqT.keep (Same.tk s) d, TDs.keep (Same.tk s) e⟩
def spPInit (K : PySem.W.Frag) (C : Addr) : Sp := fun vs H Q _ => ∃ (x dx : Addr) (sv : V) (pl md : Addr) (tk : Int) (wk : Option Int), vs = [.ref x, sv, .ref pl, .int tk, .ref md, intV wk] ∧ H x = some (.ins C dx []) ∧
  ∀ H', KX x H H' → H' x = some (.ins C dx (pFs sv pl tk md wk)) → Q .non H'
def spPlay (K : PySem.W.Frag) (C CH CS CW : Addr) : Sp := fun vs H Q _ => ∃ (hm zm wa : Addr) (h : Hz) (z : Zz) (g n : Int) (f : Str) (es : List Ev), vs = [.ref hm, .ref zm, .ref wa] ∧ HAt K CH H hm h ∧ SlpAt K CS H zm z ∧ WAt K CW H wa ⟨g, n, f, es.map evT⟩ ∧
  WkOk ⟨g, n, f, es.map evT⟩ ∧ (∀ e ∈ es, EvOk (g + n) e) ∧ Poss h z g (wd0 z (g + n) f) es ∧ h.doors.length ≤ 1000 ∧ es.length ≤ 400 ∧ (∀ i, (runEv h z (wd0 z (g + n) f) (es.take i)).st.ok) ∧
  ∀ H' p, Same H H' → H p = none → PlAt K C H' p (runEv h z (wd0 z (g + n) f) es) → Q (.ref p) H'
theorem intV_non (o : Option Int) : decide (intV o = V.non) = decide (o = none) := by cases o <;> simp [intV]
section
variable {P : Program} {w : World} {K : PySem.W.Frag} {mg : Str → Option Value} {base : Heap}
theorem m_Played_mk (D : Df1 K mg "Played" "Played.__init__" s_Played_init) (T : Tx K mg) : C8.Mak P w K mg base 1 "Played" (He.ga K "Played") (spPInit K (He.ga K "Played")) [] := by
  refine mak_mk D sc_Played_init bd_Played_init (fun vs H Q E h => ?_) fun f cdv A outer s H vs Q E hr h => ?_
  · obtain ⟨x, dx, sv, pl, md, tk, wk, rfl, _⟩ := h
    rfl
  · obtain ⟨x, dx, sv, pl, md, tk, wk, rfl, hx, k⟩ := h
    refine ⟨_, (pss_cons (ps_fld (pv 0) (pv 1) rfl)
 (pss_cons (ps_fld (pv 0) (pv 2) rfl)
 (pss_cons (ps_fld (pv 0) (pv 3) rfl)
 (pss_cons (ps_fld (pv 0) (pv 4) rfl)
 (pss_one (ps_fld (pv 0) (pv 5) rfl)))))), ?_⟩
    refine ⟨_, rfl, _, rfl, x, _, dx, [], rfl, hx, T.cls_Played, T.p_state, by decide, ?_⟩
    refine ⟨_, rfl, _, rfl, x, _, dx, _, rfl, upd_same, T.cls_Played, T.p_places, by show 1 < 1000; decide, ?_⟩
    refine ⟨_, rfl, _, rfl, x, _, dx, _, rfl, upd_same, T.cls_Played, T.p_ticks, by show 2 < 1000; decide, ?_⟩
    refine ⟨_, rfl, _, rfl, x, _, dx, _, rfl, upd_same, T.cls_Played, T.p_made, by show 3 < 1000; decide, ?_⟩
    refine ⟨_, rfl, _, rfl, x, _, dx, _, rfl, upd_same, T.cls_Played, T.p_woke, by show 4 < 1000; decide, ?_⟩
    rw [upd_upd, upd_upd, upd_upd, upd_upd]
    exact k _ KX.put upd_same
theorem c_play (D : Df K mg "play" s_play) (T : Tx K mg) (m_Night : C8.Mak P w K mg base 3 "Night" (He.ga K "Night") (spNInit K (He.ga K "Night") (He.ga K "Sleeper") (He.ga K "Walk")) [])
    (m_Played : C8.Mak P w K mg base 1 "Played" (He.ga K "Played") (spPInit K (He.ga K "Played")) [])
    (c_allows : C8.Met P w K mg base 2 (He.ga K "Night") "allows" (spNAllows K (He.ga K "Night") (He.ga K "House")) [])
    (c_follow : C8.Met P w K mg base 6 (He.ga K "Night") "follow" (spNFollow K (He.ga K "Night") (He.ga K "Sleeper") (He.ga K "House")) []) :
    C8.Cal P w K mg base 8 "play" (spPlay K (He.ga K "Played") (He.ga K "House") (He.ga K "Sleeper") (He.ga K "Walk")) [] := by
  refine cal_mk D sc_play bd_play (fun vs H Q E h => ?_) fun f cdv A outer s H vs Q E hr h => ?_
  · obtain ⟨hm, zm, wa, h, z, g, n, fi, es, rfl, _⟩ := h
    rfl
  · obtain ⟨hm, zm, wa, h, z, g, n, fi, es, rfl, hh, hz, hwa, wok, eok, poss, dfew, efew, sok, k⟩ := h
    have line := sizeLine_eq
    have g0 := wok.g0
    have n0 := wok.n0
    have few := wok.few
    change 0 ≤ g at g0
    change 0 ≤ n at n0
    change g + n ≤ 64 at few
    refine ⟨_, (pss_cons (ps_set (i := 3) sc_play.nd rfl (Or.inl rfl) (C8.pe_mk m_Night hr (by decide) rfl (pa_cons (pv 0) (pa_cons (pv 1) (pa_cons (pv 2) pa_nil)))))
 (pss_cons (ps_set (i := 4) sc_play.nd rfl (Or.inl rfl) pe_non)
 (pss_cons (ps_for PassesOwn.never rfl (pi_enumT (by rfl) T.n_enumerate (pa_cons (pe_fld (pv 2) rfl) pa_nil)) (pg_tup (by rfl) (pgs_cons (pg_name (i := 5) sc_play.nd rfl (Or.inl rfl)) (pgs_cons (pg_name (i := 6) sc_play.nd rfl (Or.inl rfl)) pgs_nil)))
 (pss_cons (ps_set (i := 7) sc_play.nd rfl (Or.inl rfl) (pe_split (pv 6) pe_str))
 (pss_cons (ps_if (pt_not (pt_val (C8.pe_mt c_allows hr (by decide) (pv 3) (pa_cons (pv 7) pa_nil))))
 (pss_one ps_never)
 pss_nil)
 (pss_cons (ps_expr (C8.pe_mt c_follow hr (by decide) (pv 3) (pa_cons (pv 7) pa_nil)))
 (pss_one (ps_if (PW.pt (pw_and (pt_cmpR op_isN (pv 4) pe_non (by first | exact nomark _ | rfl)) (pw_and1 (pt_cmpR (op_eqD hr.units) (pe_fld (pv 3) rfl) (pe_glob (v := .ref _) rfl T.g_WOKEN rfl) (by first | exact nomark _ | rfl)))))
 (pss_one (ps_set (i := 4) sc_play.nd rfl (Or.inl rfl) (pv 5)))
 pss_nil))))))
 (pss_one (ps_ret (C8.pe_mk m_Played hr (by decide) rfl (pa_cons (pe_fld (pv 3) rfl) (pa_cons (pe_callTy call_tuple_of (by rfl) T.n_tuple (by decide +kernel) (pa_cons (pe_fld (pv 3) rfl) pa_nil)) (pa_cons (pe_fld (pv 3) rfl) (pa_cons (pe_callTy call_tuple_of (by rfl) T.n_tuple (by decide +kernel) (pa_cons (pe_fld (pv 3) rfl) pa_nil)) (pa_cons (pv 4) pa_nil))))))))))), ?_⟩
    refine ⟨_, rfl, _, rfl, _, rfl, fun x dx nx ndx ne => ?_⟩
    have s0 : Same H (upd (upd H dx (.own x)) x (.ins (He.ga K "Night") dx [])) := fun b u e => by
      rw [upd_ne (ne_of_none e nx), upd_ne (ne_of_none e ndx)]
      exact e
    refine ⟨x, dx, hm, zm, wa, z, _, rfl, upd_same, hz.same s0, hwa.same s0, wok, fun H1 sv pl mv md xs y kx np nm nd => ⟨rfl, ?_⟩⟩
    have N0 : NightAt K (He.ga K "Night") H H1 x hm zm g (wd0 z (g + n) fi) := ⟨dx, sv, pl, mv, md, xs, y, fun b o e => kx b o (ne_of_none e nx) (s0 b o e), nx, s0.free np, s0.free nm, s0.free nd⟩
    clear y kx np nm nd s0 ne ndx xs md mv pl sv
    obtain ⟨dw, tw, hwO, hwt⟩ := hwa
    have sN : ∀ {H' : Hp} {w : Wd}, NightAt K (He.ga K "Night") H H' x hm zm g w → Same H H' := fun q => by
      obtain ⟨_, _, _, _, _, _, _, s, _⟩ := q
      exact s
    refine ⟨_, rfl, wa, _, dw, _, _, rfl, sN N0 _ _ hwO, T.cls_Walk, T.a_events, rfl, tw, _, rfl, SqT.keep (Same.tk (sN N0)) hwt, for_it walk_enumT (fun i σ H' => (∃ v5 v6 v7, σ = [some (.ref hm), some (.ref zm), some (.ref wa), some (.ref x), some (intV (runEv h z (wd0 z (g + n) fi) (es.take i)).wk), v5, v6, v7]) ∧
      NightAt K (He.ga K "Night") H H' x hm zm g (runEv h z (wd0 z (g + n) fi) (es.take i))) ⟨⟨_, _, _, rfl⟩, N0⟩ (fun i σ H' _ q => SqT.keep (Same.tk (sN q.2)) hwt) ?_ ?_⟩
    · rintro i v σ H2 H3 hi ⟨⟨v5, v6, v7, rfl⟩, N2⟩ ⟨Tp, u1, u2, rfl, nT, rfl, e1, e2⟩
      injection e1 with e1
      subst e1
      replace e2 : ((es.map evT).map V.str)[i]? = some u2 := e2
      rw [List.getElem?_map, List.getElem?_map] at e2
      obtain ⟨y, hy, rfl⟩ := Option.map_eq_some_iff.mp e2
      obtain ⟨ev, hev, rfl⟩ := Option.map_eq_some_iff.mp hy
      have evok := eok ev (List.mem_of_getElem? hev)
      have short := ev_short few evok
      have il : i < es.length := (List.getElem?_eq_some_iff.mp hev).1
      have s3 : Same H2 (upd H2 Tp (.tup [.int (i : Nat), .str (evT ev)])) := Same.new nT
      have N3 := N2.same s3
      refine ⟨Tp, _, rfl, SqT.of upd_same, rfl, _, _, rfl, _, _, rfl, rfl, ?_⟩
      generalize upd H2 Tp (.tup [.int (i : Nat), .str (evT ev)]) = H3 at N3 ⊢
      clear N2 s3 e2 hy
      refine ⟨_, rfl, ⟨_, rfl⟩, evT ev, " ", rfl, rfl, by decide +kernel, by omega, fun q nq => ?_⟩
      rw [split_ev few evok]
      have N4 := N3.same (Same.new nq (o := .lst ((evW ev).map V.str)))
      have hq : SqL K (upd H3 q (.lst ((evW ev).map V.str))) q ((evW ev).map V.str) := SqL.of upd_same
      generalize upd H3 q (.lst ((evW ev).map V.str)) = H4 at N4 hq ⊢
      clear N3 nq
      have B := WdB.run z (es := es.take i) (WdB.zero h z (k := g + n) fi)
      have tl : (es.take i).length = i := by rw [List.length_take]; omega
      rw [tl, Nat.zero_add] at B
      have can := poss.at hev
      have nx := run_next (h := h) (z := z) (w := wd0 z (g + n) fi) hev
      have sok1 := sok (i + 1)
      have sok0 := sok i
      rw [nx] at sok1
      generalize runEv h z (wd0 z (g + n) fi) (es.take i) = wd at N4 B can nx sok1 sok0 ⊢
      have evok2 : EvOk (wd.pl.length : Nat) ev := by
        rw [B.pl, Int.toNat_of_nonneg (by omega)]
        exact evok
      have pl64 : wd.pl.length ≤ 64 := by rw [B.pl]; omega
      have mfew := B.md
      have sfew := B.sp
      obtain ⟨dx4, sv4, pl4, mv4, md4, xs4, y4, sG4, gx4, _⟩ := id N4
      refine ⟨_, rfl, x, dx4, _, rfl, y4.o, rfl, _, rfl, H, x, q, hm, zm, g, wd, h, ev, rfl, N4, hh, hq, evok2, pl64, dfew, _, rfl, ?_⟩
      rw [decide_eq_true can]
      refine iteF ⟨_, rfl, x, dx4, _, rfl, y4.o, rfl, _, rfl, H, x, q, hm, zm, g, wd, h, z, ev, rfl, N4, hh, hz, hq, evok2, pl64, dfew, by omega, by omega, sok0, can, fun H5 N5 => ?_⟩
      have N5' : NightAt K (He.ga K "Night") H H5 x hm zm g (goEv h z wd ev) := by
        obtain ⟨a1, a2, a3, a4, a5, a6, a7, a8⟩ := N5
        exact ⟨a1, a2, a3, a4, a5, a6, ⟨a7.o, a7.st, a7.hpl, a7.hmv, a7.hmd, a7.td, a7.ne⟩, a8⟩
      obtain ⟨dx5, sv5, pl5, mv5, md5, xs5, y5, sG5, gx5, _⟩ := id N5
      have ewk : (goEv h z wd ev).wk = wokeAt wd (doEv h z wd ev).st := rfl
      have mn := B.mn
      refine ⟨_, rfl, rfl, _, rfl, ?_⟩
      rw [intV_non]
      by_cases e1 : wd.wk = none
      · rw [decide_eq_true e1]
        refine iteT ⟨_, rfl, x, _, dx5, _, _, rfl, y5.o, T.cls_Night, T.b_state, rfl, ?_⟩
        have hw : StAt K H5 (.ref (He.ga K "WOKEN")) .wok := ⟨_, rfl, T.t_WOKEN _⟩
        refine ⟨_, _, TD.dp y5.st.td, TD.dp hw.td, (S0.shp sok1).shaped, (S0.shp (s := .wok) trivial).shaped, _, rfl, ?_⟩
        rw [eqv_st]
        by_cases e2 : (doEv h z wd ev).st = .wok
        · rw [decide_eq_true e2]
          have e3 : (goEv h z wd ev).wk = some ((i : Nat) : Int) := by
            rw [ewk, wokeAt, if_pos ⟨e1, e2⟩, mn]
          refine iteT ⟨_, rfl, ?_, ?_⟩
          · rw [nx, e3]
            exact ⟨_, _, _, rfl⟩
          · rw [nx]
            exact N5'
        · rw [decide_eq_false e2]
          have e3 : (goEv h z wd ev).wk = wd.wk := by rw [ewk, wokeAt, if_neg (fun q => e2 q.2)]
          refine iteF ⟨?_, ?_⟩
          · rw [nx, e3]
            exact ⟨_, _, _, rfl⟩
          · rw [nx]
            exact N5'
      · rw [decide_eq_false e1]
        have e3 : (goEv h z wd ev).wk = wd.wk := by rw [ewk, wokeAt, if_neg (fun q => e1 q.1)]
        refine iteF (iteF ⟨?_, ?_⟩)
        · rw [nx, e3]
          exact ⟨_, _, _, rfl⟩
        · rw [nx]
          exact N5'
    · rintro σ H2 ⟨⟨v5, v6, v7, rfl⟩, N2⟩
      rw [List.length_map, List.length_map, List.take_length] at N2 ⊢
      obtain ⟨dx2, sv2, pl2, mv2, md2, xs2, y2, sG2, gx2, _⟩ := id N2
      refine ⟨_, rfl, x, _, dx2, _, _, rfl, y2.o, T.cls_Night, T.b_state, rfl, _, rfl, x, _, dx2, _, _, rfl, y2.o, T.cls_Night, T.b_places, rfl, pl2, _, rfl, .inl ⟨SqL.of y2.hpl, fun t1 nt1 => ?_⟩⟩
      have s3 : Same H2 (upd H2 t1 (.tup ((runEv h z (wd0 z (g + n) fi) es).pl.map V.int))) := Same.new nt1
      have h1 : upd H2 t1 (.tup ((runEv h z (wd0 z (g + n) fi) es).pl.map V.int)) t1 = some (.tup ((runEv h z (wd0 z (g + n) fi) es).pl.map V.int)) := upd_same
      have y3 := y2.same s3
      have sG3 := sG2.trans s3
      generalize upd H2 t1 (.tup ((runEv h z (wd0 z (g + n) fi) es).pl.map V.int)) = H3 at h1 y3 sG3 ⊢
      refine ⟨_, rfl, x, _, dx2, _, _, rfl, y3.o, T.cls_Night, T.b_ticks, rfl, _, rfl, x, _, dx2, _, _, rfl, y3.o, T.cls_Night, T.b_made, rfl, md2, _, rfl, .inl ⟨SqL.of y3.hmd, fun t2 nt2 => ?_⟩⟩
      have s4 : Same H3 (upd H3 t2 (.tup xs2)) := Same.new nt2
      have h2 : upd H3 t2 (.tup xs2) t2 = some (.tup xs2) := upd_same
      have y4 := y3.same s4
      have sG4 := sG3.trans s4
      have h1' := s4 _ _ h1
      generalize upd H3 t2 (.tup xs2) = H4 at h1' h2 y4 sG4 ⊢
      refine ⟨_, rfl, fun p dp np ndp ne => ?_⟩
      have s5 : Same H4 (upd (upd H4 dp (.own p)) p (.ins (He.ga K "Played") dp [])) := fun b u e => by
        rw [upd_ne (ne_of_none e np), upd_ne (ne_of_none e ndp)]
        exact e
      refine ⟨p, dp, sv2, t1, t2, _, _, rfl, upd_same, fun H' kx hp => ⟨rfl, ?_⟩⟩
      have s6 : Same H4 H' := fun b o e => kx b o (ne_of_none e np) (s5 b o e)
      exact k H' p (sG4.trans s6) (sG4.free np) ⟨dp, sv2, t1, t2, xs2, hp, y4.st.keep (Same.tk s6), SqT.of (s6 _ _ h1'), SqT.of (s6 _ _ h2), TDs.keep (Same.tk s6) y4.td⟩
end
end Lw
set_option Elab.async false
set_option linter.all false
set_option maxRecDepth 100000
set_option maxHeartbeats 8000000
namespace Lw
open PySem PySem.Spec PyProof.Rows L2 Hb
/-! ### a sleeper drawn: its sorts in a dict -/
def skv (ps : List (Str × Str)) : List (Key × V) := ps.map fun p => (Sum.inr p.1, V.str p.2)
structure ZAt (K : PySem.W.Frag) (H : Hp) (o dk : Addr) (z : Zz) : Prop where
  ho : SqT K H o [.ref dk, .int z.stir, .int z.doze, .int z.near, .str z.loud]
  hd : H dk = some (.dK (skv z.sorts))
theorem ZAt.same {K : PySem.W.Frag} {H H' : Hp} {o dk : Addr} {z : Zz} (x : ZAt K H o dk z) (s : Same H H') : ZAt K H' o dk z := ⟨SqT.keep (Same.tk s) x.ho, s _ _ x.hd⟩
theorem ZAt.kp {K : PySem.W.Frag} {d g : Addr} {H H' : Hp} {o dk : Addr} {z : Zz} (x : ZAt K H o dk z) (dl : Feed d g H) (n : dk ≠ d) (k : Kp d g H H') : ZAt K H' o dk z :=
  ⟨SqT.keep (dl.tk k) x.ho, k _ _ n (dl.ne_g x.hd (by intro xs e; cases e)) x.hd⟩
theorem putK_new {ps : List (Str × Str)} {x y : Str} (n : x ∉ ps.map Prod.fst) : putK (skv ps) (Sum.inr x) (V.str y) = skv (ps ++ [(x, y)]) := by
  unfold putK
  rw [if_neg]
  · unfold skv
    rw [List.map_append]
    rfl
  · intro c
    obtain ⟨kv, hk, e⟩ := List.any_eq_true.mp c
    obtain ⟨p, hp, rfl⟩ := List.mem_map.mp hk
    have e2 := of_decide_eq_true e
    injection e2 with e3
    exact n (List.mem_map.mpr ⟨p, hp, e3⟩)
theorem valV_skv {ps : List (Str × Str)} (nd : (ps.map Prod.fst).Nodup) {i : Nat} {p : Str × Str} (e : ps[i]? = some p) : valV (skv ps) (Sum.inr p.1) = some (V.str p.2) := by
  induction ps generalizing i with
  | nil => cases e
  | cons q ps ih =>
    rw [List.map_cons, List.nodup_cons] at nd
    cases i with
    | zero =>
      obtain rfl := Option.some.inj e
      exact valV_pos rfl
    | succ i =>
      have ne : ¬ (Sum.inr q.1 : Key) = Sum.inr p.1 := fun z => by
        injection z with z
        exact nd.1 (List.mem_map.mpr ⟨p, List.mem_of_getElem? e, z.symm⟩)
      show valV ((Sum.inr q.1, V.str q.2) :: skv ps) _ = _
      rw [valV_neg ne]
      exact ih nd.2 e
theorem tds_pairs {K : PySem.W.Frag} {H : Hp} : ∀ {zs : List V} {ps : List (Str × Str)}, zs.length = ps.length → (∀ (j : Nat) (v : V), zs[j]? = some v → ∃ (t : Addr) (p : Str × Str), v = .ref t ∧ ps[j]? = some p ∧ H t = some (.tup [.str p.1, .str p.2])) → TDs K H zs (ps.map encP)
  | [], [], _, _ => .nil
  | [], _ :: _, e, _ => by cases e
  | _ :: _, [], e, _ => by cases e
  | x :: xs, p :: ps, e, h => by
    obtain ⟨t, p', rfl, e2, e3⟩ := h 0 x rfl
    obtain rfl := Option.some.inj e2
    exact .cons (.tup (SqT.of e3) (.cons (.str _) (.cons (.str _) .nil))) (tds_pairs (Nat.succ.inj e) fun i v q => h (i + 1) v q)
def spFSleeper (K : PySem.W.Frag) : Sp := fun vs H Q _ => ∃ (d g : Addr) (most : Int), vs = [.ref d, .int most] ∧ Feed d g H ∧ 1 ≤ most ∧ most ≤ 5 ∧
  ∀ (H' : Hp) (o dk : Addr) (z : Zz), Feed d g H' → Kp d g H H' → H o = none → H dk = none → ZAt K H' o dk z → Zok z four → z.stir ≤ most → z.doze ≤ most → Q (.ref o) H'
def spDreamer (K : PySem.W.Frag) (C : Addr) : Sp := fun vs H Q _ => ∃ (o dk : Addr) (z : Zz), vs = [.ref o] ∧ ZAt K H o dk z ∧ Zin z ∧ (∀ p ∈ z.sorts, PyData.strOk p.1 = true) ∧ ∀ H' p, Same H H' → H p = none → SlpAt K C H' p z → Q (.ref p) H'
section
variable {P : Program} {w : World} {K : PySem.W.Frag} {mg : Str → Option Value} {base : Heap}
theorem c_sleeper (D : Df K mg "_law_sleeper" s_sleeper) (T : Tx K mg) (c_take : C8.Cal P w K mg base 1 "_law_take" spDraw []) (c_pick : C8.Cal P w K mg base 2 "_law_pick" (spPick K) []) (c_names : C8.Cal P w K mg base 1 "_law_names" spNames []) : C8.Cal P w K mg base 3 "_law_sleeper" (spFSleeper K) [] := by
  refine cal_mk D sc_sleeper bd_sleeper (fun vs H Q E h => ?_) fun f cdv A outer s H vs Q E hr h => ?_
  · obtain ⟨d, g, most, rfl, _⟩ := h
    rfl
  · obtain ⟨d, g, most, rfl, dl, m1, m5, k⟩ := h
    have line := sizeLine_eq
    have hu := hu_of hr
    refine ⟨_, (pss_cons (ps_set (i := 2) sc_sleeper.nd rfl (Or.inl rfl) pe_dnewK)
 (pss_cons (ps_for PassesOwn.never rfl (pi_list (Hb.pe_c0 c_names hr (by decide) rfl)) (pg_name (i := 3) sc_sleeper.nd rfl (Or.inl rfl))
 (pss_one (ps_if (pt_cmpR op_gt (C8.pe_c c_take hr (by decide) rfl (pa_cons (pv 0) (pa_cons pe_int pa_nil))) pe_int (by first | exact nomark _ | rfl))
 (pss_one (ps_dput hu (pv 2) (pv 3) (C8.pe_c c_pick hr (by decide) rfl (pa_cons (pv 0) (pa_cons (pe_lst (pa_cons pe_str (pa_cons pe_str (pa_cons pe_str (pa_cons pe_str (pa_cons pe_str (pa_cons pe_str pa_nil))))))) pa_nil))) rfl))
 pss_nil)))
 (pss_cons (ps_set (i := 4) sc_sleeper.nd rfl (Or.inl rfl) (pe_lst (pa_cons (pe_op op_add pe_int (C8.pe_c c_take hr (by decide) rfl (pa_cons (pv 0) (pa_cons (pv 1) pa_nil)))) (pa_cons (pe_op op_add pe_int (C8.pe_c c_take hr (by decide) rfl (pa_cons (pv 0) (pa_cons (pv 1) pa_nil)))) (pa_cons (pe_op op_add pe_int (C8.pe_c c_take hr (by decide) rfl (pa_cons (pv 0) (pa_cons pe_int pa_nil)))) pa_nil)))))
 (pss_one (ps_ret (pe_tup (pa_cons (pv 2) (pa_cons (pe_ix ix_list (pv 4) pe_int (fun _ _ => rfl)) (pa_cons (pe_ix ix_list (pv 4) pe_int (fun _ _ => rfl)) (pa_cons (pe_ix ix_list (pv 4) pe_int (fun _ _ => rfl)) (pa_cons (C8.pe_c c_pick hr (by decide) rfl (pa_cons (pv 0) (pa_cons (pe_lst (pa_cons pe_str (pa_cons pe_str (pa_cons pe_str pa_nil)))) pa_nil))) pa_nil))))))))))), ?_⟩
    intro dk ndk
    have s1 : Same H (upd H dk (.dK [])) := Same.new ndk
    have hd1 : upd H dk (.dK []) dk = some (.dK (skv [])) := upd_same
    generalize upd H dk (.dK []) = H1 at s1 hd1 ⊢
    refine ⟨rfl, fun H2 pn s2 npn hpn => ?_⟩
    have dl2 := (dl.same s1).same s2
    have pnd := ((dl.same s1).free npn)
    have k02 : Kp d g H H2 := Hb.Same.kp (s1.trans s2)
    have hd2 := s2 _ _ hd1
    have nkd := dl.free ndk
    have pnk : pn ≠ dk := (ne_of_none hd1 npn).symm
    refine ⟨pn, rfl, ⟨_, SqL.of hpn⟩, for_list (K := K) (a := pn) (xs := four.map V.str) (fun i σ H' => Feed d g H' ∧ Kp d g H H' ∧ (∃ v3 v4, σ = [some (.ref d), some (.int most), some (.ref dk), v3, v4]) ∧ H' pn = some (.lst (four.map V.str)) ∧ ∃ ps : List (Str × Str), H' dk = some (.dK (skv ps)) ∧ (ps.map Prod.fst).Sublist (four.take i) ∧ ∀ p ∈ ps, p.2 ∈ fourS)
      ⟨dl2, k02, ⟨_, _, rfl⟩, hpn, [], hd2, List.nil_sublist _, fun p hp => nomatch hp⟩ (fun i σ H' _ y => SqL.of y.2.2.2.1) ?_ ?_⟩
    · rintro i v σ H3 hv ⟨dl3, k3, ⟨v3, v4, rfl⟩, hp3, ps, hd3, sub, srt⟩
      rw [List.getElem?_map] at hv
      obtain ⟨nm, hnm, rfl⟩ := Option.map_eq_some_iff.mp hv
      have nx : four.take (i + 1) = four.take i ++ [nm] := by rw [List.take_add_one, hnm]; rfl
      refine ⟨_, rfl, d, g, 5, rfl, dl3, by decide, by decide, fun H4 r dl4 k4 _ _ => ⟨_, _, rfl, rfl, _, rfl, ?_⟩⟩
      have hp4 := k4 _ _ pnd.1 pnd.2 hp3
      have hd4 := k4 _ _ nkd.1 nkd.2 hd3
      have nm_new : nm ∉ ps.map Prod.fst := fun m => by
        have m2 := sub.subset m
        have : (four.take i ++ [nm]).Nodup := by rw [← nx]; exact four_nd.sublist (List.take_sublist _ _)
        exact (List.nodup_append.mp this).2.2 nm m2 nm (by simp) rfl
      have plen : ps.length ≤ 4 := by
        have a := sub.length_le
        rw [List.length_map, List.length_take] at a
        have : four.length = 4 := rfl
        omega
      refine ite2 (fun _ => ?_) (fun _ => ⟨dl4, k3.trans k4, ⟨_, _, rfl⟩, hp4, ps, hd4, by rw [nx]; exact sub.trans (List.sublist_append_left _ _), srt⟩)
      refine ⟨_, rfl, by show 6 ≤ sizeLine; omega, fun l nl => ?_⟩
      have s5 : Same H4 (upd H4 l (.lst [.str "soft", .str "soft", .str "sudden", .str "sudden", .str "faint", .str "loud"])) := Same.new nl
      refine ⟨d, g, l, _, rfl, dl4.same s5, .inl ⟨upd_same, (dl4.free nl).2⟩, by simp, by show 6 < 1000000; decide, fun H6 v hv dl6 k6 => ?_⟩
      obtain ⟨so, hso, rfl⟩ : ∃ so ∈ fourS, v = V.str so := by
        have hv2 : v ∈ (["soft", "soft", "sudden", "sudden", "faint", "loud"] : List Str).map V.str := hv
        obtain ⟨so, h1, h2⟩ := List.mem_map.mp hv2
        refine ⟨so, ?_, h2.symm⟩
        simp only [List.mem_cons, List.not_mem_nil, or_false] at h1
        rcases h1 with rfl | rfl | rfl | rfl | rfl | rfl <;> decide +kernel
      have k46 := (Hb.Same.kp s5).trans k6
      have hp6 := k46 _ _ pnd.1 pnd.2 hp4
      have hd6 := k46 _ _ nkd.1 nkd.2 hd4
      refine ⟨_, rfl, _, rfl, dk, _, rfl, DPut.k (k := Sum.inr nm) hd6 (by show (ps.map _).length < _; rw [List.length_map]; omega), ?_⟩
      rw [putK_new nm_new]
      refine ⟨?_, acc_kp ((k3.trans k4).trans k46) ndk, ⟨_, _, rfl⟩, by rw [upd_ne pnk]; exact hp6, ps ++ [(nm, so)], upd_same, ?_, fun p hp => ?_⟩
      · exact dl6.set nkd.1 nkd.2
      · rw [nx, List.map_append]
        exact sub.append (List.Sublist.refl _)
      · rcases List.mem_append.mp hp with hp | hp
        · exact srt p hp
        · rw [List.mem_singleton.mp hp]
          exact hso
    · rintro σ H3 ⟨dl3, k3, ⟨v3, v4, rfl⟩, hp3, ps, hd3, sub, srt⟩
      rw [List.length_map, List.take_length] at sub
      refine ⟨_, rfl, _, rfl, d, g, most, rfl, dl3, by omega, by omega, fun H4 a dl4 k4 a0 a1 => ⟨_, _, rfl, rfl, ?_⟩⟩
      refine ⟨_, rfl, _, rfl, d, g, most, rfl, dl4, by omega, by omega, fun H5 b dl5 k5 b0 b1 => ⟨_, _, rfl, rfl, ?_⟩⟩
      refine ⟨_, rfl, d, g, 2, rfl, dl5, by decide, by decide, fun H6 c dl6 k6 c0 c1 => ⟨_, _, rfl, rfl, by show 3 ≤ sizeLine; omega, fun tl ntl => ?_⟩⟩
      have s7 : Same H6 (upd H6 tl (.lst [.int (1 + a), .int (1 + b), .int (1 + c)])) := Same.new ntl
      have htl : upd H6 tl (.lst [.int (1 + a), .int (1 + b), .int (1 + c)]) tl = some (.lst [.int (1 + a), .int (1 + b), .int (1 + c)]) := upd_same
      have hd7 := s7 _ _ (k6 _ _ nkd.1 nkd.2 (k5 _ _ nkd.1 nkd.2 (k4 _ _ nkd.1 nkd.2 hd3)))
      have k7 : Kp d g H (upd H6 tl (.lst [.int (1 + a), .int (1 + b), .int (1 + c)])) := (((k3.trans k4).trans k5).trans k6).trans (Hb.Same.kp s7)
      have dl7 := dl6.same s7
      generalize upd H6 tl (.lst [.int (1 + a), .int (1 + b), .int (1 + c)]) = H7 at s7 htl hd7 k7 dl7 ⊢
      refine ⟨_, rfl, _, rfl, tl, _, 0, _, rfl, rfl, SqL.of htl, rfl, _, rfl, tl, _, 1, _, rfl, rfl, SqL.of htl, rfl, _, rfl, tl, _, 2, _, rfl, rfl, SqL.of htl, rfl, ?_⟩
      refine ⟨_, rfl, by show 3 ≤ sizeLine; omega, fun l nl => ?_⟩
      have s8 : Same H7 (upd H7 l (.lst [.str "again", .str "nothing", .str "wake"])) := Same.new nl
      refine ⟨d, g, l, _, rfl, dl7.same s8, .inl ⟨upd_same, (dl7.free nl).2⟩, by simp, by show 3 < 1000000; decide, fun H8 v hv dl8 k8 => ?_⟩
      obtain ⟨lo, hlo, rfl⟩ : ∃ lo ∈ threeS, v = V.str lo := by
        have hv2 : v ∈ (["again", "nothing", "wake"] : List Str).map V.str := hv
        obtain ⟨so, h1, h2⟩ := List.mem_map.mp hv2
        refine ⟨so, ?_, h2.symm⟩
        simp only [List.mem_cons, List.not_mem_nil, or_false] at h1
        rcases h1 with rfl | rfl | rfl <;> decide +kernel
      have k78 := (Hb.Same.kp s8).trans k8
      have hd8 := k78 _ _ nkd.1 nkd.2 hd7
      refine ⟨by show 5 ≤ sizeLine; omega, fun o no => ?_⟩
      have s9 : Same H8 (upd H8 o (.tup [.ref dk, .int (1 + a), .int (1 + b), .int (1 + c), .str lo])) := Same.new no
      have inw : ∀ p ∈ ps, p.1 ∈ four := fun p hp => sub.subset (List.mem_map_of_mem hp)
      refine k _ o dk ⟨ps, 1 + a, 1 + b, 1 + c, lo⟩ (dl8.same s9) ((k7.trans k78).trans (Hb.Same.kp s9)) (dl8.kfree (k7.trans k78) no) ndk ⟨SqT.of upd_same, s9 _ _ hd8⟩
        ⟨four_nd.sublist sub, inw, fun p hp => ⟨four_ok _ (inw p hp), (four_nm _ (inw p hp)).1⟩, srt, ?_, (by omega : (1 : Int) ≤ 1 + a), (by omega : 1 + a ≤ 5), (by omega : (1 : Int) ≤ 1 + b), (by omega : 1 + b ≤ 5), (by omega : (1 : Int) ≤ 1 + c), (by omega : 1 + c ≤ 2), hlo⟩ (by omega : 1 + a ≤ most) (by omega : 1 + b ≤ most)
      · have a := sub.length_le
        rw [List.length_map] at a
        have : four.length = 4 := rfl
        show ps.length ≤ 8
        omega
theorem c_dreamer (D : Df K mg "_law_dreamer" s_dreamer) (T : Tx K mg) (m_Sleeper : C8.Mak P w K mg base 4 "Sleeper" (He.ga K "Sleeper") (spInit K (He.ga K "Sleeper")) []) : C8.Cal P w K mg base 6 "_law_dreamer" (spDreamer K (He.ga K "Sleeper")) [] := by
  refine cal_mk D sc_dreamer bd_dreamer (fun vs H Q E h => ?_) fun f cdv A outer s H vs Q E hr h => ?_
  · obtain ⟨o, dk, z, rfl, _⟩ := h
    rfl
  · obtain ⟨o, dk, z, rfl, hz, zin, sok, k⟩ := h
    have line := sizeLine_eq
    have hu := hu_of hr
    refine ⟨_, (pss_one (ps_ret (C8.pe_mk m_Sleeper hr (by decide) rfl (pa_cons (pe_lock (pe_lc (own := [("_law_name", 1)]) (by rfl) sc_dreamer.nd (pi_keys (pe_ix ix_tup (pv 0) pe_int (fun _ _ => rfl))) (blkOk_by (N := N_dreamer) (sc := defScope s_dreamer) (by decide +kernel)) (fun _ _ _ _ _ => (pg_name (i := 1) sc_dreamer.nd rfl (Or.inl rfl))) (fun _ _ _ _ _ => pts_nil) (fun _ _ _ _ _ => (pe_tup (pa_cons (pv 1) (pa_cons (pe_dget hu (pe_ix (show IxR _ (rIxT K) from ix_tup) (pv 0) pe_int (fun _ _ => rfl)) (pv 1) (fun _ _ => rfl)) pa_nil)))))) (pa_cons (pe_ix ix_tup (pv 0) pe_int (fun _ _ => rfl)) (pa_cons (pe_ix ix_tup (pv 0) pe_int (fun _ _ => rfl)) (pa_cons (pe_ix ix_tup (pv 0) pe_int (fun _ _ => rfl)) (pa_cons (pe_ix ix_tup (pv 0) pe_int (fun _ _ => rfl)) pa_nil)))))))), ?_⟩
    refine ⟨dk, _, hz.hd, trivial, fun od => ?_⟩
    have tk0 : TK H (upd H dk (.frz od (.dK (skv z.sorts)))) := ⟨fun b xs e => by rw [upd_ne (ne_of e hz.hd (by intro q; cases q))]; exact e, fun b o u e => by rw [upd_ne (ne_of e hz.hd (by intro q; cases q))]; exact e⟩
    have hoL := SqT.keep tk0 hz.ho
    have back : ∀ b u, b ≠ dk → H b = some u → upd H dk (.frz od (.dK (skv z.sorts))) b = some u := fun b u n e => by rw [upd_ne n]; exact e
    have hdL : upd H dk (.frz od (.dK (skv z.sorts))) dk = some (.frz od (.dK (skv z.sorts))) := upd_same
    have nn : ∀ b, upd H dk (.frz od (.dK (skv z.sorts))) b = none → H b = none := fun b e => none_upd e
    generalize upd H dk (.frz od (.dK (skv z.sorts))) = HL at hoL back hdL nn ⊢
    have sl : (skv z.sorts).length = z.sorts.length := List.length_map _
    have few := zin.few
    refine ⟨_, rfl, o, _, 0, _, rfl, rfl, hoL, rfl, dk, od, rfl, .inl ⟨skv z.sorts, hdL, fun D nD => lc_it walk_keys (fun i H' => Same HL H' ∧ ∃ zs, H' D = some (.lst zs) ∧ zs.length = i ∧ ∀ (j : Nat) (v : V), zs[j]? = some v → ∃ (t : Addr) (p : Str × Str), v = .ref t ∧ z.sorts[j]? = some p ∧ H' t = some (.tup [.str p.1, .str p.2])) ⟨Same.new nD, [], upd_same, rfl, fun j v e => nomatch e⟩ (fun i H' _ y => y.1 _ _ hdL) ?_ ?_⟩⟩
    · rintro i v H1 H2 hi ⟨s1, zs, hD, zl, at_⟩ ⟨e0, kk, vv, hkv, rfl⟩
      unfold skv at hkv
      rw [List.getElem?_map] at hkv
      obtain ⟨p, hp, e⟩ := Option.map_eq_some_iff.mp hkv
      cases e
      have il := (List.getElem?_eq_some_iff.mp hp).1
      rw [e0]
      clear e0 H2
      refine ⟨rfl, yes_ ⟨_, rfl, _, rfl, o, _, 0, _, rfl, rfl, SqT.keep (Same.tk s1) hoL, rfl, _, rfl, dk, V.str p.2, rfl, .inl ⟨skv z.sorts, Sum.inr p.1, .inr ⟨od, s1 _ _ hdL⟩, rfl, (valV_skv zin.nd hp).symm⟩, by show 2 ≤ sizeLine; omega, fun t nt => ?_⟩⟩
      have s2 : Same H1 (upd H1 t (.tup [.str p.1, .str p.2])) := Same.new nt
      have tD : t ≠ D := (ne_of_none hD nt).symm
      refine ⟨zs, s2 _ _ hD, by omega, Hb.Same.acc (s1.trans s2) nD, _, upd_same, by rw [List.length_append, zl]; rfl, fun j v e => ?_⟩
      by_cases c : j < zs.length
      · rw [List.getElem?_append_left c] at e
        obtain ⟨t', p', rfl, e2, e3⟩ := at_ j v e
        exact ⟨t', p', rfl, e2, by rw [upd_ne (ne_of e3 hD (by intro q; cases q))]; exact s2 _ _ e3⟩
      · have cj : j = i := by
          have := (List.getElem?_eq_some_iff.mp e).1
          rw [List.length_append] at this
          have : ([V.ref t] : List V).length = 1 := rfl
          omega
        subst cj
        rw [List.getElem?_append_right (by omega), zl, Nat.sub_self] at e
        obtain rfl := Option.some.inj e
        exact ⟨t, p, rfl, hp, by rw [upd_ne tD]; exact upd_same⟩
    · rintro H1 ⟨s1, zs, hD, zl, at_⟩
      rw [sl] at zl
      have hd1 := s1 _ _ hdL
      refine ⟨hd1, ?_⟩
      have nDk : D ≠ dk := fun e => by rw [e, hd1] at hD; cases hD
      have sF : Same H (upd H1 dk (.dK (skv z.sorts))) := fun b u e => by
        by_cases c : b = dk
        · rw [c, upd_same]
          rw [c, hz.hd] at e
          exact e
        · rw [upd_ne c]
          exact s1 _ _ (back b u c e)
      have hDF : upd H1 dk (.dK (skv z.sorts)) D = some (.lst zs) := by rw [upd_ne nDk]; exact hD
      have tdF : TDs K (upd H1 dk (.dK (skv z.sorts))) zs (z.sorts.map encP) := tds_pairs zl fun j v e => by
        obtain ⟨t, p, e1, e2, e3⟩ := at_ j v e
        exact ⟨t, p, e1, e2, by rw [upd_ne (ne_of e3 hd1 (by intro q; cases q))]; exact e3⟩
      generalize upd H1 dk (.dK (skv z.sorts)) = HF at sF hDF tdF ⊢
      have hoF := SqT.keep (Same.tk sF) hz.ho
      refine ⟨_, rfl, o, _, 1, _, rfl, rfl, hoF, rfl, _, rfl, o, _, 2, _, rfl, rfl, hoF, rfl, _, rfl, o, _, 3, _, rfl, rfl, hoF, rfl, _, rfl, o, _, 4, _, rfl, rfl, hoF, rfl, ?_⟩
      intro x dx nx ndx ne
      have s2 : Same HF (upd (upd HF dx (.own x)) x (.ins (He.ga K "Sleeper") dx [])) := fun b u e => by
        rw [upd_ne (ne_of_none e nx), upd_ne (ne_of_none e ndx)]
        exact e
      exact ⟨x, dx, D, zs, z, rfl, upd_same, .inl (SqL.of (s2 _ _ hDF)), TDs.keep (Same.tk s2) tdF, zin, fun H' kp hs => ⟨rfl, k H' x (fun b u e => kp b u (ne_of_none (sF _ _ e) nx) (s2 _ _ (sF _ _ e))) (sF.free nx) hs⟩⟩
end
end Lw
set_option Elab.async false
set_option linter.all false
set_option maxRecDepth 100000
set_option maxHeartbeats 8000000
namespace Lw
open PySem PySem.Spec PyProof.Rows L2 Hb
/-! ### walks of guests and their play -/
def toEv : Fe → Ev
  | .tick => .tick
  | .step p s => .step p s.n
theorem fe_lits : ∀ p ∈ List.range 16, ∀ n ∈ List.range 16, ((("step " : Str) ++ ((toString (p : Int) : String) : Str)) ++ (" " : Str) ++ ((toString (n : Int) : String) : Str)) = evT (.step (p : Int) (n : Int)) := by decide +kernel
theorem feT_ev {e : Fe} (h : ∀ p s, e = .step p s → (0 ≤ p ∧ p < 16) ∧ 0 ≤ s.n ∧ s.n < 16) : feT e = evT (toEv e) := by
  cases e with
  | tick => exact tick_T.symm
  | step p s =>
    obtain ⟨⟨a, b⟩, c, d⟩ := h p s rfl
    obtain ⟨i, hi⟩ := Int.eq_ofNat_of_zero_le a
    obtain ⟨j, hj⟩ := Int.eq_ofNat_of_zero_le c
    have := fe_lits i (List.mem_range.mpr (by omega)) j (List.mem_range.mpr (by omega))
    rw [← hi, ← hj] at this
    exact this
theorem mem_steps2 {h : Hz} {s : Stp} (m : s ∈ allSteps h) : ∃ (i : Nat) (d : Dr), h.doors[i]? = some d ∧ s.n = (i : Nat) ∧ ((s.ri = d.2.1 ∧ s.le = d.1 ∧ s.ns = nzStep h d d.2.1) ∨ (s.ri = d.1 ∧ s.le = d.2.1 ∧ s.ns = nzStep h d d.1)) := by
  have go : ∀ m, m ≤ h.doors.length → ∀ s ∈ stepsTo h m, ∃ (i : Nat) (d : Dr), h.doors[i]? = some d ∧ s.n = (i : Nat) ∧ ((s.ri = d.2.1 ∧ s.le = d.1 ∧ s.ns = nzStep h d d.2.1) ∨ (s.ri = d.1 ∧ s.le = d.2.1 ∧ s.ns = nzStep h d d.1)) := by
    intro m
    induction m with
    | zero => exact fun _ s hs => nomatch hs
    | succ m ih =>
      intro hm s hs
      have e := List.getElem?_eq_getElem (show m < h.doors.length by omega)
      rw [steps_next e] at hs
      rcases List.mem_append.mp hs with hs | hs
      · exact ih (by omega) s hs
      · simp only [stepsAt, List.mem_cons, List.not_mem_nil, or_false] at hs
        rcases hs with rfl | rfl
        · exact ⟨m, _, e, rfl, .inl ⟨rfl, rfl, rfl⟩⟩
        · exact ⟨m, _, e, rfl, .inr ⟨rfl, rfl, rfl⟩⟩
  exact go _ (Nat.le_refl _) s m
/-! the noises made, by ticks -/
def oneM (l : List Str) (n : Str) : List Str := if n ∈ l then l else l ++ [n]
def addM (ls : List (List Str)) (x : Int × Str) : List (List Str) := ls.set x.1.toNat (oneM (ls.getD x.1.toNat []) x.2)
def lotsM (k : Nat) (md : List (Int × Str)) : List (List Str) := md.foldl addM (List.replicate k [])
theorem addM_len (ls : List (List Str)) (x : Int × Str) : (addM ls x).length = ls.length := List.length_set
theorem foldM_len : ∀ (md : List (Int × Str)) (ls : List (List Str)), (md.foldl addM ls).length = ls.length
  | [], _ => rfl
  | x :: md, ls => (foldM_len md (addM ls x)).trans (addM_len ls x)
theorem lotsM_len (k : Nat) (md : List (Int × Str)) : (lotsM k md).length = k := by
  unfold lotsM
  rw [foldM_len, List.length_replicate]
theorem addM_app {ls : List (List Str)} {x : Int × Str} (h : x.1.toNat < ls.length) (t : List (List Str)) : addM (ls ++ t) x = addM ls x ++ t := by
  unfold addM
  rw [List.set_append_left _ _ h, List.getD_eq_getElem?_getD, List.getD_eq_getElem?_getD, List.getElem?_append_left h]
theorem foldM_app : ∀ (md : List (Int × Str)) (ls t : List (List Str)), (∀ x ∈ md, x.1.toNat < ls.length) → md.foldl addM (ls ++ t) = md.foldl addM ls ++ t
  | [], _, _, _ => rfl
  | x :: md, ls, t, h => by
    show md.foldl addM (addM (ls ++ t) x) = md.foldl addM (addM ls x) ++ t
    rw [addM_app (h x List.mem_cons_self), foldM_app md _ t fun y hy => by rw [addM_len]; exact h y (List.mem_cons_of_mem _ hy)]
theorem lotsM_tick {k : Nat} {md : List (Int × Str)} (h : ∀ x ∈ md, x.1.toNat < k) : lotsM (k + 1) md = lotsM k md ++ [[]] := by
  unfold lotsM
  rw [List.replicate_succ', foldM_app md _ _ fun x hx => by rw [List.length_replicate]; exact h x hx]
theorem addM_last (ls : List (List Str)) (c : List Str) (n : Str) {t : Int} (e : t = (ls.length : Nat)) : addM (ls ++ [c]) (t, n) = ls ++ [oneM c n] := by
  subst e
  unfold addM
  simp [List.getD_eq_getElem?_getD]
theorem foldM_last (ls : List (List Str)) {t : Int} (e : t = (ls.length : Nat)) : ∀ (ns c : List Str), (ns.map (Prod.mk t)).foldl addM (ls ++ [c]) = ls ++ [ns.foldl oneM c]
  | [], _ => rfl
  | n :: ns, c => by
    show (ns.map (Prod.mk t)).foldl addM (addM (ls ++ [c]) (t, n)) = _
    rw [addM_last ls c n e, foldM_last ls e ns]
    rfl
theorem one_new {cu ns : List Str} (l : ns.length ≤ 2) : ns.foldl oneM cu = cu ++ newN cu ns := by
  match ns, l with
  | [], _ => simp [newN]
  | [a], _ =>
    by_cases c : a ∈ cu <;> simp [newN, oneM, c]
  | [a, b], _ =>
    by_cases c : a ∈ cu <;> by_cases d : b ∈ cu <;> by_cases e : b = a <;> simp [newN, oneM, c, d, e, List.zipIdx] <;> grind
/-- the walk so far, and its play -/
structure GP (h : Hz) (w : Gw) (W : Wd) (m : Nat) : Prop where
  pl : W.pl = w.pl
  sp : W.sp = w.mv
  tk : W.tk = (w.ls.length : Nat)
  lo : lotsM (w.ls.length + 1) W.md = w.ls ++ [w.cu]
  md : ∀ x ∈ W.md, 0 ≤ x.1 ∧ x.1.toNat < w.ls.length + 1
  ml : W.md.length ≤ 2 * m
theorem GP.zero (h : Hz) (z : Zz) (k : Nat) (f : Str) : GP h (wk0 k) (wd0 z (k : Int) f) 0 := ⟨by show List.replicate ((k : Int)).toNat 0 = _; rw [Int.toNat_natCast]; rfl, rfl, rfl, rfl, (fun x hx => nomatch hx), Nat.le_refl _⟩
theorem GP.go {h : Hz} {z : Zz} {w : Gw} {W : Wd} {e : Fe} {m : Nat} (dne : ∀ x ∈ h.doors, x.1 ≠ x.2.1) (x : GP h w W m) (c : CanFe h w e) : GP h (doFe w e) (goEv h z W (toEv e)) (m + 1) ∧ ∀ g, CanEv h g W (toEv e) := by
  cases e with
  | tick =>
    refine ⟨⟨x.pl, rfl, ?_, ?_, fun y hy => ?_, by have := x.ml; show W.md.length ≤ _; omega⟩, fun g => trivial⟩
    · show W.tk + 1 = ((w.ls ++ [w.cu]).length : Nat)
      rw [List.length_append, x.tk]
      rfl
    · show lotsM ((w.ls ++ [w.cu]).length + 1) W.md = (w.ls ++ [w.cu]) ++ [[]]
      rw [show (w.ls ++ [w.cu]).length = w.ls.length + 1 by rw [List.length_append]; rfl, lotsM_tick fun y hy => (x.md y hy).2, x.lo]
    · have := x.md y hy
      exact ⟨this.1, by show _ < (w.ls ++ [w.cu]).length + 1; rw [List.length_append]; show _ < w.ls.length + 1 + 1; omega⟩
  | step p s =>
    obtain ⟨⟨p0, p1⟩, pm, ms, el⟩ := c
    obtain ⟨i, d, hd, hn, alt⟩ := mem_steps2 ms
    have dn := dne d (List.mem_of_getElem? hd)
    have hi : i < h.doors.length := (List.getElem?_eq_some_iff.mp hd).1
    have ed : doorAt h s.n = d := by
      unfold doorAt
      rw [hn, Int.toNat_natCast, List.getD_eq_getElem?_getD, hd]
      rfl
    have epl : placeAt W p = s.le := by
      rw [el]
      unfold placeAt placeOf
      rw [x.pl]
    have eri : behindD d s.le = s.ri := by
      unfold behindD
      rcases alt with ⟨a, b, _⟩ | ⟨a, b, _⟩
      · rw [if_pos b, a]
      · rw [if_neg (fun z => dn (by rw [← z, b])), a]
    have ens : nzStep h d s.ri = s.ns := by
      rcases alt with ⟨a, _, b⟩ | ⟨a, _, b⟩ <;> rw [a, b]
    have l2 := steps_le2 ms
    have emd : (goEv h z W (toEv (.step p s))).md = W.md ++ s.ns.map (Prod.mk W.tk) := by
      show W.md ++ List.map (Prod.mk W.tk) (nzStep h (doorAt h s.n) (behindD (doorAt h s.n) (placeAt W p))) = _
      rw [ed, epl, eri, ens]
    refine ⟨⟨?_, ?_, x.tk, ?_, fun y hy => ?_, ?_⟩, fun g => ⟨?_, ?_, ?_, ?_⟩⟩
    · show W.pl.set p.toNat (behindD (doorAt h s.n) (placeAt W p)) = w.pl.set p.toNat s.ri
      rw [ed, epl, eri, x.pl]
    · show W.sp ++ [p] = w.mv ++ [p]
      rw [x.sp]
    · show lotsM (w.ls.length + 1) _ = w.ls ++ [w.cu ++ newN w.cu s.ns]
      rw [emd]
      unfold lotsM
      rw [List.foldl_append]
      have := x.lo
      unfold lotsM at this
      rw [this, foldM_last w.ls x.tk, one_new l2]
    · rw [emd] at hy
      show 0 ≤ y.1 ∧ y.1.toNat < w.ls.length + 1
      rcases List.mem_append.mp hy with hy | hy
      · exact x.md y hy
      · obtain ⟨n, _, rfl⟩ := List.mem_map.mp hy
        have := x.tk
        exact ⟨by show 0 ≤ W.tk; omega, by show W.tk.toNat < _; omega⟩
    · rw [emd, List.length_append, List.length_map]
      have := x.ml
      omega
    · rw [x.pl]
      exact ⟨p0, p1⟩
    · rw [hn]
      exact ⟨by omega, by omega⟩
    · rw [x.sp]
      exact pm
    · rw [ed, epl]
      rcases alt with ⟨_, b, _⟩ | ⟨_, b, _⟩
      · exact .inl b
      · exact .inr b
theorem GP.run {h : Hz} {z : Zz} (dne : ∀ x ∈ h.doors, x.1 ≠ x.2.1) : ∀ {es : List Fe} {w : Gw} {W : Wd} {m : Nat}, GP h w W m → PossFe h w es → GP h (runFe w es) (runEv h z W (es.map toEv)) (m + es.length) ∧ ∀ g, Poss h z g W (es.map toEv)
  | [], _, _, _, x, _ => ⟨x, fun _ => trivial⟩
  | e :: es, w, W, m, x, p => by
    obtain ⟨a, b⟩ := x.go (z := z) dne p.1
    obtain ⟨c, d⟩ := GP.run dne (es := es) a p.2
    refine ⟨?_, fun g => ⟨b g, d g⟩⟩
    rw [List.length_cons, show m + (es.length + 1) = m + 1 + es.length by omega]
    exact c
theorem poss_few {h : Hz} (hw : HwOk h) {k : Nat} : ∀ {es : List Fe} {w : Gw}, w.pl.length = k → PossFe h w es → ∀ e ∈ es, ∀ p s, e = Fe.step p s → (0 ≤ p ∧ p < (k : Nat)) ∧ 0 ≤ s.n ∧ s.n ≤ 7 ∧ s ∈ allSteps h
  | [], _, _, _, e, m, _, _, _ => nomatch m
  | e0 :: es, w, l, ps, e, m, p, s, q => by
    rcases List.mem_cons.mp m with rfl | m
    · subst q
      obtain ⟨⟨a, b⟩, _, c, _⟩ := ps.1
      have := step_num hw c
      exact ⟨⟨a, by omega⟩, this.1, this.2, c⟩
    · refine poss_few hw (es := es) (w := doFe w e0) ?_ ps.2 e m p s q
      cases e0 with
      | tick => exact l
      | step p s =>
        show (w.pl.set p.toNat s.ri).length = k
        rw [List.length_set]
        exact l
end Lw
set_option Elab.async false
set_option linter.all false
set_option maxRecDepth 100000
set_option maxHeartbeats 8000000
namespace Lw
open PySem PySem.Spec PyProof.Rows L2 Hb
def spLotsOf (K : PySem.W.Frag) (C : Addr) : Sp := fun vs H Q _ => ∃ (p : Addr) (W : Wd), vs = [.ref p] ∧ PlAt K C H p W ∧ 0 ≤ W.tk ∧ W.tk ≤ 200 ∧ (∀ x ∈ W.md, 0 ≤ x.1 ∧ x.1.toNat < W.tk.toNat + 1) ∧ W.md.length ≤ 1000 ∧
  ∀ H' q xs, Same H H' → H q = none → H' q = some (.lst xs) → LotsN K H H' xs (lotsM (W.tk.toNat + 1) W.md) → Q (.ref q) H'
section
variable {P : Program} {w : World} {K : PySem.W.Frag} {mg : Str → Option Value} {base : Heap}
theorem c_lots_of (D : Df K mg "_law_lots_of" s_lots_of) (T : Tx K mg) : C8.Cal P w K mg base 1 "_law_lots_of" (spLotsOf K (He.ga K "Played")) [] := by
  refine cal_mk D sc_lots_of bd_lots_of (fun vs H Q E h => ?_) fun f cdv A outer s H vs Q E hr h => ?_
  · obtain ⟨p, W, rfl, _⟩ := h
    rfl
  · obtain ⟨p, W, rfl, hp, t0, t1, mt, mfew, k⟩ := h
    have line := sizeLine_eq
    obtain ⟨dx, sv, pl, md, xs, hO, hst, hpl, hmd, tmd⟩ := id hp
    refine ⟨_, (pss_cons (ps_setLc (i := 1) (own := [("_law_turn", 2)]) (by rfl) sc_lots_of.nd rfl rfl (sw_true rfl rfl rfl (by decide +kernel)) (pi_range1 (by rfl) T.n_range (pa_cons (pe_op op_add (pe_fld (pv 0) rfl) pe_int) pa_nil)) (blkOk_by (N := N_lots_of) (sc := defScope s_lots_of) (by decide +kernel)) (fun _ _ _ _ _ => (pg_name (i := 2) sc_lots_of.nd rfl (Or.inl rfl))) (fun _ _ _ _ _ => pts_nil) (fun _ _ _ _ _ => (pe_lst pa_nil)))
 (pss_cons (ps_for PassesOwn.never rfl (pi_tup (pe_fld (pv 0) rfl)) (pg_tup (by rfl) (pgs_cons (pg_name (i := 3) sc_lots_of.nd rfl (Or.inl rfl)) (pgs_cons (pg_name (i := 4) sc_lots_of.nd rfl (Or.inl rfl)) pgs_nil)))
 (pss_one (ps_expr (pe_bm PySem.F.plainAttrs_list PySem.F.slot_list_extend PySem.F.type_list_extend mt_extend (pe_ix ix_list (pv 1) (pv 3) (fun _ _ => rfl)) (pa_cons (pe_ifExp (pt_cmpR op_notIn_seq (pv 4) (pe_ix ix_list (pv 1) (pv 3) (fun _ _ => rfl)) (by first | exact nomark _ | rfl)) (pe_lst (pa_cons (pv 4) pa_nil)) (pe_lst pa_nil)) pa_nil)))))
 (pss_one (ps_ret (pv 1))))), ?_⟩
    refine ⟨_, rfl, p, _, dx, _, _, rfl, hO, T.cls_Played, T.p_ticks, rfl, _, _, rfl, rfl, W.tk + 1, rfl, by omega, by omega, fun DL nDL => lc_range (lo := 0) (n := (W.tk + 1).toNat) (fun i H' => Same H H' ∧ ∃ zs, H' DL = some (.lst zs) ∧ LotsN K H H' zs (List.replicate i []) ∧ zs.Nodup ∧ ∀ c, V.ref c ∈ zs → c ≠ DL) ⟨Same.new nDL, [], upd_same, ⟨rfl, fun i v e => nomatch e⟩, .nil, fun c hc => nomatch hc⟩ ?_ ?_⟩
    · rintro i H1 hi ⟨s1, zs, hD, ln, nd, nD⟩
      have zl := ln.len
      rw [List.length_replicate] at zl
      refine ⟨rfl, yes_ ⟨Nat.zero_le _, fun c nc => ?_⟩⟩
      have s2 : Same H1 (upd H1 c (.lst [])) := Same.new nc
      have hD2 := s2 _ _ hD
      have nc0 := s1.free nc
      have cD : c ≠ DL := (ne_of_none hD nc).symm
      have hc2 : upd H1 c (.lst []) c = some (.lst (([] : List Str).map V.str)) := upd_same
      have ln2 := ln.same s2
      have old : ∀ b, V.ref b ∈ zs → b ≠ c := fun b hb => by
        obtain ⟨j, hj⟩ := List.mem_iff_getElem?.mp hb
        obtain ⟨a, ms, e1, _, e3, _⟩ := ln.at_ j _ hj
        cases e1
        exact ne_of_none e3 nc
      generalize upd H1 c (.lst []) = H2 at s2 hD2 ln2 hc2 ⊢
      refine ⟨zs, hD2, by omega, Hb.Same.acc (s1.trans s2) nDL, zs ++ [.ref c], upd_same, ?_, ?_, ?_⟩
      · rw [List.replicate_succ']
        exact (ln2.put nD).app (by rw [upd_ne cD]; exact hc2) nc0
      · refine List.nodup_append.mpr ⟨nd, by simp, fun a ha b hb e => ?_⟩
        rw [List.mem_singleton.mp hb] at e
        rw [e] at ha
        exact old c ha rfl
      · intro b hb
        rcases List.mem_append.mp hb with hb | hb
        · exact nD b hb
        · cases List.mem_singleton.mp hb
          exact cD
    · rintro H1 ⟨s1, zs, hD, ln, nd, nD⟩
      have en : (W.tk + 1).toNat = W.tk.toNat + 1 := by omega
      rw [en] at ln
      have zl := ln.len
      rw [List.length_replicate] at zl
      have hO1 := s1 _ _ hO
      refine ⟨_, rfl, p, _, dx, _, _, rfl, hO1, T.cls_Played, T.p_made, rfl, md, rfl, ⟨_, SqT.keep (Same.tk s1) hmd⟩, for_tup (K := K) (a := md) (xs := xs) (fun i σ H' => Same H H' ∧ (∃ v2 v3 v4, σ = [some (.ref p), some (.ref DL), v2, v3, v4]) ∧ H' DL = some (.lst zs) ∧ ∃ ls, LotsN K H H' zs ls ∧ ls = (W.md.take i).foldl addM (List.replicate (W.tk.toNat + 1) []) ∧ ∀ l ∈ ls, l.length ≤ i)
        ⟨s1, ⟨_, _, _, rfl⟩, hD, _, ln, rfl, fun l hl => by rw [(List.mem_replicate.mp hl).2]; exact Nat.le_refl _⟩ (fun i σ H' _ y => SqT.keep (Same.tk y.1) hmd) ?_ ?_⟩
      · rintro i v σ H2 hv ⟨s2, ⟨v2, v3, v4, rfl⟩, hD2, ls, ln2, el, lf⟩
        obtain ⟨x, hx, tdx⟩ := TDs.at_map (TDs.keep (Same.tk s2) tmd) hv
        obtain ⟨t, ws, rfl, ht, tds⟩ := TD.tup_inv tdx
        obtain ⟨u1, w1, rfl, a1, b1⟩ := TDs.cons_inv tds
        obtain ⟨u2, w2, rfl, a2, b2⟩ := TDs.cons_inv b1
        obtain rfl := TDs.nil_inv b2
        obtain rfl := TD.int_inv a1
        obtain rfl := TD.str_inv a2
        obtain ⟨x0, x1⟩ := mt x (List.mem_of_getElem? hx)
        have il := (List.getElem?_eq_some_iff.mp hx).1
        have lsl : ls.length = W.tk.toNat + 1 := by rw [el, foldM_len, List.length_replicate]
        have alt : x.1.toNat < zs.length := by rw [ln2.len, lsl]; exact x1
        obtain ⟨c, ms, ez, ems, hc, nc0⟩ := ln2.at_ x.1.toNat _ (List.getElem?_eq_getElem alt)
        have ec : zs[x.1.toNat]? = some (.ref c) := by rw [List.getElem?_eq_getElem alt, ez]
        have at_at : atI zs x.1 = some (.ref c) := by
          have q := atI_nat ec
          rw [show ((x.1.toNat : Nat) : Int) = x.1 by omega] at q
          exact q
        have cD := nD c (List.mem_of_getElem? ec)
        have mlen := lf ms (List.mem_of_getElem? ems)
        have eg : ls.getD x.1.toNat [] = ms := by rw [List.getD_eq_getElem?_getD, ems]; rfl
        have nx : (W.md.take (i + 1)).foldl addM (List.replicate (W.tk.toNat + 1) []) = ls.set x.1.toNat (oneM ms x.2) := by
          rw [List.take_add_one, hx, List.foldl_append, ← el]
          show addM ls x = _
          unfold addM
          rw [eg]
        have fin : ∀ {H3 : Hp} {vs : List V}, Same H2 H3 → vs = (oneM ms x.2).map V.str → Same H (upd H3 c (.lst vs)) ∧ upd H3 c (.lst vs) DL = some (.lst zs) ∧ ∃ ls', LotsN K H (upd H3 c (.lst vs)) zs ls' ∧ ls' = (W.md.take (i + 1)).foldl addM (List.replicate (W.tk.toNat + 1) []) ∧ ∀ l ∈ ls', l.length ≤ i + 1 := fun {H3 vs} s3 e => by
          subst e
          refine ⟨Hb.Same.acc (s2.trans s3) nc0, by rw [upd_ne cD.symm]; exact s3 _ _ hD2, _, lotsN_set (ln2.same s3) nd ec, nx.symm, fun l hl => ?_⟩
          rcases List.mem_or_eq_of_mem_set hl with hl | rfl
          · have := lf l hl
            omega
          · unfold oneM
            split
            · omega
            · rw [List.length_append]
              show _ + 1 ≤ _
              omega
        refine ⟨t, _, rfl, ht, rfl, _, _, rfl, _, _, rfl, rfl, ?_⟩
        refine ⟨_, rfl, _, rfl, DL, _, x.1, _, rfl, rfl, SqL.of hD2, at_at, .inl ⟨rfl, _, SqL.of hc⟩, ?_⟩
        refine ⟨_, rfl, _, rfl, _, rfl, DL, _, x.1, _, rfl, rfl, SqL.of hD2, at_at, c, _, rfl, .inl (SqL.of hc), rfl, flat_strs _, _, rfl, ?_⟩
        rw [if_pos rfl, inV_strs]
        refine ite2 (fun z => ?_) (fun z => ?_)
        · have zn : x.2 ∉ ms := fun y => by rw [decide_eq_true y] at z; cases z
          refine ⟨_, rfl, by show 1 ≤ sizeLine; omega, fun q nq => ?_⟩
          have s3 : Same H2 (upd H2 q (.lst [.str x.2])) := Same.new nq
          refine ⟨c, q, ms.map V.str, [.str x.2], rfl, rfl, s3 _ _ hc, upd_same, by rw [List.length_map]; show _ + 1 ≤ _; omega, ?_⟩
          obtain ⟨f1, f2, f3⟩ := fin s3 (vs := ms.map V.str ++ [.str x.2]) (by unfold oneM; rw [if_neg zn, List.map_append]; rfl)
          exact ⟨f1, ⟨_, _, _, rfl⟩, f2, f3⟩
        · have zn : x.2 ∈ ms := by
            by_cases y : x.2 ∈ ms
            · exact y
            · exact absurd (by rw [decide_eq_false y]; rfl) z
          refine ⟨Nat.zero_le _, fun q nq => ?_⟩
          have s3 : Same H2 (upd H2 q (.lst [])) := Same.new nq
          refine ⟨c, q, ms.map V.str, [], rfl, rfl, s3 _ _ hc, upd_same, by rw [List.length_map]; show _ + 0 ≤ _; omega, ?_⟩
          obtain ⟨f1, f2, f3⟩ := fin s3 (vs := ms.map V.str ++ []) (by unfold oneM; rw [if_pos zn, List.append_nil])
          exact ⟨f1, ⟨_, _, _, rfl⟩, f2, f3⟩
      · rintro σ H2 ⟨s2, ⟨v2, v3, v4, rfl⟩, hD2, ls, ln2, el, lf⟩
        have xl := tmd.length
        rw [List.length_map] at xl
        rw [xl, List.take_length] at el
        rw [el] at ln2
        exact ⟨_, rfl, k _ _ _ s2 nDL hD2 ln2⟩
end
end Lw
set_option Elab.async false
set_option linter.all false
set_option maxRecDepth 100000
set_option maxHeartbeats 8000000
namespace Lw
open PySem PySem.Spec PyProof.Rows L2 Hb
/-! ### a house with noises mended makes the rest of them -/
theorem mem_steps3 {h : Hz} {i : Nat} {d : Dr} (e : h.doors[i]? = some d) : ∀ s ∈ stepsAt h i d, s ∈ allSteps h := by
  have hi := (List.getElem?_eq_some_iff.mp e).1
  have go : ∀ m, i < m → m ≤ h.doors.length → ∀ s ∈ stepsAt h i d, s ∈ stepsTo h m := by
    intro m
    induction m with
    | zero => exact fun h => absurd h (Nat.not_lt_zero _)
    | succ m ih =>
      intro h1 h2 s hs
      rw [steps_next (List.getElem?_eq_getElem (show m < h.doors.length by omega))]
      by_cases c : i = m
      · subst c
        refine List.mem_append_right _ ?_
        obtain ⟨_, e2⟩ := List.getElem?_eq_some_iff.mp e
        rw [e2]
        exact hs
      · exact List.mem_append_left _ (ih (by omega) (by omega) s hs)
  exact go _ hi (Nat.le_refl _)
theorem lookup_filter : ∀ {fs : List Fl} (_ : (fs.map Prod.fst).Nodup) (ns : List Str) (r : Int) (n : Str), (fs.filter fun x => decide (x.2 ∉ ns)).lookup r = some n ↔ fs.lookup r = some n ∧ n ∉ ns := by
  intro fs nd ns r n
  have nd2 : ((fs.filter fun x => decide (x.2 ∉ ns)).map Prod.fst).Nodup := nd.sublist (List.filter_sublist.map _)
  constructor
  · intro e
    have m := List.mem_filter.mp (lkF_mem e)
    exact ⟨lkF_of nd m.1, of_decide_eq_true m.2⟩
  · rintro ⟨e, q⟩
    exact lkF_of nd2 (List.mem_filter.mpr ⟨lkF_mem e, decide_eq_true q⟩)
theorem nz_less {h : Hz} (nd : (h.floors.map Prod.fst).Nodup) (ns : List Str) (d : Dr) (r : Int) (n : Str) : n ∈ nzStep (lessH h ns) (d.1, d.2.1, nmOk ns d.2.2) r ↔ n ∈ nzStep h d r ∧ n ∉ ns := by
  have nd1 : ((sortF h.floors).map Prod.fst).Nodup := ((sortF_perm h.floors).map Prod.fst).nodup_iff.mpr nd
  have nd2 : (((sortF h.floors).filter fun x => decide (x.2 ∉ ns)).map Prod.fst).Nodup := nd1.sublist (List.filter_sublist.map _)
  unfold nzStep
  show n ∈ (nmOk ns d.2.2).toList ++ ((sortF ((sortF h.floors).filter fun x => decide (x.2 ∉ ns))).lookup r).toList ↔ _
  rw [lkF_sort nd2, List.mem_append, List.mem_append, Option.mem_toList, Option.mem_toList, Option.mem_toList, Option.mem_toList]
  have a : nmOk ns d.2.2 = some n ↔ d.2.2 = some n ∧ n ∉ ns := by
    cases q : d.2.2 with
    | none => simp [nmOk]
    | some m =>
      by_cases c : m ∈ ns
      · simp only [nmOk, if_pos c]
        constructor
        · intro z; cases z
        · rintro ⟨z, y⟩
          cases z
          exact absurd c y
      · simp only [nmOk, if_neg c]
        constructor
        · intro z
          cases z
          exact ⟨rfl, c⟩
        · exact fun z => z.1
  have b := lookup_filter nd1 ns r n
  constructor
  · rintro (x | x)
    · exact ⟨.inl (a.mp x).1, (a.mp x).2⟩
    · exact ⟨.inr (b.mp x).1, (b.mp x).2⟩
  · rintro ⟨x | x, y⟩
    · exact .inl (a.mpr ⟨x, y⟩)
    · exact .inr (b.mpr ⟨x, y⟩)
theorem less_steps {h : Hz} (nd : (h.floors.map Prod.fst).Nodup) (ns : List Str) : ∀ s ∈ allSteps h, ∃ t ∈ allSteps (lessH h ns), t.le = s.le ∧ t.ri = s.ri ∧ ∀ n, n ∈ t.ns ↔ n ∈ s.ns ∧ n ∉ ns := by
  intro s hs
  obtain ⟨i, d, hd, hn, alt⟩ := mem_steps2 hs
  have e : (lessH h ns).doors[i]? = some (d.1, d.2.1, nmOk ns d.2.2) := by
    show (h.doors.map fun x => (x.1, x.2.1, nmOk ns x.2.2))[i]? = _
    rw [List.getElem?_map, hd]
    rfl
  have m := mem_steps3 e
  rcases alt with ⟨a, b, c⟩ | ⟨a, b, c⟩
  · refine ⟨_, m _ (by unfold stepsAt; exact List.mem_cons_self), b.symm, a.symm, fun n => ?_⟩
    rw [c]
    exact nz_less nd ns d d.2.1 n
  · refine ⟨_, m _ (by unfold stepsAt; exact List.mem_cons_of_mem _ List.mem_cons_self), b.symm, a.symm, fun n => ?_⟩
    rw [c]
    exact nz_less nd ns d d.1 n
theorem next_less {ss tt : List Stp} {ns : List Str} (st : ∀ s ∈ ss, ∃ t ∈ tt, t.le = s.le ∧ t.ri = s.ri ∧ ∀ n, n ∈ t.ns ↔ n ∈ s.ns ∧ n ∉ ns) {rs rs' a : List Int} {lot : List Str} (sub : ∀ x ∈ rs, x ∈ rs') (e : nextR ss rs lot = some a) :
    ∃ b, nextR tt rs' (lot.filter fun n => decide (n ∉ ns)) = some b ∧ ∀ x ∈ a, x ∈ b := by
  have q : ∀ s ∈ quietR ss rs lot, ∃ t ∈ quietR tt rs' (lot.filter fun n => decide (n ∉ ns)), t.ri = s.ri ∧ ∀ n, n ∈ t.ns ↔ n ∈ s.ns ∧ n ∉ ns := fun s hs => by
    obtain ⟨h1, h2, h3⟩ := mem_quiet.mp hs
    obtain ⟨t, ht, e1, e2, e3⟩ := st s h1
    exact ⟨t, mem_quiet.mpr ⟨ht, by rw [e1]; exact sub _ h2, fun n hn => List.mem_filter.mpr ⟨h3 n ((e3 n).mp hn).1, decide_eq_true ((e3 n).mp hn).2⟩⟩, e2, e3⟩
  unfold nextR at e
  split at e
  · rename_i c
    cases e
    refine ⟨_, next_some fun n hn => ?_, fun x hx => ?_⟩
    · obtain ⟨hn1, hn2⟩ := List.mem_filter.mp hn
      obtain ⟨s, hs, m⟩ := List.any_eq_true.mp (List.all_eq_true.mp c n hn1)
      obtain ⟨t, ht, _, e3⟩ := q s hs
      exact ⟨t, ht, (e3 n).mpr ⟨of_decide_eq_true m, of_decide_eq_true hn2⟩⟩
    · rw [mem_uniqI] at hx ⊢
      rcases List.mem_append.mp hx with hx | hx
      · exact List.mem_append_left _ (sub x hx)
      · obtain ⟨s, hs, rfl⟩ := List.mem_map.mp hx
        obtain ⟨t, ht, e2, _⟩ := q s hs
        exact List.mem_append_right _ (List.mem_map.mpr ⟨t, ht, e2⟩)
  · cases e
theorem behind_less {ss tt : List Stp} {ns : List Str} (st : ∀ s ∈ ss, ∃ t ∈ tt, t.le = s.le ∧ t.ri = s.ri ∧ ∀ n, n ∈ t.ns ↔ n ∈ s.ns ∧ n ∉ ns) : ∀ {lots : List (List Str)} {rs rs' : List Int}, (∀ x ∈ rs, x ∈ rs') → (behindR ss rs lots).length = lots.length →
    (behindR tt rs' (lots.map fun l => l.filter fun n => decide (n ∉ ns))).length = lots.length ∧ ∀ x ∈ lastOf ss rs lots, x ∈ lastOf tt rs' (lots.map fun l => l.filter fun n => decide (n ∉ ns))
  | [], rs, rs', sub, _ => ⟨rfl, sub⟩
  | lot :: lots, rs, rs', sub, h => by
    cases e : nextR ss rs lot with
    | none =>
      have : behindR ss rs (lot :: lots) = [] := by
        unfold behindR
        rw [e]
      rw [this] at h
      cases h
    | some r =>
      obtain ⟨r', e', sub'⟩ := next_less st sub e
      have q : behindR ss rs (lot :: lots) = r :: behindR ss r lots := by
        conv => lhs; unfold behindR
        rw [e]
      have q' : behindR tt rs' ((lot :: lots).map fun l => l.filter fun n => decide (n ∉ ns)) = r' :: behindR tt r' (lots.map fun l => l.filter fun n => decide (n ∉ ns)) := by
        rw [List.map_cons]
        conv => lhs; unfold behindR
        rw [e']
      rw [q] at h
      obtain ⟨h1, h2⟩ := behind_less st (lots := lots) sub' (Nat.succ.inj h)
      have l : lastOf ss rs (lot :: lots) = lastOf ss r lots := by
        unfold lastOf
        simp only [q]
        rw [List.getLast_cons (by simp)]
      have l' : lastOf tt rs' ((lot :: lots).map fun l => l.filter fun n => decide (n ∉ ns)) = lastOf tt r' (lots.map fun l => l.filter fun n => decide (n ∉ ns)) := by
        unfold lastOf
        simp only [q']
        rw [List.getLast_cons (by simp)]
      rw [l, l', q']
      exact ⟨by rw [List.length_cons, List.length_cons, h1], h2⟩
theorem far_less {h : Hz} (nd : (h.floors.map Prod.fst).Nodup) (ns : List Str) {lots : List (List Str)} (w : whereOf h lots = some (lastR h lots)) :
    wrongOf (lessH h ns) (lots.map fun l => l.filter fun n => decide (n ∉ ns)) = none ∧ whereOf (lessH h ns) (lots.map fun l => l.filter fun n => decide (n ∉ ns)) = some (lastR (lessH h ns) (lots.map fun l => l.filter fun n => decide (n ∉ ns))) ∧
    ∀ x ∈ lastR h lots, x ∈ lastR (lessH h ns) (lots.map fun l => l.filter fun n => decide (n ∉ ns)) := by
  have full : (behindR (allSteps h) [0] lots).length = lots.length := by
    have l := behind_le (allSteps h) lots [0]
    rw [where_eq] at w
    split at w
    · cases w
    · omega
  obtain ⟨a, b⟩ := behind_less (less_steps nd ns) (fun x hx => hx) full
  refine ⟨?_, ?_, b⟩
  · unfold wrongOf
    rw [if_neg (by rw [a, List.length_map]; omega)]
  · rw [where_eq, if_neg (by rw [a, List.length_map]; omega)]
theorem slp_feed {K : PySem.W.Frag} {C d g : Addr} {H H' : Hp} {p : Addr} {z : Zz} (x : SlpAt K C H p z) (dl : Feed d g H) (k : Kp d g H H') : SlpAt K C H' p z := by
  have x2 := x
  obtain ⟨dx, t, xs, h1, _⟩ := x2
  exact x.keep (dl.tk k) fun o e => k _ _ (dl.ne_d h1 (by intro kvs e; cases e)) (dl.ne_g h1 (by intro xs e; cases e)) e
theorem InS.runE {h : Hz} {z : Zz} {ws : List Str} (zk : Zok z ws) : ∀ {es : List Ev} {w : Wd}, InS z w.st → InS z (runEv h z w es).st
  | [], _, i => i
  | e :: es, w, i => InS.runE zk (es := es) (w := goEv h z w e) (by
    cases e with
    | tick => exact InS.tick zk i
    | hum p d => exact (InS.hum zk i).1
    | step p n =>
      show InS z (rowS z w.st _)
      generalize nzStep h (doorAt h n) (behindD (doorAt h n) (placeAt w p)) = ns
      have go : ∀ (ns : List Str) (s : S0), InS z s → InS z (rowS z s ns) := by
        intro ns
        induction ns with
        | nil => exact fun s i => i
        | cons n ns ih => exact fun s i => ih _ (InS.hear zk i)
      exact go ns _ i)
end Lw
set_option Elab.async false
set_option linter.all false
set_option maxRecDepth 100000
set_option maxHeartbeats 8000000
namespace Lw
open PySem PySem.Spec PyProof.Rows L2 Hb
section
variable {P : Program} {w : World} {K : PySem.W.Frag} {mg : Str → Option Value} {base : Heap}
/-- what is promised to the law -/
structure Cs (P : Program) (w : World) (K : PySem.W.Frag) (mg : Str → Option Value) (base : Heap) : Prop where
  c_feed : C8.Cal P w K mg base 1 "_law_feed" (spFeed K) []
  c_take : C8.Cal P w K mg base 1 "_law_take" spDraw []
  c_pick : C8.Cal P w K mg base 2 "_law_pick" (spPick K) []
  c_names : C8.Cal P w K mg base 1 "_law_names" spNames []
  c_house : C8.Cal P w K mg base 3 "_law_house" (spFHouse K) []
  c_home : C8.Cal P w K mg base 7 "_law_home" (spHome K (He.ga K "House")) []
  c_sleeper : C8.Cal P w K mg base 3 "_law_sleeper" (spFSleeper K) []
  c_dreamer : C8.Cal P w K mg base 6 "_law_dreamer" (spDreamer K (He.ga K "Sleeper")) []
  c_walked : C8.Cal P w K mg base 3 "_law_walked" (spWalked K) []
  m_Walk : C8.Mak P w K mg base 4 "Walk" (He.ga K "Walk") (spWInit K (He.ga K "Walk")) []
  c_play : C8.Cal P w K mg base 8 "play" (spPlay K (He.ga K "Played") (He.ga K "House") (He.ga K "Sleeper") (He.ga K "Walk")) []
  c_lots_of : C8.Cal P w K mg base 1 "_law_lots_of" (spLotsOf K (He.ga K "Played")) []
  c_possible : C8.Cal P w K mg base 7 "possible" (spPossible K (He.ga K "House")) []
  c_where : C8.Cal P w K mg base 6 "where" (spWhere K (He.ga K "House")) []
  c_mended : C8.Met P w K mg base 7 (He.ga K "House") "mended" (spMended K (He.ga K "House")) []
abbrev XL (P : Program) (w : World) (K : PySem.W.Frag) (mg : Str → Option Value) (base : Heap) (f : Addr) (cdv : Value) (s : Shared) (H0 : Hp) : Cx := (cxOf CX0 P w K mg base N_law "law" (defScope s_law) f cdv callerA [] s H0 E0).nox
abbrev RmL (s : Shared) (f : Addr) (cdv : Value) : Prop := Room 9 (callerA.deeper (envOfC "law" (defScope s_law) s.heap.objs.size f cdv))
abbrev lawA : List Stmt := nthB (defBody s_law) 0
abbrev lawB : List Stmt := nthB lawA 1
abbrev bod7 : List Stmt := nthB lawB 7
theorem sqL_over {H H1 H' : Hp} {d g a : Addr} {xs : List V} (h : SqL K H a xs) (s : Same H H1) (nd : H d = none) (ng : H g = none) (k : Kp d g H1 H') : SqL K H' a xs := by
  rcases h with (h | ⟨o, h⟩) | h
  · exact .inl (.inl (k _ _ (ne_of_none h nd) (ne_of_none h ng) (s _ _ h)))
  · exact .inl (.inr ⟨o, k _ _ (ne_of_none h nd) (ne_of_none h ng) (s _ _ h)⟩)
  · exact .inr h
structure Bx where
  o : Addr
  p : Addr
  h : Hz
  H0 : Hp
structure Fx (U : Bx) : Prop where
  hk : Hok U.h 5 6 four
/-- what stands: the house, some lots -/
structure Kt (K : PySem.W.Frag) (d g : Addr) (U : Bx) (q : Addr) (ls : List (List Str)) (H : Hp) : Prop where
  dl0 : Feed d g U.H0
  dl : Feed d g H
  ho : HLo K g H U.o U.h
  hh : HAt K (He.ga K "House") H U.p U.h
  nq : U.H0 q = none
  k0 : Kp d g U.H0 H
  so : ∃ ys, H q = some (.lst ys) ∧ LotsN K U.H0 H ys ls
  ok : ∀ ns ∈ ls, Lot5 ns
  l1 : 1 ≤ ls.length
  few : ls.length ≤ 60
section
variable {d g q : Addr} {U : Bx} {ls : List (List Str)} {H H' : Hp}
theorem Kt.kp (y : Kt K d g U q ls H) (k : Kp d g H H') (dl : Feed d g H') : Kt K d g U q ls H' := by
  obtain ⟨ys, h1, h2⟩ := y.so
  exact ⟨y.dl0, dl, y.ho.kp y.dl k, y.hh.feed y.dl k, y.nq, y.k0.trans k, ⟨ys, k _ _ (y.dl0.free y.nq).1 (y.dl0.free y.nq).2 h1, h2.kp y.dl0 k⟩, y.ok, y.l1, y.few⟩
theorem Kt.same (y : Kt K d g U q ls H) (s : Same H H') : Kt K d g U q ls H' := y.kp (Hb.Same.kp s) (y.dl.same s)
theorem Kt.put (y : Kt K d g U q ls H) (k : Kp d g H H') (dl : Feed d g H') {q2 : Addr} {ys : List V} {ls2 : List (List Str)} (n : H q2 = none) (h : H' q2 = some (.lst ys)) (la : LotsN K H H' ys ls2) (ok : ∀ ns ∈ ls2, Lot5 ns) (l1 : 1 ≤ ls2.length) (few : ls2.length ≤ 60) : Kt K d g U q2 ls2 H' := by
  have z := y.kp k dl
  exact ⟨y.dl0, dl, z.ho, z.hh, y.dl.kfree y.k0 n, z.k0, ⟨ys, h, la.base fun l e => y.dl.kfree y.k0 e⟩, ok, l1, few⟩
theorem Kt.ni (y : Kt K d g U q ls H) (x : Fx U) : ∃ ys, NzIn K (He.ga K "House") H U.p q U.h ys ls ∧ H q = some (.lst ys) ∧ LotsN K U.H0 H ys ls := by
  obtain ⟨ys, h1, h2⟩ := y.so
  have f := y.few
  exact ⟨ys, ⟨y.hh, by have := x.hk.dm; omega, .inl (SqL.of h1), h2.la, fun ns hn => (y.ok ns hn).ok.1, by omega⟩, h1, h2⟩
end
abbrev End (d g a : Addr) (D : Ends) (HE : Hp) : Prop := ∀ σ' H', (Feed d g H' ∧ Kp d g HE H' ∧ ∃ v1 v3 v4 v5 v6 v7 v8 v9 v10 v11 v12 v13 v14 v15 v16 v17 v18 v19, σ' = [some (.ref a), v1, some (.ref d), v3, v4, v5, v6, v7, v8, v9, v10, v11, v12, v13, v14, v15, v16, v17, v18, v19]) → D.nx σ' H'
theorem shaped_lots {ls : List (List Str)} (ok : ∀ ns ∈ ls, Lot5 ns) : SeqAt.shaped (lotsD ls) = true := shaped_list fun d hd => by
  obtain ⟨ns, hn, rfl⟩ := List.mem_map.mp hd
  have q := Shp.lst (n := 0) (ds := ns.map PyData.str) (fun d hd => by
    obtain ⟨x, hx, rfl⟩ := List.mem_map.mp hd
    exact ⟨by simp only [PyData.canLay0]; exact (five_ok x ((ok ns hn).m x hx)).1, by simp [PyData.depth]⟩) (by decide)
  exact ⟨q.1, by have := q.2; omega⟩
theorem far_of_where {h : Hz} {ls : List (List Str)} (w : whereOf h ls = some (lastR h ls)) : farOf h ls = ls.length := by
  have := far_le (h := h) (lots := ls)
  have x := wrong_where w
  by_cases c : farOf h ls < ls.length
  · rw [wrong_far, if_pos c] at x
    cases x
  · omega
def R0 (a : Addr) (D : Ends) (σ : L2.St) (H : Hp) : Prop := ∃ (d g : Addr) (HE : Hp), End d g a D HE ∧ Feed d g H ∧ Kp d g HE H ∧ ∃ v1 v3 v4 v5 v6 v7 v8 v9 v10 v11 v12 v13 v14 v15 v16 v17 v18 v19, σ = [some (.ref a), v1, some (.ref d), v3, v4, v5, v6, v7, v8, v9, v10, v11, v12, v13, v14, v15, v16, v17, v18, v19]
theorem four_five : ∀ n ∈ four, n ∈ five := fun n hn => by
  have : five = four ++ [("zz" : Str)] := rfl
  rw [this]
  exact List.mem_append_left _ hn
def unS : V → Str
  | .str x => x
  | _ => Str.empty
theorem perm_strs {ys : List V} {ns : List Str} (h : ys.Perm (ns.map V.str)) : ∃ ms : List Str, ys = ms.map V.str ∧ ms.Perm ns := by
  refine ⟨ys.map unS, ?_, ?_⟩
  · rw [List.map_map]
    have e : ys.map (V.str ∘ unS) = ys.map id := List.map_congr_left fun v hv => by
      obtain ⟨x, _, rfl⟩ := List.mem_map.mp (h.mem_iff.mp hv)
      rfl
    rw [e, List.map_id]
  · have := h.map unS
    rw [List.map_map] at this
    have e : ns.map (unS ∘ V.str) = ns := by
      refine (List.map_congr_left fun x _ => rfl).trans (List.map_id ns)
    rw [e] at this
    exact this
theorem lotsAt_app {H : Hp} {ys : List V} {ls : List (List Str)} {a : Addr} {ns : List Str} (x : LotsAt K H ys ls) (h : SqA K H a (ns.map V.str)) : LotsAt K H (ys ++ [.ref a]) (ls ++ [ns]) := by
  refine ⟨by rw [List.length_append, List.length_append, x.len]; rfl, fun i v e => ?_⟩
  by_cases c : i < ys.length
  · rw [List.getElem?_append_left c] at e
    obtain ⟨b, ms, e1, e2, e3⟩ := x.at_ i v e
    exact ⟨b, ms, e1, by rw [List.getElem?_append_left (by rw [← x.len]; exact c)]; exact e2, e3⟩
  · have ci : i = ys.length := by
      have := (List.getElem?_eq_some_iff.mp e).1
      rw [List.length_append] at this
      have : ([V.ref a] : List V).length = 1 := rfl
      omega
    subst ci
    rw [List.getElem?_append_right (Nat.le_refl _), Nat.sub_self] at e
    obtain rfl := Option.some.inj e
    exact ⟨a, ns, rfl, by rw [x.len, List.getElem?_append_right (Nat.le_refl _), Nat.sub_self]; rfl, h⟩
theorem lotsAt_acc {H : Hp} {ys us vs : List V} {ls : List (List Str)} {q : Addr} (x : LotsAt K H ys ls) (e : H q = some (.lst us)) (n : ∀ c, V.ref c ∈ ys → c ≠ q) : LotsAt K (upd H q (.lst vs)) ys ls := ⟨x.len, fun i v h => by
  obtain ⟨a, ns, rfl, e2, e3⟩ := x.at_ i v h
  have na := n a (List.mem_of_getElem? h)
  refine ⟨a, ns, rfl, e2, e3.imp (fun z => ?_) (fun z => SqT.keep (tk_acc e) z)⟩
  rcases z with (z | ⟨o, z⟩) | z
  · exact .inl (.inl (by rw [upd_ne na]; exact z))
  · exact .inl (.inr ⟨o, by rw [upd_ne na]; exact z⟩)
  · exact .inr z⟩
theorem lotsN_cat {H0 H : Hp} {xs ys : List V} {ls ms : List (List Str)} (x : LotsN K H0 H xs ls) (y : LotsN K H0 H ys ms) : LotsN K H0 H (xs ++ ys) (ls ++ ms) := by
  refine ⟨by rw [List.length_append, List.length_append, x.len, y.len], fun i v e => ?_⟩
  by_cases c : i < xs.length
  · rw [List.getElem?_append_left c] at e
    obtain ⟨b, ms, e1, e2, e3⟩ := x.at_ i v e
    exact ⟨b, ms, e1, by rw [List.getElem?_append_left (by rw [← x.len]; exact c)]; exact e2, e3⟩
  · rw [List.getElem?_append_right (by omega)] at e
    obtain ⟨b, ms, e1, e2, e3⟩ := y.at_ _ v e
    exact ⟨b, ms, e1, by rw [List.getElem?_append_right (by rw [← x.len]; omega), ← x.len]; exact e2, e3⟩
theorem rep_flat (m : Nat) (v : V) : (List.replicate m [v]).flatten = List.replicate m v := by
  induction m with
  | zero => rfl
  | succ m ih => rw [List.replicate_succ, List.replicate_succ, List.flatten_cons, ih]; rfl
theorem lotsAt_rep {H : Hp} {z : Addr} {ns : List Str} (h : H z = some (.lst (ns.map V.str))) (m : Nat) : LotsAt K H (List.replicate m (.ref z)) (List.replicate m ns) := by
  refine ⟨by rw [List.length_replicate, List.length_replicate], fun i v e => ?_⟩
  rw [List.getElem?_replicate] at e
  split at e
  · rename_i q
    cases e
    exact ⟨z, ns, rfl, by rw [List.getElem?_replicate, if_pos q], .inl (SqL.of h)⟩
  · cases e
theorem lotsN_nil {H0 H : Hp} : LotsN K H0 H [] [] := ⟨rfl, fun i v e => nomatch e⟩
theorem nil_ok : LotOk [] := ⟨(fun n hn => nomatch hn), .nil, Nat.zero_le _⟩
structure Px (U : Bx) (ls : List (List Str)) (pl : List Int) : Prop where
  wh : whereOf U.h ls = some (lastR U.h ls)
  sub : ∀ r ∈ pl, r ∈ lastR U.h ls
  pn : pl.length ≤ 10
structure Pt (U : Bx) (H : Hp) (b : Addr) (pl : List Int) : Prop where
  hP : H b = some (.lst (pl.map V.int))
  nP : U.H0 b = none
theorem Pt.kp {d g b : Addr} {U : Bx} {H H' : Hp} {pl : List Int} (x : Pt U H b pl) (dl0 : Feed d g U.H0) (k : Kp d g H H') : Pt U H' b pl := ⟨k _ _ (dl0.free x.nP).1 (dl0.free x.nP).2 x.hP, x.nP⟩
def Sg (a d : Addr) (U : Bx) (q b : Addr) (v1 v3 v5 v7 v8 v11 v12 v13 v14 v15 v16 v17 v18 v19 : Option V) : L2.St := [some (.ref a), v1, some (.ref d), v3, some (.ref U.o), v5, some (.ref U.p), v7, v8, some (.ref q), some (.ref b), v11, v12, v13, v14, v15, v16, v17, v18, v19]
def R5 (K : PySem.W.Frag) (a : Addr) (D : Ends) (σ : L2.St) (H : Hp) : Prop := ∃ (d g : Addr) (HE : Hp) (U : Bx) (q b : Addr) (ls : List (List Str)) (pl : List Int), End d g a D HE ∧ Fx U ∧ Kt K d g U q ls H ∧ Kp d g HE H ∧ Px U ls pl ∧ Pt U H b pl ∧ ∃ v1 v3 v5 v7 v8 v11 v12 v13 v14 v15 v16 v17 v18 v19, σ = Sg a d U q b v1 v3 v5 v7 v8 v11 v12 v13 v14 v15 v16 v17 v18 v19
def R8 (K : PySem.W.Frag) (a : Addr) (D : Ends) (σ : L2.St) (H : Hp) : Prop := ∃ (d g : Addr) (HE : Hp) (U : Bx) (q b : Addr) (ls : List (List Str)) (t : Addr), End d g a D HE ∧ Fx U ∧ Kt K d g U q ls H ∧ Kp d g HE H ∧ whereOf U.h ls = some (lastR U.h ls) ∧ SqT K H t ((lastR U.h ls).map V.int) ∧ ∃ v1 v3 v5 v7 v8 v11 v13 v14 v15 v16 v17 v18 v19, σ = Sg a d U q b v1 v3 v5 v7 v8 v11 (some (.ref t)) v13 v14 v15 v16 v17 v18 v19
def B7 (K : PySem.W.Frag) (a : Addr) (D : Ends) (σ : L2.St) (H : Hp) : Prop := ∃ (d g : Addr) (U : Bx) (q b : Addr) (ls : List (List Str)) (i : Nat) (v1 v3 v5 v7 v8 v11 v12 v13 v15 v16 v17 v18 v19 : Option V), Fx U ∧ Kt K d g U q ls H ∧ i ≤ farOf U.h ls ∧ σ = Sg a d U q b v1 v3 v5 v7 v8 v11 v12 v13 (some (.int (i : Nat))) v15 v16 v17 v18 v19 ∧
  ∀ σ' H', Same H H' → σ' = Sg a d U q b v1 v3 v5 v7 v8 v11 v12 v13 (some (.int (i : Nat))) v15 v16 v17 v18 v19 → D.nx σ' H'
/-- a beginning of the lots -/
theorem Kt.cut {d g q : Addr} {U : Bx} {ls : List (List Str)} {H : Hp} (y : Kt K d g U q ls H) (x : Fx U) {ys : List V} (la : LotsN K U.H0 H ys ls) {l : Addr} (m : Nat) (h : H l = some (.lst (ys.take m))) : NzIn K (He.ga K "House") H U.p l U.h (ys.take m) (ls.take m) := by
  have f := y.few
  exact ⟨y.hh, by have := x.hk.dm; omega, .inl (SqL.of h), (lotsN_take2 la m).la, fun ns hn => (y.ok ns (List.mem_of_mem_take hn)).ok.1, by rw [List.length_take]; omega⟩
theorem Fx.lots {U : Bx} (x : Fx U) : HwOk U.h ∧ HwR U.h := hw_ok x.hk (by decide) (by decide) fun n h => h
theorem num_log2 : ∀ i : Fin 200, ((i.val : Nat) : Int).natAbs.log2 < 1920 := by decide +kernel
theorem num_log {n : Nat} (h : n < 200) : ((n : Nat) : Int).natAbs.log2 < 1920 := num_log2 ⟨n, h⟩
theorem rp_int {H : Hp} {n : Nat} (h : n < 200) : RpOk K H (.int (n : Int)) (.int (n : Int)) := by
  have s := Sh.int (i := (n : Int)) (by omega) (by omega)
  have line := sizeLine_eq
  exact ⟨.int _, s.sh, s.nd, by simp [PyData.depth], Nat.le_trans s.le (by omega), (fun i e => by cases e; exact (num_log h)), fun x e => by cases e⟩
theorem rp_non {H : Hp} : RpOk K H .non .none := ⟨.non, by decide +kernel, by decide +kernel, by decide +kernel, by decide +kernel, (fun i e => by cases e), fun x e => by cases e⟩
theorem rp_bl {H : Hp} (b : Bool) : RpOk K H (.bl b) (.bool b) := by
  refine ⟨.bl b, ?_, ?_, ?_, ?_, (fun i e => by cases e), fun x e => by cases e⟩ <;> cases b <;> decide +kernel
end
end Lw
set_option Elab.async false
set_option linter.all false
set_option maxRecDepth 100000
set_option maxHeartbeats 8000000
namespace Lw
open PySem PySem.Spec PyProof.Rows L2 Hb
section
variable {P : Program} {w : World} {K : PySem.W.Frag} {mg : Str → Option Value} {base : Heap}
theorem part1 (T : Tx K mg) (C : Cs P w K mg base) {f : Addr} {cdv : Value} {s : Shared} {H0 : Hp} (hr : RmL s f cdv) {a : Addr} (next : Part (XL P w K mg base f cdv s H0) (lawB.drop 5) (R5 K a)) : Part (XL P w K mg base f cdv s H0) (lawB.drop 0) (R0 a) := by
  have hu := hu_of hr
  have h64 := room64F hr
  have line := sizeLine_eq
  have hg : (XL P w K mg base f cdv s H0).A.guards = some [] := rfl
  obtain ⟨c_feed, c_take, c_pick, c_names, c_house, c_home, c_sleeper, c_dreamer, c_walked, m_Walk, c_play, c_lots_of, c_possible, c_where, c_mended⟩ := C
  obtain ⟨tN, hN, next⟩ := next
  refine ⟨_, (pss_cons (ps_par (i := 4) (j := 5) (by rfl) sc_law.nd rfl rfl (by decide) rfl rfl (pa_cons (C8.pe_c c_house hr (by decide) rfl (pa_cons (pv 2) (pa_cons pe_int (pa_cons pe_int pa_nil)))) (pa_cons (pe_op op_add pe_int (C8.pe_c c_take hr (by decide) rfl (pa_cons (pv 2) (pa_cons pe_int pa_nil)))) pa_nil)) (by rfl))
 (pss_cons (ps_par (i := 6) (j := 7) (by rfl) sc_law.nd rfl rfl (by decide) rfl rfl (pa_cons (C8.pe_c c_home hr (by decide) rfl (pa_cons (pv 4) pa_nil)) (pa_cons (C8.pe_c c_dreamer hr (by decide) rfl (pa_cons (C8.pe_c c_sleeper hr (by decide) rfl (pa_cons (pv 2) (pa_cons pe_int pa_nil))) pa_nil)) pa_nil)) (by rfl))
 (pss_cons (ps_asg (C8.pe_c c_walked hr (by decide) rfl (pa_cons (pv 2) (pa_cons (pv 4) (pa_cons (pv 5) (pa_cons (C8.pe_c c_take hr (by decide) rfl (pa_cons (pv 2) (pa_cons pe_int pa_nil))) pa_nil))))) (pg_tup (by rfl) (pgs_cons (pg_name (i := 8) sc_law.nd rfl (Or.inl rfl)) (pgs_cons (pg_name (i := 9) sc_law.nd rfl (Or.inl rfl)) (pgs_cons (pg_name (i := 10) sc_law.nd rfl (Or.inl rfl)) pgs_nil)))))
 (pss_cons (ps_set (i := 11) sc_law.nd rfl (Or.inl rfl) (C8.pe_c c_play hr (by decide) rfl (pa_cons (pv 6) (pa_cons (pv 7) (pa_cons (C8.pe_mk m_Walk hr (by decide) rfl (pa_cons (pv 5) (pa_cons pe_int (pa_cons pe_str (pa_cons (pv 8) pa_nil))))) pa_nil)))))
 (pss_cons (ps_if (PW.pt (pw_or (pt_cmpR (op_neD h64) (C8.pe_c c_lots_of hr (by decide) rfl (pa_cons (pv 11) pa_nil)) (pv 9) (by first | exact nomark _ | rfl)) (pw_or1 (pt_cmpR (op_neD h64) (pe_callTy call_list_of (by rfl) T.n_list (by decide +kernel) (pa_cons (pe_fld (pv 11) rfl) pa_nil)) (pv 10) (by first | exact nomark _ | rfl)))))
 (pss_one (ps_ret pe_bl))
 pss_nil)
 hN))))), ?_⟩
  rintro DE σ H1 ⟨d, g, HE, hE, dl1, kE, v1, v3, v4, v5, v6, v7, v8, v9, v10, v11, v12, v13, v14, v15, v16, v17, v18, v19, rfl⟩
  refine ⟨_, rfl, d, g, 5, 4, rfl, dl1, by decide, by decide, by decide, by decide, fun H2 o h dl2 k2 no ho hk h2 => ?_⟩
  obtain ⟨hw, hr2⟩ := hw_ok hk (by decide) (by decide) fun n h => h
  have dm := hk.dm
  have hin : Hin h := hk.hin (by decide) (by decide) fun w hw => (four_nm w hw).1
  refine ⟨_, rfl, d, g, 6, rfl, dl2, by decide, by decide, fun H3 k dl3 k3 k0 k1 => ⟨_, _, rfl, rfl, _, _, rfl, ?_⟩⟩
  have ho3 := ho.kp dl2 k3
  obtain ⟨pe, hpe⟩ : ∃ pe : Int, 1 + k = pe := ⟨_, rfl⟩
  refine ⟨_, rfl, g, o, h, rfl, ho3, hin, fun H4 p s4 np hh => ?_⟩
  have dl4 := dl3.same s4
  refine ⟨_, rfl, d, g, 4, rfl, dl4, by decide, by decide, fun H5 oz dk z dl5 k5 noz ndk hz zk z1 z2 => ?_⟩
  have zin : Zin z := ⟨zk.nd, fun p hp => ⟨(zk.ok p hp).2, zk.srt p hp⟩, Nat.le_trans zk.few (by decide), zk.s1, zk.d1, zk.n1, zk.lo⟩
  refine ⟨oz, dk, z, rfl, hz, zin, fun p hp => (zk.ok p hp).1, fun H6 zp s6 nzp hzs => ⟨_, _, rfl, ?_⟩⟩
  have dl6 := dl5.same s6
  have ho6 := ((ho3.same s4).kp dl4 k5).same s6
  have hh6 := (hh.feed dl4 k5).same s6
  refine ⟨_, rfl, _, rfl, _, rfl, _, rfl, d, g, 29, rfl, dl6, by decide, by decide, fun H7 m dl7 k7 m0 m1 => ?_⟩
  have ho7 := ho6.kp dl6 k7
  have hh7 := hh6.feed dl6 k7
  have hzs7 := slp_feed hzs dl6 k7
  refine ⟨d, g, o, h, pe, m, by rw [← hpe]; rfl, dl7, ho7, hw, by omega, by omega, m0, by omega, fun H8 t E L P0 xs es dl8 k8 ht hE8 hL hla hP nE nL nP ps el => ?_⟩
  refine ⟨t, _, rfl, ht, rfl, _, _, rfl, _, _, rfl, _, _, rfl, rfl, ?_⟩
  have ho8 := ho7.kp dl7 k8
  have hh8 := hh7.feed dl7 k8
  have hzs8 := slp_feed hzs7 dl7 k8
  have pn : (pe.toNat : Int) = pe := by omega
  have pf := poss_few hw (k := pe.toNat) (w := wk0 pe.toNat) (by show (List.replicate pe.toNat (0 : Int)).length = _; exact List.length_replicate) ps
  have few40 : es.length ≤ 28 := by omega
  have eT : es.map feT = (es.map toEv).map evT := by
    rw [List.map_map]
    exact List.map_congr_left fun e he => feT_ev fun p s q => by
      have := pf e he p s q
      omega
  have eok : ∀ e ∈ es.map toEv, EvOk (pe + 0) e := fun e he => by
    obtain ⟨e0, h0, rfl⟩ := List.mem_map.mp he
    cases e0 with
    | tick => trivial
    | step p s =>
      have := pf _ h0 p s rfl
      exact ⟨⟨by omega, by omega⟩, by show 0 ≤ s.n; omega, by show s.n < 64; omega⟩
  refine ⟨_, rfl, _, rfl, _, rfl, _, rfl, ?_⟩
  intro x dx nx ndx ne
  have s9 : Same H8 (upd (upd H8 dx (.own x)) x (.ins (He.ga K "Walk") dx [])) := fun b u e => by
    rw [upd_ne (ne_of_none e nx), upd_ne (ne_of_none e ndx)]
    exact e
  rw [eT] at hE8
  have wk : WkOk ⟨pe, 0, "up", (es.map toEv).map evT⟩ := ⟨by show 0 ≤ pe; omega, Int.le_refl 0, by show pe + 0 ≤ 64; omega, (by decide +kernel : ("up" : Str) ∈ firstL), fun s hs => by
    obtain ⟨e, he, rfl⟩ := List.mem_map.mp hs
    exact ⟨e, rfl, eok e he⟩, by show ((es.map toEv).map evT).length ≤ 1000; rw [List.length_map, List.length_map]; omega⟩
  refine ⟨x, dx, E, ⟨pe, 0, "up", (es.map toEv).map evT⟩, by rw [← hpe]; rfl, upd_same, .inl (SqL.of (s9 _ _ hE8)), wk, fun H10 kp hwa => ⟨rfl, ?_⟩⟩
  have s10 : Same H8 H10 := fun b u e => kp b u (ne_of_none e nx) (s9 b u e)
  have dne : ∀ x ∈ h.doors, x.1 ≠ x.2.1 := hw.dne
  obtain ⟨gp, po⟩ := GP.run (z := z) dne (GP.zero h z pe.toNat "up") ps
  rw [show ((pe.toNat : Nat) : Int) = pe + 0 by omega] at gp po
  refine ⟨p, zp, x, h, z, pe, 0, "up", es.map toEv, rfl, hh8.same s10, hzs8.same s10, hwa, wk, eok, po pe, by omega, by rw [List.length_map]; omega, fun i => InS.sok zk (InS.runE zk (InS.first zk "up")), fun H11 pq s11 npq hpl => ?_⟩
  have s811 := s10.trans s11
  have hL11 := s811 _ _ hL
  have hP11 := s811 _ _ hP
  have la11 := hla.same s811
  have plk := pl_len (k := pe.toNat) (es := es)
  have ln := all_len (k := pe.toNat) (es := es) (w := wk0 pe.toNat)
  have ln2 : (runFe (wk0 pe.toNat) es).all.length ≤ 40 := by
    have : (wk0 pe.toNat).all.length = 1 := rfl
    omega
  have l1 : 1 ≤ (runFe (wk0 pe.toNat) es).all.length := by show 1 ≤ (_ ++ [_]).length; rw [List.length_append]; exact Nat.le_add_left _ _
  have lE : (runFe (wk0 pe.toNat) es).all.length = (runFe (wk0 pe.toNat) es).ls.length + 1 := by show (_ ++ [_]).length = _; rw [List.length_append]; rfl
  obtain ⟨lok, whr, sub, _⟩ := lots_of hk (fun n h => h) ps
  have gw := GwOk.run (GwOk.zero_ h pe.toNat) ps
  have ok5 : ∀ ns ∈ (runFe (wk0 pe.toNat) es).all, Lot5 ns := fun ns hn => ⟨fun n hm => by
    obtain ⟨s, hs, e⟩ := gw.nm ns hn n hm
    exact four_five n (steps_in hk hs n e), gw.nd ns hn⟩
  obtain ⟨gpl, gsp, gtk, glo, gmd, gml⟩ := gp
  rw [show (runFe (wk0 pe.toNat) es).ls ++ [(runFe (wk0 pe.toNat) es).cu] = (runFe (wk0 pe.toNat) es).all from rfl] at glo
  refine ⟨_, rfl, pq, _, rfl, hpl, by omega, by omega, fun x hx => by have := gmd x hx; omega, by omega, fun H12 q xs2 s12 nq hq la2 => ?_⟩
  rw [show (runEv h z (wd0 z (pe + 0) "up") (es.map toEv)).tk.toNat = (runFe (wk0 pe.toNat) es).ls.length by omega, glo] at la2
  refine ⟨_, rfl, ne_data (d := lotsD (runFe (wk0 pe.toNat) es).all) (.lst (SqL.of hq) (lots_dp la2)) (.lst (SqL.of (s12 _ _ hL11)) (lots_dp (la11.same s12))) (shaped_lots ok5) ⟨_, rfl, iteF ?_⟩⟩
  have hpl12 := hpl.same s12
  obtain ⟨dxp, sv, plA, md, mxs, hO, hst, hplT, hmd, tmd⟩ := hpl12
  rw [gpl] at hplT
  refine ⟨_, rfl, pq, _, dxp, _, _, rfl, hO, T.cls_Played, T.p_places, rfl, ?_⟩
  refine ⟨plA, _, rfl, .inr hplT, fun l nl => ?_⟩
  have s13 : Same H12 (upd H12 l (.lst ((runFe (wk0 pe.toNat) es).pl.map V.int))) := Same.new nl
  refine ⟨_, rfl, ne_data (d := .list ((runFe (wk0 pe.toNat) es).pl.map PyData.int)) (.lst (SqL.of upd_same) (TDs.dp (tds_ints _))) (.lst (SqL.of (s13 _ _ (s12 _ _ hP11))) (TDs.dp (tds_ints _))) (shaped_intsL _) ⟨_, rfl, iteF ?_⟩⟩
  have s8e := (s811.trans s12).trans s13
  have k7e := k8.trans (Hb.Same.kp s8e)
  have kEe : Kp d g HE _ := ((((((kE.trans k2).trans k3).trans (Hb.Same.kp s4)).trans k5).trans (Hb.Same.kp s6)).trans k7).trans k7e
  exact next _ _ _ ⟨d, g, HE, ⟨o, p, h, H7⟩, L, P0, _, _, hE, ⟨hk⟩, ⟨dl7, dl8.same s8e, ho7.kp dl7 k7e, hh7.feed dl7 k7e, nL, k7e, ⟨xs, s8e _ _ hL, hla.same s8e⟩, ok5, l1, by omega⟩, kEe, ⟨whr, sub, by show (runFe (wk0 pe.toNat) es).pl.length ≤ 10; omega⟩, ⟨s8e _ _ hP, nP⟩, _, _, _, _, _, _, _, _, _, _, _, _, _, _, rfl⟩
end
end Lw
set_option Elab.async false
set_option linter.all false
set_option maxRecDepth 100000
set_option maxHeartbeats 8000000
namespace Lw
open PySem PySem.Spec PyProof.Rows L2 Hb
section
variable {P : Program} {w : World} {K : PySem.W.Frag} {mg : Str → Option Value} {base : Heap}
theorem part5 (T : Tx K mg) (C : Cs P w K mg base) {f : Addr} {cdv : Value} {s : Shared} {H0 : Hp} (hr : RmL s f cdv) {a : Addr} (next : Part (XL P w K mg base f cdv s H0) (lawB.drop 7) (R8 K a)) : Part (XL P w K mg base f cdv s H0) (lawB.drop 5) (R5 K a) := by
  have hu := hu_of hr
  have h64 := room64F hr
  have line := sizeLine_eq
  have hg : (XL P w K mg base f cdv s H0).A.guards = some [] := rfl
  obtain ⟨c_feed, c_take, c_pick, c_names, c_house, c_home, c_sleeper, c_dreamer, c_walked, m_Walk, c_play, c_lots_of, c_possible, c_where, c_mended⟩ := C
  obtain ⟨tN, hN, next⟩ := next
  refine ⟨_, (pss_cons (ps_set (i := 12) sc_law.nd rfl (Or.inr rfl) (C8.pe_c c_where hr (by decide) rfl (pa_cons (pv 6) (pa_cons (pv 9) pa_nil))))
 (pss_cons (ps_if (PW.pt (pw_or (pt_cmpR op_isN (pv 12) pe_non (by first | exact nomark _ | rfl)) (pw_or1 (pt_cmpR (op_neD h64) (pe_lc (own := [("_law_room", 13)]) (by rfl) sc_law.nd (pi_list (pv 10)) (blkOk_by (N := N_law) (sc := defScope s_law) (by decide +kernel)) (fun _ _ _ _ _ => (pg_name (i := 13) sc_law.nd rfl (Or.inl rfl))) (fun _ _ _ _ _ => (pts_one (pt_cmpR (show OpR _ _ (rIn K true) from op_notIn_seq) (pv 13) (pv 12) (by first | exact nomark _ | rfl)))) (fun _ _ _ _ _ => (pv 13))) (pe_lst pa_nil) (by first | exact nomark _ | rfl)))))
 (pss_one (ps_ret pe_bl))
 pss_nil)
 hN)), ?_⟩
  rintro DE σ H1 ⟨d, g, HE, U, q, b, ls, pl, hE, fx, kt, kE, px, pt, v1, v3, v5, v7, v8, v11, v12, v13, v14, v15, v16, v17, v18, v19, rfl⟩
  obtain ⟨ys, ni, hq, la⟩ := kt.ni fx
  refine ⟨_, rfl, _, rfl, U.p, q, U.h, ys, ls, rfl, ni, fun e => (by rw [px.wh] at e; cases e), fun rs e H2 t s2 ht => ?_⟩
  obtain rfl := where_last e
  have kt2 := kt.same s2
  have pt2 := pt.kp kt.dl0 (Hb.Same.kp s2)
  refine ⟨_, rfl, rfl, _, rfl, iteF ?_⟩
  refine ⟨_, rfl, b, rfl, ⟨_, SqL.of pt2.hP⟩, fun DL nDL => lc_list (K := K) (a := b) (xs := pl.map V.int) (fun k H' => Same H2 H' ∧ H' DL = some (.lst [])) ⟨Same.new nDL, upd_same⟩ (fun k H' _ y => SqL.of (y.1 _ _ pt2.hP)) ?_ ?_⟩
  · rintro k v3 H8 hv3 ⟨s8, hD⟩
    rw [List.getElem?_map] at hv3
    obtain ⟨x, hx, rfl⟩ := Option.map_eq_some_iff.mp hv3
    refine ⟨rfl, _, rfl, _, rfl, t, _, rfl, .inr (SqT.keep (Same.tk s8) ht), rfl, flat_ints _, _, rfl, ?_⟩
    rw [if_pos rfl, inV_ints, decide_eq_true (px.sub x (List.mem_of_getElem? hx))]
    exact iteF ⟨s8, hD⟩
  · rintro H8 ⟨s8, hD⟩
    refine ⟨Nat.zero_le _, fun z nz => ?_⟩
    have s9 : Same H8 (upd H8 z (.lst [])) := Same.new nz
    refine ne_nilL (SqL.of (s9 _ _ hD)) .nil (SqL.of upd_same) (by decide +kernel) ⟨_, rfl, iteF ?_⟩
    have s29 := s8.trans s9
    exact next _ _ _ ⟨d, g, HE, U, q, b, ls, t, hE, fx, kt2.same s29, kE.trans (Hb.Same.kp (s2.trans s29)), px.wh, SqT.keep (Same.tk s29) ht, _, _, _, _, _, _, _, _, _, _, _, _, _, rfl⟩
theorem body7 (T : Tx K mg) (C : Cs P w K mg base) {f : Addr} {cdv : Value} {s : Shared} {H0 : Hp} (hr : RmL s f cdv) {a : Addr} : Part (XL P w K mg base f cdv s H0) bod7 (B7 K a) := by
  have hu := hu_of hr
  have h64 := room64F hr
  have line := sizeLine_eq
  have hg : (XL P w K mg base f cdv s H0).A.guards = some [] := rfl
  obtain ⟨c_feed, c_take, c_pick, c_names, c_house, c_home, c_sleeper, c_dreamer, c_walked, m_Walk, c_play, c_lots_of, c_possible, c_where, c_mended⟩ := C
  refine ⟨_, (pss_one (ps_if (PW.pt (pw_or (pt_not (pt_val (C8.pe_c c_possible hr (by decide) rfl (pa_cons (pv 6) (pa_cons (pe_slice sl_list (pv 9) po_none (po_some (pv 14))) pa_nil))))) (pw_or1 (pt_cmpR op_isN (C8.pe_c c_where hr (by decide) rfl (pa_cons (pv 6) (pa_cons (pe_slice sl_list (pv 9) po_none (po_some (pv 14))) pa_nil))) pe_non (by first | exact nomark _ | rfl)))))
 (pss_one (ps_ret pe_bl))
 pss_nil)), ?_⟩
  rintro DE σ H1 ⟨d, g, U, q, b, ls, i, v1, v3, v5, v7, v8, v11, v12, v13, v15, v16, v17, v18, v19, fx, kt, iF, rfl, hE⟩
  obtain ⟨gw, gh⟩ := take_good iF
  have cut : ∀ H, Same H1 H → ∃ ys, H q = some (.lst ys) ∧ ∀ l, H l = none → Same H (upd H l (.lst (ys.take i))) ∧ NzIn K (He.ga K "House") (upd H l (.lst (ys.take i))) U.p l U.h (ys.take i) (ls.take i) := fun H s => by
    have kt2 := kt.same s
    obtain ⟨ys, ni, hq, la⟩ := kt2.ni fx
    exact ⟨ys, hq, fun l nl => ⟨Same.new nl, (kt2.same (Same.new nl)).cut fx (la.same (Same.new nl)) i upd_same⟩⟩
  obtain ⟨ys, hq, c1⟩ := cut H1 (Same.refl _)
  refine ⟨_, rfl, _, rfl, _, rfl, _, rfl, q, _, rfl, SqL.of hq, fun l nl => ?_⟩
  rw [cut_take _ (by omega), Int.toNat_natCast]
  obtain ⟨s2, ni2⟩ := c1 l nl
  refine ⟨U.p, l, U.h, _, _, rfl, ni2, fun H3 s3 => ?_⟩
  rw [gw]
  refine ⟨_, rfl, iteF ?_⟩
  have s13 := s2.trans s3
  obtain ⟨ys3, hq3, c3⟩ := cut H3 s13
  refine ⟨_, rfl, _, rfl, _, rfl, _, rfl, q, _, rfl, SqL.of hq3, fun l3 nl3 => ?_⟩
  rw [cut_take _ (by omega), Int.toNat_natCast]
  obtain ⟨s4, ni4⟩ := c3 l3 nl3
  refine ⟨U.p, l3, U.h, _, _, rfl, ni4, fun e => (by rw [gh] at e; cases e), fun rs e H5 t5 s5 ht5 => ?_⟩
  refine ⟨rfl, _, rfl, iteF (hE _ _ ((s13.trans s4).trans s5) rfl)⟩
theorem part7 (T : Tx K mg) (C : Cs P w K mg base) {f : Addr} {cdv : Value} {s : Shared} {H0 : Hp} (hr : RmL s f cdv) {a : Addr} (hB7 : Part (XL P w K mg base f cdv s H0) bod7 (B7 K a)) (next : Part (XL P w K mg base f cdv s H0) (lawB.drop 8) (R8 K a)) : Part (XL P w K mg base f cdv s H0) (lawB.drop 7) (R8 K a) := by
  have hu := hu_of hr
  have h64 := room64F hr
  have line := sizeLine_eq
  have hg : (XL P w K mg base f cdv s H0).A.guards = some [] := rfl
  obtain ⟨c_feed, c_take, c_pick, c_names, c_house, c_home, c_sleeper, c_dreamer, c_walked, m_Walk, c_play, c_lots_of, c_possible, c_where, c_mended⟩ := C
  obtain ⟨tN, hN, next⟩ := next
  obtain ⟨tB, hB7, kB⟩ := hB7
  refine ⟨_, (pss_cons (ps_for PassesOwn.never rfl (pi_range1 (by rfl) T.n_range (pa_cons (pe_op op_add (pe_callB call_len (by rfl) T.n_len (by decide +kernel) (pa_cons (pv 9) pa_nil)) pe_int) pa_nil)) (pg_name (i := 14) sc_law.nd rfl (Or.inl rfl))
 hB7)
 hN), ?_⟩
  rintro DE σ H1 ⟨d, g, HE, U, q, b, ls, t, hE, fx, kt, kE, wh, ht, v1, v3, v5, v7, v8, v11, v13, v14, v15, v16, v17, v18, v19, rfl⟩
  have fl := far_of_where wh
  have few := kt.few
  obtain ⟨ys, ni, hq, la⟩ := kt.ni fx
  have yl := la.len
  refine ⟨_, rfl, .ref q, ys.length, rfl, .inl ⟨_, SqL.of hq, rfl⟩, _, _, rfl, rfl, (ys.length : Nat) + 1, rfl, by omega, by omega, for_range (lo := 0) (n := ys.length + 1) (fun i σ H' => Same H1 H' ∧ ∃ v14, σ = Sg a d U q b v1 v3 v5 v7 v8 v11 (some (.ref t)) v13 v14 v15 v16 v17 v18 v19) ⟨Same.refl _, _, rfl⟩ ?_ ?_⟩
  · rintro i σ H2 hi ⟨s2, w14, rfl⟩
    refine kB _ _ _ ⟨d, g, U, q, b, ls, i, v1, v3, v5, v7, v8, v11, some (.ref t), v13, v15, v16, v17, v18, v19, fx, kt.same s2, by omega, ?_, fun σ' H' s h => ?_⟩
    · rw [show (0 : Int) + ((i : Nat) : Int) = ((i : Nat) : Int) by omega]
      rfl
    · subst h
      exact ⟨s2.trans s, _, rfl⟩
  · rintro σ H2 ⟨s2, w14, rfl⟩
    exact next _ _ _ ⟨d, g, HE, U, q, b, ls, t, hE, fx, kt.same s2, kE.trans (Hb.Same.kp s2), wh, SqT.keep (Same.tk s2) ht, _, _, _, _, _, _, _, _, _, _, _, _, _, rfl⟩
end
end Lw
set_option Elab.async false
set_option linter.all false
set_option maxRecDepth 100000
set_option maxHeartbeats 8000000
namespace Lw
open PySem PySem.Spec PyProof.Rows L2 Hb
section
variable {P : Program} {w : World} {K : PySem.W.Frag} {mg : Str → Option Value} {base : Heap}
theorem part8 (T : Tx K mg) (C : Cs P w K mg base) {f : Addr} {cdv : Value} {s : Shared} {H0 : Hp} (hr : RmL s f cdv) {a : Addr} : Part (XL P w K mg base f cdv s H0) (lawB.drop 8) (R8 K a) := by
  have hu := hu_of hr
  have h64 := room64F hr
  have line := sizeLine_eq
  have hg : (XL P w K mg base f cdv s H0).A.guards = some [] := rfl
  obtain ⟨c_feed, c_take, c_pick, c_names, c_house, c_home, c_sleeper, c_dreamer, c_walked, m_Walk, c_play, c_lots_of, c_possible, c_where, c_mended⟩ := C
  refine ⟨_, (pss_cons (ps_set (i := 15) sc_law.nd rfl (Or.inr rfl) (C8.pe_c c_pick hr (by decide) rfl (pa_cons (pv 2) (pa_cons (Hb.pe_c0 c_names hr (by decide) rfl) pa_nil))))
 (pss_cons (ps_setLc (i := 16) (own := [("_law_lot", 17)]) (by rfl) sc_law.nd rfl rfl (sw_true rfl rfl rfl (by decide +kernel)) (pi_list (pv 9)) (blkOk_by (N := N_law) (sc := defScope s_law) (by decide +kernel)) (fun _ _ _ _ _ => (pg_name (i := 17) sc_law.nd rfl (Or.inl rfl))) (fun _ _ _ _ _ => pts_nil) (fun _ _ _ _ _ => (pe_lc (own := [("_law_one", 18)]) (by rfl) sc_law.nd (Hb.pi_listK (K := K) rfl (pv 17)) (blkOk_by (by kernel_rfl)) (fun _ _ _ _ _ => (pg_name (i := 18) sc_law.nd rfl (Or.inl rfl))) (fun _ _ _ _ _ => (pts_one (pt_cmpR op_ne (pv 18) (pv 15) (by first | exact nomark _ | rfl)))) (fun _ _ _ _ _ => (pv 18)))))
 (pss_cons (ps_if (pt_not (pt_val (C8.pe_c c_possible hr (by decide) rfl (pa_cons (C8.pe_mt c_mended hr (by decide) (pv 6) (pa_cons (pe_lst (pa_cons (pv 15) pa_nil)) pa_nil)) (pa_cons (pv 16) pa_nil)))))
 (pss_one (ps_ret pe_bl))
 pss_nil)
 (pss_cons (ps_set (i := 19) sc_law.nd rfl (Or.inr rfl) (C8.pe_c c_where hr (by decide) rfl (pa_cons (C8.pe_mt c_mended hr (by decide) (pv 6) (pa_cons (pe_lst (pa_cons (pv 15) pa_nil)) pa_nil)) (pa_cons (pv 16) pa_nil))))
 (pss_one (ps_if (pt_cmpR (op_neD h64) (pe_lc (own := [("_law_room", 13)]) (by rfl) sc_law.nd (pi_tup (pv 12)) (blkOk_by (N := N_law) (sc := defScope s_law) (by decide +kernel)) (fun _ _ _ _ _ => (pg_name (i := 13) sc_law.nd rfl (Or.inl rfl))) (fun _ _ _ _ _ => (pts_one (pt_cmpR (show OpR _ _ (rIn K true) from op_notIn_seq) (pv 13) (pv 19) (by first | exact nomark _ | rfl)))) (fun _ _ _ _ _ => (pv 13))) (pe_lst pa_nil) (by first | exact nomark _ | rfl))
 (pss_one (ps_ret pe_bl))
 pss_nil)))))), ?_⟩
  rintro DE σ H1 ⟨d, g, HE, U, q, b, ls, t, hE, fx, kt, kE, wh, ht, v1, v3, v5, v7, v8, v11, v13, v14, v15, v16, v17, v18, v19, rfl⟩
  have hw := fx.lots.1
  have few := kt.few
  refine ⟨_, rfl, rfl, fun H2 pn s2 npn hpn => ?_⟩
  have kt2 := kt.same s2
  refine ⟨d, g, pn, four.map V.str, rfl, kt2.dl, .inl ⟨hpn, (kt.dl.free npn).2⟩, by simp [four], by rw [List.length_map]; show 4 < 1000000; decide, fun H3 v hv dl3 k3 => ?_⟩
  obtain ⟨nm, hnm, rfl⟩ := List.mem_map.mp hv
  have kt3 := kt2.kp k3 dl3
  have ht3 := SqT.keep (kt2.dl.tk k3) (SqT.keep (Same.tk s2) ht)
  have kE3 := (kE.trans (Hb.Same.kp s2)).trans k3
  obtain ⟨ys, ni, hq, la⟩ := kt3.ni fx
  have yl := la.len
  obtain ⟨less, hless⟩ : ∃ f : List Str → List Str, f = fun l => l.filter fun n => decide (n ∉ [nm]) := ⟨_, rfl⟩
  refine ⟨_, rfl, q, rfl, ⟨_, SqL.of hq⟩, fun DL nDL => lc_list (K := K) (a := q) (xs := ys) (fun i H' => Same H3 H' ∧ ∃ zs, H' DL = some (.lst zs) ∧ LotsN K U.H0 H' zs ((ls.take i).map less) ∧ ∀ c, V.ref c ∈ zs → c ≠ DL) ⟨Same.new nDL, [], upd_same, lotsN_nil, fun c hc => nomatch hc⟩ (fun i H' _ y => SqL.of (y.1 _ _ hq)) ?_ ?_⟩
  · rintro i v H7 hv ⟨s7, zs, hD, la7, nD⟩
    obtain ⟨c, ns, rfl, hns, hc, nc⟩ := (la.same s7).at_ i v hv
    have kt7 := kt3.same s7
    have mns := List.mem_of_getElem? hns
    have o5 := (kt.ok ns mns).few
    have zl := la7.len
    rw [List.length_map, List.length_take] at zl
    refine ⟨rfl, yes_ ⟨_, rfl, c, rfl, ⟨_, SqL.of hc⟩, fun DI nDI => lc_list (K := K) (a := c) (xs := ns.map V.str) (fun j H' => Same H7 H' ∧ H' DI = some (.lst (((ns.take j).filter fun n => decide (n ∉ [nm])).map V.str))) ⟨Same.new nDI, upd_same⟩ (fun j H' _ y => SqL.of (y.1 _ _ hc)) ?_ ?_⟩⟩
    · rintro j v H8 hv8 ⟨s8, hD8⟩
      rw [List.getElem?_map] at hv8
      obtain ⟨x, hx, rfl⟩ := Option.map_eq_some_iff.mp hv8
      refine ⟨rfl, _, rfl, _, rfl, rfl, _, rfl, ?_⟩
      by_cases e : x = nm
      · rw [decide_eq_true (by rw [e])]
        exact iteF ⟨s8, by rw [filt_snoc _ hx, if_neg (by simp [e]), List.append_nil]; exact hD8⟩
      · rw [decide_eq_false (fun q => e (by cases q; rfl))]
        refine iteT ⟨_, rfl, _, hD8, ?_, Hb.Same.acc s8 nDI, by rw [filt_snoc _ hx, if_pos (by simp [e]), List.map_append]; exact upd_same⟩
        have : ((ns.take j).filter fun n => decide (n ∉ [nm])).length ≤ (ns.take j).length := List.length_filter_le _ _
        rw [List.length_take] at this
        rw [List.length_map]
        omega
    · rintro H8 ⟨s8, hD8⟩
      rw [List.length_map, List.take_length] at hD8
      have dD : DI ≠ DL := (ne_of_none hD nDI).symm
      refine ⟨zs, s8 _ _ hD, by omega, Hb.Same.acc (s7.trans s8) nDL, zs ++ [.ref DI], upd_same, ?_, fun x hx => ?_⟩
      · rw [List.take_add_one, hns, List.map_append]
        refine ((la7.same s8).put nD).app (by rw [upd_ne dD, hless]; exact hD8) (kt7.dl.kfree kt7.k0 nDI)
      · rcases List.mem_append.mp hx with hx | hx
        · exact nD x hx
        · cases List.mem_singleton.mp hx
          exact dD
  · rintro H4 ⟨s4, zs, hD, la4, nD⟩
    rw [yl, List.take_length] at la4
    have kt4 := kt3.same s4
    have zl := la4.len
    rw [List.length_map] at zl
    obtain ⟨nd1, nd2, nd3⟩ := far_less hw.fnd [nm] wh
    rw [← hless] at nd1 nd2 nd3
    have okl : ∀ ns ∈ ls.map less, LotOk ns := fun ns hn => by
      obtain ⟨m, hm, rfl⟩ := List.mem_map.mp hn
      have o := kt.ok m hm
      rw [hless]
      exact (Lot5.ok ⟨fun n h => o.m n (List.mem_filter.mp h).1, o.nd.filter _⟩).1
    have hin : Hin U.h := fx.hk.hin (by decide) (by decide) fun w hw => (four_nm w hw).1
    have sfew : (lessH U.h [nm]).doors.length ≤ 10 := by
      show (U.h.doors.map _).length ≤ 10
      rw [List.length_map]
      have := fx.hk.dm
      omega
    have men : ∀ {H5 : Hp} {sp : Addr}, Same H4 H5 → HAt K (He.ga K "House") H5 sp (lessH U.h [nm]) → NzIn K (He.ga K "House") H5 sp DL (lessH U.h [nm]) zs (ls.map less) := fun s hsp => ⟨hsp, sfew, .inl (SqL.of (s _ _ hD)), (la4.same s).la, okl, by rw [List.length_map]; omega⟩
    have line := sizeLine_eq
    obtain ⟨dx, ha, hb, hc, hxs, hys, hp2, _⟩ := id kt4.hh
    refine ⟨_, rfl, U.p, dx, _, rfl, hp2, rfl, _, rfl, by show 1 ≤ sizeLine; omega, fun z nz => ?_⟩
    have s5 : Same H4 (upd H4 z (.lst [.str nm])) := Same.new nz
    have hz : upd H4 z (.lst [.str nm]) z = some (.lst (([nm] : List Str).map V.str)) := upd_same
    generalize upd H4 z (.lst [.str nm]) = H5 at s5 hz ⊢
    refine ⟨U.p, z, U.h, [nm], rfl, (kt4.same s5).hh, hin, .inl (SqL.of hz), (by show 1 ≤ 1000; decide), fun H6 sp s6 nsp hsp => ?_⟩
    have s46 := s5.trans s6
    refine ⟨_, rfl, sp, DL, lessH U.h [nm], zs, ls.map less, rfl, men s46 hsp, fun H7 s7 => ?_⟩
    rw [nd1]
    refine ⟨_, rfl, iteF ?_⟩
    have s47 := s46.trans s7
    obtain ⟨dx, ha, hb, hc, hxs, hys, hp7, _⟩ := id (kt4.same s47).hh
    refine ⟨_, rfl, U.p, dx, _, rfl, hp7, rfl, _, rfl, by show 1 ≤ sizeLine; omega, fun z nz => ?_⟩
    have s8 : Same H7 (upd H7 z (.lst [.str nm])) := Same.new nz
    have hz : upd H7 z (.lst [.str nm]) z = some (.lst (([nm] : List Str).map V.str)) := upd_same
    generalize upd H7 z (.lst [.str nm]) = H8 at s8 hz ⊢
    have s48 := s47.trans s8
    refine ⟨U.p, z, U.h, [nm], rfl, (kt4.same s48).hh, hin, .inl (SqL.of hz), (by show 1 ≤ 1000; decide), fun H9 sp s9 nsp hsp => ?_⟩
    have s49 := s48.trans s9
    refine ⟨_, rfl, sp, DL, lessH U.h [nm], zs, ls.map less, rfl, men s49 hsp, fun e => (by rw [nd2] at e; cases e), fun rs e H10 t2 s10 ht2 => ?_⟩
    obtain rfl := where_last e
    have s410 := s49.trans s10
    have ht10 := SqT.keep (Same.tk (s4.trans s410)) ht3
    refine ⟨_, rfl, t, rfl, ⟨_, ht10⟩, fun DM nDM => lc_tup (K := K) (a := t) (xs := (lastR U.h ls).map V.int) (fun k H' => Same H10 H' ∧ H' DM = some (.lst [])) ⟨Same.new nDM, upd_same⟩ (fun k H' _ y => SqT.keep (Same.tk y.1) ht10) ?_ ?_⟩
    · rintro k v3 H11 hv3 ⟨s11, hD11⟩
      rw [List.getElem?_map] at hv3
      obtain ⟨x, hx, rfl⟩ := Option.map_eq_some_iff.mp hv3
      refine ⟨rfl, _, rfl, _, rfl, t2, _, rfl, .inr (SqT.keep (Same.tk s11) ht2), rfl, flat_ints _, _, rfl, ?_⟩
      rw [if_pos rfl, inV_ints, decide_eq_true (nd3 x (List.mem_of_getElem? hx))]
      exact iteF ⟨s11, hD11⟩
    · rintro H11 ⟨s11, hD11⟩
      refine ⟨Nat.zero_le _, fun z nz => ?_⟩
      have s12 : Same H11 (upd H11 z (.lst [])) := Same.new nz
      refine ne_nilL (SqL.of (s12 _ _ hD11)) .nil (SqL.of upd_same) (by decide +kernel) ⟨_, rfl, iteF ?_⟩
      have sE := (s410.trans s11).trans s12
      exact hE _ _ ⟨(kt4.same sE).dl, kE3.trans (Hb.Same.kp (s4.trans sE)), _, _, _, _, _, _, _, _, _, _, _, _, _, _, _, _, _, _, rfl⟩
end
end Lw
set_option Elab.async false
set_option linter.all false
set_option maxRecDepth 100000
set_option maxHeartbeats 8000000
namespace Lw
open PySem PySem.Spec PyProof.Rows L2 Hb
section
variable {P : Program} {w : World} {K : PySem.W.Frag} {mg : Str → Option Value} {base : Heap}
theorem ok_law (T : Tx K mg) (C : Cs P w K mg base)
    (f a : Addr) (cdv : Value) (s : Shared) (H : Hp) (ns : List Int) (few : ns.length ≤ 63) (hS : SqL K H a (ns.map V.int)) (hr : Room 9 (callerA.deeper (envOfC "law" (defScope s_law) s.heap.objs.size f cdv))) :
    ∃ t, PSs (cxOf CX0 P w K mg base N_law "law" (defScope s_law) f cdv callerA [] s H E0).nox (defBody s_law) t ∧ t { nx := fun _ _ => False, rt := fun v _ => v = .bl true } (start N_law [.ref a]) H := by
  have hr' : RmL s f cdv := hr
  have c_feed := C.c_feed
  obtain ⟨t1, h1, k1⟩ : Part (XL P w K mg base f cdv s H) (lawB.drop 0) (R0 a) := part1 T C hr' (part5 T C hr' (part7 T C hr' (body7 T C hr') (part8 T C hr')))
  refine ⟨_, (pss_cons (ps_for PassesOwn.never rfl (pi_range1 (by rfl) T.n_range (pa_cons (pe_callB (call_max2 rfl) (by rfl) T.n_max (by decide +kernel) (pa_cons pe_int (pa_cons (pe_callB (call_min2 rfl) (by rfl) T.n_min (by decide +kernel) (pa_cons pe_int (pa_cons (pe_callB call_len (by rfl) T.n_len (by decide +kernel) (pa_cons (pv 0) pa_nil)) pa_nil))) pa_nil))) pa_nil)) (pg_name (i := 1) sc_law.nd rfl (Or.inl rfl))
 (pss_cons (ps_set (i := 2) sc_law.nd rfl (Or.inl rfl) (C8.pe_c c_feed hr (by decide) rfl (pa_cons (pv 0) (pa_cons (pv 1) pa_nil))))
 (pss_one (ps_for PassesOwn.never rfl (pi_range1 (by rfl) T.n_range (pa_cons pe_int pa_nil)) (pg_name (i := 3) sc_law.nd rfl (Or.inl rfl))
 h1))))
 (pss_one (ps_ret pe_bl))), ?_⟩
  have sl : SqL K H a (ns.map V.int) := hS
  refine ⟨_, rfl, .ref a, _, rfl, .inl ⟨_, hS, rfl⟩, _, _, rfl, _, _, rfl, ?_⟩
  have hN : ∃ N : Int, (if (if (((ns.map V.int).length : Nat) : Int) < 3 then (((ns.map V.int).length : Nat) : Int) else 3) > 1 then (if (((ns.map V.int).length : Nat) : Int) < 3 then (((ns.map V.int).length : Nat) : Int) else 3) else 1) = N ∧ 1 ≤ N ∧ N ≤ 3 := by
    refine ⟨_, rfl, ?_⟩
    split <;> split at * <;> omega
  obtain ⟨N, eN, N1, N3⟩ := hN
  refine ⟨N, by rw [← eN], by omega, by omega, for_range (lo := 0) (n := N.toNat) (fun _ σ H' => SqL K H' a (ns.map V.int) ∧ ∃ v1 v2 v3 v4 v5 v6 v7 v8 v9 v10 v11 v12 v13 v14 v15 v16 v17 v18 v19, σ = [some (.ref a), v1, v2, v3, v4, v5, v6, v7, v8, v9, v10, v11, v12, v13, v14, v15, v16, v17, v18, v19])
    ⟨hS, _, _, _, _, _, _, _, _, _, _, _, _, _, _, _, _, _, _, _, rfl⟩ ?_ (fun σ H' _ => rfl)⟩
  rintro spot σ H1 hi ⟨sl1, v1, v2, v3, v4, v5, v6, v7, v8, v9, v10, v11, v12, v13, v14, v15, v16, v17, v18, v19, rfl⟩
  refine ⟨_, rfl, _, rfl, a, (0 + (spot : Nat)), ns, rfl, sl1, few, by omega, by omega, fun H2 d g dl2 s2 nd ng => ?_⟩
  refine ⟨2, rfl, by decide, by decide, for_range (lo := 0) (n := 2) (fun _ σ H' => Feed d g H' ∧ Kp d g H2 H' ∧ ∃ v1 v3 v4 v5 v6 v7 v8 v9 v10 v11 v12 v13 v14 v15 v16 v17 v18 v19, σ = [some (.ref a), v1, some (.ref d), v3, v4, v5, v6, v7, v8, v9, v10, v11, v12, v13, v14, v15, v16, v17, v18, v19])
    ⟨dl2, Kp.refl _ _ _, _, _, _, _, _, _, _, _, _, _, _, _, _, _, _, _, _, _, rfl⟩ ?_ ?_⟩
  · rintro turn σ H3 _ ⟨dl3, k3, v1, v3, v4, v5, v6, v7, v8, v9, v10, v11, v12, v13, v14, v15, v16, v17, v18, v19, rfl⟩
    exact k1 _ _ _ ⟨d, g, H2, fun σ' H' q => q, dl3, k3, _, _, _, _, _, _, _, _, _, _, _, _, _, _, _, _, _, _, rfl⟩
  · rintro σ H3 ⟨dl3, k3, v1, v3, v4, v5, v6, v7, v8, v9, v10, v11, v12, v13, v14, v15, v16, v17, v18, v19, rfl⟩
    exact ⟨sqL_over sl1 s2 nd ng k3, _, _, _, _, _, _, _, _, _, _, _, _, _, _, _, _, _, _, _, rfl⟩
end
end Lw
set_option Elab.async false
set_option linter.all false
set_option maxRecDepth 100000
set_option maxHeartbeats 0
namespace Lw
open PySem PySem.Spec PyProof.Rows L2 Hb
section
variable {P : Program} {w : World} {K : PySem.W.Frag} {h : Heap} {mg : Str → Option Value}
theorem tx_of (X : K.In h) (G : h.Ns mainGlobals mg) (cd : He.SaysD fa fn K) (cx : ex K = true) : Tx K mg :=
  ⟨He.free_ok X G (cd.fact 58 rfl),
   He.free_ok X G (cd.fact 59 rfl),
   He.free_ok X G (cd.fact 60 rfl),
   He.free_ok X G (cd.fact 61 rfl),
   He.free_ok X G (cd.fact 62 rfl),
   He.free_ok X G (cd.fact 63 rfl),
   He.free_ok X G (cd.fact 64 rfl),
   He.free_ok X G (cd.fact 65 rfl),
   He.free_ok X G (cd.fact 66 rfl),
   He.free_ok X G (cd.fact 67 rfl),
   He.free_ok X G (cd.fact 68 rfl),
   He.free_ok X G (cd.fact 69 rfl),
   He.free_ok X G (cd.fact 70 rfl),
   He.free_ok X G (cd.fact 71 rfl),
   He.free_ok X G (cd.fact 72 rfl),
   He.free_ok X G (cd.fact 73 rfl),
   He.free_ok X G (cd.fact 74 rfl),
   He.free_ok X G (cd.fact 75 rfl),
   He.str_ok X G (cd.fact 76 rfl),
   He.str_ok X G (cd.fact 77 rfl),
   He.glo_ok X G (cd.fact 78 rfl),
   fun H => He.tupB_ok (EX0 cx) H,
   He.glo_ok X G (cd.fact 79 rfl),
   fun H => He.tupB_ok (EX1 cx) H,
   He.glo_ok X G (cd.fact 80 rfl),
   fun H => He.tupB_ok (EX2 cx) H,
   He.glo_ok X G (cd.fact 81 rfl),
   fun H => He.tupB_ok (EX3 cx) H,
   He.glo_ok X G (cd.fact 82 rfl),
   fun H => He.tupB_ok (EX4 cx) H,
   He.glo_ok X G (cd.fact 83 rfl),
   fun H => He.tupB_ok (EX5 cx) H,
   He.glo_ok X G (cd.fact 84 rfl),
   fun H => He.tupB_ok (EX6 cx) H,
   He.nilB_ok (EX7 cx),
   He.cls_ok (cd.fact 85 rfl),
   He.noat_ok (cd.fact 86 rfl),
   He.noat_ok (cd.fact 87 rfl),
   He.noat_ok (cd.fact 88 rfl),
   He.noat_ok (cd.fact 89 rfl),
   He.cls_ok (cd.fact 90 rfl),
   He.noat_ok (cd.fact 91 rfl),
   He.noat_ok (cd.fact 92 rfl),
   He.noat_ok (cd.fact 93 rfl),
   He.noat_ok (cd.fact 94 rfl),
   He.noat_ok (cd.fact 95 rfl),
   He.cls_ok (cd.fact 96 rfl),
   He.noat_ok (cd.fact 97 rfl),
   He.noat_ok (cd.fact 98 rfl),
   He.noat_ok (cd.fact 99 rfl),
   He.noat_ok (cd.fact 100 rfl),
   He.cls_ok (cd.fact 101 rfl),
   He.noat_ok (cd.fact 102 rfl),
   He.noat_ok (cd.fact 103 rfl),
   He.noat_ok (cd.fact 104 rfl),
   He.noat_ok (cd.fact 105 rfl),
   He.noat_ok (cd.fact 106 rfl),
   He.noat_ok (cd.fact 107 rfl),
   He.noat_ok (cd.fact 108 rfl),
   He.noat_ok (cd.fact 109 rfl),
   He.cls_ok (cd.fact 110 rfl),
   He.noat_ok (cd.fact 111 rfl),
   He.noat_ok (cd.fact 112 rfl),
   He.noat_ok (cd.fact 113 rfl),
   He.noat_ok (cd.fact 114 rfl),
   He.noat_ok (cd.fact 115 rfl)⟩
theorem df_is_whole (X : K.In h) (G : h.Ns mainGlobals mg) (cd : He.SaysD fa fn K) : Df K mg "is_whole" s_is_whole := by
  obtain ⟨fd, F⟩ := cd.def_ 0 (d := d_is_whole) rfl
  exact ⟨fd, F, He.glo_ok X G (cd.fact 5 rfl)⟩
theorem df_is_number (X : K.In h) (G : h.Ns mainGlobals mg) (cd : He.SaysD fa fn K) : Df K mg "is_number" s_is_number := by
  obtain ⟨fd, F⟩ := cd.def_ 1 (d := d_is_number) rfl
  exact ⟨fd, F, He.glo_ok X G (cd.fact 6 rfl)⟩
theorem df_is_positive (X : K.In h) (G : h.Ns mainGlobals mg) (cd : He.SaysD fa fn K) : Df K mg "is_positive" s_is_positive := by
  obtain ⟨fd, F⟩ := cd.def_ 2 (d := d_is_positive) rfl
  exact ⟨fd, F, He.glo_ok X G (cd.fact 7 rfl)⟩
theorem df_is_name (X : K.In h) (G : h.Ns mainGlobals mg) (cd : He.SaysD fa fn K) : Df K mg "is_name" s_is_name := by
  obtain ⟨fd, F⟩ := cd.def_ 3 (d := d_is_name) rfl
  exact ⟨fd, F, He.glo_ok X G (cd.fact 8 rfl)⟩
theorem df_is_row (X : K.In h) (G : h.Ns mainGlobals mg) (cd : He.SaysD fa fn K) : Df K mg "is_row" s_is_row := by
  obtain ⟨fd, F⟩ := cd.def_ 4 (d := d_is_row) rfl
  exact ⟨fd, F, He.glo_ok X G (cd.fact 9 rfl)⟩
theorem df_is_tuple_of (X : K.In h) (G : h.Ns mainGlobals mg) (cd : He.SaysD fa fn K) : Df K mg "is_tuple_of" s_is_tuple_of := by
  obtain ⟨fd, F⟩ := cd.def_ 5 (d := d_is_tuple_of) rfl
  exact ⟨fd, F, He.glo_ok X G (cd.fact 10 rfl)⟩
theorem df_are_unlike (X : K.In h) (G : h.Ns mainGlobals mg) (cd : He.SaysD fa fn K) : Df K mg "are_unlike" s_are_unlike := by
  obtain ⟨fd, F⟩ := cd.def_ 6 (d := d_are_unlike) rfl
  exact ⟨fd, F, He.glo_ok X G (cd.fact 11 rfl)⟩
theorem df_is_numeral (X : K.In h) (G : h.Ns mainGlobals mg) (cd : He.SaysD fa fn K) : Df K mg "is_numeral" s_is_numeral := by
  obtain ⟨fd, F⟩ := cd.def_ 7 (d := d_is_numeral) rfl
  exact ⟨fd, F, He.glo_ok X G (cd.fact 12 rfl)⟩
theorem df_is_room (X : K.In h) (G : h.Ns mainGlobals mg) (cd : He.SaysD fa fn K) : Df K mg "is_room" s_is_room := by
  obtain ⟨fd, F⟩ := cd.def_ 8 (d := d_is_room) rfl
  exact ⟨fd, F, He.glo_ok X G (cd.fact 13 rfl)⟩
theorem df_is_door (X : K.In h) (G : h.Ns mainGlobals mg) (cd : He.SaysD fa fn K) : Df K mg "is_door" s_is_door := by
  obtain ⟨fd, F⟩ := cd.def_ 9 (d := d_is_door) rfl
  exact ⟨fd, F, He.glo_ok X G (cd.fact 14 rfl)⟩
theorem df_is_floor (X : K.In h) (G : h.Ns mainGlobals mg) (cd : He.SaysD fa fn K) : Df K mg "is_floor" s_is_floor := by
  obtain ⟨fd, F⟩ := cd.def_ 10 (d := d_is_floor) rfl
  exact ⟨fd, F, He.glo_ok X G (cd.fact 15 rfl)⟩
theorem df_are_doors (X : K.In h) (G : h.Ns mainGlobals mg) (cd : He.SaysD fa fn K) : Df K mg "are_doors" s_are_doors := by
  obtain ⟨fd, F⟩ := cd.def_ 11 (d := d_are_doors) rfl
  exact ⟨fd, F, He.glo_ok X G (cd.fact 16 rfl)⟩
theorem df_are_floors (X : K.In h) (G : h.Ns mainGlobals mg) (cd : He.SaysD fa fn K) : Df K mg "are_floors" s_are_floors := by
  obtain ⟨fd, F⟩ := cd.def_ 12 (d := d_are_floors) rfl
  exact ⟨fd, F, He.glo_ok X G (cd.fact 17 rfl)⟩
theorem df_are_cradles (X : K.In h) (G : h.Ns mainGlobals mg) (cd : He.SaysD fa fn K) : Df K mg "are_cradles" s_are_cradles := by
  obtain ⟨fd, F⟩ := cd.def_ 13 (d := d_are_cradles) rfl
  exact ⟨fd, F, He.glo_ok X G (cd.fact 18 rfl)⟩
theorem df_House_init (X : K.In h) (G : h.Ns mainGlobals mg) (cd : He.SaysD fa fn K) : Df1d K mg "House" "House.__init__" s_House_init 1 := by
  obtain ⟨fd, F⟩ := cd.def_ 14 (d := d_House_init) rfl
  exact ⟨He.mkr_ok (cd.fact 116 rfl), He.glo_ok X G (cd.fact 117 rfl), fd, _, rfl, F⟩
theorem df_House_noises (cx : ex K = true) (cp : fp.map (fun p => He.fnP K (p.1 K)) = fp.map fun p => p.2.val) : Dprop K "House" "noises" "House.noises" s_House_noises := ⟨He.prop_ok (EX8 cx), He.def_p cp 0 rfl (EX9 cx)⟩
theorem df_House_mended (X : K.In h) (G : h.Ns mainGlobals mg) (cd : He.SaysD fa fn K) : Dm K "House" "mended" "House.mended" s_House_mended := ⟨He.meth_ok (cd.fact 0 rfl), cd.def_ 15 (d := d_House_mended) rfl⟩
theorem df_is_sorted_name (X : K.In h) (G : h.Ns mainGlobals mg) (cd : He.SaysD fa fn K) : Df K mg "is_sorted_name" s_is_sorted_name := by
  obtain ⟨fd, F⟩ := cd.def_ 16 (d := d_is_sorted_name) rfl
  exact ⟨fd, F, He.glo_ok X G (cd.fact 19 rfl)⟩
theorem df_are_sorts (X : K.In h) (G : h.Ns mainGlobals mg) (cd : He.SaysD fa fn K) : Df K mg "are_sorts" s_are_sorts := by
  obtain ⟨fd, F⟩ := cd.def_ 17 (d := d_are_sorts) rfl
  exact ⟨fd, F, He.glo_ok X G (cd.fact 20 rfl)⟩
theorem df_Sleeper_init (X : K.In h) (G : h.Ns mainGlobals mg) (cd : He.SaysD fa fn K) : Df1 K mg "Sleeper" "Sleeper.__init__" s_Sleeper_init := ⟨He.mkr_ok (cd.fact 118 rfl), He.glo_ok X G (cd.fact 119 rfl), cd.def_ 18 (d := d_Sleeper_init) rfl⟩
theorem df_first_state (X : K.In h) (G : h.Ns mainGlobals mg) (cd : He.SaysD fa fn K) : Df K mg "first_state" s_first_state := by
  obtain ⟨fd, F⟩ := cd.def_ 19 (d := d_first_state) rfl
  exact ⟨fd, F, He.glo_ok X G (cd.fact 21 rfl)⟩
theorem df_heard (X : K.In h) (G : h.Ns mainGlobals mg) (cd : He.SaysD fa fn K) : Df K mg "heard" s_heard := by
  obtain ⟨fd, F⟩ := cd.def_ 20 (d := d_heard) rfl
  exact ⟨fd, F, He.glo_ok X G (cd.fact 22 rfl)⟩
theorem df_heard_all (X : K.In h) (G : h.Ns mainGlobals mg) (cd : He.SaysD fa fn K) : Df K mg "heard_all" s_heard_all := by
  obtain ⟨fd, F⟩ := cd.def_ 21 (d := d_heard_all) rfl
  exact ⟨fd, F, He.glo_ok X G (cd.fact 23 rfl)⟩
theorem df_ticked (X : K.In h) (G : h.Ns mainGlobals mg) (cd : He.SaysD fa fn K) : Df K mg "ticked" s_ticked := by
  obtain ⟨fd, F⟩ := cd.def_ 22 (d := d_ticked) rfl
  exact ⟨fd, F, He.glo_ok X G (cd.fact 24 rfl)⟩
theorem df_hummed (X : K.In h) (G : h.Ns mainGlobals mg) (cd : He.SaysD fa fn K) : Df K mg "hummed" s_hummed := by
  obtain ⟨fd, F⟩ := cd.def_ 23 (d := d_hummed) rfl
  exact ⟨fd, F, He.glo_ok X G (cd.fact 25 rfl)⟩
theorem df_dozing_anew (X : K.In h) (G : h.Ns mainGlobals mg) (cd : He.SaysD fa fn K) : Df K mg "dozing_anew" s_dozing_anew := by
  obtain ⟨fd, F⟩ := cd.def_ 24 (d := d_dozing_anew) rfl
  exact ⟨fd, F, He.glo_ok X G (cd.fact 26 rfl)⟩
theorem df_sort_of (X : K.In h) (G : h.Ns mainGlobals mg) (cd : He.SaysD fa fn K) : Df K mg "sort_of" s_sort_of := by
  obtain ⟨fd, F⟩ := cd.def_ 25 (d := d_sort_of) rfl
  exact ⟨fd, F, He.glo_ok X G (cd.fact 27 rfl)⟩
theorem df_heard_asleep (X : K.In h) (G : h.Ns mainGlobals mg) (cd : He.SaysD fa fn K) : Df K mg "heard_asleep" s_heard_asleep := by
  obtain ⟨fd, F⟩ := cd.def_ 26 (d := d_heard_asleep) rfl
  exact ⟨fd, F, He.glo_ok X G (cd.fact 28 rfl)⟩
theorem df_heard_loud_dozing (X : K.In h) (G : h.Ns mainGlobals mg) (cd : He.SaysD fa fn K) : Df K mg "heard_loud_dozing" s_heard_loud_dozing := by
  obtain ⟨fd, F⟩ := cd.def_ 27 (d := d_heard_loud_dozing) rfl
  exact ⟨fd, F, He.glo_ok X G (cd.fact 29 rfl)⟩
theorem df_is_person (X : K.In h) (G : h.Ns mainGlobals mg) (cd : He.SaysD fa fn K) : Df K mg "is_person" s_is_person := by
  obtain ⟨fd, F⟩ := cd.def_ 28 (d := d_is_person) rfl
  exact ⟨fd, F, He.glo_ok X G (cd.fact 30 rfl)⟩
theorem df_is_event (X : K.In h) (G : h.Ns mainGlobals mg) (cd : He.SaysD fa fn K) : Df K mg "is_event" s_is_event := by
  obtain ⟨fd, F⟩ := cd.def_ 29 (d := d_is_event) rfl
  exact ⟨fd, F, He.glo_ok X G (cd.fact 31 rfl)⟩
theorem df_Walk_init (X : K.In h) (G : h.Ns mainGlobals mg) (cd : He.SaysD fa fn K) : Df1v K mg "Walk" "Walk.__init__" s_Walk_init [.ref (He.dflAt ("Walk", some "__init__") 0 K)] := by
  obtain ⟨fd, F⟩ := cd.def_ 30 (d := d_Walk_init) rfl
  exact ⟨He.mkr_ok (cd.fact 120 rfl), He.glo_ok X G (cd.fact 121 rfl), fd, F⟩
theorem df_beyond (X : K.In h) (G : h.Ns mainGlobals mg) (cd : He.SaysD fa fn K) : Df K mg "beyond" s_beyond := by
  obtain ⟨fd, F⟩ := cd.def_ 31 (d := d_beyond) rfl
  exact ⟨fd, F, He.glo_ok X G (cd.fact 32 rfl)⟩
theorem df_floor_noise (X : K.In h) (G : h.Ns mainGlobals mg) (cd : He.SaysD fa fn K) : Df K mg "floor_noise" s_floor_noise := by
  obtain ⟨fd, F⟩ := cd.def_ 32 (d := d_floor_noise) rfl
  exact ⟨fd, F, He.glo_ok X G (cd.fact 33 rfl)⟩
theorem df_noises_of_step (X : K.In h) (G : h.Ns mainGlobals mg) (cd : He.SaysD fa fn K) : Df K mg "noises_of_step" s_noises_of_step := by
  obtain ⟨fd, F⟩ := cd.def_ 33 (d := d_noises_of_step) rfl
  exact ⟨fd, F, He.glo_ok X G (cd.fact 34 rfl)⟩
theorem df_Night_init (X : K.In h) (G : h.Ns mainGlobals mg) (cd : He.SaysD fa fn K) : Df1 K mg "Night" "Night.__init__" s_Night_init := ⟨He.mkr_ok (cd.fact 122 rfl), He.glo_ok X G (cd.fact 123 rfl), cd.def_ 34 (d := d_Night_init) rfl⟩
theorem df_Night_allows (X : K.In h) (G : h.Ns mainGlobals mg) (cd : He.SaysD fa fn K) : Dm K "Night" "allows" "Night.allows" s_Night_allows := ⟨He.meth_ok (cd.fact 1 rfl), cd.def_ 35 (d := d_Night_allows) rfl⟩
theorem df_Night_follow (X : K.In h) (G : h.Ns mainGlobals mg) (cd : He.SaysD fa fn K) : Dm K "Night" "follow" "Night.follow" s_Night_follow := ⟨He.meth_ok (cd.fact 2 rfl), cd.def_ 36 (d := d_Night_follow) rfl⟩
theorem df_Night_tick (X : K.In h) (G : h.Ns mainGlobals mg) (cd : He.SaysD fa fn K) : Dm K "Night" "tick" "Night.tick" s_Night_tick := ⟨He.meth_ok (cd.fact 3 rfl), cd.def_ 37 (d := d_Night_tick) rfl⟩
theorem df_Night_step (X : K.In h) (G : h.Ns mainGlobals mg) (cd : He.SaysD fa fn K) : Dm K "Night" "step" "Night.step" s_Night_step := ⟨He.meth_ok (cd.fact 4 rfl), cd.def_ 38 (d := d_Night_step) rfl⟩
theorem df_Played_init (X : K.In h) (G : h.Ns mainGlobals mg) (cd : He.SaysD fa fn K) : Df1 K mg "Played" "Played.__init__" s_Played_init := ⟨He.mkr_ok (cd.fact 124 rfl), He.glo_ok X G (cd.fact 125 rfl), cd.def_ 39 (d := d_Played_init) rfl⟩
theorem df_play (X : K.In h) (G : h.Ns mainGlobals mg) (cd : He.SaysD fa fn K) : Df K mg "play" s_play := by
  obtain ⟨fd, F⟩ := cd.def_ 40 (d := d_play) rfl
  exact ⟨fd, F, He.glo_ok X G (cd.fact 35 rfl)⟩
theorem df_all_steps (X : K.In h) (G : h.Ns mainGlobals mg) (cd : He.SaysD fa fn K) : Df K mg "all_steps" s_all_steps := by
  obtain ⟨fd, F⟩ := cd.def_ 41 (d := d_all_steps) rfl
  exact ⟨fd, F, He.glo_ok X G (cd.fact 36 rfl)⟩
theorem df_possible (X : K.In h) (G : h.Ns mainGlobals mg) (cd : He.SaysD fa fn K) : Df K mg "possible" s_possible := by
  obtain ⟨fd, F⟩ := cd.def_ 42 (d := d_possible) rfl
  exact ⟨fd, F, He.glo_ok X G (cd.fact 37 rfl)⟩
theorem df_first_wrong (X : K.In h) (G : h.Ns mainGlobals mg) (cd : He.SaysD fa fn K) : Df K mg "first_wrong" s_first_wrong := by
  obtain ⟨fd, F⟩ := cd.def_ 43 (d := d_first_wrong) rfl
  exact ⟨fd, F, He.glo_ok X G (cd.fact 38 rfl)⟩
theorem df_where (X : K.In h) (G : h.Ns mainGlobals mg) (cd : He.SaysD fa fn K) : Df K mg "where" s_where := by
  obtain ⟨fd, F⟩ := cd.def_ 44 (d := d_where) rfl
  exact ⟨fd, F, He.glo_ok X G (cd.fact 39 rfl)⟩
theorem df_rooms_behind (X : K.In h) (G : h.Ns mainGlobals mg) (cd : He.SaysD fa fn K) : Df K mg "rooms_behind" s_rooms_behind := by
  obtain ⟨fd, F⟩ := cd.def_ 45 (d := d_rooms_behind) rfl
  exact ⟨fd, F, He.glo_ok X G (cd.fact 40 rfl)⟩
theorem df_quiet_steps (X : K.In h) (G : h.Ns mainGlobals mg) (cd : He.SaysD fa fn K) : Df K mg "quiet_steps" s_quiet_steps := by
  obtain ⟨fd, F⟩ := cd.def_ 46 (d := d_quiet_steps) rfl
  exact ⟨fd, F, He.glo_ok X G (cd.fact 41 rfl)⟩
theorem df_is_made (X : K.In h) (G : h.Ns mainGlobals mg) (cd : He.SaysD fa fn K) : Df K mg "is_made" s_is_made := by
  obtain ⟨fd, F⟩ := cd.def_ 47 (d := d_is_made) rfl
  exact ⟨fd, F, He.glo_ok X G (cd.fact 42 rfl)⟩
theorem df_check (X : K.In h) (G : h.Ns mainGlobals mg) (cd : He.SaysD fa fn K) : Df K mg "check" s_check := by
  obtain ⟨fd, F⟩ := cd.def_ 48 (d := d_check) rfl
  exact ⟨fd, F, He.glo_ok X G (cd.fact 43 rfl)⟩
theorem df_are_noises (X : K.In h) (G : h.Ns mainGlobals mg) (cd : He.SaysD fa fn K) : Df K mg "are_noises" s_are_noises := by
  obtain ⟨fd, F⟩ := cd.def_ 49 (d := d_are_noises) rfl
  exact ⟨fd, F, He.glo_ok X G (cd.fact 44 rfl)⟩
theorem df_feed (X : K.In h) (G : h.Ns mainGlobals mg) (cd : He.SaysD fa fn K) : Df K mg "_law_feed" s_feed := by
  obtain ⟨fd, F⟩ := cd.def_ 50 (d := d_feed) rfl
  exact ⟨fd, F, He.glo_ok X G (cd.fact 45 rfl)⟩
theorem df_take (X : K.In h) (G : h.Ns mainGlobals mg) (cd : He.SaysD fa fn K) : Df K mg "_law_take" s_take := by
  obtain ⟨fd, F⟩ := cd.def_ 51 (d := d_take) rfl
  exact ⟨fd, F, He.glo_ok X G (cd.fact 46 rfl)⟩
theorem df_pick (X : K.In h) (G : h.Ns mainGlobals mg) (cd : He.SaysD fa fn K) : Df K mg "_law_pick" s_pick := by
  obtain ⟨fd, F⟩ := cd.def_ 52 (d := d_pick) rfl
  exact ⟨fd, F, He.glo_ok X G (cd.fact 47 rfl)⟩
theorem df_mixed (X : K.In h) (G : h.Ns mainGlobals mg) (cd : He.SaysD fa fn K) : Df K mg "_law_mixed" s_mixed := by
  obtain ⟨fd, F⟩ := cd.def_ 53 (d := d_mixed) rfl
  exact ⟨fd, F, He.glo_ok X G (cd.fact 48 rfl)⟩
theorem df_names (X : K.In h) (G : h.Ns mainGlobals mg) (cd : He.SaysD fa fn K) : Df K mg "_law_names" s_names := by
  obtain ⟨fd, F⟩ := cd.def_ 54 (d := d_names) rfl
  exact ⟨fd, F, He.glo_ok X G (cd.fact 49 rfl)⟩
theorem df_house (X : K.In h) (G : h.Ns mainGlobals mg) (cd : He.SaysD fa fn K) : Df K mg "_law_house" s_house := by
  obtain ⟨fd, F⟩ := cd.def_ 55 (d := d_house) rfl
  exact ⟨fd, F, He.glo_ok X G (cd.fact 50 rfl)⟩
theorem df_sleeper (X : K.In h) (G : h.Ns mainGlobals mg) (cd : He.SaysD fa fn K) : Df K mg "_law_sleeper" s_sleeper := by
  obtain ⟨fd, F⟩ := cd.def_ 56 (d := d_sleeper) rfl
  exact ⟨fd, F, He.glo_ok X G (cd.fact 51 rfl)⟩
theorem df_home (X : K.In h) (G : h.Ns mainGlobals mg) (cd : He.SaysD fa fn K) : Df K mg "_law_home" s_home := by
  obtain ⟨fd, F⟩ := cd.def_ 57 (d := d_home) rfl
  exact ⟨fd, F, He.glo_ok X G (cd.fact 52 rfl)⟩
theorem df_dreamer (X : K.In h) (G : h.Ns mainGlobals mg) (cd : He.SaysD fa fn K) : Df K mg "_law_dreamer" s_dreamer := by
  obtain ⟨fd, F⟩ := cd.def_ 58 (d := d_dreamer) rfl
  exact ⟨fd, F, He.glo_ok X G (cd.fact 53 rfl)⟩
theorem df_ways (X : K.In h) (G : h.Ns mainGlobals mg) (cd : He.SaysD fa fn K) : Df K mg "_law_ways" s_ways := by
  obtain ⟨fd, F⟩ := cd.def_ 59 (d := d_ways) rfl
  exact ⟨fd, F, He.glo_ok X G (cd.fact 54 rfl)⟩
theorem df_walked (X : K.In h) (G : h.Ns mainGlobals mg) (cd : He.SaysD fa fn K) : Df K mg "_law_walked" s_walked := by
  obtain ⟨fd, F⟩ := cd.def_ 60 (d := d_walked) rfl
  exact ⟨fd, F, He.glo_ok X G (cd.fact 55 rfl)⟩
theorem df_lots_of (X : K.In h) (G : h.Ns mainGlobals mg) (cd : He.SaysD fa fn K) : Df K mg "_law_lots_of" s_lots_of := by
  obtain ⟨fd, F⟩ := cd.def_ 61 (d := d_lots_of) rfl
  exact ⟨fd, F, He.glo_ok X G (cd.fact 56 rfl)⟩
theorem facts {f : Addr} (X : K.In h) (G : h.Ns mainGlobals mg) (hfa : mg ("law" : Str) = some (.ref f)) (cd : He.SaysD fa fn K) (cx : ex K = true) (cp : fp.map (fun p => He.fnP K (p.1 K)) = fp.map fun p => p.2.val) :
    ∃ fd : FuncData, FunD K "law" "law" (defArgs s_law) (defBody s_law) (defScope s_law) [] [] f fd ∧ (∀ (s : Shared) (v : Value), BindsTo s fd ⟨[v], []⟩ [("_law_script", v)]) ∧ BodyG P w K mg N_law (defScope s_law) (defBody s_law) 9 63 := by
  obtain ⟨fd, F⟩ := cd.def_ 62 (d := d_law) rfl
  have T := tx_of X G cd cx
  have e := hfa.symm.trans (He.glo_ok X G (cd.fact 57 rfl))
  cases e
  have b := FunD.bindsA (ps := ["_law_script"]) F bd_law
  refine ⟨fd, F, fun s v => b s [v] rfl, fun base f a cdv s H ns few hS hr => ?_⟩
  have c_take := c_take (P := P) (w := w) (base := base) (df_take X G cd) T
  have c_pick := c_pick (df_pick X G cd) T c_take
  have c_mixed := c_mixed (df_mixed X G cd) T c_take
  have c_feed := c_feed (P := P) (w := w) (base := base) (df_feed X G cd) T
  have c_is_whole := c_is_whole (P := P) (w := w) (base := base) (df_is_whole X G cd) T
  have c_is_positive := c_is_positive (df_is_positive X G cd) T c_is_whole
  have c_is_name := c_is_name (P := P) (w := w) (base := base) (df_is_name X G cd) T
  have c_is_row := c_is_row (P := P) (w := w) (base := base) (df_is_row X G cd) T
  have c_is_tuple_of := c_is_tuple_of (P := P) (w := w) (base := base) (df_is_tuple_of X G cd) T
  have c_are_unlike := c_are_unlike (P := P) (w := w) (base := base) (df_are_unlike X G cd) T
  have c_is_room := c_is_room (df_is_room X G cd) T c_is_whole
  have c_is_door := c_is_door (df_is_door X G cd) T c_is_tuple_of c_is_room c_is_name
  have c_is_floor := c_is_floor (df_is_floor X G cd) T c_is_tuple_of c_is_room c_is_name
  have c_are_doors := c_are_doors (df_are_doors X G cd) T c_is_row c_is_door
  have c_are_floors := c_are_floors (df_are_floors X G cd) T c_is_row c_is_floor c_are_unlike
  have c_are_cradles := c_are_cradles (df_are_cradles X G cd) T c_is_row c_is_room c_are_unlike
  have c_House := m_House_mk (df_House_init X G cd) T c_is_positive c_are_doors c_are_floors c_are_cradles
  have c_floor_noise := c_floor_noise (P := P) (w := w) (base := base) (df_floor_noise X G cd) T
  have c_noises_of_step := c_noises_of_step (df_noises_of_step X G cd) T c_floor_noise
  have c_all_steps := c_all_steps (df_all_steps X G cd) T c_noises_of_step
  have c_is_made := c_is_made (P := P) (w := w) (base := base) (df_is_made X G cd) T
  have c_quiet_steps := c_quiet_steps (P := P) (w := w) (base := base) (df_quiet_steps X G cd) T
  have c_are_noises := c_are_noises (df_are_noises X G cd) T c_is_row c_is_name c_are_unlike
  have c_check := c_check (df_check X G cd) T c_is_row c_are_noises
  have c_rooms_behind := c_rooms_behind (df_rooms_behind X G cd) T c_check c_all_steps c_quiet_steps c_is_made
  have c_first_wrong := c_first_wrong (df_first_wrong X G cd) T c_rooms_behind
  have c_possible := c_possible (df_possible X G cd) T c_first_wrong
  have c_where := c_where (df_where X G cd) T c_rooms_behind
  have c_mended := met_ (P := P) (w := w) (mg := mg) (base := base) (df_House_mended X G cd) T.cls_House bd_House_mended fun F => ok_mended F T c_House
  have c_names := c_names (P := P) (w := w) (base := base) (df_names X G cd) T
  have c_house := c_house (df_house X G cd) T c_take c_pick c_mixed c_names
  have c_home := c_home (df_home X G cd) T c_House
  have c_ways := c_ways (P := P) (w := w) (base := base) (df_ways X G cd) T
  have c_walked := c_walked (df_walked X G cd) T c_take c_pick c_ways
  have c_is_sorted_name := c_is_sorted_name (df_is_sorted_name X G cd) T c_is_tuple_of c_is_name
  have c_are_sorts := c_are_sorts (df_are_sorts X G cd) T c_is_row c_is_sorted_name c_are_unlike
  have c_Sleeper := m_Sleeper_mk (df_Sleeper_init X G cd) T c_are_sorts c_is_positive
  have c_sort_of := c_sort_of (P := P) (w := w) (base := base) (df_sort_of X G cd) T
  have c_dozing_anew := c_dozing_anew (P := P) (w := w) (base := base) (df_dozing_anew X G cd) T
  have c_heard_loud_dozing := c_heard_loud_dozing (df_heard_loud_dozing X G cd) T c_dozing_anew
  have c_heard_asleep := c_heard_asleep (P := P) (w := w) (base := base) (df_heard_asleep X G cd) T
  have c_heard := c_heard (df_heard X G cd) T c_sort_of c_heard_asleep c_heard_loud_dozing
  have c_ticked := c_ticked (P := P) (w := w) (base := base) (df_ticked X G cd) T
  have c_hummed := c_hummed (df_hummed X G cd) T c_dozing_anew
  have c_first_state := c_first_state (df_first_state X G cd) T c_dozing_anew
  have c_is_number := c_is_number (df_is_number X G cd) T c_is_whole
  have c_is_numeral := c_is_numeral (P := P) (w := w) (base := base) (df_is_numeral X G cd) T
  have c_is_person := c_is_person (df_is_person X G cd) T c_is_numeral
  have c_is_event := c_is_event (df_is_event X G cd) T c_is_numeral c_is_person
  have c_Walk2 := m_Walk_mk (df_Walk_init X G cd) T c_is_number c_is_row c_is_event
  have c_Walk := c_Walk2.1
  have c_Walk0 := c_Walk2.2
  have c_beyond := c_beyond (P := P) (w := w) (base := base) (df_beyond X G cd) T
  have c_heard_all := c_heard_all (df_heard_all X G cd) T c_heard
  have c_Night := m_Night_mk (df_Night_init X G cd) T c_first_state
  have c_tick := met_ (P := P) (w := w) (mg := mg) (base := base) (df_Night_tick X G cd) T.cls_Night bd_Night_tick fun F => ok_tick F T c_ticked
  have c_step := met_ (P := P) (w := w) (mg := mg) (base := base) (df_Night_step X G cd) T.cls_Night bd_Night_step fun F => ok_step F T c_beyond c_noises_of_step c_heard_all
  have c_allows := met_ (P := P) (w := w) (mg := mg) (base := base) (df_Night_allows X G cd) T.cls_Night bd_Night_allows fun F => ok_allows F T c_beyond
  have c_follow := met_ (P := P) (w := w) (mg := mg) (base := base) (df_Night_follow X G cd) T.cls_Night bd_Night_follow fun F => ok_follow F T c_hummed c_tick c_step
  have c_Played := m_Played_mk (P := P) (w := w) (base := base) (df_Played_init X G cd) T
  have c_play := c_play (df_play X G cd) T c_Night c_Played c_allows c_follow
  have c_sleeper := c_sleeper (df_sleeper X G cd) T c_take c_pick c_names
  have c_dreamer := c_dreamer (df_dreamer X G cd) T c_Sleeper
  have c_lots_of := c_lots_of (P := P) (w := w) (base := base) (df_lots_of X G cd) T
  exact ok_law T ⟨c_feed, c_take, c_pick, c_names, c_house, c_home, c_sleeper, c_dreamer, c_walked, c_Walk, c_play, c_lots_of, c_possible, c_where, c_mended⟩ f a cdv s H ns few hS hr
end
end Lw
open PySem PySem.W PySem.Calls PyProof.Rows
theorem PySem.Challenge.cw_hushsteps_k60_whole_noises_of_walks_holds : PySem.Challenge.rw_hushsteps_k60_whole_noises_of_walks.Holds := by
  w_on; o_law
  refine HandSHeadRun.head_any (r := OpenLaw.row PySem.Challenge.rw_hushsteps_k60_whole_noises_of_walks) (q := view (OpenLaw.row PySem.Challenge.rw_hushsteps_k60_whole_noises_of_walks).prog [94]) (H := Lw.hk) (ob := Lw.ob) (M := 12000) (loose := Lw.names) (d := HandSHeadRun.topDef (OpenLaw.row PySem.Challenge.rw_hushsteps_k60_whole_noises_of_walks).prog 94) (kwd := []) Lw.ob_eq
    (by kernel_rfl) (fun s => by kernel_rfl) Lw.run (by kernel_rfl) (by kernel_rfl) (by kernel_rfl) (by rfl) (by first | assumption | decide +kernel) (by decide +kernel) ⟨rfl, rfl, rfl, rfl, rfl, by decide +kernel⟩ ?hw ?hc
  case hw => w_witness2
  case hc =>
    refine Hb.walk_ofG (l := PySem.Challenge.rw_hushsteps_k60_whole_noises_of_walks) (n := 63) (k := 9) (x := "_law_script") rfl (by decide) (by kernel_rfl) ⟨rfl, by decide, by decide⟩ ?F
    intro w mg fa h Y G hmg0
    obtain ⟨K, KX, c⟩ := Y
    have hmg : mg ("law" : PySem.Str) = some (.ref fa) := by
      have e : (HandSHeadRun.topDef (OpenLaw.row PySem.Challenge.rw_hushsteps_k60_whole_noises_of_walks).prog 94).name = ("law" : PySem.Str) := by kernel_rfl
      rw [← e]
      exact hmg0
    obtain ⟨fd, hF, hb, hB⟩ := Lw.facts (P := (PySem.Challenge.rw_hushsteps_k60_whole_noises_of_walks).prog) (w := w) KX G hmg c.x.t.d c.x.more c.p
    exact ⟨K, fd, _, _, _, _, KX, hF, Lw.sc_law, hb, hB⟩
