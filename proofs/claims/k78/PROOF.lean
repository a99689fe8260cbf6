import PyProof.Rows.All
import Wide.All
import OpenK.AllK
import Wide.FinOn
import HandS.ForMost
import HandS.Strs
import HandS.Zip
import KE.SortData
import HandS.Codes
import HandS.Defaults
import HandS.IsInst
import HandS.Deep
import HandS.Style
import HandS.TupAny
import HandS.RaiseMore
import HandS.HeadHook1
import HandS.HeadHook2
import HandS.Walk
import KE.SortLaws
import HandS.SetFor
import HandS.Conv
import HandS.OwnEq
import HandS.SlotsOwn
import HandS.More
import PyProof.InstNe
import PyProof.CallStr
import HandS.Set
import HandS.Property
import HandS.HeadHook3
import HandS.HeadHook4
import HandS.ClsMeth
import PyProof.Rows.StrMeet
import PyProof.Rows.SortStr
import KE.GoesMore
import HandS.Ends
import HandS.HeadEnd
import PyProof.ReprRoads
import HandS.TupMul
import KE.KeyNested
import KE.KDictKeyed
import KE.KDictDisplayH
import HandS.Iter
import HandS.SetBool
import HandS.ForExc
import HandS.ExcInit
import HandS.ExcField
import HandS.ExcIs
import KE.KExcIs
import PyProof.CallFns
import KE.KDictCopyH
import HandS.Head0
import Wide.Once
import HandS.Head1
import HandS.Head2
import HandS.FStr
import HandS.Text
import HandS.TupLe
import PySem.Challenge.RW_hushsteps_k78_whole_tables_and_walks
set_option Elab.async false
set_option linter.all false
set_option maxRecDepth 100000
set_option maxHeartbeats 4000000
/-! Sets of unlike texts told by their length; sorted lists of pairs of texts. -/
namespace Hb
open PySem PySem.Spec PyProof.Rows L2

theorem grown_text (xs : List Str) (nd : xs.Nodup) {i : Nat} (hi : i < xs.length) : ((xs.take i).any (· == xs.getD i Str.empty)) = false := by
  have e1 : xs.getD i Str.empty = xs[i] := by rw [List.getD_eq_getElem?_getD, List.getElem?_eq_getElem hi] <;> rfl
  rw [e1, Bool.eq_false_iff]
  intro hb
  obtain ⟨y, hy, ey⟩ := List.any_eq_true.mp hb
  rw [eq_of_beq ey] at hy
  obtain ⟨j, hj, ej⟩ := List.mem_iff_getElem.mp hy
  rw [List.length_take] at hj
  rw [List.getElem_take] at ej
  exact absurd ej (List.pairwise_iff_getElem.mp nd j i (by omega) hi (by omega))
theorem more_text (xs : List Str) {i : Nat} (hi : i < xs.length) : xs.take (i + 1) = xs.take i ++ [xs.getD i Str.empty] := by
  have e1 : xs.getD i Str.empty = xs[i] := by rw [List.getD_eq_getElem?_getD, List.getElem?_eq_getElem hi] <;> rfl
  rw [e1, List.take_add_one, List.getElem?_eq_getElem hi] <;> rfl

section
variable {prog : Program} {w : World} {A : Around} {R : Result → Shared → Prop} {I : Addr} {fp wr : List Addr} {G : Array GenState → Array GenState → Prop} {n : Nat} {P : Nat → Value → Prop} {Z : Nat → Shared → Prop}
/-- the turns of set.update over unlike texts -/
theorem turns_text (W : WalksS prog w A.in1 I fp wr G n P Z) (S : Addr) (apart : S ∉ fp) (xs : List Str) (len : xs.length = n) (nd : xs.Nodup) (few : n + 1 < scanBound)
    (told : ∀ i v, P i v → ∃ t, v = .str (xs.getD i Str.empty) t) : ∀ (left i : Nat) (s : Shared), n - i = left → i ≤ n → Z i s →
      s.heap.SetOf (PySem.strKind prog w) S (fun z => (xs.take i).any (· == z)) i →
      (∀ s', Moved (S :: wr) G s s' → s'.heap.SetOf (PySem.strKind prog w) S (fun z => (xs.take n).any (· == z)) n → R (.ok (.ret .none)) s') →
      codeAny (model prog w) A (.builtin "set.update.loop" ⟨[.ref S, .ref I], []⟩) R s := by
  have nwr : S ∉ wr := fun h => apart (W.sub _ h)
  have up : ∀ b ∈ wr, b ∈ S :: wr := fun b hb => List.mem_cons_of_mem _ hb
  intro left
  induction left with
  | zero =>
    intro i s hk hi hst hS hR
    obtain rfl : i = n := by omega
    refine codeAny_builtin PyProof.Rows.F.entry_set_update_loop (by
      rw [Around.under_plainId PyProof.Rows.F.plain_set_update_loop _]; show wpAny _ A.in1 (pyNext (.ref I) >>= _) _ _ s
      refine wpAny_bind (W.done s _ _ hst fun s' hm => ?_); show wpAny _ A.in1 (ret Value.none) _ _ s'
      refine wpAny_pure (hR s' (hm.mono up) ?_); obtain ⟨o, es, ep, t, ho, rest⟩ := hS; exact ⟨o, es, ep, t, hm.heap S _ nwr ho, rest⟩)
  | succ left ih =>
    intro i s hk hi hst hS hR
    have lt : i < n := by omega
    have lt2 : i < xs.length := by omega
    refine codeAny_builtin PyProof.Rows.F.entry_set_update_loop (by
      rw [Around.under_plainId PyProof.Rows.F.plain_set_update_loop _]; show wpAny _ A.in1 (pyNext (.ref I) >>= _) _ _ s
      refine wpAny_bind (W.item i s _ _ lt hst fun v s' hP hst' hm => ?_)
      obtain ⟨t, rfl⟩ := told i v hP
      have hS' : s'.heap.SetOf (PySem.strKind prog w) S (fun z => (xs.take i).any (· == z)) i := by
        obtain ⟨o, es, ep, tb, ho, rest⟩ := hS; exact ⟨o, es, ep, tb, hm.heap S _ nwr ho, rest⟩
      show wpAny _ A.in1 (holding [Value.str (xs.getD i Str.empty) t] (setAdd S (.str (xs.getD i Str.empty) t)) >>= _) _ _ s'
      refine wpAny_bind (wpAny_holding ?_); unfold setAdd
      refine wpAny_holding (wpAny_bind ((PySem.strKind prog w).pyHash (k := xs.getD i Str.empty) (strKind_is _ _ _ _) ?_))
      refine wpAny_setAddHashed_of (knd := PySem.strKind prog w) (s := { s' with toks := s'.toks + 1 }) (strKind_is prog w _ _) rfl hS' (by omega) fun h' same hS2 => ?_
      have hS3 : h'.SetOf (PySem.strKind prog w) S (fun z => (xs.take (i + 1)).any (· == z)) (i + 1) := PyProof.Rows.SetOf_congr hS2 (fun z => by
        rw [more_text xs lt2, List.any_append]
        by_cases e : z = xs.getD i Str.empty
        · subst e; simp
        · have q : (xs.getD i Str.empty == z) = false := beq_eq_false_iff_ne.mpr fun h => e h.symm
          simp only [List.any_cons, List.any_nil, q, Bool.or_false, e, decide_false]) (by rw [if_neg (by rw [grown_text xs nd lt2]; decide)])
      refine wpAny_pure ⟨plainId_quiet PyProof.Rows.F.plain_set_update_loop _, ih (i + 1) _ (by omega) lt (W.frame _ s' _ _ hst' (Nat.le_succ _) fun b hb o e => ?_) hS3 fun s'' hm2 hS4 => ?_⟩
      · rw [same.2 b (fun h : b = S => apart (h ▸ hb))]; exact e
      · refine hR s'' (Moved.trans W.gtrans ((hm.mono up).then_heap (Nat.le_succ _) fun b o hb e => ?_) hm2) hS4
        rw [same.2 b (fun h : b = S => hb (by rw [h]; exact List.mem_cons_self))]; exact e)
end
end Hb
set_option Elab.async false
set_option linter.all false
set_option maxRecDepth 100000
set_option maxHeartbeats 8000000
namespace Hb
open PySem PySem.Spec PyProof.Rows L2
section
variable {prog : Program} {w : World} {A : Around} {E : Value → Shared → Prop} {s : Shared}
/-- the new empty set, as the model makes it -/
abbrev bareSet (led : Bool) : Obj := { cls := .type "set", dict := none, data := .set #[] 0 (.fresh 0 0 led) }
/-- set(xs) of a list of unlike texts -/
theorem set_texts {l : Addr} {its : Array Value} {xs : List Str} {Q : Value → Shared → Prop} (calm : A.handled = none) (at_ : s.heap.IsList l its) (are : StrsAre its.toList xs) (nd : xs.Nodup) (few : xs.length + 1 < scanBound)
    (k : ∀ (h' : Heap) (tk : Nat), h'.SetOf (PySem.strKind prog w) s.heap.objs.size (fun z => (xs.take xs.length).any (· == z)) xs.length → (∀ b o, s.heap.get? b = some o → h'.get? b = some o) → Q (.ref s.heap.objs.size) { s with heap := h', toks := tk }) :
    wpAny (model prog w) A (call (.type "set") [.ref l]) Q E s := by
  have size : its.size = xs.length := by have q := are.length; rw [Array.length_toList] at q; exact q
  obtain ⟨c, tl, mro⟩ := F.called_set.mro
  have f1 := F.called_set.made; have f2 := F.called_set.sub; have f3 := F.called_set.notType; have f4 := F.called_set.canCreate; have f5 := F.typeCall_set_1 (.ref l)
  refine wpAny_call (codeAny_of_tree (by
    show wpAny _ _ (callAny (.type "set") _) _ _ _
    refine wpAny_pure ⟨Code.quiet_builtin _ (by decide +kernel), codeAny_builtin F.entry_type_call ?_⟩
    rw [Around.under_plain (weight_type_call_type "set" [.ref l] []) rfl]
    repeat (any_goals (first | assumption | wp_step))
    refine codeAny_mono (code_set_new_1 (.ref l) (E := E) (Q₁ := fun v z => ∃ led : Bool, v = .ref s.heap.objs.size ∧ z = { s with heap := s.heap.push (bareSet led) }) fun led => ⟨led, rfl, rfl⟩) fun r z hr => ?_
    match r, hr with
    | .error e, hr => exact hr
    | .ok .next, hr => exact hr.elim
    | .ok .brk, hr => exact hr.elim
    | .ok .cont, hr => exact hr.elim
    | .ok (.ret v), ⟨led, e1, e2⟩ =>
      subst e1 e2
      have mine : (s.heap.push (bareSet led)).get? s.heap.objs.size = some (bareSet led) := Heap.get?_push_size _ rfl
      have kind : Shared.TypeIs { s with heap := s.heap.push (bareSet led) } (.ref s.heap.objs.size) "set" := ⟨_, mine, rfl⟩
      have f6 := F.called_set.init.lookup; have f7 := F.called_set.init.bind (.ref s.heap.objs.size)
      repeat (any_goals (first | assumption | wp_step))
      refine codeAny_mono (codeAny_call_builtin (R := wants (fun r z => r = .none ∧ ∃ h' tk, z = { s with heap := h', toks := tk } ∧
        h'.SetOf (PySem.strKind prog w) s.heap.objs.size (fun z => (xs.take xs.length).any (· == z)) xs.length ∧ ∀ b o, s.heap.get? b = some o → h'.get? b = some o) E) F.called_set.init.plain F.entry_set_init (check_set_init_1 kind ?_)) fun r2 z2 hr2 => ?_
      · obtain ⟨⟨ocls, odict, odata, oslots⟩, ho, hc, nl, hd⟩ := at_
        simp only at hc hd; subst hc hd
        have ho2 : (s.heap.push (bareSet led)).get? l = some { cls := .type "list", dict := odict, data := .seq its nl, slots := oslots } := Heap.get?_push_of_some _ ho
        have g1 := F.sub_list_set; have g2 := F.sub_list_frozenset; have g3 : (Value.type "list" == Value.type "dict") = false := by decide
        have ml : (s.heap.push (bareSet led)).IsList l its := ⟨_, ho2, rfl, nl, rfl⟩
        unfold Builtin.«set.__init__» noKeywords Builtin.Frozenset.updateFrom
        generalize hI : pyIter = It
        wp_walk
        subst hI
        have lo : l < s.heap.objs.size := Heap.lt_size ho
        have far : l ≠ (s.heap.push (bareSet led)).objs.size := by rw [Heap.size_push]; exact Nat.ne_of_lt (Nat.lt_succ_of_lt lo)
        refine wpAny_pyIter_list ml (wpAny_bind (wpAny_runValue (turns_text ((Walks.list (by simp [calm]) _ l far its).toS) s.heap.objs.size (by
            rw [Heap.size_push]; simp only [List.mem_cons, List.not_mem_nil, or_false, not_or]
            exact ⟨Nat.ne_of_lt (Nat.lt_succ_self _), Nat.ne_of_gt lo⟩) xs size.symm nd (by omega) (fun i v hv => SS.strs_at are i v (by rw [Array.getElem?_toList]; exact hv)) (its.size - 0) 0 _ (by omega) (Nat.zero_le _)
          ⟨⟨_, Heap.get?_push_size _ rfl, rfl, rfl⟩, (ml.push _)⟩ ?zer ?fin1)))
        case zer =>
          have e0 : ((s.heap.push (bareSet led)).push { cls := .type "list_iterator", data := .fields #[.ref l, .int 0 0] }).get? s.heap.objs.size = some (bareSet led) := Heap.get?_push_of_some _ mine
          exact SetOf_congr ((setObjOf_fresh (knd := PySem.strKind prog w) led).setOf e0 (by unfold scanBound; omega)) (fun _ => rfl) rfl
        case fin1 =>
          rintro ⟨h', g', d', tk', os'⟩ hm hS
          obtain rfl : g' = s.gens := hm.gens
          obtain rfl : d' = s.drawn := hm.drawn
          obtain rfl : os' = s.os := hm.os
          show wpAny _ _ _ _ _ _
          refine wpAny_pure (by
            show wpAny _ _ (ret Value.none) _ _ _
            rw [size] at hS
            refine wpAny_pure ⟨rfl, h', tk', rfl, hS, fun b o e => hm.heap b o ?_ (Heap.get?_push_of_some _ (Heap.get?_push_of_some _ e))⟩
            have lb := Heap.lt_size e
            rw [Heap.size_push]; simp only [List.mem_cons, List.not_mem_nil, or_false, not_or]
            exact ⟨Nat.ne_of_lt lb, Nat.ne_of_lt (Nat.lt_succ_of_lt lb)⟩)
      · match r2, hr2 with
        | .error e, h => exact h
        | .ok .next, h => exact h.elim
        | .ok .brk, h => exact h.elim
        | .ok .cont, h => exact h.elim
        | .ok (.ret v), ⟨e1, h', tk, e2, hS, hk⟩ =>
          subst e1 e2
          repeat (any_goals (first | assumption | wp_step))
          exact k _ _ hS hk))
end
end Hb
namespace Hb
open PySem PySem.Spec PyProof.Rows L2
/-- len(set(xs)), xs a list of unlike texts, or of unlike ints -/
def tLenSet2 (K : PySem.W.Frag) (ta : TE) : TE := fun σ H Q => ta σ H fun x H1 => ∃ l : Addr, x = .ref l ∧
  ((∃ xs : List Str, SqL K H1 l (xs.map V.str) ∧ xs.Nodup ∧ xs.length ≤ 4000 ∧ Q (.int xs.length) H1) ∨ ∃ ns : List Int, SqL K H1 l (ns.map V.int) ∧ ns.Nodup ∧ ns.length ≤ 4000 ∧ Q (.int ns.length) H1)
theorem pe_lenSet2 {X : Cx} {a : Expr} {ta : TE} {p p2 q pos : Pos} (hg : Gl X "len") (hm : X.mg "len" = none) (hg2 : Gl X "set") (hm2 : X.mg "set" = none) (ha : PE X a ta) (calm : X.calm = true := by rfl)
    (na : starEach [a] X.env = (false, eval a X.env) :: starEach [] X.env := by rfl) : PE X (.Call (.Name "len" p) [.Call (.Name "set" p2) [a] [] q] [] pos) (tLenSet2 X.K ta) := by
  refine ⟨fun pins s σ H Q I h => Call_ (ld_blt I hg hm boot_len (callWith_builtin1 (args_cons (Call_ (ld_blt I hg2 hm2 boot_set
    (callWith_type1 (args_cons (thn (ha.run pins s σ H _ I h) fun v z ⟨x, H1, J, r, q⟩ => args_nil ?_) na) na rfl))) rfl) rfl rfl))⟩
  obtain ⟨l, rfl, q⟩ := q
  cases r
  have fin : ∀ (n : Nat) (h' : Heap) (tk : Nat) (κ : Type) (i1 : DecidableEq κ) (i2 : BEq κ) (i3 : LawfulBEq κ) (kd : KeyKind X.prog X.w κ) (S : κ → Bool), n ≤ 4000 → h'.SetOf kd z.heap.objs.size S n → (∀ b o, z.heap.get? b = some o → h'.get? b = some o) → Q (.int n) H1 →
      wpAny (model X.prog X.w) X.A (spliced (backTo pos (starEach [] X.env))) (fun vs y => wpAny (model X.prog X.w) X.A (call (.builtin "len") (Value.ref z.heap.objs.size :: vs)) (EP X pins σ Q) X.xe y) X.xe { z with heap := h', toks := tk } := by
    intro n h' tk κ i1 i2 i3 kd S hn hS hk q
    refine args_nil ?_
    obtain ⟨o, es, ep, t, ho, hex, hd, _, _, _, hf, e⟩ := hS
    have J2 : Inv X pins σ H1 { z with heap := h', toks := tk } := J.kept hk
    exact call_len_set ho hex hd hf (by rw [e] <;> omega) ⟨.int n, H1, J2.tok _, ⟨_, by rw [e]⟩, q⟩
  rcases q with ⟨xs, hq, nd, few, q⟩ | ⟨ns, hq, nd, few, q⟩
  · obtain ⟨its, r, pl, hz⟩ := J.list hq
    exact set_texts (J.ok.hd calm) pl.isList (by simpa using strsAre_of r) nd (by unfold scanBound; omega) fun h' tk hS hk => fin _ h' tk _ inferInstance inferInstance inferInstance _ _ few hS hk q
  · obtain ⟨its, r, pl, hz⟩ := J.list hq
    have size : its.toArray.size = ns.length := by rw [List.size_toArray, ← r.length, List.length_map]
    refine call_set_list (J.ok.hd calm) pl.isList (by simpa using RZ.intsAre_vals r) (by rw [size]; unfold scanBound; omega) fun h' tk hS hk => ?_
    rw [size, RZ.firstMet_nodup nd ns.length (Nat.le_refl _)] at hS
    rw [List.take_length] at hS
    exact fin _ h' tk _ inferInstance inferInstance inferInstance _ _ few hS (fun b o e => hk b o (Heap.lt_size e) e) q
end Hb
set_option Elab.async false
set_option linter.all false
set_option maxRecDepth 100000
set_option maxHeartbeats 8000000
namespace Hb
open PySem PySem.Spec PyProof.Rows L2
section
variable {prog : Program} {w : World} {A : Around} {E : Value → Shared → Prop} {s : Shared}
/-- what it holds, taken into a list that nobody keeps: the heap behind it, exactly -/
theorem taken {Q : List Value → Shared → Prop} (it : Addr) {T : String} {o : Obj} {vs : List Value} {n : Nat} (hT : T = "list" ∨ T = "tuple") (ho : s.heap.get? it = some o) (hc : o.cls = .type T) (hd : o.data = .seq vs.toArray n) (hL : vs.length ≤ sizeLine)
    (k : Q vs { s with heap := (s.heap.push (seqObj "list" #[] 0)).update s.heap.objs.size (Obj.mapSeq (· ++ vs.toArray)) }) : wpAny (model prog w) A (collect (.ref it)) Q E s := by
  have e1 : (s.heap.push (seqObj "list" #[] 0)).get? s.heap.objs.size = some { cls := .type "list", data := .seq #[] 0 } := Heap.get?_push_size _ rfl
  have e2 := Heap.get?_update_self (Obj.mapSeq (· ++ vs.toArray)) e1 rfl
  have last : wpAny (model prog w) A (match Value.ref s.heap.objs.size with
      | Value.ref a => (do match (← load a).data with
          | Data.seq xs _ => pure xs.toList
          | _ => unsupported "internal:collect")
      | _ => unsupported "internal:collect") Q E { s with heap := (s.heap.push (seqObj "list" #[] 0)).update s.heap.objs.size (Obj.mapSeq (· ++ vs.toArray)) } := by
    show wpAny _ A (load s.heap.objs.size >>= _) _ _ _
    refine wpAny_bind (wpAny_load e2 (wpAny_pure ?_)); show Q ((#[] : Array Value) ++ vs.toArray).toList _
    rw [show ((#[] : Array Value) ++ vs.toArray).toList = vs by simp]; exact k
  unfold collect
  refine wpAny_bind (wpAny_runValue (codeAny_builtin F.entry_proto_collect (by
    rw [Around.under_plainId F.plain_proto_collect _]; show wpAny _ A.in1 (newList [] >>= fun l => again (.builtin "list.__iadd__" ⟨[l, .ref it], []⟩)) _ _ s
    refine wpAny_bind (wpAny_newObj_type (wpAny_pure ⟨plainId_quiet F.plain_list_iadd _, codeAny_builtin F.entry_list_iadd (by
      rw [Around.under_plainId F.plain_list_iadd _]; show wpAny _ A.in1 (Builtin.List.listExtendWith (.ref s.heap.objs.size) (.ref it) (.ref s.heap.objs.size)) _ _ _
      refine wpAny_mono (wpAny_extend_seq (hsz := by rw [List.size_toArray]; exact hL) (A := A) (R := fun r z => r = .ok (.ret (.ref s.heap.objs.size)) ∧ z = { s with heap := (s.heap.push (seqObj "list" #[] 0)).update s.heap.objs.size (Obj.mapSeq (· ++ vs.toArray)) })
        (s := { s with heap := s.heap.push (seqObj "list" #[] 0) }) _ it _ 0 hT e1 (Heap.get?_push_of_some _ ho) hc hd ⟨rfl, rfl⟩) (fun f z h => ?_) (fun e z h => absurd h.1 (by simp))
      cases f with
      | done f => obtain ⟨e, rfl⟩ := h; cases e; exact last
      | again c => exact ⟨h.1, codeAny_mono h.2 fun r z2 hr => by obtain ⟨rfl, rfl⟩ := hr; exact last⟩)⟩)))))
/-- sorted(it) of a list or a tuple whose items read as data -/
theorem sorted_any {β : Type} {it : Addr} {T : String} {o : Obj} {vs : List Value} {n : Nat} {bs : List β} {enc : β → PyData} {R : Value → β → Prop} {Q : Value → Shared → Prop} (hT : T = "list" ∨ T = "tuple")
    (ho : s.heap.get? it = some o) (hc : o.cls = .type T) (hd : o.data = .seq vs.toArray n) (e : PySem.W.EachIs R vs bs) (er : PySem.W.EachIs (fun v b => ∃ as, Reads s.heap v (enc b) as) vs bs)
    (hal : PySem.W.AllAlike (bs.map enc)) (hk : PySem.W.Sortable (bs.map enc)) (hL : bs.length ≤ sizeLine) (hu : ∀ b, b ∈ bs → A.units + 2 + (enc b).depth < cLine)
    (k : ∀ (h' : Heap) (p : Addr) (out : List Value) (c : Nat), s.heap.objs.size ≤ p → (∀ b u, s.heap.get? b = some u → h'.get? b = some u) → h'.get? p = some (seqObj "list" out.toArray c) →
      PySem.W.EachIs R out (bs.mergeSort (PySem.W.dataLe false enc)) → Q (.ref p) { s with heap := h' }) :
    wpAny (model prog w) A (call (.builtin "sorted") [.ref it]) Q E s := by
  have len : vs.length = bs.length := e.length
  refine Calls.call_function_entry kind_sorted plain_sorted entry_sorted (args_sorted1 _) (by
    unfold Builtin.«sorted»
    refine wpAny_bind (m := checkCount "sorted" 1 1 _) (wpAny_pure (wpAny_bind (taken it hT ho hc hd (by rw [len]; exact hL) (wpAny_bind (wpAny_newList ?_ (by rw [len]; exact hL))))))
    have h1s : ((s.heap.push (seqObj "list" #[] 0)).update s.heap.objs.size (Obj.mapSeq (· ++ vs.toArray))).objs.size = s.heap.objs.size + 1 := by rw [Heap.size_update, size_push']
    have k1 : ∀ b u, s.heap.get? b = some u → ((s.heap.push (seqObj "list" #[] 0)).update s.heap.objs.size (Obj.mapSeq (· ++ vs.toArray))).get? b = some u := fun b u q =>
      (Heap.get?_update_other _ _ (Nat.ne_of_gt (Heap.lt_size q))).trans (Heap.get?_push_of_some _ q)
    show wpAny _ _ _ _ _ { s with heap := ((s.heap.push (seqObj "list" #[] 0)).update s.heap.objs.size (Obj.mapSeq (· ++ vs.toArray))).push (seqObj "list" vs.toArray 0) }
    generalize ((s.heap.push (seqObj "list" #[] 0)).update s.heap.objs.size (Obj.mapSeq (· ++ vs.toArray))) = h1 at h1s k1 ⊢
    have le1 : s.heap.objs.size ≤ h1.objs.size := by omega
    have at2 : (h1.push (seqObj "list" vs.toArray 0)).get? h1.objs.size = some (seqObj "list" vs.toArray 0) := Heap.get?_push_size _ rfl
    have k2 : ∀ b u, s.heap.get? b = some u → (PySem.W.sortingHeap (h1.push (seqObj "list" vs.toArray 0)) h1.objs.size vs).get? b = some u := fun b u q =>
      PySem.W.sortingHeap_old (Nat.ne_of_lt (Heap.lt_size (k1 b u q))) (Heap.get?_push_of_some _ (k1 b u q))
    have er2 : PySem.W.EachIs (fun v b => ∃ as, Reads (PySem.W.sortingHeap (h1.push (seqObj "list" vs.toArray 0)) h1.objs.size vs) v (enc b) as) vs bs := er.mono fun _ _ ⟨as, r⟩ => ⟨as, PyProof.Rows.Reads.keeps k2 r⟩
    obtain ⟨c, e2⟩ := sortedHeap_at (vs := vs) (out := (PySem.W.sortVals (PySem.W.dataKind (PySem.W.sortingHeap (h1.push (seqObj "list" vs.toArray 0)) h1.objs.size vs) (bs.map enc)) false vs vs).toArray) at2
    have k3 : ∀ b u, s.heap.get? b = some u → (sortedHeap (h1.push (seqObj "list" vs.toArray 0)) h1.objs.size vs (PySem.W.sortVals (PySem.W.dataKind (PySem.W.sortingHeap (h1.push (seqObj "list" vs.toArray 0)) h1.objs.size vs) (bs.map enc)) false vs vs).toArray).get? b = some u := fun b u q => by
      have q1 := k1 b u q
      have lt := Heap.lt_size q1
      rw [sortedHeap_old (Nat.ne_of_lt lt) (by rw [size_push']; exact Nat.lt_succ_of_lt lt)]
      exact Heap.get?_push_of_some _ q1
    refine wpAny_bind (wpAny_holding (wpAny_call_entry slot_list_sort ⟨_, at2, rfl⟩ entry_list_sort (PySem.W.list_sort_vals (s := { s with heap := h1.push (seqObj "list" vs.toArray 0) }) at2
      (PySem.W.SortsAt.data (s := { s with heap := PySem.W.sortingHeap (h1.push (seqObj "list" vs.toArray 0)) h1.objs.size vs }) (PySem.W.each_map (R := fun v d => ∃ as, Reads (PySem.W.sortingHeap (h1.push (seqObj "list" vs.toArray 0)) h1.objs.size vs) v d as) enc er2) hal hk (PySem.W.bound_map hu)) (by rw [len]; exact hL) ?_) (args_list_sort _)))
    refine ⟨_, rfl, wpAny_pure ⟨_, rfl, k _ h1.objs.size _ c le1 k3 e2 (PySem.W.sortVals_data false e er2 hal)⟩⟩)
end
end Hb
set_option Elab.async false
set_option linter.all false
set_option maxRecDepth 100000
set_option maxHeartbeats 8000000
namespace Hb
open PySem PySem.Spec PyProof.Rows L2
section
variable {X : Cx} {β : Type}
theorem each_of {R : Value → V × β → Prop} : ∀ {zs : List (V × β)} {us : List Value}, Vals (zs.map (·.1)) us → (∀ u z, z ∈ zs → RelV z.1 u → R u z) → PySem.W.EachIs R us zs
  | [], _, r, _ => by cases r; exact .nil
  | z :: zs, _, r, h => by
    cases r with
    | cons r1 r2 => exact .cons (h _ _ List.mem_cons_self r1) (each_of r2 fun u y m q => h u y (List.mem_cons_of_mem _ m) q)
theorem each_back : ∀ {us : List Value} {zs : List (V × β)}, PySem.W.EachIs (fun u (z : V × β) => RelV z.1 u) us zs → Vals (zs.map (·.1)) us
  | _, _, .nil => .nil
  | _, _, .cons h t => .cons h (each_back t)
/-- sorted(it), it a list or a tuple of data of one kind -/
def rSortedAny (K : PySem.W.Frag) (enc : β → PyData) : List V → Hp → VK → Prop := fun vs H Q => ∃ (a : Addr) (zs : List (V × β)), vs = [.ref a] ∧ (SqL K H a (zs.map (·.1)) ∨ SqT K H a (zs.map (·.1))) ∧
  (∀ z ∈ zs, Dp K H z.1 (enc z.2)) ∧ PySem.W.AllAlike (zs.map fun z => enc z.2) ∧ PySem.W.Sortable (zs.map fun z => enc z.2) ∧ (∀ z ∈ zs, (enc z.2).depth ≤ 60) ∧
  ∀ p, H p = none → Q (.ref p) (upd H p (.lst ((zs.mergeSort (PySem.W.dataLe false fun z => enc z.2)).map (·.1))))
theorem cr_sortedAny (enc : β → PyData) (hu : X.A.units + 64 < cLine) : CallR X (.builtin "sorted") (rSortedAny X.K enc) := by
  intro pins s σ H vs us Q I r h
  obtain ⟨a, zs, rfl, hq, hd, hal, hk, hz, q⟩ := h
  rw [Vals.ref1 r]
  have main : ∀ (T : String) (o : Obj) (its : List Value) (n : Nat), (T = "list" ∨ T = "tuple") → s.heap.get? a = some o → o.cls = .type T → o.data = .seq its.toArray n → Vals (zs.map (·.1)) its → (zs.map (·.1)).length ≤ sizeLine →
      wpAny (model X.prog X.w) X.A (call (.builtin "sorted") [.ref a]) (EP X pins σ Q) X.xe s := by
    intro T o its n hT ho hc hdt rv hL
    rw [List.length_map] at hL
    refine sorted_any (R := fun u (z : V × β) => RelV z.1 u) (enc := fun z => enc z.2) hT ho hc hdt (each_of rv fun u z _ q => q) (each_of rv fun u z m q => Dp.reads I _ _ _ (hd z m) q) hal hk hL (fun z m => by have := hz z m; omega) fun h' p out c hp kp at_ eo => ?_
    have lenO : (zs.mergeSort (PySem.W.dataLe false fun z => enc z.2)).length = zs.length := (List.mergeSort_perm _ _).length_eq
    exact ⟨.ref p, _, I.laid (t' := s.toks) kp hp (show ObjOk X.prog X.w _ h' p (.lst _) from ⟨by rw [List.length_map, lenO]; exact hL, out, c, each_back eo, at_⟩), rfl, q p (I.hok.fresh hp)⟩
  rcases hq with hq | hq
  · obtain ⟨its, rv, ⟨o, n, ho, hc, _, hdt⟩, hL⟩ := I.list hq
    exact main _ o its n (.inl rfl) ho hc hdt rv hL
  · obtain ⟨its, rv, ⟨o, ho, hc, n, hdt⟩, hL⟩ := I.tuple hq
    exact main _ o its n (.inr rfl) ho hc hdt rv hL
end
/-! ### pairs of texts -/
def encP (p : Str × Str) : PyData := .tuple [.str p.1, .str p.2]
theorem alike_P (p q : Str × Str) : PySem.W.alike (encP p) (encP q) = true := by simp [encP, PySem.W.alike, PySem.W.alikeAll]
theorem depth_P (p : Str × Str) : (encP p).depth ≤ 60 := by simp [encP, PyData.depth, PyData.depthAll]
end Hb
set_option Elab.async false
set_option linter.all false
set_option maxRecDepth 100000
set_option maxHeartbeats 4000000
namespace Hb
open PySem PySem.Spec PyProof.Rows L2
/-! ### what stays -/
/-- tuples, and what is locked, stay -/
structure TK (H H' : Hp) : Prop where
  t : ∀ b xs, H b = some (.tup xs) → H' b = some (.tup xs)
  z : ∀ b o u, H b = some (.frz o u) → H' b = some (.frz o u)
theorem TK.refl (H : Hp) : TK H H := ⟨fun _ _ h => h, fun _ _ _ h => h⟩
theorem TK.trans {H H1 H2 : Hp} (a : TK H H1) (b : TK H1 H2) : TK H H2 := ⟨fun c xs h => b.t c xs (a.t c xs h), fun c o u h => b.z c o u (a.z c o u h)⟩
theorem Same.tk {H H' : Hp} (s : Same H H') : TK H H' := ⟨fun b xs h => s b _ h, fun b o u h => s b _ h⟩
theorem Same.new {H : Hp} {p : Addr} {o : HO} (h : H p = none) : Same H (upd H p o) := fun b u e => by
  rw [upd_ne (ne_of_none e h)]
  exact e
theorem TK.put {H : Hp} {p : Addr} {o o' : HO} (h : H p = some o') (h1 : ∀ xs, o' ≠ .tup xs) (h2 : ∀ q u, o' ≠ .frz q u) : TK H (upd H p o) := by
  refine ⟨fun b xs e => ?_, fun b q u e => ?_⟩
  · rw [upd_ne (fun z => by rw [z, h] at e; exact h1 xs (Option.some.inj e))]
    exact e
  · rw [upd_ne (fun z => by rw [z, h] at e; exact h2 q u (Option.some.inj e))]
    exact e
section
variable {K : PySem.W.Frag} {H H' : Hp}
theorem SqT.keep (k : TK H H') {a : Addr} {xs : List V} (h : SqT K H a xs) : SqT K H' a xs := by
  rcases h with (h | ⟨o, h⟩) | h
  · exact .inl (.inl (k.t _ _ h))
  · exact .inl (.inr ⟨o, k.z _ _ _ h⟩)
  · exact .inr h
theorem SqL.keep (k : TK H H') {a : Addr} {xs : List V} (h : SqL K H a xs) (hl : H a = some (.lst xs) → H' a = some (.lst xs)) : SqL K H' a xs := by
  rcases h with (h | ⟨o, h⟩) | h
  · exact .inl (.inl (hl h))
  · exact .inl (.inr ⟨o, k.z _ _ _ h⟩)
  · exact .inr h
end
/-! ### data of tuples alone -/
mutual
inductive TD (K : PySem.W.Frag) (H : Hp) : V → PyData → Prop
  | non : TD K H .non .none
  | bl (b : Bool) : TD K H (.bl b) (.bool b)
  | int (i : Int) : TD K H (.int i) (.int i)
  | str (x : Str) : TD K H (.str x) (.str x)
  | tup {a : Addr} {xs : List V} {ds : List PyData} : SqT K H a xs → TDs K H xs ds → TD K H (.ref a) (.tuple ds)
inductive TDs (K : PySem.W.Frag) (H : Hp) : List V → List PyData → Prop
  | nil : TDs K H [] []
  | cons {v : V} {vs : List V} {d : PyData} {ds : List PyData} : TD K H v d → TDs K H vs ds → TDs K H (v :: vs) (d :: ds)
end
section
variable {K : PySem.W.Frag} {H H' : Hp}
mutual
theorem TD.keep (k : TK H H') : ∀ {v : V} {d : PyData}, TD K H v d → TD K H' v d
  | _, _, .non => .non
  | _, _, .bl b => .bl b
  | _, _, .int i => .int i
  | _, _, .str x => .str x
  | _, _, .tup h hs => .tup (SqT.keep k h) (TDs.keep k hs)
theorem TDs.keep (k : TK H H') : ∀ {vs : List V} {ds : List PyData}, TDs K H vs ds → TDs K H' vs ds
  | _, _, .nil => .nil
  | _, _, .cons h hs => .cons (TD.keep k h) (TDs.keep k hs)
end
mutual
theorem TD.dp : ∀ {v : V} {d : PyData}, TD K H v d → Dp K H v d
  | _, _, .non => .non
  | _, _, .bl b => .bl b
  | _, _, .int i => .int i
  | _, _, .str x => .str x
  | _, _, .tup h hs => .tup h (TDs.dp hs)
theorem TDs.dp : ∀ {vs : List V} {ds : List PyData}, TDs K H vs ds → DpAll K H vs ds
  | _, _, .nil => .nil
  | _, _, .cons h hs => .cons (TD.dp h) (TDs.dp hs)
end
theorem TDs.length : ∀ {vs : List V} {ds : List PyData}, TDs K H vs ds → vs.length = ds.length
  | _, _, .nil => rfl
  | _, _, .cons h hs => congrArg Nat.succ (TDs.length hs)
theorem TDs.app : ∀ {vs ws : List V} {ds es : List PyData}, TDs K H vs ds → TDs K H ws es → TDs K H (vs ++ ws) (ds ++ es)
  | _, _, _, _, .nil, h => h
  | _, _, _, _, .cons h hs, h2 => .cons h (TDs.app hs h2)
theorem TDs.at : ∀ {vs : List V} {ds : List PyData} {i : Nat} {v : V}, TDs K H vs ds → vs[i]? = some v → ∃ d, ds[i]? = some d ∧ TD K H v d
  | _, _, _, _, .nil, e => by simp at e
  | _, _, 0, _, .cons h hs, e => by simp at e; subst e; exact ⟨_, rfl, h⟩
  | _, _, i + 1, _, .cons h hs, e => by
    obtain ⟨d, h1, h2⟩ := TDs.at hs (i := i) (by simpa using e)
    exact ⟨d, by simpa using h1, h2⟩
theorem tds_strs : ∀ xs : List Str, TDs K H (xs.map V.str) (xs.map PyData.str)
  | [] => .nil
  | x :: xs => .cons (.str x) (tds_strs xs)
theorem tds_ints : ∀ xs : List Int, TDs K H (xs.map V.int) (xs.map PyData.int)
  | [] => .nil
  | x :: xs => .cons (.int x) (tds_ints xs)
end
/-! ### a deal: the dict at d, its list at g -/
def dealKV (g : Addr) (now mixed turn : Int) : List (Key × V) := [(.inr "great", .ref g), (.inr "now", .int now), (.inr "mixed", .int mixed), (.inr "turn", .int turn)]
theorem deal_great (g : Addr) (now mixed turn : Int) : valV (dealKV g now mixed turn) (Sum.inr "great") = some (.ref g) := rfl
theorem deal_now (g : Addr) (now mixed turn : Int) : valV (dealKV g now mixed turn) (Sum.inr "now") = some (.int now) := rfl
theorem deal_mixed (g : Addr) (now mixed turn : Int) : valV (dealKV g now mixed turn) (Sum.inr "mixed") = some (.int mixed) := rfl
theorem deal_turn (g : Addr) (now mixed turn : Int) : valV (dealKV g now mixed turn) (Sum.inr "turn") = some (.int turn) := rfl
theorem put_now (g : Addr) (now mixed turn z : Int) : putK (dealKV g now mixed turn) (Sum.inr "now") (.int z) = dealKV g z mixed turn := rfl
theorem put_mixed (g : Addr) (now mixed turn z : Int) : putK (dealKV g now mixed turn) (Sum.inr "mixed") (.int z) = dealKV g now z turn := rfl
theorem put_turn (g : Addr) (now mixed turn z : Int) : putK (dealKV g now mixed turn) (Sum.inr "turn") (.int z) = dealKV g now mixed z := rfl
structure Dl (d g : Addr) (H : Hp) (ns : List Int) (now mixed turn : Int) : Prop where
  d : H d = some (.dK (dealKV g now mixed turn))
  g : H g = some (.lst (ns.map V.int))
  few : ns.length ≤ 63
  pos : ∀ n ∈ ns, 0 ≤ n
  now : 0 ≤ now
def Deal (d g : Addr) (H : Hp) : Prop := ∃ ns now mixed turn, Dl d g H ns now mixed turn
theorem Dl.ne {d g : Addr} {H : Hp} {ns : List Int} {now mixed turn : Int} (x : Dl d g H ns now mixed turn) : d ≠ g := ne_of x.d x.g (by intro e; cases e)
/-- all but the deal stays -/
def Kp (d g : Addr) (H H' : Hp) : Prop := ∀ b o, b ≠ d → b ≠ g → H b = some o → H' b = some o
theorem Kp.refl (d g : Addr) (H : Hp) : Kp d g H H := fun _ _ _ _ h => h
theorem Kp.trans {d g : Addr} {H H1 H2 : Hp} (a : Kp d g H H1) (b : Kp d g H1 H2) : Kp d g H H2 := fun c o n m h => b c o n m (a c o n m h)
theorem Same.kp {d g : Addr} {H H' : Hp} (s : Same H H') : Kp d g H H' := fun b o _ _ h => s b o h
theorem Kp.put_d {d g : Addr} {H : Hp} {o : HO} : Kp d g H (upd H d o) := fun b u n _ h => by rw [upd_ne n]; exact h
theorem Kp.put_g {d g : Addr} {H : Hp} {o : HO} : Kp d g H (upd H g o) := fun b u _ n h => by rw [upd_ne n]; exact h
theorem Deal.tk {d g : Addr} {H H' : Hp} (x : Deal d g H) (k : Kp d g H H') : TK H H' := by
  obtain ⟨ns, now, mixed, turn, x⟩ := x
  exact ⟨fun b xs e => k b _ (ne_of e x.d (by intro q; cases q)) (ne_of e x.g (by intro q; cases q)) e, fun b o u e => k b _ (ne_of e x.d (by intro q; cases q)) (ne_of e x.g (by intro q; cases q)) e⟩
/-- a deal stands behind what leaves all as it is -/
theorem Deal.same {d g : Addr} {H H' : Hp} (x : Deal d g H) (s : Same H H') : Deal d g H' := by
  obtain ⟨ns, now, mixed, turn, x⟩ := x
  exact ⟨ns, now, mixed, turn, s _ _ x.d, s _ _ x.g, x.few, x.pos, x.now⟩
theorem Deal.set {d g p : Addr} {H : Hp} {o : HO} (x : Deal d g H) (n : p ≠ d) (m : p ≠ g) : Deal d g (L2.upd H p o) := by
  obtain ⟨ns, now, mixed, turn, x⟩ := x
  exact ⟨ns, now, mixed, turn, by rw [upd_ne n.symm]; exact x.d, by rw [upd_ne m.symm]; exact x.g, x.few, x.pos, x.now⟩
theorem Deal.new {d g p : Addr} {H : Hp} {o : HO} (x : Deal d g H) (h : H p = none) : Deal d g (L2.upd H p o) := x.same (Same.new h)
theorem Deal.ne_d {d g p : Addr} {H : Hp} {o : HO} (x : Deal d g H) (h : H p = some o) (hk : ∀ kvs, o ≠ .dK kvs) : p ≠ d := by
  obtain ⟨ns, now, mixed, turn, x⟩ := x
  exact ne_of h x.d (hk _)
theorem Deal.ne_g {d g p : Addr} {H : Hp} {o : HO} (x : Deal d g H) (h : H p = some o) (hk : ∀ xs, o ≠ .lst xs) : p ≠ g := by
  obtain ⟨ns, now, mixed, turn, x⟩ := x
  exact ne_of h x.g (hk _)
theorem Deal.free {d g p : Addr} {H : Hp} (x : Deal d g H) (h : H p = none) : p ≠ d ∧ p ≠ g := by
  obtain ⟨ns, now, mixed, turn, x⟩ := x
  exact ⟨(ne_of_none x.d h).symm, (ne_of_none x.g h).symm⟩
/-- what is not there now was not there ahead -/
theorem Kp.free {d g : Addr} {H H' : Hp} (k : Kp d g H H') (x : Deal d g H') {b : Addr} (h : H' b = none) : H b = none := by
  obtain ⟨n, m⟩ := x.free h
  cases e : H b with
  | none => rfl
  | some o =>
    rw [k b o n m e] at h
    cases h
end Hb
set_option Elab.async false
set_option linter.all false
set_option maxRecDepth 100000
set_option maxHeartbeats 4000000
namespace Hb
open PySem PySem.Spec PyProof.Rows L2
section
variable {P : Program} {w : World} {K : PySem.W.Frag} {mg : Str → Option Value} {base : Heap}
/-- a def of the module without defaults, under its name -/
def Df (K : PySem.W.Frag) (mg : Str → Option Value) (x : Str) (st : Stmt) : Prop := ∃ fd, FunD K x x (defArgs st) (defBody st) (defScope st) [] [] (He.ga K x) fd ∧ mg x = some (.ref (He.ga K x))
theorem fn_mk {x : Str} {st : Stmt} {f : Addr} {fd : FuncData} {N ps : List Str} {k : Nat} {sp : Sp} (F : FunD K x x (defArgs st) (defBody st) (defScope st) [] [] f fd) (S : FnScope N ps (defScope st))
    (len : ∀ vs H Q E, sp vs H Q E → vs.length = ps.length)
    (hbody : ∀ (f : Addr) (cdv : Value) (A : Around) (outer : List Env) (s : Shared) (H : Hp) (vs : List V) (Q : VK) (E : XK), Room k (A.deeper (envOfC x (defScope st) s.heap.objs.size f cdv)) → sp vs H Q E →
      ∃ t, PSs (cxOf CX0 P w K mg base N x (defScope st) f cdv A outer s H E).nox (defBody st) t ∧ t { nx := fun _ H' => Q .non H', rt := Q } (start N vs) H) : FnOk P w K mg base CX0 (k + 1) f fd ps sp :=
  F.ok S len fun cdv A outer s H vs Q E hr h => by
    obtain ⟨t, h1, h2⟩ := hbody _ cdv A outer s H vs Q E hr h
    exact ⟨t, h1.nox, h2⟩
theorem cal_mk {x : Str} {st : Stmt} {N ps : List Str} {k : Nat} {sp : Sp} (D : Df K mg x st) (S : FnScope N ps (defScope st))
    (bd : ∀ (kV doc pm : Value) (an : Option Addr) (cdv ct : Value) (us : List Value), us.length = ps.length → bindArgs (PySem.W.fnOf x x (defArgs st) (defBody st) (defScope st) .none kV doc pm an cdv ct) ⟨us, []⟩ = pure (ps.zip us))
    (len : ∀ vs H Q E, sp vs H Q E → vs.length = ps.length)
    (hbody : ∀ (f : Addr) (cdv : Value) (A : Around) (outer : List Env) (s : Shared) (H : Hp) (vs : List V) (Q : VK) (E : XK), Room k (A.deeper (envOfC x (defScope st) s.heap.objs.size f cdv)) → sp vs H Q E →
      ∃ t, PSs (cxOf CX0 P w K mg base N x (defScope st) f cdv A outer s H E).nox (defBody st) t ∧ t { nx := fun _ H' => Q .non H', rt := Q } (start N vs) H) : C8.Cal P w K mg base (k + 1) x sp [] := by
  obtain ⟨fd, F, hm⟩ := D
  exact ⟨⟨_, fd, ps, [], F.ok S len fun cdv A outer s H vs Q E hr h => by
    obtain ⟨t, h1, h2⟩ := hbody _ cdv A outer s H vs Q E hr h
    exact ⟨t, h1.nox, h2⟩, hm, F.kp, F.bindsN bd, .nil⟩⟩
/-- a class with an __init__ of its own -/
def Df1 (K : PySem.W.Frag) (mg : Str → Option Value) (C qual : Str) (st : Stmt) : Prop := Mk K (He.ga K C) (He.ma K (He.ga K C) "__init__") ∧ mg C = some (.ref (He.ga K C)) ∧ ∃ fd, FunD K "__init__" qual (defArgs st) (defBody st) (defScope st) [] [] (He.ma K (He.ga K C) "__init__") fd
theorem mak_mk {C qual : Str} {st : Stmt} {N ps : List Str} {k : Nat} {sp : Sp} (D : Df1 K mg C qual st) (S : FnScope N ps (defScope st))
    (bd : ∀ (kV doc pm : Value) (an : Option Addr) (cdv ct : Value) (us : List Value), us.length = ps.length → bindArgs (PySem.W.fnOf "__init__" qual (defArgs st) (defBody st) (defScope st) .none kV doc pm an cdv ct) ⟨us, []⟩ = pure (ps.zip us))
    (len : ∀ vs H Q E, sp vs H Q E → vs.length = ps.length)
    (hbody : ∀ (f : Addr) (cdv : Value) (A : Around) (outer : List Env) (s : Shared) (H : Hp) (vs : List V) (Q : VK) (E : XK), Room k (A.deeper (envOfC qual (defScope st) s.heap.objs.size f cdv)) → sp vs H Q E →
      ∃ t, PSs (cxOf CX0 P w K mg base N qual (defScope st) f cdv A outer s H E).nox (defBody st) t ∧ t { nx := fun _ H' => Q .non H', rt := Q } (start N vs) H) : C8.Mak P w K mg base (k + 1) C (He.ga K C) sp [] := by
  obtain ⟨M, hm, fd, F⟩ := D
  exact ⟨⟨_, fd, ps, [], M, F.ok S len fun cdv A outer s H vs Q E hr h => by
    obtain ⟨t, h1, h2⟩ := hbody _ cdv A outer s H vs Q E hr h
    exact ⟨t, h1.nox, h2⟩, hm, F.bindsN bd, .nil⟩⟩
end
/-- a word between two statements: the rest is read once -/
theorem cut_seq {t u : TS} {D : Ends} {σ : L2.St} {H : Hp} (R : L2.St → Hp → Prop) (h2 : ∀ σ H, R σ H → u D σ H) (h1 : (∀ σ H, R σ H → u D σ H) → t { D with nx := u D } σ H) : tSeq t u D σ H := h1 h2
end Hb
set_option Elab.async false
set_option linter.all false
set_option maxRecDepth 100000
set_option maxHeartbeats 4000000
namespace Hb
open PySem PySem.Spec PyProof.Rows L2
/-- data that may be compared -/
def Shp (d : PyData) : Prop := d.canLay0 = true ∧ d.depth ≤ 60
theorem Shp.shaped {d : PyData} (h : Shp d) : SeqAt.shaped d = true := Bool.and_eq_true_iff.mpr ⟨h.1, decide_eq_true (by have := h.2; omega)⟩
theorem shps_all : ∀ {ds : List PyData}, (∀ d ∈ ds, Shp d) → PyData.canLayAll0 ds = true ∧ PyData.depthAll ds ≤ 60
  | [], _ => ⟨by simp [PyData.canLayAll0], by simp [PyData.depthAll]⟩
  | d :: ds, h => by
    obtain ⟨h1, h2⟩ := shps_all (ds := ds) fun e he => h e (List.mem_cons_of_mem _ he)
    obtain ⟨h3, h4⟩ := h d List.mem_cons_self
    exact ⟨by simp [PyData.canLayAll0, h1, h3], by simp only [PyData.depthAll]; omega⟩
theorem shaped_list {ds : List PyData} (h : ∀ d ∈ ds, Shp d) : SeqAt.shaped (.list ds) = true := by
  obtain ⟨h1, h2⟩ := shps_all h
  exact Bool.and_eq_true_iff.mpr ⟨by simp only [PyData.canLay0]; exact h1, decide_eq_true (by simp only [PyData.depth]; omega)⟩
theorem shaped_tup {ds : List PyData} (h : ∀ d ∈ ds, Shp d) : SeqAt.shaped (.tuple ds) = true := by
  obtain ⟨h1, h2⟩ := shps_all h
  exact Bool.and_eq_true_iff.mpr ⟨by simp only [PyData.canLay0]; exact h1, decide_eq_true (by simp only [PyData.depth]; omega)⟩
/-- flat things, and tuples of such -/
theorem shp_tup {ds : List PyData} (h : ∀ d ∈ ds, d.canLay0 = true ∧ d.depth ≤ 50) : Shp (.tuple ds) := by
  have g : PyData.canLayAll0 ds = true ∧ PyData.depthAll ds ≤ 50 := by
    induction ds with
    | nil => exact ⟨by simp [PyData.canLayAll0], by simp [PyData.depthAll]⟩
    | cons d ds ih =>
      obtain ⟨h1, h2⟩ := ih fun e he => h e (List.mem_cons_of_mem _ he)
      obtain ⟨h3, h4⟩ := h d List.mem_cons_self
      exact ⟨by simp [PyData.canLayAll0, h1, h3], by simp only [PyData.depthAll]; omega⟩
  exact ⟨by simp only [PyData.canLay0]; exact g.1, by simp only [PyData.depth]; have := g.2; omega⟩
theorem eqv_nil (ds : List PyData) : PyData.eqv (.list ds) (.list []) = ds.isEmpty := by
  cases ds <;> simp [PyData.eqv, PyData.eqvAll]
/-- data of tuples, small enough -/
def Good (K : PySem.W.Frag) (H : Hp) (v : V) : Prop := ∃ d, TD K H v d ∧ Shp d
theorem Good.keep {K : PySem.W.Frag} {H H' : Hp} {v : V} (k : TK H H') (h : Good K H v) : Good K H' v := by
  obtain ⟨d, h1, h2⟩ := h
  exact ⟨d, TD.keep k h1, h2⟩
theorem goods {K : PySem.W.Frag} {H : Hp} : ∀ {xs : List V}, (∀ v ∈ xs, Good K H v) → ∃ ds, TDs K H xs ds ∧ ∀ d ∈ ds, Shp d
  | [], _ => ⟨[], .nil, fun d h => by cases h⟩
  | v :: xs, h => by
    obtain ⟨ds, h1, h2⟩ := goods (xs := xs) fun u hu => h u (List.mem_cons_of_mem _ hu)
    obtain ⟨d, h3, h4⟩ := h v List.mem_cons_self
    exact ⟨d :: ds, .cons h3 h1, fun e he => (List.mem_cons.mp he).elim (fun q => by rw [q]; exact h4) (h2 e)⟩
theorem seqIx {r : Int} {n : Nat} (h0 : 0 ≤ r) (h1 : r < n) : seqIndex? r n = some r.toNat := by
  have a : ¬ r < 0 := by omega
  simp [seqIndex?, a, h0, h1]
theorem perm_erase {α : Type} : ∀ {xs : List α} {k : Nat} {y : α}, xs[k]? = some y → (y :: xs.eraseIdx k).Perm xs
  | [], k, y, h => by simp at h
  | x :: xs, 0, y, h => by
    simp at h
    subst h
    simp
  | x :: xs, k + 1, y, h => by
    have ih := perm_erase (xs := xs) (k := k) (y := y) (by simpa using h)
    show (y :: x :: xs.eraseIdx k).Perm (x :: xs)
    exact (List.Perm.swap x y _).trans (ih.cons x)
end Hb
set_option Elab.async false
set_option linter.all false
set_option maxRecDepth 100000
set_option maxHeartbeats 4000000
namespace Hb
open PySem PySem.Spec PyProof.Rows L2
theorem take_next {α β : Type} (f : α → Option β) {xs : List α} {i : Nat} {x : α} (h : xs[i]? = some x) : (xs.take (i + 1)).filterMap f = (xs.take i).filterMap f ++ (f x).toList := by
  rw [List.take_add_one, h, List.filterMap_append]
  cases q : f x <;> simp [q]
theorem take_len {α β : Type} (f : α → Option β) (xs : List α) (i : Nat) : ((xs.take i).filterMap f).length ≤ xs.length :=
  Nat.le_trans (List.length_filterMap_le _ _) (by rw [List.length_take]; exact Nat.min_le_right _ _)
section
variable {K : PySem.W.Frag} {a : Addr} {xs : List V} {g : TG} {tt : TT} {te : TE} {vs : List Nat} {σ : L2.St} {H1 : Hp} {D : Addr} {Qd : Hp → Prop}
/-- one turn of a comprehension whose parts leave the heap as it is -/
def Turn (f : V → Option V) (x : V) (g : TG) (tt : TT) (te : TE) (vs : List Nat) (σ : L2.St) (H1 : Hp) (D : Addr) : Prop :=
  ∀ (acc : List V) (N : Hp → Prop), acc.length < sizeLine → (∀ y, f x = some y → N (upd H1 D (.lst (acc ++ [y])))) → (f x = none → N (upd H1 D (.lst acc))) →
    g x (wipe σ vs) (upd H1 D (.lst acc)) fun σ2 H2 => wipe σ2 vs = wipe σ vs ∧ tt σ2 H2 fun b H3 => if b = true then te σ2 H3 fun y H4 => ∃ acc', H4 D = some (.lst acc') ∧ acc'.length < sizeLine ∧ N (upd H4 D (.lst (acc' ++ [y]))) else N H3
theorem turn_at {f : V → Option V} {i : Nat} {x : V} {H : Hp} (hx : xs[i]? = some x) (e : H = upd H1 D (.lst ((xs.take i).filterMap f))) (few : xs.length < sizeLine) (h : Turn f x g tt te vs σ H1 D) :
    g x (wipe σ vs) H fun σ2 H2 => wipe σ2 vs = wipe σ vs ∧ tt σ2 H2 fun b H3 => if b = true then te σ2 H3 fun y H4 => ∃ acc', H4 D = some (.lst acc') ∧ acc'.length < sizeLine ∧ (fun z => z = upd H1 D (.lst ((xs.take (i + 1)).filterMap f))) (upd H4 D (.lst (acc' ++ [y]))) else (fun z => z = upd H1 D (.lst ((xs.take (i + 1)).filterMap f))) H3 := by
  subst e
  refine h _ _ (Nat.lt_of_le_of_lt (take_len f xs i) few) (fun y hy => ?_) (fun hn => ?_)
  · show upd H1 D _ = upd H1 D _
    rw [take_next f hx, hy]
    rfl
  · show upd H1 D _ = upd H1 D _
    rw [take_next f hx, hn]
    simp
theorem lc_listP (f : V → Option V) (few : xs.length < sizeLine) (hl : ∀ acc, SqL K (upd H1 D (.lst acc)) a xs) (hs : ∀ x ∈ xs, Turn f x g tt te vs σ H1 D) (hd : Qd (upd H1 D (.lst (xs.filterMap f)))) :
    ∃ W : Nat → Nat → Hp → Prop, (∃ m, W 0 m (upd H1 D (.lst []))) ∧ ∀ i m H, W i m H →
      ((Itl K a).stop i H ∧ Qd H) ∨ ((Itl K a).go i H ∧ ∃ Nx : Hp → Prop, (∀ H', Nx H' → ∃ m', m' < m ∧ W (i + 1) m' H') ∧ ∀ x H', (Itl K a).yld i H x H' → g x (wipe σ vs) H' fun σ2 H2 => wipe σ2 vs = wipe σ vs ∧ tt σ2 H2 fun b H3 =>
        if b = true then te σ2 H3 fun y H4 => ∃ acc, H4 D = some (.lst acc) ∧ acc.length < sizeLine ∧ Nx (upd H4 D (.lst (acc ++ [y]))) else Nx H3) :=
  lc_list (xs := xs) (fun i H => H = upd H1 D (.lst ((xs.take i).filterMap f))) rfl (fun i H _ e => by rw [e]; exact hl _) (fun i x H hx e => turn_at hx e few (hs x (List.mem_of_getElem? hx)))
    (fun H e => by rw [e, List.take_length]; exact hd)
theorem lc_tupP (f : V → Option V) (few : xs.length < sizeLine) (hl : ∀ acc, SqT K (upd H1 D (.lst acc)) a xs) (hs : ∀ x ∈ xs, Turn f x g tt te vs σ H1 D) (hd : Qd (upd H1 D (.lst (xs.filterMap f)))) :
    ∃ W : Nat → Nat → Hp → Prop, (∃ m, W 0 m (upd H1 D (.lst []))) ∧ ∀ i m H, W i m H →
      ((Itt K a).stop i H ∧ Qd H) ∨ ((Itt K a).go i H ∧ ∃ Nx : Hp → Prop, (∀ H', Nx H' → ∃ m', m' < m ∧ W (i + 1) m' H') ∧ ∀ x H', (Itt K a).yld i H x H' → g x (wipe σ vs) H' fun σ2 H2 => wipe σ2 vs = wipe σ vs ∧ tt σ2 H2 fun b H3 =>
        if b = true then te σ2 H3 fun y H4 => ∃ acc, H4 D = some (.lst acc) ∧ acc.length < sizeLine ∧ Nx (upd H4 D (.lst (acc ++ [y]))) else Nx H3) :=
  lc_tup (xs := xs) (fun i H => H = upd H1 D (.lst ((xs.take i).filterMap f))) rfl (fun i H _ e => by rw [e]; exact hl _) (fun i x H hx e => turn_at hx e few (hs x (List.mem_of_getElem? hx)))
    (fun H e => by rw [e, List.take_length]; exact hd)
theorem SqL.laid {H : Hp} {p : Addr} {o : HO} (h : SqL K H a xs) (n : H p = none) : SqL K (upd H p o) a xs := Same.seq (Same.new n) h
theorem SqT.laid {H : Hp} {p : Addr} {o : HO} (h : SqT K H a xs) (n : H p = none) : SqT K (upd H p o) a xs := SqT.keep (Same.tk (Same.new n)) h
end
theorem yes_ {σ : L2.St} {H : Hp} {f g : Hp → Prop} (h : f H) : tYes σ H fun b H3 => if b = true then f H3 else g H3 := (if_pos rfl : (if true = true then f H else g H) = f H).mpr h
theorem filterMap_ints (f : Int → Option Int) (ns : List Int) (h : V → Option V) (e : ∀ n, h (.int n) = (f n).map V.int) : (ns.map V.int).filterMap h = (ns.filterMap f).map V.int := by
  rw [List.filterMap_map]
  induction ns with
  | nil => rfl
  | cons n ns ih =>
    simp only [List.filterMap_cons, Function.comp, e]
    cases q : f n <;> simp [ih]
theorem filterMap_strs (f : Str → Option Str) (ns : List Str) (h : V → Option V) (e : ∀ n, h (.str n) = (f n).map V.str) : (ns.map V.str).filterMap h = (ns.filterMap f).map V.str := by
  rw [List.filterMap_map]
  induction ns with
  | nil => rfl
  | cons n ns ih =>
    simp only [List.filterMap_cons, Function.comp, e]
    cases q : f n <;> simp [ih]
end Hb
set_option Elab.async false
set_option linter.all false
set_option maxRecDepth 100000
set_option maxHeartbeats 4000000
namespace Hb
open PySem PySem.Spec PyProof.Rows L2
section
variable {K : PySem.W.Frag} {H : Hp}
theorem TD.tup_inv {v : V} {ds : List PyData} (h : TD K H v (.tuple ds)) : ∃ a xs, v = .ref a ∧ SqT K H a xs ∧ TDs K H xs ds := by
  cases h with
  | tup h1 h2 => exact ⟨_, _, rfl, h1, h2⟩
theorem TD.int_inv {v : V} {i : Int} (h : TD K H v (.int i)) : v = .int i := by cases h; rfl
theorem TD.str_inv {v : V} {x : Str} (h : TD K H v (.str x)) : v = .str x := by cases h; rfl
theorem TDs.nil_inv {vs : List V} (h : TDs K H vs []) : vs = [] := by cases h; rfl
theorem TDs.cons_inv {vs : List V} {d : PyData} {ds : List PyData} (h : TDs K H vs (d :: ds)) : ∃ v ws, vs = v :: ws ∧ TD K H v d ∧ TDs K H ws ds := by
  cases h with
  | cons h1 h2 => exact ⟨_, _, rfl, h1, h2⟩
theorem TDs.strs_inv : ∀ {vs : List V} {xs : List Str}, TDs K H vs (xs.map PyData.str) → vs = xs.map V.str
  | _, [], h => TDs.nil_inv h
  | _, x :: xs, h => by
    obtain ⟨v, ws, rfl, h1, h2⟩ := TDs.cons_inv h
    rw [TD.str_inv h1, TDs.strs_inv h2]
    rfl
theorem TDs.ints_inv : ∀ {vs : List V} {xs : List Int}, TDs K H vs (xs.map PyData.int) → vs = xs.map V.int
  | _, [], h => TDs.nil_inv h
  | _, x :: xs, h => by
    obtain ⟨v, ws, rfl, h1, h2⟩ := TDs.cons_inv h
    rw [TD.int_inv h1, TDs.ints_inv h2]
    rfl
end
/-! ### names -/
def isLetter (c : Nat) : Bool := decide (c ∈ ("abcdefghijklmnopqrstuvwxyz" : Str).cps.toList)
def nameB (x : Str) : Bool := decide (1 ≤ x.length ∧ x.length ≤ 4) && x.cps.toList.all isLetter
/-! ### a sleeper, told as data -/
structure Zz where
  sorts : List (Str × Str)
  stir : Int
  doze : Int
  near : Int
  loud : Str
def encZ (z : Zz) : PyData := .tuple [.tuple (z.sorts.map encP), .int z.stir, .int z.doze, .int z.near, .str z.loud]
def fourS : List Str := ["faint", "loud", "soft", "sudden"]
def threeS : List Str := ["again", "nothing", "wake"]
def OneAt (K : PySem.W.Frag) (H : Hp) (p : Addr) (z : Zz) : Prop := TD K H (.ref p) (encZ z)
/-- what stands in it -/
structure OneIs (K : PySem.W.Frag) (H : Hp) (p : Addr) (z : Zz) (t : Addr) (xs : List V) : Prop where
  all : SqT K H p [.ref t, .int z.stir, .int z.doze, .int z.near, .str z.loud]
  srt : SqT K H t xs
  its : TDs K H xs (z.sorts.map encP)
theorem OneAt.inv {K : PySem.W.Frag} {H : Hp} {p : Addr} {z : Zz} (h : OneAt K H p z) : ∃ t xs, OneIs K H p z t xs := by
  obtain ⟨a, xs, e, h1, h2⟩ := TD.tup_inv h
  cases e
  obtain ⟨v1, w1, rfl, a1, h2⟩ := TDs.cons_inv h2
  obtain ⟨v2, w2, rfl, a2, h2⟩ := TDs.cons_inv h2
  obtain ⟨v3, w3, rfl, a3, h2⟩ := TDs.cons_inv h2
  obtain ⟨v4, w4, rfl, a4, h2⟩ := TDs.cons_inv h2
  obtain ⟨v5, w5, rfl, a5, h2⟩ := TDs.cons_inv h2
  obtain rfl := TDs.nil_inv h2
  obtain rfl := TD.int_inv a2
  obtain rfl := TD.int_inv a3
  obtain rfl := TD.int_inv a4
  obtain rfl := TD.str_inv a5
  obtain ⟨t, ys, rfl, h3, h4⟩ := TD.tup_inv a1
  exact ⟨t, ys, h1, h3, h4⟩
theorem OneIs.one {K : PySem.W.Frag} {H : Hp} {p : Addr} {z : Zz} {t : Addr} {xs : List V} (h : OneIs K H p z t xs) : OneAt K H p z :=
  .tup h.all (.cons (.tup h.srt h.its) (.cons (.int _) (.cons (.int _) (.cons (.int _) (.cons (.str _) .nil)))))
/-- a sleeper that is drawn, its words among ws -/
structure Zok (z : Zz) (ws : List Str) : Prop where
  nd : (z.sorts.map Prod.fst).Nodup
  inw : ∀ p ∈ z.sorts, p.1 ∈ ws
  ok : ∀ p ∈ z.sorts, PyData.strOk p.1 = true ∧ nameB p.1 = true
  srt : ∀ p ∈ z.sorts, p.2 ∈ fourS
  few : z.sorts.length ≤ 8
  s1 : 1 ≤ z.stir
  s5 : z.stir ≤ 5
  d1 : 1 ≤ z.doze
  d5 : z.doze ≤ 5
  n1 : 1 ≤ z.near
  n2 : z.near ≤ 2
  lo : z.loud ∈ threeS
end Hb
set_option Elab.async false
set_option linter.all false
set_option maxRecDepth 100000
set_option maxHeartbeats 4000000
namespace Hb
open PySem PySem.Spec PyProof.Rows L2
section
variable {K : PySem.W.Frag} {H : Hp} {a : Addr} {xs : List V}
theorem ty_tup (h : SqT K H a xs) : TyX K H (.ref a) (.type "tuple") := by
  rcases h with (h | ⟨o, h⟩) | ⟨o, its, n, h, hc, _⟩
  · exact .base (.tup h)
  · exact .fTuple h
  · exact .kTuple h hc
theorem ty_lst (h : SqL K H a xs) : TyX K H (.ref a) (.type "list") := by
  rcases h with (h | ⟨o, h⟩) | ⟨o, its, n, h, hc, _⟩
  · exact .base (.lst h)
  · exact .base (.frz h)
  · exact .kList h hc
end
theorem inV_strs (y : Str) : ∀ xs : List Str, inV (.str y) (xs.map V.str) = decide (y ∈ xs)
  | [] => by simp [inV]
  | x :: xs => by
    have ih := inV_strs y xs
    unfold inV at ih ⊢
    rw [List.map_cons, List.any_cons, ih]
    by_cases e : x = y
    · subst e
      simp [eqV]
    · have e2 : ¬ y = x := fun z => e z.symm
      simp [eqV, e, e2]
/-- a list or a tuple, walked: whatever walks so -/
def iSeq (K : PySem.W.Frag) (tl : TE) : TI := fun σ H R => tl σ H fun x H1 => ∃ a xs, x = .ref a ∧ (SqL K H1 a xs ∨ SqT K H1 a xs) ∧ ∀ (J : It) (G : Hp → Prop), (∀ H', Same H1 H' → G H') → Walk J xs.length G (YAt xs) → R J H1
theorem pi_seq {X : Cx} {tg l : Expr} {tl : TE} (hl : PE X l tl) : PI X tg l (iSeq X.K tl) := by
  refine ⟨fun pins s σ H R I h => thn (hl.run pins s σ H _ I h) fun v z ⟨x, H1, J, r, a, xs, e, hq, q⟩ => ?_⟩
  subst e
  cases r
  have far : ∀ b ∈ [z.heap.objs.size], FpOk X pins H1 b := fun b hb => by
    rw [List.mem_singleton.mp hb]; exact J.fpOk (Nat.le_refl _) (J.hok.fresh (Nat.le_refl _))
  rcases hq with hq | hq
  · have q2 := q _ _ (fun H' s => Same.seq s hq) walk_list
    obtain ⟨its, rv, p, hz⟩ := J.list hq
    exact wpAny_pyIter_list p.isList ⟨_, [z.heap.objs.size], _, _, H1, rfl, J.kept (t' := z.toks) (fun b o e => Heap.get?_push_of_some _ e), turn_list a _, ⟨_, Heap.get?_push_size _ rfl, rfl, rfl⟩, (by exact far), q2⟩
  · have q2 := q _ _ (fun H' s => SqT.keep (Same.tk s) hq) walk_tup
    obtain ⟨its, rv, p, hz⟩ := J.tuple hq
    exact wpAny_pyIter_tuple (show z.heap.IsTuple a its.toArray from p) ⟨_, [z.heap.objs.size], _, _, H1, rfl, J.kept (t' := z.toks) (fun b o e => Heap.get?_push_of_some _ e), turn_tuple a _, ⟨_, Heap.get?_push_size _ rfl, rfl, rfl⟩, (by exact far), q2⟩
/-- a comprehension's list, put anew -/
theorem Same.acc {H H' : Hp} {D : Addr} {o : HO} (s : Same H H') (n : H D = none) : Same H (upd H' D o) := fun b u e => by
  rw [upd_ne (ne_of_none e n)]
  exact s b u e
end Hb
set_option Elab.async false
set_option linter.all false
set_option maxRecDepth 100000
set_option maxHeartbeats 4000000
namespace Hb
open PySem PySem.Spec PyProof.Rows L2
/-- pairs of texts in Python's order -/
def sortP (ps : List (Str × Str)) : List (Str × Str) := ps.mergeSort (PySem.W.dataLe false encP)
theorem sortP_perm (ps : List (Str × Str)) : (sortP ps).Perm ps := List.mergeSort_perm _ _
theorem zip_fst {α β : Type} : ∀ {xs : List α} {ys : List β}, xs.length = ys.length → (xs.zip ys).map (·.1) = xs
  | [], [], _ => rfl
  | x :: xs, y :: ys, h => congrArg (x :: ·) (zip_fst (xs := xs) (ys := ys) (by simpa using h))
theorem zip_snd {α β : Type} : ∀ {xs : List α} {ys : List β}, xs.length = ys.length → (xs.zip ys).map (·.2) = ys
  | [], [], _ => rfl
  | x :: xs, y :: ys, h => congrArg (y :: ·) (zip_snd (xs := xs) (ys := ys) (by simpa using h))
section
variable {K : PySem.W.Frag} {H : Hp}
theorem zip_td : ∀ {xs : List V} {ps : List (Str × Str)}, TDs K H xs (ps.map encP) → ∀ z ∈ xs.zip ps, TD K H z.1 (encP z.2)
  | [], [], _, z, h => by cases h
  | _ :: _, [], t, _, _ => by cases t
  | [], _ :: _, t, _, _ => by cases t
  | x :: xs, p :: ps, t, z, h => by
    obtain ⟨v, ws, e, h1, h2⟩ := TDs.cons_inv t
    cases e
    rcases List.mem_cons.mp h with h | h
    · rw [h]; exact h1
    · exact zip_td h2 z h
theorem td_zip : ∀ {zs : List (V × (Str × Str))}, (∀ z ∈ zs, TD K H z.1 (encP z.2)) → TDs K H (zs.map (·.1)) ((zs.map (·.2)).map encP)
  | [], _ => .nil
  | z :: zs, h => .cons (h z List.mem_cons_self) (td_zip fun y hy => h y (List.mem_cons_of_mem _ hy))
end
theorem sort_zip (zs : List (V × (Str × Str))) : (zs.mergeSort (PySem.W.dataLe false fun z => encP z.2)).map (·.2) = sortP (zs.map (·.2)) :=
  PySem.W.sort_maps (fun z : V × (Str × Str) => z.2) fun _ _ _ _ => rfl
/-! ### a Sleeper -/
def slpFs (t : Addr) (z : Zz) : List (Str × V) := [("sorts", .ref t), ("stir", .int z.stir), ("doze", .int z.doze), ("near", .int z.near), ("loud", .str z.loud)]
/-- a Sleeper of the class at C -/
def SlpAt (K : PySem.W.Frag) (C : Addr) (H : Hp) (p : Addr) (z : Zz) : Prop := ∃ dx t xs, H p = some (.ins C dx (slpFs t z)) ∧ SqT K H t xs ∧ TDs K H xs ((sortP z.sorts).map encP)
theorem SlpAt.keep {K : PySem.W.Frag} {C : Addr} {H H' : Hp} {p : Addr} {z : Zz} (h : SlpAt K C H p z) (k : TK H H') (e : ∀ o, H p = some o → H' p = some o) : SlpAt K C H' p z := by
  obtain ⟨dx, t, xs, h1, h2, h3⟩ := h
  exact ⟨dx, t, xs, e _ h1, SqT.keep k h2, TDs.keep k h3⟩
theorem SlpAt.same {K : PySem.W.Frag} {C : Addr} {H H' : Hp} {p : Addr} {z : Zz} (h : SlpAt K C H p z) (s : Same H H') : SlpAt K C H' p z := h.keep (Same.tk s) fun o e => s _ _ e
theorem SlpAt.kp {K : PySem.W.Frag} {C d g : Addr} {H H' : Hp} {p : Addr} {z : Zz} (h : SlpAt K C H p z) (dl : Deal d g H) (k : Kp d g H H') : SlpAt K C H' p z :=
  h.keep (dl.tk k) fun o e => by
    obtain ⟨dx, t, xs, h1, h2, h3⟩ := h
    exact k _ _ (dl.ne_d h1 (by intro kvs q; cases q)) (dl.ne_g h1 (by intro kvs q; cases q)) e
end Hb
set_option Elab.async false
set_option linter.all false
set_option maxRecDepth 100000
set_option maxHeartbeats 4000000
namespace Hb
open PySem PySem.Spec PyProof.Rows L2
/-! ### states -/
inductive S0 where
  | up | doz (t : Int) | asl | kept (n : Str) (a : Int) | stir (t : Int) | wok
  deriving DecidableEq
def S0.vals : S0 → List V
  | .up => [.str "up"]
  | .doz t => [.str "dozing", .int t]
  | .asl => [.str "asleep"]
  | .kept n a => [.str "asleep", .str n, .int a]
  | .stir t => [.str "stirring", .int t]
  | .wok => [.str "woken"]
def S0.ds : S0 → List PyData
  | .up => [.str "up"]
  | .doz t => [.str "dozing", .int t]
  | .asl => [.str "asleep"]
  | .kept n a => [.str "asleep", .str n, .int a]
  | .stir t => [.str "stirring", .int t]
  | .wok => [.str "woken"]
def S0.word : S0 → Str
  | .up => "up"
  | .doz _ => "dozing"
  | .asl => "asleep"
  | .kept _ _ => "asleep"
  | .stir _ => "stirring"
  | .wok => "woken"
theorem S0.head (s : S0) : atI s.vals 0 = some (.str s.word) := by cases s <;> rfl
def StAt (K : PySem.W.Frag) (H : Hp) (v : V) (s : S0) : Prop := ∃ a, v = .ref a ∧ SqT K H a s.vals
theorem StAt.keep {K : PySem.W.Frag} {H H' : Hp} {v : V} {s : S0} (k : TK H H') (h : StAt K H v s) : StAt K H' v s := by
  obtain ⟨a, e, h⟩ := h
  exact ⟨a, e, SqT.keep k h⟩
theorem S0.td (K : PySem.W.Frag) (H : Hp) (s : S0) : TDs K H s.vals s.ds := by
  cases s
  case up => exact .cons (.str _) .nil
  case doz => exact .cons (.str _) (.cons (.int _) .nil)
  case asl => exact .cons (.str _) .nil
  case kept => exact .cons (.str _) (.cons (.str _) (.cons (.int _) .nil))
  case stir => exact .cons (.str _) (.cons (.int _) .nil)
  case wok => exact .cons (.str _) .nil
theorem StAt.td {K : PySem.W.Frag} {H : Hp} {v : V} {s : S0} (h : StAt K H v s) : TD K H v (.tuple s.ds) := by
  obtain ⟨a, rfl, h⟩ := h
  exact .tup h (S0.td K H s)
def soV : Option Str → V
  | none => .non
  | some x => .str x
theorem soV_eq (so : Option Str) (x : Str) : decide (soV so = V.str x) = decide (so = some x) := by
  cases so with
  | none => simp [soV]
  | some y => simp [soV]
theorem soV_scal (so : Option Str) (x : Str) : scal (soV so) (.str x) = true := by cases so <;> rfl
/-- its name may be compared -/
def S0.ok : S0 → Prop
  | .kept n _ => PyData.strOk n = true
  | _ => True
theorem flat_ok : ∀ w ∈ (["up", "dozing", "asleep", "stirring", "woken"] : List Str), PyData.strOk w = true := by decide +kernel
theorem S0.shp {s : S0} (h : s.ok) : Shp (.tuple s.ds) := by
  have w : ∀ x ∈ (["up", "dozing", "asleep", "stirring", "woken"] : List Str), (PyData.str x).canLay0 = true ∧ (PyData.str x).depth ≤ 50 := fun x hx => ⟨by simp only [PyData.canLay0]; exact flat_ok x hx, by simp [PyData.depth]⟩
  have i : ∀ t : Int, (PyData.int t).canLay0 = true ∧ (PyData.int t).depth ≤ 50 := fun t => ⟨by simp [PyData.canLay0], by simp [PyData.depth]⟩
  refine shp_tup fun d hd => ?_
  cases s
  case up => simp only [S0.ds, List.mem_cons, List.not_mem_nil, or_false] at hd; subst hd; exact w _ (by simp)
  case asl => simp only [S0.ds, List.mem_cons, List.not_mem_nil, or_false] at hd; subst hd; exact w _ (by simp)
  case wok => simp only [S0.ds, List.mem_cons, List.not_mem_nil, or_false] at hd; subst hd; exact w _ (by simp)
  case doz => simp only [S0.ds, List.mem_cons, List.not_mem_nil, or_false] at hd; exact hd.elim (fun e => e ▸ w _ (by simp)) (fun e => e ▸ i _)
  case stir => simp only [S0.ds, List.mem_cons, List.not_mem_nil, or_false] at hd; exact hd.elim (fun e => e ▸ w _ (by simp)) (fun e => e ▸ i _)
  case kept n a =>
    simp only [S0.ds, List.mem_cons, List.not_mem_nil, or_false] at hd
    exact hd.elim (fun e => e ▸ w _ (by simp)) fun hd => hd.elim (fun e => e ▸ ⟨by simp only [PyData.canLay0]; exact h, by simp [PyData.depth]⟩) (fun e => e ▸ i _)
theorem words_ne : ("asleep" : Str) ≠ "up" ∧ ("dozing" : Str) ≠ "up" ∧ ("stirring" : Str) ≠ "up" ∧ ("woken" : Str) ≠ "up" ∧ ("asleep" : Str) ≠ "dozing" ∧ ("stirring" : Str) ≠ "dozing" ∧ ("woken" : Str) ≠ "dozing" ∧
    ("stirring" : Str) ≠ "asleep" ∧ ("woken" : Str) ≠ "asleep" ∧ ("woken" : Str) ≠ "stirring" := by decide +kernel
theorem beq_dec {α : Type} [DecidableEq α] [BEq α] [LawfulBEq α] (a b : α) : (a == b) = decide (a = b) := by
  by_cases h : a = b
  · rw [decide_eq_true h, h, beq_self_eq_true]
  · rw [decide_eq_false h, beq_eq_false_iff_ne.mpr h]
/-- states are alike if their data are -/
theorem eqv_st (s t : S0) : PyData.eqv (.tuple s.ds) (.tuple t.ds) = decide (s = t) := by
  obtain ⟨h1, h2, h3, h4, h5, h6, h7, h8, h9, h10⟩ := words_ne
  cases s <;> cases t <;> simp [beq_dec, S0.ds, PyData.eqv, PyData.eqvAll, h1, h2, h3, h4, h5, h6, h7, h8, h9, h10, h1.symm, h2.symm, h3.symm, h4.symm, h5.symm, h6.symm, h7.symm, h8.symm, h9.symm, h10.symm]
/-- what a noise of sort so does -/
def hear (z : Zz) (so : Option Str) (n : Str) : S0 → S0
  | .up => .up
  | .wok => .wok
  | .doz t => if so = some ("loud" : Str) then (if z.loud = "wake" then .wok else if z.loud = "again" then .doz z.doze else .doz t) else .doz t
  | .asl => if so = some ("soft" : Str) then .stir z.stir else if so = some ("loud" : Str) ∨ so = some ("sudden" : Str) then .wok else if so = some ("faint" : Str) then .kept n 0 else .asl
  | .kept m a => if so = some ("soft" : Str) then .stir z.stir else if so = some ("loud" : Str) ∨ so = some ("sudden" : Str) then .wok else if so = some ("faint" : Str) then (if m = n then .kept n 0 else .wok) else .kept m a
  | .stir t => if so = some ("loud" : Str) then .wok else .stir t
def sortOf (z : Zz) (n : Str) : Option Str := (sortP z.sorts).lookup n
def tick (z : Zz) : S0 → S0
  | .up => .up
  | .wok => .wok
  | .doz t => if 1 < t then .doz (t - 1) else .asl
  | .asl => .asl
  | .kept m a => if a < z.near then .kept m (a + 1) else .asl
  | .stir t => if 1 < t then .stir (t - 1) else .wok
def hum (z : Zz) (w : Str) : S0 → S0
  | .wok => .wok
  | _ => if w = "up" then .up else .doz z.doze
end Hb
set_option Elab.async false
set_option linter.all false
set_option maxRecDepth 100000
set_option maxHeartbeats 4000000
namespace Hb
open PySem PySem.Spec PyProof.Rows L2
/-- a list being filled, changed: tuples stay -/
theorem tk_acc {H : Hp} {D : Addr} {xs ys : List V} (h : H D = some (.lst xs)) : TK H (upd H D (.lst ys)) := TK.put h (by intro xs e; cases e) (by intro q u e; cases e)
/-! ### rows of states -/
inductive SsAt (K : PySem.W.Frag) (H : Hp) : List V → List S0 → Prop
  | nil : SsAt K H [] []
  | cons {v : V} {vs : List V} {s : S0} {ss : List S0} : StAt K H v s → SsAt K H vs ss → SsAt K H (v :: vs) (s :: ss)
section
variable {K : PySem.W.Frag} {H H' : Hp}
theorem SsAt.keep (k : TK H H') : ∀ {vs : List V} {ss : List S0}, SsAt K H vs ss → SsAt K H' vs ss
  | _, _, .nil => .nil
  | _, _, .cons h t => .cons (h.keep k) (SsAt.keep k t)
theorem SsAt.app : ∀ {vs ws : List V} {ss ts : List S0}, SsAt K H vs ss → SsAt K H ws ts → SsAt K H (vs ++ ws) (ss ++ ts)
  | _, _, _, _, .nil, h => h
  | _, _, _, _, .cons h t, h2 => .cons h (SsAt.app t h2)
theorem SsAt.length : ∀ {vs : List V} {ss : List S0}, SsAt K H vs ss → vs.length = ss.length
  | _, _, .nil => rfl
  | _, _, .cons _ t => congrArg Nat.succ (SsAt.length t)
theorem SsAt.at : ∀ {vs : List V} {ss : List S0} {i : Nat} {v : V}, SsAt K H vs ss → vs[i]? = some v → ∃ s, ss[i]? = some s ∧ StAt K H v s
  | _, _, _, _, .nil, e => by simp at e
  | _, _, 0, _, .cons h _, e => by simp at e; subst e; exact ⟨_, rfl, h⟩
  | _, _, i + 1, _, .cons _ t, e => by
    obtain ⟨s, h1, h2⟩ := SsAt.at t (i := i) (by simpa using e)
    exact ⟨s, by simpa using h1, h2⟩
theorem SsAt.td : ∀ {vs : List V} {ss : List S0}, SsAt K H vs ss → TDs K H vs (ss.map fun s => .tuple s.ds)
  | _, _, .nil => .nil
  | _, _, .cons h t => .cons h.td (SsAt.td t)
end
/-- a list of states, one put behind -/
theorem SsAt.more {K : PySem.W.Frag} {H1 H H2 : Hp} {D : Addr} {acc : List V} {ss : List S0} {v : V} {s : S0} (nD : H1 D = none) (s1 : Same H1 H) (hD : H D = some (.lst acc)) (hs : SsAt K H acc ss) (s2 : Same H H2) (hv : StAt K H2 v s) :
    Same H1 (upd H2 D (.lst (acc ++ [v]))) ∧ ∃ acc', upd H2 D (.lst (acc ++ [v])) D = some (.lst acc') ∧ SsAt K (upd H2 D (.lst (acc ++ [v]))) acc' (ss ++ [s]) := by
  have k : TK H2 (upd H2 D (.lst (acc ++ [v]))) := tk_acc (s2 _ _ hD)
  exact ⟨Hb.Same.acc (s1.trans s2) nD, _, upd_same, SsAt.app (SsAt.keep k (SsAt.keep (Same.tk s2) hs)) (.cons (hv.keep k) .nil)⟩
theorem range_map (f : Nat → S0) (i : Nat) : (List.range (i + 1)).map f = (List.range i).map f ++ [f i] := by
  rw [List.range_succ, List.map_append]
  rfl
theorem SsAt.more' {K : PySem.W.Frag} {H1 H H2 : Hp} {D : Addr} {acc : List V} {f : Nat → S0} {i : Nat} {v : V} (nD : H1 D = none) (s1 : Same H1 H) (hD : H D = some (.lst acc)) (hs : SsAt K H acc ((List.range i).map f)) (s2 : Same H H2) (hv : StAt K H2 v (f i)) :
    Same H1 (upd H2 D (.lst (acc ++ [v]))) ∧ ∃ acc', upd H2 D (.lst (acc ++ [v])) D = some (.lst acc') ∧ SsAt K (upd H2 D (.lst (acc ++ [v]))) acc' ((List.range (i + 1)).map f) := by
  rw [range_map]
  exact SsAt.more nD s1 hD hs s2 hv
theorem any_st (ss : List S0) (s : S0) : ((ss.map fun s => PyData.tuple s.ds).any fun z => PyData.eqv z (.tuple s.ds)) = decide (s ∈ ss) := by
  induction ss with
  | nil => simp
  | cons t ss ih =>
    rw [List.map_cons, List.any_cons, ih, eqv_st]
    by_cases h : t = s
    · subst h; simp
    · have h2 : ¬ s = t := fun q => h q.symm
      simp [h, h2]
theorem shaped_sts {ss : List S0} (h : ∀ s ∈ ss, s.ok) : SeqAt.shaped (.list (ss.map fun s => .tuple s.ds)) = true := shaped_list fun d hd => by
  obtain ⟨s, hs, rfl⟩ := List.mem_map.mp hd
  exact S0.shp (h s hs)
/-- all states of its form -/
def states (z : Zz) : List S0 := ([.up, .asl, .wok] ++ (List.range z.doze.toNat).map fun i => .doz (1 + (i : Nat))) ++ ((List.range z.stir.toNat).map fun i => .stir (1 + (i : Nat))) ++
  (z.sorts.filter fun p => decide (p.2 = ("faint" : Str))).flatMap fun p => (List.range (z.near + 1).toNat).map fun i => .kept p.1 (0 + (i : Nat))
def rowS (z : Zz) (s : S0) (ns : List Str) : S0 := ns.foldl (fun s n => hear z (sortOf z n) n s) s
end Hb
set_option Elab.async false
set_option linter.all false
set_option maxRecDepth 100000
set_option maxHeartbeats 8000000
namespace Hb
open PySem PySem.Spec PyProof.Rows L2
/-! ### looking up -/
theorem lookup_mem : ∀ {ps : List (Str × Str)} {n x : Str}, ps.lookup n = some x → (n, x) ∈ ps
  | [], _, _, h => by simp at h
  | (m, y) :: ps, n, x, h => by
    rw [List.lookup_cons] at h
    by_cases e : n = m
    · subst e
      simp at h
      subst h
      exact List.mem_cons_self
    · have e2 : (n == m) = false := beq_eq_false_iff_ne.mpr e
      rw [e2] at h
      exact List.mem_cons_of_mem _ (lookup_mem h)
theorem lookup_of : ∀ {ps : List (Str × Str)} {n x : Str}, (ps.map Prod.fst).Nodup → (n, x) ∈ ps → ps.lookup n = some x
  | (m, y) :: ps, n, x, nd, h => by
    rw [List.map_cons, List.nodup_cons] at nd
    rw [List.lookup_cons]
    rcases List.mem_cons.mp h with h | h
    · cases h
      simp
    · have e : n ≠ m := fun q => nd.1 (by rw [← q]; exact List.mem_map.mpr ⟨_, h, rfl⟩)
      rw [beq_eq_false_iff_ne.mpr e]
      exact lookup_of nd.2 h
theorem lookup_none : ∀ {ps : List (Str × Str)} {n : Str}, (∀ x, (n, x) ∉ ps) → ps.lookup n = none
  | [], _, _ => rfl
  | (m, y) :: ps, n, h => by
    have e : n ≠ m := fun q => h y (by rw [q]; exact List.mem_cons_self)
    rw [List.lookup_cons, beq_eq_false_iff_ne.mpr e]
    exact lookup_none fun x hx => h x (List.mem_cons_of_mem _ hx)
theorem lookup_perm {ps qs : List (Str × Str)} (nd : (ps.map Prod.fst).Nodup) (h : qs.Perm ps) (n : Str) : qs.lookup n = ps.lookup n := by
  cases e : ps.lookup n with
  | none =>
    refine lookup_none fun x hx => ?_
    rw [lookup_of nd (h.mem_iff.mp hx)] at e
    cases e
  | some x => exact lookup_of ((h.map Prod.fst).nodup_iff.mpr nd) (h.mem_iff.mpr (lookup_mem e))
theorem sortOf_eq {z : Zz} (nd : (z.sorts.map Prod.fst).Nodup) (n : Str) : sortOf z n = z.sorts.lookup n := lookup_perm nd (sortP_perm _) n
/-! ### a dict of pairs -/
def pkv (p : Str × Str) : Key × V := (Sum.inr p.1, V.str p.2)
theorem putK_new (kvs : List (Key × V)) (k : Key) (v : V) (h : ∀ kv ∈ kvs, kv.1 ≠ k) : putK kvs k v = kvs ++ [(k, v)] := by
  unfold putK
  rw [if_neg]
  intro q
  obtain ⟨kv, h1, h2⟩ := List.any_eq_true.mp q
  exact h kv h1 (of_decide_eq_true h2)
theorem merge_new : ∀ (ps : List (Str × Str)) (acc : List (Key × V)), (ps.map Prod.fst).Nodup → (∀ p ∈ ps, ∀ kv ∈ acc, kv.1 ≠ (Sum.inr p.1 : Key)) → mergeK acc (ps.map pkv) = acc ++ ps.map pkv
  | [], acc, _, _ => by simp [mergeK]
  | p :: ps, acc, nd, h => by
    rw [List.map_cons, List.nodup_cons] at nd
    have e : mergeK acc ((p :: ps).map pkv) = mergeK (putK acc (Sum.inr p.1) (V.str p.2)) (ps.map pkv) := rfl
    rw [e, putK_new acc _ _ (h p List.mem_cons_self), merge_new ps _ nd.2 (fun q hq kv hkv => ?_)]
    · simp [pkv]
    · rcases List.mem_append.mp hkv with hkv | hkv
      · exact h q (List.mem_cons_of_mem _ hq) kv hkv
      · rw [List.mem_singleton.mp hkv]
        intro e2
        have e3 : p.1 = q.1 := Sum.inr.inj e2
        exact nd.1 (by rw [e3]; exact List.mem_map.mpr ⟨q, hq, rfl⟩)
theorem val_pairs : ∀ (ps : List (Str × Str)) (n : Str), valV (ps.map pkv) (Sum.inr n) = (ps.lookup n).map V.str
  | [], n => rfl
  | p :: ps, n => by
    rw [List.map_cons, List.lookup_cons]
    by_cases e : n = p.1
    · rw [valV_pos (p := pkv p) (by show Sum.inr p.1 = Sum.inr n; rw [e])]
      subst e
      simp [pkv]
    · rw [valV_neg (p := pkv p) (fun q => e (Sum.inr.inj (show (Sum.inr p.1 : Key) = Sum.inr n from q)).symm), beq_eq_false_iff_ne.mpr e]
      exact val_pairs ps n
theorem val_dict {ps : List (Str × Str)} (nd : (ps.map Prod.fst).Nodup) (n : Str) : valV (mergeK [] (ps.map pkv)) (Sum.inr n) = (ps.lookup n).map V.str := by
  rw [merge_new ps [] nd (fun _ _ _ h => by cases h), List.nil_append]
  exact val_pairs ps n
theorem pairs_of {K : PySem.W.Frag} {H : Hp} : ∀ {xs : List V} {ps : List (Str × Str)}, TDs K H xs (ps.map encP) → ∃ as : List Addr, xs = as.map V.ref ∧ Paired (fun p (kv : Key × V) => SqT K H p [kV kv.1, kv.2]) as (ps.map pkv)
  | _, [], h => ⟨[], TDs.nil_inv h, .nil⟩
  | _, p :: ps, h => by
    obtain ⟨v, ws, rfl, h1, h2⟩ := TDs.cons_inv h
    obtain ⟨as, rfl, h3⟩ := pairs_of h2
    obtain ⟨a, ys, rfl, h4, h5⟩ := TD.tup_inv h1
    obtain rfl := TDs.strs_inv (xs := [p.1, p.2]) h5
    exact ⟨a :: as, rfl, .cons h4 h3⟩
/-! ### what noises do -/
theorem sorts_ne : ("loud" : Str) ≠ "soft" ∧ ("sudden" : Str) ≠ "soft" ∧ ("faint" : Str) ≠ "soft" ∧ ("sudden" : Str) ≠ "loud" ∧ ("faint" : Str) ≠ "loud" ∧ ("faint" : Str) ≠ "sudden" ∧ ("again" : Str) ≠ "wake" := by decide +kernel
/-- the five kinds of noises -/
theorem kinds (so : Option Str) : so = some ("soft" : Str) ∨ so = some ("loud" : Str) ∨ so = some ("sudden" : Str) ∨ so = some ("faint" : Str) ∨ (so ≠ some ("soft" : Str) ∧ so ≠ some ("loud" : Str) ∧ so ≠ some ("sudden" : Str) ∧ so ≠ some ("faint" : Str)) := by
  by_cases h1 : so = some ("soft" : Str)
  · exact .inl h1
  by_cases h2 : so = some ("loud" : Str)
  · exact .inr (.inl h2)
  by_cases h3 : so = some ("sudden" : Str)
  · exact .inr (.inr (.inl h3))
  by_cases h4 : so = some ("faint" : Str)
  · exact .inr (.inr (.inr (.inl h4)))
  exact .inr (.inr (.inr (.inr ⟨h1, h2, h3, h4⟩)))
theorem hear_soft {z : Zz} {n : Str} (s : S0) : hear z (some ("soft" : Str)) n s = match s with | .asl => .stir z.stir | .kept _ _ => .stir z.stir | s => s := by
  obtain ⟨h1, h2, h3, h4, h5, h6, h7⟩ := sorts_ne
  cases s <;> simp [hear, h1.symm]
theorem hear_loud {z : Zz} {n : Str} (s : S0) : hear z (some ("loud" : Str)) n s = match s with | .up => .up | .doz t => (if z.loud = ("wake" : Str) then .wok else if z.loud = ("again" : Str) then .doz z.doze else .doz t) | _ => .wok := by
  obtain ⟨h1, h2, h3, h4, h5, h6, h7⟩ := sorts_ne
  cases s <;> simp [hear, h1]
theorem hear_sudden {z : Zz} {n : Str} (s : S0) : hear z (some ("sudden" : Str)) n s = match s with | .asl => .wok | .kept _ _ => .wok | s => s := by
  obtain ⟨h1, h2, h3, h4, h5, h6, h7⟩ := sorts_ne
  cases s <;> simp [hear, h2, h4]
theorem hear_faint {z : Zz} {n : Str} (s : S0) : hear z (some ("faint" : Str)) n s = match s with | .asl => .kept n 0 | .kept m _ => (if m = n then .kept n 0 else .wok) | s => s := by
  obtain ⟨h1, h2, h3, h4, h5, h6, h7⟩ := sorts_ne
  cases s <;> simp [hear, h3, h5, h6]
theorem hear_else {z : Zz} {n : Str} {so : Option Str} (h : so ≠ some ("soft" : Str) ∧ so ≠ some ("loud" : Str) ∧ so ≠ some ("sudden" : Str) ∧ so ≠ some ("faint" : Str)) (s : S0) : hear z so n s = s := by
  obtain ⟨h1, h2, h3, h4⟩ := h
  cases s <;> simp [hear, h1, h2, h3, h4]
inductive Kd where
  | soft | loud | sudden | faint | els
  deriving DecidableEq
def act (z : Zz) (n : Str) : Kd → S0 → S0
  | .soft, .asl => .stir z.stir
  | .soft, .kept _ _ => .stir z.stir
  | .loud, .doz t => if z.loud = ("wake" : Str) then .wok else if z.loud = ("again" : Str) then .doz z.doze else .doz t
  | .loud, .asl => .wok
  | .loud, .kept _ _ => .wok
  | .loud, .stir _ => .wok
  | .sudden, .asl => .wok
  | .sudden, .kept _ _ => .wok
  | .faint, .asl => .kept n 0
  | .faint, .kept m _ => if m = n then .kept n 0 else .wok
  | _, s => s
def kd (so : Option Str) : Kd := if so = some ("soft" : Str) then .soft else if so = some ("loud" : Str) then .loud else if so = some ("sudden" : Str) then .sudden else if so = some ("faint" : Str) then .faint else .els
theorem hear_act (z : Zz) (so : Option Str) (n : Str) (s : S0) : hear z so n s = act z n (kd so) s := by
  obtain ⟨h1, h2, h3, h4, h5, h6, h7⟩ := sorts_ne
  rcases kinds so with rfl | rfl | rfl | rfl | h
  · rw [hear_soft]; cases s <;> simp [kd, act]
  · rw [hear_loud]; cases s <;> simp [kd, act, h1]
  · rw [hear_sudden]; cases s <;> simp [kd, act, h2, h4]
  · rw [hear_faint]; cases s <;> simp [kd, act, h3, h5, h6]
  · rw [hear_else h]; obtain ⟨q1, q2, q3, q4⟩ := h; cases s <;> simp [kd, act, q1, q2, q3, q4]
/-- two noises twice are as once -/
theorem twice (z : Zz) (a b : Str) (s : S0) : rowS z (rowS z s [a, b]) [a, b] = rowS z s [a, b] := by
  have key : ∀ ka kb : Kd, (a = b → ka = kb) → ∀ s, act z b kb (act z a ka (act z b kb (act z a ka s))) = act z b kb (act z a ka s) := by
    intro ka kb hab s
    have wa : ("wake" : Str) ≠ "again" := sorts_ne.2.2.2.2.2.2.symm
    by_cases e : a = b
    · subst e
      have e2 := hab rfl
      subst e2
      by_cases hw : z.loud = ("wake" : Str)
      · cases s
        case kept m t => by_cases h1 : m = a <;> cases ka <;> simp [act, hw, h1, wa]
        all_goals (cases ka <;> simp [act, hw, wa])
      · by_cases hg : z.loud = ("again" : Str)
        · cases s
          case kept m t => by_cases h1 : m = a <;> cases ka <;> simp [act, hw, hg, h1]
          all_goals (cases ka <;> simp [act, hg, wa.symm])
        · cases s
          case kept m t => by_cases h1 : m = a <;> cases ka <;> simp [act, hw, hg, h1]
          all_goals (cases ka <;> simp [act, hw, hg])
    · have e2 : ¬ b = a := fun q => e q.symm
      by_cases hw : z.loud = ("wake" : Str)
      · cases s
        case kept m t => by_cases h1 : m = a <;> by_cases h2 : m = b <;> cases ka <;> cases kb <;> simp [act, hw, h1, h2, wa, e, e2]
        all_goals (cases ka <;> cases kb <;> simp [act, hw, wa, e, e2])
      · by_cases hg : z.loud = ("again" : Str)
        · cases s
          case kept m t => by_cases h1 : m = a <;> by_cases h2 : m = b <;> cases ka <;> cases kb <;> simp [act, hg, wa.symm, h1, h2, e, e2]
          all_goals (cases ka <;> cases kb <;> simp [act, hg, wa.symm, e, e2])
        · cases s
          case kept m t => by_cases h1 : m = a <;> by_cases h2 : m = b <;> cases ka <;> cases kb <;> simp [act, hw, hg, h1, h2, e, e2]
          all_goals (cases ka <;> cases kb <;> simp [act, hw, hg, e, e2])
  have h := key (kd (sortOf z a)) (kd (sortOf z b)) (fun e => by rw [e]) s
  simp only [← hear_act] at h
  exact h
end Hb
set_option Elab.async false
set_option linter.all false
set_option maxRecDepth 100000
set_option maxHeartbeats 8000000
namespace Hb
open PySem PySem.Spec PyProof.Rows L2
def InS (z : Zz) : S0 → Prop
  | .doz t => 1 ≤ t ∧ t ≤ z.doze
  | .stir t => 1 ≤ t ∧ t ≤ z.stir
  | .kept n a => (n, ("faint" : Str)) ∈ z.sorts ∧ 0 ≤ a ∧ a ≤ z.near
  | _ => True
theorem mem_states {z : Zz} {s : S0} : s ∈ states z ↔ InS z s := by
  unfold states
  rw [List.mem_append, List.mem_append, List.mem_append]
  constructor
  · rintro (((h | h) | h) | h)
    · simp only [List.mem_cons, List.not_mem_nil, or_false] at h
      rcases h with rfl | rfl | rfl <;> exact trivial
    · obtain ⟨i, hi, rfl⟩ := List.mem_map.mp h
      have := List.mem_range.mp hi
      exact ⟨by omega, by omega⟩
    · obtain ⟨i, hi, rfl⟩ := List.mem_map.mp h
      have := List.mem_range.mp hi
      exact ⟨by omega, by omega⟩
    · obtain ⟨p, hp, h⟩ := List.mem_flatMap.mp h
      obtain ⟨i, hi, rfl⟩ := List.mem_map.mp h
      obtain ⟨h1, h2⟩ := List.mem_filter.mp hp
      have h3 : p.2 = ("faint" : Str) := of_decide_eq_true h2
      have := List.mem_range.mp hi
      refine ⟨?_, by omega, by omega⟩
      rw [← h3]
      exact h1
  · intro h
    cases s with
    | up => exact .inl (.inl (.inl (by simp)))
    | asl => exact .inl (.inl (.inl (by simp)))
    | wok => exact .inl (.inl (.inl (by simp)))
    | doz t =>
      obtain ⟨h1, h2⟩ := h
      exact .inl (.inl (.inr (List.mem_map.mpr ⟨(t - 1).toNat, List.mem_range.mpr (by omega), by rw [show (1 : Int) + ((t - 1).toNat : Nat) = t by omega]⟩)))
    | stir t =>
      obtain ⟨h1, h2⟩ := h
      exact .inl (.inr (List.mem_map.mpr ⟨(t - 1).toNat, List.mem_range.mpr (by omega), by rw [show (1 : Int) + ((t - 1).toNat : Nat) = t by omega]⟩))
    | kept n a =>
      obtain ⟨h0, h1, h2⟩ := h
      exact .inr (List.mem_flatMap.mpr ⟨_, List.mem_filter.mpr ⟨h0, decide_eq_true rfl⟩, List.mem_map.mpr ⟨a.toNat, List.mem_range.mpr (by omega), by rw [show (0 : Int) + (a.toNat : Nat) = a by omega]⟩⟩)
section
variable {z : Zz} {ws : List Str} (zk : Zok z ws)
include zk
theorem Zok.zin : z.sorts.length ≤ 100 := Nat.le_trans zk.few (by decide)
theorem sort_mem {n x : Str} (h : sortOf z n = some x) : (n, x) ∈ z.sorts := by
  rw [sortOf_eq zk.nd] at h
  exact lookup_mem h
theorem InS.sok {s : S0} (h : InS z s) : s.ok := by
  cases s
  case kept n a => exact (Zok.ok zk _ h.1).1
  all_goals trivial
theorem InS.hear {n : Str} {s : S0} (h : InS z s) : InS z (Hb.hear z (sortOf z n) n s) := by
  have f : kd (sortOf z n) = .faint → (n, ("faint" : Str)) ∈ z.sorts := by
    intro e
    unfold kd at e
    split at e
    · cases e
    · split at e
      · cases e
      · split at e
        · cases e
        · split at e
          · rename_i q
            exact sort_mem zk q
          · cases e
  rw [hear_act]
  have d1 := zk.d1
  have s1 := zk.s1
  have n1 := zk.n1
  cases s with
  | up => cases kd (sortOf z n) <;> trivial
  | wok => cases kd (sortOf z n) <;> trivial
  | asl =>
    cases q : kd (sortOf z n)
    case faint => exact ⟨f q, by omega, by omega⟩
    case soft => exact ⟨by omega, by omega⟩
    all_goals trivial
  | kept m a =>
    cases q : kd (sortOf z n)
    case faint =>
      show InS z (if m = n then .kept n 0 else .wok)
      split
      · exact ⟨f q, by omega, by omega⟩
      · trivial
    case soft => exact ⟨by omega, by omega⟩
    case els => exact h
    all_goals trivial
  | doz t =>
    cases q : kd (sortOf z n)
    case loud =>
      show InS z (if z.loud = ("wake" : Str) then .wok else if z.loud = ("again" : Str) then .doz z.doze else .doz t)
      split
      · trivial
      · split
        · exact ⟨by omega, by omega⟩
        · exact h
    all_goals exact h
  | stir t =>
    cases q : kd (sortOf z n)
    case loud => trivial
    all_goals exact h
theorem InS.row : ∀ {ns : List Str} {s : S0}, InS z s → InS z (rowS z s ns)
  | [], _, h => h
  | n :: ns, _, h => InS.row (ns := ns) (InS.hear zk h)
theorem InS.tick {s : S0} (h : InS z s) : InS z (Hb.tick z s) := by
  have n1 := zk.n1
  cases s with
  | up => trivial
  | wok => trivial
  | asl => trivial
  | doz t =>
    show InS z (if 1 < t then .doz (t - 1) else .asl)
    split
    · exact ⟨by omega, by have := h.2; omega⟩
    · trivial
  | stir t =>
    show InS z (if 1 < t then .stir (t - 1) else .wok)
    split
    · exact ⟨by omega, by have := h.2; omega⟩
    · trivial
  | kept m a =>
    obtain ⟨h0, h1, h2⟩ := h
    show InS z (if a < z.near then .kept m (a + 1) else .asl)
    split
    · exact ⟨h0, by omega, by omega⟩
    · trivial
theorem InS.hum {s : S0} {x : Str} (h : InS z s) : InS z (Hb.hum z x s) ∧ (Hb.hum z x s).word ≠ "asleep" := by
  have d1 := zk.d1
  obtain ⟨q1, q2, q3, q4, q5, q6, q7, q8, q9, q10⟩ := words_ne
  by_cases e : s = .wok
  · subst e
    exact ⟨trivial, q9⟩
  · have e2 : Hb.hum z x s = if x = "up" then .up else .doz z.doze := by cases s <;> first | exact absurd rfl e | rfl
    rw [e2]
    split
    · exact ⟨trivial, q1.symm⟩
    · exact ⟨⟨by omega, by omega⟩, q5.symm⟩
end
/-- a noise twice is as once -/
theorem once (z : Zz) (a : Str) (s : S0) : rowS z s [a, a] = rowS z s [a] := by
  show hear z (sortOf z a) a (hear z (sortOf z a) a s) = hear z (sortOf z a) a s
  rw [hear_act, hear_act]
  have wa : ("wake" : Str) ≠ "again" := sorts_ne.2.2.2.2.2.2.symm
  generalize kd (sortOf z a) = k
  by_cases hw : z.loud = ("wake" : Str)
  · cases s
    case kept m t => by_cases h1 : m = a <;> cases k <;> simp [act, hw, h1, wa]
    all_goals (cases k <;> simp [act, hw, wa])
  · by_cases hg : z.loud = ("again" : Str)
    · cases s
      case kept m t => by_cases h1 : m = a <;> cases k <;> simp [act, hg, wa.symm, h1]
      all_goals (cases k <;> simp [act, hg, wa.symm])
    · cases s
      case kept m t => by_cases h1 : m = a <;> cases k <;> simp [act, hw, hg, h1]
      all_goals (cases k <;> simp [act, hw, hg])
theorem unheard_same (z : Zz) (a : Str) (s : S0) (h : sortOf z a = none) : hear z (sortOf z a) a s = s := by
  rw [h, hear_else ⟨by simp, by simp, by simp, by simp⟩]
theorem others_same (z : Zz) (a : Str) (s : S0) (h : sortOf z a = some ("sudden" : Str) ∨ sortOf z a = some ("faint" : Str) ∨ sortOf z a = some ("soft" : Str)) (w : s.word = "stirring" ∨ s.word = "dozing" ∨ s.word = "up") :
    hear z (sortOf z a) a s = s := by
  obtain ⟨q1, q2, q3, q4, q5, q6, q7, q8, q9, q10⟩ := words_ne
  have ns : s ≠ .asl := by rintro rfl; exact w.elim (fun w => q8 w.symm) fun w => w.elim (fun w => q5 w) fun w => q1 w
  have nk : ∀ m t, s ≠ .kept m t := by rintro m t rfl; exact w.elim (fun w => q8 w.symm) fun w => w.elim (fun w => q5 w) fun w => q1 w
  rcases h with h | h | h <;> rw [h]
  · rw [hear_sudden]; cases s <;> first | exact absurd rfl ns | exact absurd rfl (nk _ _) | rfl
  · rw [hear_faint]; cases s <;> first | exact absurd rfl ns | exact absurd rfl (nk _ _) | rfl
  · rw [hear_soft]; cases s <;> first | exact absurd rfl ns | exact absurd rfl (nk _ _) | rfl
/-- a longer stirring is woken no sooner -/
theorem longer (z : Zz) (t : Int) (a : Str) (s : S0) (h : hear { z with stir := t } (sortOf { z with stir := t } a) a s = .wok) : hear z (sortOf z a) a s = .wok := by
  have e : sortOf { z with stir := t } a = sortOf z a := rfl
  rw [e, hear_act] at h
  rw [hear_act]
  revert h
  generalize kd (sortOf z a) = k
  cases k <;> cases s <;> simp [act]
end Hb
set_option Elab.async false
set_option linter.all false
set_option maxRecDepth 100000
set_option maxHeartbeats 4000000
namespace Hb
open PySem PySem.Spec PyProof.Rows L2
section
variable {K : PySem.W.Frag} {H : Hp} {x y : V} {s t : S0} {Q : VK}
theorem ne_st (hx : StAt K H x s) (hy : StAt K H y t) (os : s.ok) (ot : t.ok) (q : Q (.bl (!decide (s = t))) H) : rNeD K x y H Q :=
  ⟨_, _, TD.dp hx.td, TD.dp hy.td, (S0.shp os).shaped, (S0.shp ot).shaped, by rw [eqv_st]; exact q⟩
theorem eq_st (hx : StAt K H x s) (hy : StAt K H y t) (os : s.ok) (ot : t.ok) (q : Q (.bl (decide (s = t))) H) : rEqD K x y H Q :=
  ⟨_, _, TD.dp hx.td, TD.dp hy.td, (S0.shp os).shaped, (S0.shp ot).shaped, by rw [eqv_st]; exact q⟩
theorem notin_st {S : Addr} {us : List V} {ss : List S0} (hx : StAt K H x s) (os : s.ok) (hS : H S = some (.lst us)) (hs : SsAt K H us ss) (ok : ∀ s ∈ ss, s.ok) (q : Q (.bl (!decide (s ∈ ss))) H) : rNotInD K x (.ref S) H Q :=
  ⟨_, _, TD.dp hx.td, .lst (SqL.of hS) (TDs.dp hs.td), (S0.shp os).shaped, shaped_sts ok, by rw [any_st]; exact q⟩
end
theorem hear_ok {z : Zz} {so : Option Str} {n : Str} {s : S0} (h : s.ok) (hn : PyData.strOk n = true) : (hear z so n s).ok := by
  rw [hear_act]
  generalize kd so = k
  cases s with
  | kept m t =>
    cases k with
    | faint =>
      show (if m = n then S0.kept n 0 else S0.wok).ok
      split
      · exact hn
      · trivial
    | els => exact h
    | soft => trivial
    | loud => trivial
    | sudden => trivial
  | asl => cases k <;> first | exact hn | trivial
  | doz t =>
    cases k with
    | loud =>
      show (if z.loud = ("wake" : Str) then S0.wok else if z.loud = ("again" : Str) then S0.doz z.doze else S0.doz t).ok
      split
      · trivial
      · split <;> trivial
    | soft => trivial
    | faint => trivial
    | sudden => trivial
    | els => trivial
  | up => cases k <;> trivial
  | wok => cases k <;> trivial
  | stir t => cases k <;> trivial
theorem str_mem_map {x : Str} {xs : List Str} (h : x ∈ xs) : V.str x ∈ xs.map V.str := List.mem_map.mpr ⟨x, h, rfl⟩
end Hb
set_option Elab.async false
set_option linter.all false
set_option maxRecDepth 100000
set_option maxHeartbeats 4000000
namespace Hb
open PySem PySem.Spec PyProof.Rows L2
/-! ### houses -/
def nzD : Option Str → PyData
  | none => .none
  | some n => .str n
def nzV : Option Str → V
  | none => .non
  | some n => .str n
abbrev Dr := Int × Int × Option Str
abbrev Fl := Int × Str
structure Hz where
  rooms : Int
  doors : List Dr
  floors : List Fl
  cradles : List Int
def encD (x : Dr) : PyData := .tuple [.int x.1, .int x.2.1, nzD x.2.2]
def encF (x : Fl) : PyData := .tuple [.int x.1, .str x.2]
def encH (h : Hz) : PyData := .tuple [.int h.rooms, .tuple (h.doors.map encD), .tuple (h.floors.map encF), .tuple (h.cradles.map PyData.int)]
section
variable {K : PySem.W.Frag} {H : Hp}
theorem TD.nz_inv {v : V} {n : Option Str} (h : TD K H v (nzD n)) : v = nzV n := by
  cases n with
  | none => cases h; rfl
  | some n => cases h; rfl
theorem TD.nz (n : Option Str) : TD K H (nzV n) (nzD n) := by
  cases n with
  | none => exact .non
  | some n => exact .str n
theorem TD.door_inv {v : V} {x : Dr} (h : TD K H v (encD x)) : ∃ t, v = .ref t ∧ SqT K H t [.int x.1, .int x.2.1, nzV x.2.2] := by
  obtain ⟨t, ys, e, h1, h2⟩ := TD.tup_inv h
  obtain ⟨v1, w1, rfl, a1, h3⟩ := TDs.cons_inv h2
  obtain ⟨v2, w2, rfl, a2, h4⟩ := TDs.cons_inv h3
  obtain ⟨v3, w3, rfl, a3, h5⟩ := TDs.cons_inv h4
  obtain rfl := TDs.nil_inv h5
  rw [TD.int_inv a1, TD.int_inv a2, TD.nz_inv a3] at h1
  exact ⟨t, e, h1⟩
theorem TD.floor_inv {v : V} {x : Fl} (h : TD K H v (encF x)) : ∃ t, v = .ref t ∧ SqT K H t [.int x.1, .str x.2] := by
  obtain ⟨t, ys, e, h1, h2⟩ := TD.tup_inv h
  obtain ⟨v1, w1, rfl, a1, h3⟩ := TDs.cons_inv h2
  obtain ⟨v2, w2, rfl, a2, h4⟩ := TDs.cons_inv h3
  obtain rfl := TDs.nil_inv h4
  rw [TD.int_inv a1, TD.str_inv a2] at h1
  exact ⟨t, e, h1⟩
theorem TD.door {t : Addr} {x : Dr} (h : SqT K H t [.int x.1, .int x.2.1, nzV x.2.2]) : TD K H (.ref t) (encD x) := .tup h (.cons (.int _) (.cons (.int _) (.cons (TD.nz _) .nil)))
theorem TD.floor {t : Addr} {x : Fl} (h : SqT K H t [.int x.1, .str x.2]) : TD K H (.ref t) (encF x) := .tup h (.cons (.int _) (.cons (.str _) .nil))
theorem TDs.at_map {α : Type} {enc : α → PyData} {vs : List V} {xs : List α} {i : Nat} {v : V} (h : TDs K H vs (xs.map enc)) (e : vs[i]? = some v) : ∃ x, xs[i]? = some x ∧ TD K H v (enc x) := by
  obtain ⟨d, h1, h2⟩ := TDs.at h e
  rw [List.getElem?_map] at h1
  obtain ⟨p, h3, h4⟩ := Option.map_eq_some_iff.mp h1
  subst h4
  exact ⟨p, h3, h2⟩
end
structure HIs (K : PySem.W.Frag) (H : Hp) (p : Addr) (h : Hz) (a b c : Addr) (xs ys : List V) : Prop where
  all : SqT K H p [.int h.rooms, .ref a, .ref b, .ref c]
  da : SqT K H a xs
  dx : TDs K H xs (h.doors.map encD)
  fb : SqT K H b ys
  fx : TDs K H ys (h.floors.map encF)
  cc : SqT K H c (h.cradles.map V.int)
def HOne (K : PySem.W.Frag) (H : Hp) (p : Addr) (h : Hz) : Prop := TD K H (.ref p) (encH h)
theorem HOne.inv {K : PySem.W.Frag} {H : Hp} {p : Addr} {h : Hz} (x : HOne K H p h) : ∃ a b c xs ys, HIs K H p h a b c xs ys := by
  obtain ⟨t, ws, e, h1, h2⟩ := TD.tup_inv x
  cases e
  obtain ⟨v1, w1, rfl, a1, h3⟩ := TDs.cons_inv h2
  obtain ⟨v2, w2, rfl, a2, h4⟩ := TDs.cons_inv h3
  obtain ⟨v3, w3, rfl, a3, h5⟩ := TDs.cons_inv h4
  obtain ⟨v4, w4, rfl, a4, h6⟩ := TDs.cons_inv h5
  obtain rfl := TDs.nil_inv h6
  obtain rfl := TD.int_inv a1
  obtain ⟨a, xs, rfl, s1, s2⟩ := TD.tup_inv a2
  obtain ⟨b, ys, rfl, s3, s4⟩ := TD.tup_inv a3
  obtain ⟨c, zs, rfl, s5, s6⟩ := TD.tup_inv a4
  obtain rfl := TDs.ints_inv s6
  exact ⟨a, b, c, xs, ys, h1, s1, s2, s3, s4, s5⟩
theorem HIs.one {K : PySem.W.Frag} {H : Hp} {p : Addr} {h : Hz} {a b c : Addr} {xs ys : List V} (x : HIs K H p h a b c xs ys) : HOne K H p h :=
  .tup x.all (.cons (.int _) (.cons (.tup x.da x.dx) (.cons (.tup x.fb x.fx) (.cons (.tup x.cc (tds_ints _)) .nil))))
def inR (r v : Int) : Prop := 0 ≤ v ∧ v < r
def DrOk (r : Int) (x : Dr) : Prop := inR r x.1 ∧ inR r x.2.1 ∧ x.1 ≠ x.2.1 ∧ ∀ n, x.2.2 = some n → nameB n = true
def FlOk (r : Int) (x : Fl) : Prop := inR r x.1 ∧ nameB x.2 = true
/-- what may be handed to House -/
structure Hin (h : Hz) : Prop where
  r1 : 1 ≤ h.rooms
  d : ∀ x ∈ h.doors, DrOk h.rooms x
  f : ∀ x ∈ h.floors, FlOk h.rooms x
  fnd : (h.floors.map Prod.fst).Nodup
  c : ∀ x ∈ h.cradles, inR h.rooms x
  cnd : h.cradles.Nodup
  fewd : h.doors.length ≤ 1000
  fewf : h.floors.length ≤ 1000
  fewc : h.cradles.length ≤ 1000
def sortF (xs : List Fl) : List Fl := xs.mergeSort (PySem.W.dataLe false encF)
def sortI (xs : List Int) : List Int := xs.mergeSort (PySem.W.dataLe false PyData.int)
theorem sortF_perm (xs : List Fl) : (sortF xs).Perm xs := List.mergeSort_perm _ _
theorem sortI_perm (xs : List Int) : (sortI xs).Perm xs := List.mergeSort_perm _ _
def hFs (a b c : Addr) (h : Hz) : List (Str × V) := [("rooms", .int h.rooms), ("doors", .ref a), ("floors", .ref b), ("cradles", .ref c)]
/-- an object of House -/
def HAt (K : PySem.W.Frag) (C : Addr) (H : Hp) (p : Addr) (h : Hz) : Prop := ∃ dx a b c xs ys, H p = some (.ins C dx (hFs a b c h)) ∧ SqT K H a xs ∧ TDs K H xs (h.doors.map encD) ∧ SqT K H b ys ∧ TDs K H ys ((sortF h.floors).map encF) ∧ SqT K H c ((sortI h.cradles).map V.int)
theorem HAt.keep {K : PySem.W.Frag} {C : Addr} {H H' : Hp} {p : Addr} {h : Hz} (x : HAt K C H p h) (k : TK H H') (e : ∀ o, H p = some o → H' p = some o) : HAt K C H' p h := by
  obtain ⟨dx, a, b, c, xs, ys, h1, h2, h3, h4, h5, h6⟩ := x
  exact ⟨dx, a, b, c, xs, ys, e _ h1, SqT.keep k h2, TDs.keep k h3, SqT.keep k h4, TDs.keep k h5, SqT.keep k h6⟩
theorem HAt.same {K : PySem.W.Frag} {C : Addr} {H H' : Hp} {p : Addr} {h : Hz} (x : HAt K C H p h) (s : Same H H') : HAt K C H' p h := x.keep (Same.tk s) fun o e => s _ _ e
theorem HAt.kp {K : PySem.W.Frag} {C d g : Addr} {H H' : Hp} {p : Addr} {h : Hz} (x : HAt K C H p h) (dl : Deal d g H) (k : Kp d g H H') : HAt K C H' p h := by
  have x2 := x
  obtain ⟨dx, a, b, c, xs, ys, h1, _⟩ := x2
  exact x.keep (dl.tk k) fun o e => k _ _ (dl.ne_d h1 (by intro kvs e; cases e)) (dl.ne_g h1 (by intro xs e; cases e)) e
/-! sorting of what is held in places -/
theorem zip_tdE {K : PySem.W.Frag} {H : Hp} {α : Type} {enc : α → PyData} : ∀ {xs : List V} {ps : List α}, TDs K H xs (ps.map enc) → ∀ z ∈ xs.zip ps, TD K H z.1 (enc z.2)
  | _, [], h => by
    obtain rfl := TDs.nil_inv h
    intro z hz
    cases hz
  | _, p :: ps, h => by
    obtain ⟨v, w, rfl, h1, h2⟩ := TDs.cons_inv h
    intro z hz
    rcases List.mem_cons.mp hz with rfl | hz
    · exact h1
    · exact zip_tdE h2 z hz
theorem tdE_zip {K : PySem.W.Frag} {H : Hp} {α : Type} {enc : α → PyData} : ∀ {zs : List (V × α)}, (∀ z ∈ zs, TD K H z.1 (enc z.2)) → TDs K H (zs.map (·.1)) ((zs.map (·.2)).map enc)
  | [], _ => .nil
  | z :: zs, h => .cons (h z List.mem_cons_self) (tdE_zip fun y hy => h y (List.mem_cons_of_mem _ hy))
theorem sort_zipE {α : Type} (enc : α → PyData) (zs : List (V × α)) : (zs.mergeSort (PySem.W.dataLe false fun z => enc z.2)).map (·.2) = (zs.map (·.2)).mergeSort (PySem.W.dataLe false enc) :=
  PySem.W.sort_maps (fun z : V × α => z.2) fun _ _ _ _ => rfl
theorem alike_F (p q : Fl) : PySem.W.alike (encF p) (encF q) = true := by simp [encF, PySem.W.alike, PySem.W.alikeAll]
theorem depth_F (p : Fl) : (encF p).depth ≤ 60 := by simp [encF, PyData.depth, PyData.depthAll]
end Hb
set_option Elab.async false
set_option linter.all false
set_option maxRecDepth 100000
set_option maxHeartbeats 8000000
namespace Hb
open PySem PySem.Spec PyProof.Rows L2
/-- len(set(xs)), xs a list of unlike texts, or a list or a tuple of unlike ints -/
def tLenSet3 (K : PySem.W.Frag) (ta : TE) : TE := fun σ H Q => ta σ H fun x H1 => ∃ l : Addr, x = .ref l ∧
  ((∃ xs : List Str, SqL K H1 l (xs.map V.str) ∧ xs.Nodup ∧ xs.length ≤ 4000 ∧ Q (.int xs.length) H1) ∨ ∃ ns : List Int, (SqL K H1 l (ns.map V.int) ∨ SqT K H1 l (ns.map V.int)) ∧ ns.Nodup ∧ ns.length ≤ 4000 ∧ Q (.int ns.length) H1)
theorem pe_lenSet3 {X : Cx} {a : Expr} {ta : TE} {p p2 q pos : Pos} (hg : Gl X "len") (hm : X.mg "len" = none) (hg2 : Gl X "set") (hm2 : X.mg "set" = none) (ha : PE X a ta) (calm : X.calm = true := by rfl)
    (na : starEach [a] X.env = (false, eval a X.env) :: starEach [] X.env := by rfl) : PE X (.Call (.Name "len" p) [.Call (.Name "set" p2) [a] [] q] [] pos) (tLenSet3 X.K ta) := by
  refine ⟨fun pins s σ H Q I h => Call_ (ld_blt I hg hm boot_len (callWith_builtin1 (args_cons (Call_ (ld_blt I hg2 hm2 boot_set
    (callWith_type1 (args_cons (thn (ha.run pins s σ H _ I h) fun v z ⟨x, H1, J, r, q⟩ => args_nil ?_) na) na rfl))) rfl) rfl rfl))⟩
  obtain ⟨l, rfl, q⟩ := q
  cases r
  have fin : ∀ (n : Nat) (h' : Heap) (tk : Nat) (κ : Type) (i1 : DecidableEq κ) (i2 : BEq κ) (i3 : LawfulBEq κ) (kd : KeyKind X.prog X.w κ) (S : κ → Bool), n ≤ 4000 → h'.SetOf kd z.heap.objs.size S n → (∀ b o, z.heap.get? b = some o → h'.get? b = some o) → Q (.int n) H1 →
      wpAny (model X.prog X.w) X.A (spliced (backTo pos (starEach [] X.env))) (fun vs y => wpAny (model X.prog X.w) X.A (call (.builtin "len") (Value.ref z.heap.objs.size :: vs)) (EP X pins σ Q) X.xe y) X.xe { z with heap := h', toks := tk } := by
    intro n h' tk κ i1 i2 i3 kd S hn hS hk q
    refine args_nil ?_
    obtain ⟨o, es, ep, t, ho, hex, hd, _, _, _, hf, e⟩ := hS
    have J2 : Inv X pins σ H1 { z with heap := h', toks := tk } := J.kept hk
    exact call_len_set ho hex hd hf (by rw [e] <;> omega) ⟨.int n, H1, J2.tok _, ⟨_, by rw [e]⟩, q⟩
  rcases q with ⟨xs, hq, nd, few, q⟩ | ⟨ns, hq, nd, few, q⟩
  · obtain ⟨its, r, pl, hz⟩ := J.list hq
    exact set_texts (J.ok.hd calm) pl.isList (by simpa using strsAre_of r) nd (by unfold scanBound; omega) fun h' tk hS hk => fin _ h' tk _ inferInstance inferInstance inferInstance _ _ few hS hk q
  · rcases hq with hq | hq
    · obtain ⟨its, r, pl, hz⟩ := J.list hq
      have size : its.toArray.size = ns.length := by rw [List.size_toArray, ← r.length, List.length_map]
      refine call_set_list (J.ok.hd calm) pl.isList (by simpa using RZ.intsAre_vals r) (by rw [size]; unfold scanBound; omega) fun h' tk hS hk => ?_
      rw [size, RZ.firstMet_nodup nd ns.length (Nat.le_refl _)] at hS
      rw [List.take_length] at hS
      exact fin _ h' tk _ inferInstance inferInstance inferInstance _ _ few hS (fun b o e => hk b o (Heap.lt_size e) e) q
    · obtain ⟨its, r, pl, hz⟩ := J.tuple hq
      refine L2.call_set_tupI ns (J.ok.hd calm) (show z.heap.IsTuple l its.toArray from pl) (by simpa using RZ.intsAre_vals r) (by unfold scanBound; omega) fun h' tk c hS hc hk => ?_
      obtain ⟨o, es, ep, t, ho, hex, hd, _, kn, ks, _, hf, e, _⟩ := hS
      have pm : (es.toList.map L2.keyOf).Perm ns := (List.perm_ext_iff_of_nodup kn nd).mpr fun k => by rw [← ks k, decide_eq_true_iff]
      have n1 : es.size = ns.length := by have q := pm.length_eq; rw [List.length_map, Array.length_toList] at q; exact q
      refine args_nil ?_
      have J2 : Inv X pins σ H1 { z with heap := h', toks := tk } := J.kept hk
      exact call_len_set ho hex hd hf (by rw [n1] <;> omega) ⟨.int ns.length, H1, J2.tok _, ⟨_, by rw [n1]⟩, q⟩
end Hb
set_option Elab.async false
set_option linter.all false
set_option maxRecDepth 100000
set_option maxHeartbeats 4000000
namespace Hb
open PySem PySem.Spec PyProof.Rows L2
section
variable {P : Program} {w : World} {K : PySem.W.Frag} {mg : Str → Option Value} {base : Heap}
/-- a class whose __init__ has j + 1 defaults, every argument written -/
def Df1d (K : PySem.W.Frag) (mg : Str → Option Value) (C qual : Str) (st : Stmt) (j : Nat) : Prop := Mk K (He.ga K C) (He.ma K (He.ga K C) "__init__") ∧ mg C = some (.ref (He.ga K C)) ∧
  ∃ fd dvs, dvs.length = j + 1 ∧ FunD K "__init__" qual (defArgs st) (defBody st) (defScope st) dvs [] (He.ma K (He.ga K C) "__init__") fd
theorem mak_mkD {C qual : Str} {st : Stmt} {N ps : List Str} {k j : Nat} {sp : Sp} (D : Df1d K mg C qual st j) (S : FnScope N ps (defScope st))
    (bd : ∀ (T : Addr) (kV doc pm : Value) (an : Option Addr) (cdv ct : Value) (us its : List Value), us.length = ps.length → its.length = j + 1 →
      ∃ k, bindArgs (PySem.W.fnOf "__init__" qual (defArgs st) (defBody st) (defScope st) (.ref T) kV doc pm an cdv ct) ⟨us, []⟩ = seqItems? (.ref T) >>= k ∧ k (some its.toArray) = pure (ps.zip us))
    (len : ∀ vs H Q E, sp vs H Q E → vs.length = ps.length)
    (hbody : ∀ (f : Addr) (cdv : Value) (A : Around) (outer : List Env) (s : Shared) (H : Hp) (vs : List V) (Q : VK) (E : XK), Room k (A.deeper (envOfC qual (defScope st) s.heap.objs.size f cdv)) → sp vs H Q E →
      ∃ t, PSs (cxOf CX0 P w K mg base N qual (defScope st) f cdv A outer s H E).nox (defBody st) t ∧ t { nx := fun _ H' => Q .non H', rt := Q } (start N vs) H) : C8.Mak P w K mg base (k + 1) C (He.ga K C) sp [] := by
  obtain ⟨M, hm, fd, dvs, dl, F⟩ := D
  obtain ⟨ds, r, b⟩ := F.binds1 ps.length (j + 1) (by intro e; rw [e] at dl; cases dl) (by rw [dl, Nat.sub_self, Nat.add_zero]) fun T kV doc pm an cdv ct us its h1 h2 => by
    obtain ⟨k, e1, e2⟩ := bd T kV doc pm an cdv ct us its h1 (by rw [h2, dl])
    exact ⟨k, e1, by rw [e2, List.drop_of_length_le (by rw [h2, dl] <;> exact Nat.le_refl _), List.append_nil]⟩
  rw [List.drop_of_length_le (by rw [dl] <;> exact Nat.le_refl _)] at r
  cases r
  exact ⟨⟨_, fd, ps, [], M, F.ok S len fun cdv A outer s H vs Q E hr h => by
    obtain ⟨t, h1, h2⟩ := hbody _ cdv A outer s H vs Q E hr h
    exact ⟨t, h1.nox, h2⟩, hm, b, .nil⟩⟩
end
end Hb
namespace Hb
open PySem PySem.Spec PyProof.Rows L2
/-- all but the object at x stays -/
def KX (x : Addr) (H H' : Hp) : Prop := ∀ b o, b ≠ x → H b = some o → H' b = some o
theorem KX.refl (x : Addr) (H : Hp) : KX x H H := fun _ _ _ e => e
theorem KX.trans {x : Addr} {H H1 H2 : Hp} (a : KX x H H1) (b : KX x H1 H2) : KX x H H2 := fun c o n e => b c o n (a c o n e)
theorem Same.kx {x : Addr} {H H' : Hp} (s : Same H H') : KX x H H' := fun b o _ e => s b o e
theorem KX.put {x : Addr} {H : Hp} {o : HO} : KX x H (upd H x o) := fun b u n e => by rw [upd_ne n]; exact e
section
variable {K : PySem.W.Frag} {H H' : Hp} {x C dx a : Addr} {fs : List (Str × V)} {xs : List V}
theorem KX.tk (k : KX x H H') (e : H x = some (.ins C dx fs)) : TK H H' :=
  ⟨fun b ys h => k b _ (by rintro rfl; rw [e] at h; cases h) h, fun b o u h => k b _ (by rintro rfl; rw [e] at h; cases h) h⟩
theorem KX.seq (k : KX x H H') (e : H x = some (.ins C dx fs)) (h : SqL K H a xs) : SqL K H' a xs :=
  SqL.keep (k.tk e) h fun q => k a _ (by rintro rfl; rw [e] at q; cases q) q
end
end Hb
set_option Elab.async false
set_option linter.all false
set_option maxRecDepth 100000
set_option maxHeartbeats 4000000
namespace Hb
open PySem PySem.Spec PyProof.Rows L2
/-- a drawn house -/
structure Hok (h : Hz) (r m : Int) (ws : List Str) : Prop where
  r1 : 1 ≤ h.rooms
  r2 : h.rooms ≤ r
  d : ∀ x ∈ h.doors, inR h.rooms x.1 ∧ inR h.rooms x.2.1 ∧ x.1 ≠ x.2.1 ∧ ∀ n, x.2.2 = some n → n ∈ ws
  dm : (h.doors.length : Int) ≤ m
  f : ∀ x ∈ h.floors, inR h.rooms x.1 ∧ x.2 ∈ ws
  fs : (h.floors.map Prod.fst).Pairwise (· < ·)
  fm : (h.floors.length : Int) ≤ h.rooms
  c : ∀ x ∈ h.cradles, inR h.rooms x
  cs : h.cradles.Pairwise (· < ·)
  cm : (h.cradles.length : Int) ≤ h.rooms
theorem nodup_of_lt {xs : List Int} (h : xs.Pairwise (· < ·)) : xs.Nodup := h.imp fun {a b} q e => by subst e; exact absurd q (Int.lt_irrefl _)
theorem Hok.hin {h : Hz} {r m : Int} {ws : List Str} (x : Hok h r m ws) (hr : r ≤ 1000) (hm : m ≤ 1000) (hw : ∀ w ∈ ws, nameB w = true) : Hin h :=
  ⟨x.r1, fun y hy => by obtain ⟨a, b, c, e⟩ := x.d y hy; exact ⟨a, b, c, fun n hn => hw n (e n hn)⟩, fun y hy => ⟨(x.f y hy).1, hw _ (x.f y hy).2⟩, nodup_of_lt x.fs, x.c, nodup_of_lt x.cs,
    by have := x.dm; omega, by have := x.fm; have := x.r2; omega, by have := x.cm; have := x.r2; omega⟩
theorem perm_td {K : PySem.W.Frag} {H : Hp} {α : Type} {enc : α → PyData} {ys vs : List V} (h : ys.Perm vs) : ∀ {ds : List α}, TDs K H vs (ds.map enc) → ∃ es : List α, es.Perm ds ∧ TDs K H ys (es.map enc) := by
  induction h with
  | nil => exact fun {ds} t => ⟨ds, .refl _, t⟩
  | cons x p ih =>
    intro ds t
    cases ds with
    | nil => cases t
    | cons d ds =>
      obtain ⟨v, w, e, t1, t2⟩ := TDs.cons_inv t
      cases e
      obtain ⟨es, pe, te⟩ := ih t2
      exact ⟨d :: es, pe.cons d, .cons t1 te⟩
  | swap x y l =>
    intro ds t
    match ds, t with
    | [], t => cases t
    | [d], t =>
      obtain ⟨v, w, e, t1, t2⟩ := TDs.cons_inv t
      cases e
      cases t2
    | d :: d2 :: ds, t =>
      obtain ⟨v, w, e, t1, t2⟩ := TDs.cons_inv t
      cases e
      obtain ⟨v, w, e, t3, t4⟩ := TDs.cons_inv t2
      cases e
      exact ⟨d2 :: d :: ds, .swap _ _ _, .cons t3 (.cons t1 t4)⟩
  | trans p q ih1 ih2 =>
    intro ds t
    obtain ⟨es, pe, te⟩ := ih2 t
    obtain ⟨fs, pf, tf⟩ := ih1 te
    exact ⟨fs, pf.trans pe, tf⟩
theorem shp_door {x : Dr} (h : ∀ n, x.2.2 = some n → PyData.strOk n = true) : Shp (encD x) := by
  refine shp_tup fun d hd => ?_
  simp only [List.mem_cons, List.not_mem_nil, or_false] at hd
  rcases hd with rfl | rfl | rfl
  · exact ⟨by simp [PyData.canLay0], by simp [PyData.depth]⟩
  · exact ⟨by simp [PyData.canLay0], by simp [PyData.depth]⟩
  · cases e : x.2.2 with
    | none => exact ⟨by simp [nzD, PyData.canLay0], by simp [nzD, PyData.depth]⟩
    | some n => exact ⟨by simp only [nzD, PyData.canLay0]; exact h n e, by simp [nzD, PyData.depth]⟩
end Hb
namespace Hb
open PySem PySem.Spec PyProof.Rows L2
theorem Kp.acc {d g : Addr} {H H' : Hp} {D : Addr} {o : HO} (k : Kp d g H H') (n : H D = none) : Kp d g H (upd H' D o) := fun b u n1 n2 e => by
  rw [upd_ne (ne_of_none e n)]
  exact k b u n1 n2 e
theorem perm_two {α : Type} {ys : List α} {x y : α} (h : ys.Perm [x, y]) : ys = [x, y] ∨ ys = [y, x] := by
  have l := h.length_eq
  match ys, l with
  | [a, b], _ =>
    have m : a ∈ [x, y] := h.mem_iff.mp (by simp)
    simp only [List.mem_cons, List.not_mem_nil, or_false] at m
    rcases m with rfl | rfl
    · have q := (List.perm_cons a).mp h
      have e := List.perm_singleton.mp q
      rw [e]; exact .inl rfl
    · have h2 : [a, b].Perm [a, x] := h.trans (List.Perm.swap _ _ _)
      have q := (List.perm_cons a).mp h2
      have e := List.perm_singleton.mp q
      rw [e]; exact .inr rfl
theorem good_int {K : PySem.W.Frag} {H : Hp} (i : Int) : Good K H (.int i) := ⟨.int i, .int i, by simp [PyData.canLay0], by simp [PyData.depth]⟩
/-- a door's noise, as it is picked -/
theorem noise_of {ws : List Str} {v : V} (h : v ∈ ws.map V.str ++ [V.non]) : ∃ n : Option Str, v = nzV n ∧ ∀ w, n = some w → w ∈ ws := by
  rcases List.mem_append.mp h with h | h
  · obtain ⟨w, hw, rfl⟩ := List.mem_map.mp h
    exact ⟨some w, rfl, fun w' e => by cases e; exact hw⟩
  · rw [List.mem_singleton.mp h]
    exact ⟨none, rfl, fun w e => by cases e⟩
def DrW (r : Int) (ws : List Str) (x : Dr) : Prop := inR r x.1 ∧ inR r x.2.1 ∧ x.1 ≠ x.2.1 ∧ ∀ n, x.2.2 = some n → n ∈ ws
end Hb
namespace Hb
open PySem PySem.Spec PyProof.Rows L2
end Hb
set_option Elab.async false
set_option linter.all false
set_option maxRecDepth 100000
set_option maxHeartbeats 4000000
namespace Hb
open PySem PySem.Spec PyProof.Rows L2
theorem rg_mem {M : Int} {v : V} (h : v ∈ rgV 0 M) : ∃ A : Int, v = .int A ∧ inR M A := by
  obtain ⟨i, hi, rfl⟩ := List.mem_map.mp h
  have := List.mem_range.mp hi
  exact ⟨_, rfl, by omega, by omega⟩
theorem rg_nodup (M : Int) : (rgV 0 M).Nodup := by
  unfold rgV
  refine List.Pairwise.map _ (fun a b h e => h ?_) List.nodup_range
  injection e with e
  omega
theorem take_two {ys : List V} {M : Int} (pm : ys.Perm (rgV 0 M)) (h : 2 ≤ M) : ∃ A B : Int, ys.take 2 = [.int A, .int B] ∧ inR M A ∧ inR M B ∧ A ≠ B := by
  have l := pm.length_eq
  rw [rgV_length] at l
  have nd := pm.nodup_iff.mpr (rg_nodup M)
  match ys, l with
  | [], l => exact absurd l (by simp; omega)
  | [x], l => exact absurd l (by simp; omega)
  | x :: y :: r, _ =>
    obtain ⟨A, rfl, a⟩ := rg_mem (pm.mem_iff.mp (List.mem_cons_self (a := x)))
    obtain ⟨B, rfl, b⟩ := rg_mem (pm.mem_iff.mp (List.mem_cons_of_mem _ (List.mem_cons_self (a := y))))
    refine ⟨A, B, rfl, a, b, fun e => ?_⟩
    subst e
    exact (List.nodup_cons.mp nd).1 List.mem_cons_self
end Hb
set_option Elab.async false
set_option linter.all false
set_option maxRecDepth 100000
set_option maxHeartbeats 4000000
/-! == by a def of the class, whatever stands at its right. -/
namespace Hb
open PySem PySem.Spec PyProof.Rows L2
/-- the class at C has an __eq__ of its own -/
structure EqOf (P : Program) (w : World) (K : PySem.W.Frag) (mg : Str → Option Value) (base : Heap) (k : Nat) (C : Addr) (sp : Sp) : Prop where
  ex : ∃ (f : Addr) (fd : FuncData) (ps : List Str), PySem.W.findIn K (.ref C) "__eq__" = some (some (.ref f)) ∧ PySem.W.isFn K (.ref f) = true ∧ FnOk P w K mg base CX0 k f fd ps sp ∧ Binds K fd ps []
/-- x == y, x of the class at C, y of a type that is known and not below C -/
def rEqOwn (K : PySem.W.Frag) (C : Addr) (sp : Sp) : R2 := fun x y H Q => ∃ (a dx : Addr) (fs : List (Str × V)) (tb : Value), x = .ref a ∧ H a = some (.ins C dx fs) ∧ TyX K H y tb ∧ PySem.W.notFirst K C tb = true ∧ sp [x, y] H Q C8.E0
section
variable {X : Cx} {C : Addr} {k j : Nat} {sp : Sp}
theorem op_eqOwn (c : EqOf X.prog X.w X.K X.mg X.base k C sp) (hr : Room j X.A) (hk : k ≤ j) : OpR X (compareOp .Eq) (rEqOwn X.K C sp) := by
  intro pins s σ H x y v u Q I rx ry h
  obtain ⟨f, fd, ps, hs, hf, F, hb⟩ := c.ex
  obtain ⟨a, dx, fs, tb, rfl, ha, ty, nf, q⟩ := h
  cases (show v = Value.ref a from rx)
  obtain ⟨mA, J, _⟩ := ins_get I.hok ha
  obtain ⟨od, J, _⟩ := J.look
  obtain ⟨m, hF⟩ := I.fr
  obtain ⟨Ph, kit, hP, _⟩ := kit_of I ry ty
  have hj := hr.mono hk
  show wpAny _ _ (richCompare .Eq (.ref a) u) _ _ _
  refine PySem.W.cmp_K (op := .Eq) (tb := tb) hj.units0 hF I.ok.mod.kin J (kit.ty _ _ I.kIn hP) nf hs hf ?_
  refine wpAny_mono (L2.run_fn (dvs := []) (ds := []) F hj hb .nil C8.pass0 I (us := [.ref a, u]) (vs := [.ref a, y]) (.cons rfl (.cons ry .nil)) (by simpa using q)) (fun w s' z => ?_) fun _ _ e => e
  obtain ⟨z', H', I', rz, qz⟩ := z
  exact SlX.cmpback rz ⟨z', H', I', rz, qz⟩
end
section
variable {prog : Program} {w : World} {A : Around} {E : Value → Shared → Prop} {s : Shared} {K : PySem.W.Frag} {x C f : Addr} {b : Value} {ox : Obj} {od : Option Obj}
/-- object's != asks the class's own == -/
theorem ne_body {Q : Fin → Shared → Prop} (hu : A.units < cLine) (X : K.In s.heap) (I : PySem.W.InstAt s.heap x ox C od) (hs : PySem.W.findIn K (.ref C) "__eq__" = some (some (.ref f))) (hf : PySem.W.isFn K (.ref f) = true)
    (h : wpAny (model prog w) A (call (.ref f) [.ref x, b]) (fun v s' => ∃ c, v = .bool c ∧ Q (.done (.ret (.bool (!c)))) s') E s) : wpAny (model prog w) A (Builtin.«object.__ne__» ⟨[.ref x, b], []⟩) Q E s := by
  unfold Builtin.«object.__ne__»
  repeat (first
    | (with_reducible refine wpAny_cRoomFor hu ?_)
    | (refine wpAny_bind (m := callSpecialIfBound? (.ref x) (Str.ofString "__eq__") [b]) (PySem.W.ifBound_K X I hs hf (wpAny_mono h (fun v z hv => by
        obtain ⟨c, rfl, q⟩ := hv
        repeat (first | exact q | exact wpAny_pure q | (refine wpAny_bind (m := truthy (.bool _)) (wpAny_truthy_bool ?_)) | wp_step)) fun _ _ e => e)))
    | wp_step)
theorem ne_bound {Q : Option Value → Shared → Prop} (X : K.In s.heap) (I : PySem.W.InstAt s.heap x ox C od) (hn : PySem.W.findIn K (.ref C) "__ne__" = some (some (.builtin "object.__ne__")))
    (h : wpAny (model prog w) A (call (.builtin "object.__ne__") [.ref x, b]) (fun v => Q (some v)) E s) : wpAny (model prog w) A (callSpecialIfBound? (.ref x) "__ne__" [b]) Q E s := by
  have last : wpAny (model prog w) A (call (.builtin "object.__ne__") ([.ref x] ++ [b]) >>= fun v => pure (some v)) Q E s := wpAny_bind (wpAny_mono h (fun _ _ q => wpAny_pure q) fun _ _ e => e)
  simp only [callSpecialIfBound?, bindSpecialIfBound?]
  refine wpAny_holding (wpAny_bind (wpAny_bind (wpAny_bind (I.type.here ((PySem.W.looks_findIn X hn).here (wpAny_bind (wpAny_askSetting (wpAny_ite ?_))))))))
  split
  · exact wpAny_bind (wpAny_of_eq (F.cmp_object.ne.bind _) (wpAny_pure last))
  · exact wpAny_tryCatch (wpAny_bind (wpAny_of_eq (F.cmp_object.ne.bind _) (wpAny_pure last)))
end
/-- x != y likewise -/
def rNeOwn (K : PySem.W.Frag) (C : Addr) (sp : Sp) : R2 := fun x y H Q => ∃ (a dx : Addr) (fs : List (Str × V)) (tb : Value), x = .ref a ∧ H a = some (.ins C dx fs) ∧ TyX K H y tb ∧ PySem.W.notFirst K C tb = true ∧ sp [x, y] H (fun v H' => ∃ b, v = .bl b ∧ Q (.bl (!b)) H') C8.E0
section
variable {X : Cx} {C : Addr} {k j : Nat} {sp : Sp}
theorem op_neOwn (c : EqOf X.prog X.w X.K X.mg X.base k C sp) (hn : PySem.W.findIn X.K (.ref C) "__ne__" = some (some (.builtin "object.__ne__"))) (hm : PySem.W.mroIn X.K C (.type "object") = some true) (hr : Room j X.A) (hk : k + 1 ≤ j) :
    OpR X (compareOp .NotEq) (rNeOwn X.K C sp) := by
  intro pins s σ H x y v u Q I rx ry h
  obtain ⟨f, fd, ps, hs, hf, FO, hb⟩ := c.ex
  obtain ⟨a, dx, fs, tb, rfl, ha, ty, nf, q⟩ := h
  cases (show v = Value.ref a from rx)
  obtain ⟨mA, J, _⟩ := ins_get I.hok ha
  obtain ⟨od, J, _⟩ := J.look
  obtain ⟨Ph, kit, hP, _⟩ := kit_of I ry ty
  have hj : Room (k + 1) X.A := hr.mono hk
  have X0 := I.kIn
  have tyb := kit.ty (model X.prog X.w) _ X0 hP
  have r2 : Vals [V.ref a, y] [Value.ref a, u] := .cons rfl (.cons ry .nil)
  have go : wpAny (model X.prog X.w) X.A.in1 (call (.ref f) [.ref a, u]) (fun v s' => ∃ b, v = .bool b ∧ EP X pins σ Q (.bool (!b)) s') X.xe s := by
    refine wpAny_call (codeAny_mono (FO.run X.A.in1 X.stack s H ⟨[.ref a, u], []⟩ [.ref a, u] [.ref a, y] _ C8.E0 hj.in1 I.env0.in1 (by
      have l := FO.len _ _ _ _ q
      have z := hb s [.ref a, u] X0 (by simpa using l)
      simpa using z) r2 q) fun r s' hq => ?_)
    cases r with
    | error e => exact (C8.pass0 (E := C8.E0) pins σ H s e s' I hq)
    | ok fl =>
      cases fl with
      | ret w2 =>
        obtain ⟨z, H', I', rz, b, ez, qz⟩ := I.after hq
        subst ez
        cases (show w2 = Value.bool b from rz)
        exact ⟨b, rfl, .bl (!b), H', I', rfl, qz⟩
      | next => exact False.elim hq
      | brk => exact False.elim hq
      | cont => exact False.elim hq
  have one : wpAny (model X.prog X.w) X.A (tryCompare (.ref a) "__ne__" u) (fun r s' => ∃ v, r = some v ∧ EP X pins σ Q v s') X.xe s := by
    unfold tryCompare
    refine wpAny_bind (ne_bound X0 J hn (wpAny_call (codeAny_call_builtin F.cmp_object.ne.plain F.cmpEntry_ne (PySem.W.check_slot F.cmpKind_ne F.cmpSplit_ne (J.type.andThen (PySem.W.looks_mroIn X0 hm)) (F.cmpArgs_ne _ _)
      (ne_body hj.in1.units0 X0 J hs hf (wpAny_mono go (fun v s' hv => ?_) fun _ _ e => e))))))
    obtain ⟨b, rfl, hq⟩ := hv
    exact ⟨b, rfl, wpAny_pure ⟨_, rfl, hq⟩⟩
  show wpAny _ _ (richCompare .NotEq (.ref a) u) _ _ _
  unfold richCompare
  simp only [cmpInfo, oneThing_ref]
  refine wpAny_holding (wpAny_bind (wpAny_cRoomFor hj.units0 (wpAny_bind (J.type.here (wpAny_bind (tyb.here ?_))))))
  split
  · rename_i ne
    have e : PySem.W.subIn X.K tb (.ref C) = some false := by
      have z := nf
      unfold PySem.W.notFirst at z
      rcases Bool.or_eq_true_iff.mp z with z | z
      · exfalso
        have z2 := eq_of_beq z
        subst z2
        simp at ne
      · exact eq_of_beq z
    refine wpAny_bind ((PySem.W.looks_subIn X0 e).here ?_)
    simp only [Bool.false_eq_true, if_false]
    refine wpAny_bind (wpAny_mono one (fun r s1 z => ?_) fun _ _ e => e)
    obtain ⟨v, rfl, z⟩ := z
    exact wpAny_pure z
  · refine wpAny_bind (wpAny_pure ?_)
    simp only [Bool.false_eq_true, if_false]
    refine wpAny_bind (wpAny_mono one (fun r s1 z => ?_) fun _ _ e => e)
    obtain ⟨v, rfl, z⟩ := z
    exact wpAny_pure z
end
end Hb
set_option Elab.async false
set_option linter.all false
set_option maxRecDepth 100000
set_option maxHeartbeats 4000000
/-! str(x) by a def of the class. -/
namespace Hb
open PySem PySem.Spec PyProof.Rows
section
variable {prog : Program} {w : World} {A : Around} {E : Value → Shared → Prop} {s : Shared} {K : PySem.W.Frag} {x C f : Addr} {ox : Obj} {od : Option Obj}
theorem strOf_own {Q : Value → Shared → Prop} (hu : A.units < cLine) (X : K.In s.heap) (I : PySem.W.InstAt s.heap x ox C od) (hs : PySem.W.findIn K (.ref C) "__str__" = some (some (.ref f))) (hf : PySem.W.isFn K (.ref f) = true)
    (h : wpAny (model prog w) A (call (.ref f) [.ref x]) (fun r z => ∃ y t, r = Value.str y t ∧ Q r z) E s) : wpAny (model prog w) A (Builtin.Str.strOf (.ref x)) Q E s := by
  unfold Builtin.Str.strOf
  refine PySem.W.KFB.if_not rfl (wpAny_bind (m := cRoomFor _ _) (wpAny_cRoomFor hu (wpAny_bind (m := callSpecial? (.ref x) (Str.ofString "__str__")) (PySem.W.special_fn X I hs (beq_iff_eq.mp hf) (wpAny_mono h (fun r z hr => ?_) fun _ _ e => e)))))
  obtain ⟨y, t, rfl, q⟩ := hr
  exact wpAny_pure q
theorem call_str_own {Q : Value → Shared → Prop} (hu : A.in1.in1.units < cLine) (X : K.In s.heap) (I : PySem.W.InstAt s.heap x ox C od) (hs : PySem.W.findIn K (.ref C) "__str__" = some (some (.ref f))) (hf : PySem.W.isFn K (.ref f) = true)
    (h : wpAny (model prog w) A.in1.in1 (call (.ref f) [.ref x]) (fun r z => ∃ y t, r = Value.str y t ∧ Q r z) E s) : wpAny (model prog w) A (call (.type "str") [.ref x]) Q E s := by
  refine callType_codes (T := "str") (Bi := Builtin.«object.__init__») (Q₁ := fun r z => ∃ y t, r = Value.str y t ∧ Q r z) PySem.F.called_str (PySem.F.typeCall_str_1 _) PySem.F.entry_object_init ?_ ?_
  · refine codeAny_of_tree ?_
    show wpAny _ A.in1.in1 (do checkBuiltinCall "str.__new__" ⟨[.type "str", .ref x], []⟩; again (.builtin "str.__new__" ⟨[.type "str", .ref x], []⟩)) _ _ s
    refine wpAny_bind (wpAny_of_eq (PySem.F.newCall_str_1 _) (wpAny_pure ⟨plainId_quiet (by decide +kernel) _, codeAny_builtin PySem.F.entry_str_new ?_⟩))
    rw [Around.under_plainId (by decide +kernel) _, str_new_tree (.ref x)]
    refine wpAny_bind (wpAny_pure (wpAny_bind (wpAny_of_eq isSubtype_str_str (wpAny_bind (wpAny_mono (strOf_own hu X I hs hf (wpAny_mono h (fun r z hr => ?_) fun _ _ e => e)) (fun r z q => wpAny_pure q) fun _ _ e => e)))))
    obtain ⟨y, t, rfl, q⟩ := hr
    exact ⟨y, t, rfl, y, t, rfl, q⟩
  · rintro obj z ⟨y, t, rfl, q⟩
    exact ⟨typeIs_str _ _ _, PySem.F.args_object_init_2 _ _, object_init_meets PySem.F.called_str.init.lookup PySem.F.called_str.made (by decide) prog w A.in1 _ z ⟨typeIs_str _ _ _, rfl, q⟩⟩
end
end Hb
namespace Hb
open PySem PySem.Spec PyProof.Rows L2
/-- the class at C has a __str__ of its own -/
structure StrOf (P : Program) (w : World) (K : PySem.W.Frag) (mg : Str → Option Value) (base : Heap) (k : Nat) (C : Addr) (sp : Sp) : Prop where
  ex : ∃ (f : Addr) (fd : FuncData) (ps : List Str), PySem.W.findIn K (.ref C) "__str__" = some (some (.ref f)) ∧ PySem.W.isFn K (.ref f) = true ∧ FnOk P w K mg base CX0 k f fd ps sp ∧ Binds K fd ps []
def rStrOwn (C : Addr) (sp : Sp) : List V → Hp → VK → Prop := fun xs H Q => ∃ (a dx : Addr) (fs : List (Str × V)), xs = [.ref a] ∧ H a = some (.ins C dx fs) ∧ sp [.ref a] H (fun v H' => ∃ y, v = .str y ∧ Q v H') C8.E0
section
variable {X : Cx} {C : Addr} {k j : Nat} {sp : Sp}
theorem call_strOwn (c : StrOf X.prog X.w X.K X.mg X.base k C sp) (hr : Room j X.A) (hk : k + 2 ≤ j) : CallR X (.type "str") (rStrOwn C sp) := by
  intro pins s σ H xs us Q I r h
  obtain ⟨f, fd, ps, hs, hf, FO, hb⟩ := c.ex
  obtain ⟨a, dx, fs, rfl, ha, q⟩ := h
  rw [Vals.ref1 r]
  obtain ⟨mA, J, _⟩ := ins_get I.hok ha
  obtain ⟨od, J, _⟩ := J.look
  have X0 := I.kIn
  have hj : Room (k + 2) X.A := hr.mono hk
  have h2 : Room k X.A.in1.in1 := (show Room (k + 1) X.A.in1 from hj.in1).in1
  have r2 : Vals [V.ref a] [Value.ref a] := .cons rfl .nil
  refine call_str_own h2.units0 X0 J hs hf (wpAny_call (codeAny_mono (FO.run X.A.in1.in1 X.stack s H ⟨[.ref a], []⟩ [.ref a] [.ref a] _ C8.E0 h2 I.env0.in1.in1 (by
      have l := FO.len _ _ _ _ q
      have z := hb s [.ref a] X0 (by simpa using l)
      simpa using z) r2 q) fun r s' hq => ?_))
  cases r with
  | error e => exact (C8.pass0 (E := C8.E0) pins σ H s e s' I hq)
  | ok fl =>
    cases fl with
    | ret w2 =>
      obtain ⟨z, H', I', rz, y, ez, qz⟩ := I.after hq
      subst ez
      obtain ⟨t, e⟩ := (show ∃ t, w2 = Value.str y t from rz)
      subst e
      exact ⟨y, t, rfl, .str y, H', I', ⟨t, rfl⟩, qz⟩
    | next => exact False.elim hq
    | brk => exact False.elim hq
    | cont => exact False.elim hq
end
end Hb
set_option Elab.async false
set_option linter.all false
set_option maxRecDepth 100000
set_option maxHeartbeats 4000000
namespace Hb
open PySem PySem.Spec PyProof.Rows L2
/-! ### any values: data whose lists are not the deal's -/
mutual
inductive VD (K : PySem.W.Frag) (N : Addr → Prop) (H : Hp) : V → PyData → Prop
  | non : VD K N H .non .none
  | bl (b : Bool) : VD K N H (.bl b) (.bool b)
  | int (i : Int) : VD K N H (.int i) (.int i)
  | str (x : Str) : VD K N H (.str x) (.str x)
  | lst {a : Addr} {xs : List V} {ds : List PyData} : H a = some (.lst xs) → N a → VDs K N H xs ds → VD K N H (.ref a) (.list ds)
  | tup {a : Addr} {xs : List V} {ds : List PyData} : SqT K H a xs → VDs K N H xs ds → VD K N H (.ref a) (.tuple ds)
inductive VDs (K : PySem.W.Frag) (N : Addr → Prop) (H : Hp) : List V → List PyData → Prop
  | nil : VDs K N H [] []
  | cons {v : V} {vs : List V} {e : PyData} {ds : List PyData} : VD K N H v e → VDs K N H vs ds → VDs K N H (v :: vs) (e :: ds)
end
section
variable {K : PySem.W.Frag} {N M : Addr → Prop} {H H' : Hp}
/-- the lists stay -/
def LK (N : Addr → Prop) (H H' : Hp) : Prop := ∀ a xs, N a → H a = some (.lst xs) → H' a = some (.lst xs)
mutual
theorem VD.keep (t : TK H H') (k : LK N H H') (m : ∀ a o, H a = some o → N a → M a) : ∀ {v : V} {e : PyData}, VD K N H v e → VD K M H' v e
  | _, _, .non => .non
  | _, _, .bl b => .bl b
  | _, _, .int i => .int i
  | _, _, .str x => .str x
  | _, _, .lst h n hs => .lst (k _ _ n h) (m _ _ h n) (VDs.keep t k m hs)
  | _, _, .tup h hs => .tup (SqT.keep t h) (VDs.keep t k m hs)
theorem VDs.keep (t : TK H H') (k : LK N H H') (m : ∀ a o, H a = some o → N a → M a) : ∀ {vs : List V} {ds : List PyData}, VDs K N H vs ds → VDs K M H' vs ds
  | _, _, .nil => .nil
  | _, _, .cons h hs => .cons (VD.keep t k m h) (VDs.keep t k m hs)
end
mutual
theorem VD.dp : ∀ {v : V} {e : PyData}, VD K N H v e → Dp K H v e
  | _, _, .non => .non
  | _, _, .bl b => .bl b
  | _, _, .int i => .int i
  | _, _, .str x => .str x
  | _, _, .lst h _ hs => .lst (SqL.of h) (VDs.dp hs)
  | _, _, .tup h hs => .tup h (VDs.dp hs)
theorem VDs.dp : ∀ {vs : List V} {ds : List PyData}, VDs K N H vs ds → DpAll K H vs ds
  | _, _, .nil => .nil
  | _, _, .cons h hs => .cons (VD.dp h) (VDs.dp hs)
end
theorem VDs.app : ∀ {vs ws : List V} {ds es : List PyData}, VDs K N H vs ds → VDs K N H ws es → VDs K N H (vs ++ ws) (ds ++ es)
  | _, _, _, _, .nil, h => h
  | _, _, _, _, .cons h hs, h2 => .cons h (VDs.app hs h2)
theorem VDs.length : ∀ {vs : List V} {ds : List PyData}, VDs K N H vs ds → vs.length = ds.length
  | _, _, .nil => rfl
  | _, _, .cons _ hs => congrArg Nat.succ (VDs.length hs)
theorem depthAll_le {n : Nat} : ∀ {ds : List PyData}, (∀ e ∈ ds, e.depth ≤ n) → PyData.depthAll ds ≤ n
  | [], _ => by simp [PyData.depthAll]
  | d :: ds, h => by
    have h1 := h d List.mem_cons_self
    have h2 := depthAll_le (ds := ds) fun e he => h e (List.mem_cons_of_mem _ he)
    simp only [PyData.depthAll]
    omega
/-- the types that any values have -/
def anyTy : List String := ["NoneType", "bool", "int", "str", "list", "tuple"]
theorem VD.ty {v : V} {e : PyData} (h : VD K N H v e) : ∃ t ∈ anyTy, TyX K H v (.type t) := by
  cases h with
  | non => exact ⟨"NoneType", by decide, .base .non⟩
  | bl b => exact ⟨"bool", by decide, .base (.bl b)⟩
  | int i => exact ⟨"int", by decide, .base (.int i)⟩
  | str x => exact ⟨"str", by decide, .base (.str x)⟩
  | lst h => exact ⟨"list", by decide, ty_lst (SqL.of h)⟩
  | tup h => exact ⟨"tuple", by decide, ty_tup h⟩
end
theorem sub_any {K : PySem.W.Frag} {C : Addr} : ∀ t ∈ anyTy, PySem.W.notFirst K C (.type t) = true := by
  have one : ∀ (t : String) (ts : List Value), fastBuiltinMro t = some ts → ts.contains (Value.ref C) = false → PySem.W.notFirst K C (.type t) = true := fun t ts e n => by
    have q : PySem.W.subIn K (.type t) (.ref C) = some false := by
      show (fastBuiltinMro t).map (·.contains (.ref C)) = some false
      rw [e]
      exact congrArg some n
    unfold PySem.W.notFirst
    rw [q]
    simp
  intro t h
  simp only [anyTy, List.mem_cons, List.not_mem_nil, or_false] at h
  rcases h with rfl | rfl | rfl | rfl | rfl | rfl
  · exact one "NoneType" [.type "NoneType", .type "object"] (by decide +kernel) (by first | rfl | simp)
  · exact one "bool" [.type "bool", .type "int", .type "object"] (by decide +kernel) (by first | rfl | simp)
  · exact one "int" [.type "int", .type "object"] (by decide +kernel) (by first | rfl | simp)
  · exact one "str" [.type "str", .type "object"] (by decide +kernel) (by first | rfl | simp)
  · exact one "list" [.type "list", .type "object"] (by decide +kernel) (by first | rfl | simp)
  · exact one "tuple" [.type "tuple", .type "object"] (by decide +kernel) (by first | rfl | simp)
end Hb
set_option Elab.async false
set_option linter.all false
set_option maxRecDepth 100000
set_option maxHeartbeats 4000000
/-! A class that a local name holds, called. -/
namespace Hb
open PySem PySem.Spec PyProof.Rows L2
/-- c(..), the i-th place holds the class at C -/
def tMakeL (i : Nat) (C : Addr) (sp : Sp) (t : TA) : TE := fun σ H Q => σ[i]? = some (some (.ref C)) ∧ tMake C sp [] C8.E0 t σ H Q
section
variable {X : Cx} {k j i : Nat} {C : Addr} {sp : Sp} {x y : Str} {p pos : Pos} {e : Expr} {es : List Expr} {t : TA}
theorem pe_mkL (c : C8.Mak X.prog X.w X.K X.mg X.base k y C sp []) (hr : Room j X.A) (hk : k + 1 ≤ j) (hN : X.N[i]? = some x) (hv : Vis X.env.scope x) (ha : PA X (e :: es) t) (d1 : (x == ("__debug__" : Str)) = false := by decide) (d2 : (x == ("__classdict__" : Str)) = false := by decide)
    (n1 : starEach (e :: es) X.env = (false, eval e X.env) :: starEach es X.env := by rfl) (n2 : (backTo pos (starEach es X.env)).any (·.1) = false := by rfl) : PE X (.Call (.Name x p) (e :: es) [] pos) (tMakeL i C sp t) := by
  obtain ⟨f, fd, ps, ds, M, F, _, b, d⟩ := c.ex
  refine ⟨fun pins s σ H Q I ⟨at_, q⟩ => wpAny_Call_Name_kw (thn ((pe_var (pos := p) hN hv d1 d2).run pins s σ H (fun v G => v = .ref C ∧ G = H) I ⟨_, at_, rfl, rfl⟩) ?_)⟩
  rintro u s1 ⟨v, G, J, r, rfl, rfl⟩
  obtain rfl : u = Value.ref C := r
  exact PySem.W.callWith_K (h₀ := X.base) J.ok.mod.kin M.kp (thn (ha.run pos pins s1 σ _ _ J q) fun us s2 ⟨vs, H2, J2, r2, q2⟩ => ⟨J2.kIn, run_make M F (hr.mono hk) b d C8.pass0 J2 r2 q2⟩) n1 n2
end
end Hb
set_option Elab.async false
set_option linter.all false
set_option maxRecDepth 100000
set_option maxHeartbeats 4000000
/-! xs[a:b:c] of a list. -/
namespace Hb
open PySem PySem.Spec PyProof.Rows L2
/-- what such a slice picks -/
def pickV {α : Type} (xs : List α) (lo hi st : Option Int) : List α := (sliceRange (sliceBounds lo hi st xs.length).1 (sliceBounds lo hi st xs.length).2.1 (sliceBounds lo hi st xs.length).2.2).filterMap (xs[·]?)
theorem vals_pick {xs : List V} {us : List Value} (r : Vals xs us) : ∀ is : List Nat, Vals (is.filterMap (xs[·]?)) (is.filterMap (us[·]?))
  | [] => .nil
  | i :: is => by
    have ih := vals_pick r is
    cases h : xs[i]? with
    | none =>
      have l := r.length
      have h2 : us[i]? = none := List.getElem?_eq_none_iff.mpr (by have := List.getElem?_eq_none_iff.mp h; omega)
      rw [List.filterMap_cons, List.filterMap_cons]
      simp only [h, h2]
      exact ih
    | some x =>
      obtain ⟨u, hu, ru⟩ := r.get h
      rw [List.filterMap_cons, List.filterMap_cons]
      simp only [h, hu]
      exact .cons ru ih
def tSl3 (K : PySem.W.Frag) (te : TE) (tl th tc : TO) : TE := fun σ H Q => te σ H fun x H1 => tl σ H1 fun lo H2 => th σ H2 fun hi H3 => tc σ H3 fun st H4 => ∃ (a : Addr) (xs : List V), x = .ref a ∧ SqL K H4 a xs ∧ st ≠ some 0 ∧ (pickV xs lo hi st).length ≤ sizeLine ∧
  ∀ p, H4 p = none → Q (.ref p) (upd H4 p (.lst (pickV xs lo hi st)))
section
variable {X : Cx} {e c : Expr} {lo hi : Option Expr} {te : TE} {tl th tc : TO} {p2 pos : Pos}
theorem pe_slice3 (he : PE X e te) (hl : PO X lo tl) (hu : PO X hi th) (hc : PO X (some c) tc) : PE X (.Subscript e (.Slice lo hi (some c) p2) pos) (tSl3 X.K te tl th tc) := by
  refine ⟨fun pins s σ H Q I h => Subscript_ (thn (he.run pins s σ H _ I h) fun v s1 ⟨x, H1, I1, r1, q1⟩ => wpAny_Slice (thn (hl.run pins s1 σ H1 _ I1 q1) fun vl s2 ⟨l, H2, I2, pl, q2⟩ => thn (hu.run pins s2 σ H2 _ I2 q2) fun vu s3 ⟨u, H3, I3, pu, q3⟩ => thn (hc.run pins s3 σ H3 _ I3 q3) fun vt s4 ⟨st, H4, I4, pt, q4⟩ => ?_))⟩
  obtain ⟨a, xs, rfl, hx, n0, few, q⟩ := q4
  obtain rfl : v = Value.ref a := r1
  have J : Inv X pins σ H4 { s4 with heap := s4.heap.push { cls := .type "slice", data := .fields #[vl, vu, vt] } } := I4.kept (t' := s4.toks) fun b ob z => Heap.get?_push_of_some _ z
  obtain ⟨its, r, ht, hz⟩ := J.list hx
  have len := r.length
  show wpAny (model X.prog X.w) X.A (subscriptTail e (.Slice lo hi (some c) p2) (.ref a) (.ref s4.heap.objs.size)) (EP X pins σ Q) X.xe { s4 with heap := s4.heap.push { cls := .type "slice", data := .fields #[vl, vu, vt] } }
  refine tail_any (T := "list") (ops := [.ref a, .ref s4.heap.objs.size]) ht.isList.typeIs slot_list_getitem.lookup (wpAny_getItem_list_slice ht.isList (Heap.IsSliceOf.new ..) pl pu pt n0 ?_ (by rw [List.size_toArray] <;> omega)) (by first | rfl | (unfold subscripted; rfl) | simp [subscripted])
  have e1 : slicePick its.toArray l u st = (pickV its l u st).toArray := by
    unfold slicePick pickV
    simp only [List.size_toArray, List.getElem?_toArray]
  have vp : Vals (pickV xs l u st) (pickV its l u st) := by
    unfold pickV
    rw [len]
    exact vals_pick r _
  rw [e1]
  refine ⟨.ref _, _, J.laid (t' := s4.toks) (o := .lst (pickV xs l u st)) (fun b ob z => Heap.get?_push_of_some _ z) (Nat.le_refl _) ?_, rfl, q _ (J.hok.fresh (Nat.le_refl _))⟩
  exact ⟨few, _, 0, vp, Heap.get?_push_size _ rfl⟩
end
end Hb
set_option Elab.async false
set_option linter.all false
set_option maxRecDepth 100000
set_option maxHeartbeats 8000000
/-! Sets of texts, with the order of their table. -/
namespace Hb
open PySem PySem.Spec PyProof.Rows L2
def keyS (e : Int × Value) : Str := match e.2 with | .str k _ => k | _ => Str.empty
def GoodS (P : Program) (w : World) (e : Int × Value) : Prop := ∃ k tk, e.2 = Value.str k tk ∧ e.1 = (PySem.strKind P w).hash k
/-- the set of texts at a: its members are l, unlike ones -/
structure SetTx (P : Program) (w : World) (h : Heap) (a : Addr) (l : List Str) (o : Obj) (es : Array (Int × Value)) (ep : Nat) (t : SetTable) : Prop where
  ho : h.get? a = some o
  ex : o.ExactSet
  hd : o.data = .set es ep t
  good : ∀ e ∈ es.toList, GoodS P w e
  mem : (es.toList.map keyS).Perm l
  few : es.size < scanBound
  fits : t.fits es.size = true
  ris : Ris t.place.toList
  led : w.params.followText "set-order" = true ∨ t.led = true
def SetT (P : Program) (w : World) (h : Heap) (a : Addr) (l : List Str) : Prop := ∃ o es ep t, SetTx P w h a l o es ep t
section
variable {P : Program} {w : World} {A : Around} {E : Value → Shared → Prop} {s : Shared} {h h' : Heap} {a : Addr} {l m : List Str}
theorem SetT.at (R : SetT P w h a l) (k : ∀ o, h.get? a = some o → h'.get? a = some o) : SetT P w h' a l := by
  obtain ⟨o, es, ep, t, x⟩ := R
  exact ⟨o, es, ep, t, k o x.ho, x.ex, x.hd, x.good, x.mem, x.few, x.fits, x.ris, x.led⟩
theorem SetT.perm (R : SetT P w h a l) (p : l.Perm m) : SetT P w h a m := by
  obtain ⟨o, es, ep, t, x⟩ := R
  exact ⟨o, es, ep, t, x.ho, x.ex, x.hd, x.good, x.mem.trans p, x.few, x.fits, x.ris, x.led⟩
theorem goodS_is {e : Int × Value} (g : GoodS P w e) (k : Str) : (PySem.strKind P w).is k e.2 = true ↔ keyS e = k := by
  obtain ⟨j, tk, e1, _⟩ := g
  have z := strKind_is P w j tk
  unfold keyS
  rw [e1]
  constructor
  · intro q
    exact (PySem.strKind P w).inj _ _ _ z q
  · rintro rfl
    exact z
theorem elemsS {l : List (Int × Value)} (g : ∀ e ∈ l, GoodS P w e) : ElemsOf (PySem.strKind P w) l := fun e he => by
  obtain ⟨k, tk, e1, e2⟩ := g e he
  exact ⟨⟨k, by rw [e1]; exact strKind_is P w k tk, e2⟩, by rw [e1] <;> rfl⟩
/-- what is laid into the table, and the table laid anew where it is too full -/
theorem add_text_tail {g : Bool → Sem Unit} (hg : ∀ (b : Bool) (z : Shared) (Q' : Unit → Shared → Prop), Q' () z → wpAny (model P w) A (g b) Q' E z) {o : Obj} {es : Array (Int × Value)} {ep : Nat} {t : SetTable} (ho : s.heap.get? a = some o) (hex : o.ExactSet) (hd : o.data = .set es ep t)
    {es1 : Array (Int × Value)} {t2 : SetTable} (g1 : ∀ e ∈ es1.toList, GoodS P w e) (m1 : (es1.toList.map keyS).Perm l) (b1 : es1.size < scanBound) (f2 : t2.fits es1.size = true) (r2 : Ris t2.place.toList) (l2 : w.params.followText "set-order" = true ∨ t2.led = true) {dummy : Bool} {R : Option Bool → Shared → Prop}
    (hR : ∀ h', Heap.SameBut a s.heap h' → SetT P w h' a l → R (some true) { s with heap := h' }) :
    wpAny (model P w) A (do
        storeSet a es1 t2
        if (!dummy && t2.tooFull) = true then do
            g (relayAll t2 es1 (SetTable.grown es1.size)).2.2
            storeSet a (relayAll t2 es1 (SetTable.grown es1.size)).1 (relayAll t2 es1 (SetTable.grown es1.size)).2.1
            pure (some true)
          else pure (some true)) R E s := by
  have o1 := store_at (es' := es1) (t' := t2) ho hd
  have same1 := Heap.SameBut.update s.heap a (Obj.putSet es1 t2)
  refine wpAny_bind (wpAny_storeSet_of ho hd (?_ : wpAny _ _ _ _ _ _) (fits_of_scanBound b1))
  split
  · have z1 := relayAll_perm t2 es1 (SetTable.grown es1.size)
    have z2 := relayAll_fits t2 es1 (SetTable.grown es1.size)
    have z3 := relayAll_ris t2 es1 (SetTable.grown es1.size)
    have z4 := relayAll_led t2 es1 (SetTable.grown es1.size)
    generalize relayAll t2 es1 (SetTable.grown es1.size) = Y at z1 z2 z3 z4 ⊢
    obtain ⟨es2, t3, gave⟩ := Y
    simp only at z1 z2 z3 z4 ⊢
    have sz : es2.size = es1.size := by rw [← Array.length_toList, z1.length_eq, Array.length_toList]
    have b2 : es2.size < scanBound := sz ▸ b1
    refine wpAny_bind (hg _ _ _ (wpAny_bind (wpAny_storeSet_of o1 rfl (wpAny_pure (hR _ (same1.trans (Heap.SameBut.update _ a _)) ?_)) (fits_of_scanBound b2))))
    exact ⟨_, es2, _, t3, store_at (es' := es2) (t' := t3) o1 rfl, hex, rfl, fun e he => g1 e (z1.mem_iff.mp he), (z1.map keyS).trans m1, b2, z2, z3, l2.imp id fun z => by rw [z4]; exact z⟩
  · exact wpAny_pure (hR _ same1 ⟨_, es1, _, t2, o1, hex, rfl, g1, m1, b1, f2, r2, l2⟩)
theorem add_text {k : Str} {tk : Tok} {Q : Bool → Shared → Prop} (R : SetT P w s.heap a l) (nd : l.Nodup) (room : l.length + 1 < scanBound) (hQ : ∀ h' b, Heap.SameBut a s.heap h' → SetT P w h' a (if k ∈ l then l else k :: l) → Q b { s with heap := h' }) :
    wpAny (model P w) A (setAddHashed a (.str k tk) ((PySem.strKind P w).hash k)) Q E s := by
  obtain ⟨o, es, ep, t, ho, hex, hd, g, pm, hb, hf, hr, hl⟩ := R
  have key : (PySem.strKind P w).is k (.str k tk) = true := strKind_is P w k tk
  have hsc : (Value.str k tk).scannable = true := rfl
  have hel := elemsS g
  unfold setAddHashed setAddHashedIn
  refine wpAny_holding (wpAny_bind (wpAny_setState_of ho hd hf (?_ : wpAny _ _ _ _ _ _)))
  dsimp only
  rw [byScan_of hsc hb hel]
  simp only [↓reduceIte]
  unfold setAddByScan
  refine wpAny_bind (wpAny_bind (wpAny_rule (wpAny_bind (wpAny_setScan_of key ho hd hf hel ?_))))
  cases fi : List.findIdx? (fun e => (PySem.strKind P w).is k e.2) es.toList with
  | some j =>
    dsimp only
    obtain ⟨hj, pj, _⟩ := List.findIdx?_eq_some_iff_getElem.mp fi
    have inl : k ∈ l := pm.mem_iff.mp (List.mem_map.mpr ⟨_, List.getElem_mem hj, (goodS_is (g _ (List.getElem_mem hj)) k).mp pj⟩)
    refine wpAny_pure (wpAny_pure (hQ s.heap _ (Heap.SameBut.refl a s.heap) ?_))
    rw [if_pos inl]
    exact ⟨o, es, ep, t, ho, hex, hd, g, pm, hb, hf, hr, hl⟩
  | none =>
    dsimp only
    have notl : k ∉ l := fun z => by
      obtain ⟨e, he, q⟩ := List.mem_map.mp (pm.mem_iff.mpr z)
      have c := List.findIdx?_eq_none_iff.mp fi e he
      rw [(goodS_is (g e he) k).mpr q] at c
      cases c
    have gw : ∀ (b : Bool) {z : Shared} {Q' : Unit → Shared → Prop}, Q' () z → wpAny (model P w) A (match b with | true => rule "set.scan.the-table-gave-way" | false => pure ()) Q' E z := fun b z Q' q => by
      cases b
      · exact wpAny_pure q
      · exact wpAny_rule q
    have y1 := layNew_perm t es ((PySem.strKind P w).hash k) (.str k tk)
    have y2 := layNew_fits t es ((PySem.strKind P w).hash k) (.str k tk)
    have y3 := layNew_ris t es ((PySem.strKind P w).hash k) (.str k tk) hr
    have y4 := layNew_led t es ((PySem.strKind P w).hash k) (.str k tk)
    generalize layNew t es ((PySem.strKind P w).hash k) (.str k tk) = Y at y1 y2 y3 y4 ⊢
    obtain ⟨es1, t1, dummy, gave⟩ := Y
    simp only at y1 y2 y3 y4 ⊢
    rw [Array.toList_push] at y1
    have pc : es1.toList.Perm (((PySem.strKind P w).hash k, Value.str k tk) :: es.toList) := y1.trans (List.perm_append_singleton _ _)
    have g1 : ∀ e ∈ es1.toList, GoodS P w e := fun e he => (List.mem_cons.mp (pc.mem_iff.mp he)).elim (fun z => by rw [z]; exact ⟨k, tk, rfl, rfl⟩) (g e)
    have m1 : (es1.toList.map keyS).Perm (k :: l) := (pc.map keyS).trans (pm.cons k)
    have lenl : es.size = l.length := by rw [← pm.length_eq, List.length_map, Array.length_toList]
    have b1 : es1.size < scanBound := by rw [← Array.length_toList, pc.length_eq, List.length_cons, Array.length_toList, lenl]; exact room
    have l1 : w.params.followText "set-order" = true ∨ t1.led = true := hl.imp id fun z => by rw [y4]; exact z
    have fin : ∀ h', Heap.SameBut a s.heap h' → SetT P w h' a (k :: l) → Q true { s with heap := h' } := fun h' sb r => hQ h' true sb (by rw [if_neg notl]; exact r)
    refine wpAny_bind (gw _ ?_)
    split
    · refine wpAny_bind ?_
      rw [hashByValue_scannable 8 hsc]
      refine wpAny_pure (add_text_tail (fun b z Q' q => gw b q) ho hex hd g1 m1 b1 ?_ ?_ ?_ fun h' sb r => ?_)
      · first | (split <;> first | exact y2 | exact SetTable.fits_plain_off y2) | exact y2
      · first | (split <;> exact y3) | exact y3
      · first | (split <;> exact l1) | exact l1
      · dsimp only
        exact wpAny_pure (fin h' sb r)
    · refine wpAny_bind (wpAny_pure ?_)
      simp only [↓reduceIte]
      refine add_text_tail (fun b z Q' q => gw b q) ho hex hd g1 m1 b1 y2 y3 l1 fun h' sb r => ?_
      dsimp only
      exact wpAny_pure (fin h' sb r)
end
end Hb
set_option Elab.async false
set_option linter.all false
set_option maxRecDepth 100000
set_option maxHeartbeats 8000000
/-! set(texts) with repeats; sorted of such a set. -/
namespace Hb
open PySem PySem.Spec PyProof.Rows
/-- the unlike ones -/
def Uniq (l xs : List Str) : Prop := l.Nodup ∧ l.length ≤ xs.length ∧ ∀ k, k ∈ l ↔ k ∈ xs
theorem Uniq.more {l xs : List Str} {k : Str} (u : Uniq l xs) : Uniq (if k ∈ l then l else k :: l) (xs ++ [k]) := by
  obtain ⟨a, b, c⟩ := u
  by_cases h : k ∈ l
  · rw [if_pos h]
    refine ⟨a, by rw [List.length_append]; exact Nat.le_trans b (Nat.le_add_right _ _), fun j => ?_⟩
    rw [List.mem_append, List.mem_singleton, c j]
    exact ⟨.inl, fun z => z.elim id fun e => by rw [e]; exact (c k).mp h⟩
  · rw [if_neg h]
    refine ⟨List.nodup_cons.mpr ⟨h, a⟩, by rw [List.length_append]; exact Nat.succ_le_succ b, fun j => ?_⟩
    rw [List.mem_append, List.mem_singleton, List.mem_cons, c j]
    exact Or.comm
section
variable {prog : Program} {w : World} {A : Around} {R : Result → Shared → Prop} {I : Addr} {fp wr : List Addr} {G : Array GenState → Array GenState → Prop} {n : Nat} {P : Nat → Value → Prop} {Z : Nat → Shared → Prop}
theorem turns_any (W : WalksS prog w A.in1 I fp wr G n P Z) (S : Addr) (apart : S ∉ fp) (xs : List Str) (len : xs.length = n) (few : n + 1 < scanBound)
    (told : ∀ i v, P i v → ∃ t, v = .str (xs.getD i Str.empty) t) : ∀ (left i : Nat) (s : Shared), n - i = left → i ≤ n → Z i s →
      (∃ l, SetT prog w s.heap S l ∧ Uniq l (xs.take i)) →
      (∀ s' l, Moved (S :: wr) G s s' → SetT prog w s'.heap S l → Uniq l xs → R (.ok (.ret .none)) s') →
      codeAny (model prog w) A (.builtin "set.update.loop" ⟨[.ref S, .ref I], []⟩) R s := by
  have nwr : S ∉ wr := fun h => apart (W.sub _ h)
  have up : ∀ b ∈ wr, b ∈ S :: wr := fun b hb => List.mem_cons_of_mem _ hb
  intro left
  induction left with
  | zero =>
    intro i s hk hi hst ⟨l, hS, u⟩ hR
    obtain rfl : i = n := by omega
    refine codeAny_builtin PyProof.Rows.F.entry_set_update_loop (by
      rw [Around.under_plainId PyProof.Rows.F.plain_set_update_loop _]; show wpAny _ A.in1 (pyNext (.ref I) >>= _) _ _ s
      refine wpAny_bind (W.done s _ _ hst fun s' hm => ?_); show wpAny _ A.in1 (ret Value.none) _ _ s'
      refine wpAny_pure (hR s' l (hm.mono up) (hS.at fun o e => hm.heap S o nwr e) ?_)
      rw [← len, List.take_length] at u
      exact u)
  | succ left ih =>
    intro i s hk hi hst ⟨l, hS, u⟩ hR
    have lt : i < n := by omega
    have lt2 : i < xs.length := by omega
    refine codeAny_builtin PyProof.Rows.F.entry_set_update_loop (by
      rw [Around.under_plainId PyProof.Rows.F.plain_set_update_loop _]; show wpAny _ A.in1 (pyNext (.ref I) >>= _) _ _ s
      refine wpAny_bind (W.item i s _ _ lt hst fun v s' hP hst' hm => ?_)
      obtain ⟨t, rfl⟩ := told i v hP
      have hS' : SetT prog w s'.heap S l := hS.at fun o e => hm.heap S o nwr e
      have ll := u.2.1
      rw [List.length_take] at ll
      show wpAny _ A.in1 (holding [Value.str (xs.getD i Str.empty) t] (setAdd S (.str (xs.getD i Str.empty) t)) >>= _) _ _ s'
      refine wpAny_bind (wpAny_holding ?_); unfold setAdd
      refine wpAny_holding (wpAny_bind ((PySem.strKind prog w).pyHash (k := xs.getD i Str.empty) (strKind_is _ _ _ _) ?_))
      refine add_text (s := { s' with toks := s'.toks + 1 }) (l := l) hS' u.1 (by omega) fun h' b same hS2 => ?_
      have u2 : Uniq (if xs.getD i Str.empty ∈ l then l else xs.getD i Str.empty :: l) (xs.take (i + 1)) := by
        rw [more_text xs lt2]
        exact u.more
      refine wpAny_pure ⟨plainId_quiet PyProof.Rows.F.plain_set_update_loop _, ih (i + 1) _ (by omega) lt (W.frame _ s' _ _ hst' (Nat.le_succ _) fun b hb o e => ?_) ⟨_, hS2, u2⟩ fun s'' l2 hm2 hS4 u4 => ?_⟩
      · rw [same.2 b (fun h : b = S => apart (h ▸ hb))]; exact e
      · refine hR s'' l2 (Moved.trans W.gtrans ((hm.mono up).then_heap (Nat.le_succ _) fun b o hb e => ?_) hm2) hS4 u4
        rw [same.2 b (fun h : b = S => hb (by rw [h]; exact List.mem_cons_self))]; exact e)
end
section
variable {prog : Program} {w : World} {A : Around} {E : Value → Shared → Prop} {s : Shared}
abbrev newSet (w : World) : Obj := { cls := .type "set", dict := none, data := .set #[] 0 (.fresh 0 0 (!w.params.followText "set-order")) }
theorem setT_new {h : Heap} {a : Addr} (ho : h.get? a = some (newSet w)) : SetT prog w h a [] :=
  ⟨_, #[], 0, _, ho, ⟨rfl, rfl, rfl⟩, rfl, (fun e he => by simp at he), List.Perm.refl _, (by decide), (by rfl), List.Pairwise.nil, by
    show _ ∨ (!w.params.followText "set-order") = true
    cases w.params.followText "set-order" <;> simp⟩
/-- set(xs) of a list of texts -/
theorem set_textsR {l : Addr} {its : Array Value} {xs : List Str} {Q : Value → Shared → Prop} (calm : A.handled = none) (at_ : s.heap.IsList l its) (are : StrsAre its.toList xs) (few : xs.length + 1 < scanBound)
    (k : ∀ (h' : Heap) (tk : Nat) (us : List Str), SetT prog w h' s.heap.objs.size us → Uniq us xs → (∀ b o, s.heap.get? b = some o → h'.get? b = some o) → Q (.ref s.heap.objs.size) { s with heap := h', toks := tk }) :
    wpAny (model prog w) A (call (.type "set") [.ref l]) Q E s := by
  have size : its.size = xs.length := by have q := are.length; rw [Array.length_toList] at q; exact q
  obtain ⟨c, tl, mro⟩ := F.called_set.mro
  have f1 := F.called_set.made; have f2 := F.called_set.sub; have f3 := F.called_set.notType; have f4 := F.called_set.canCreate; have f5 := F.typeCall_set_1 (.ref l)
  refine wpAny_call (codeAny_of_tree (by
    show wpAny _ _ (callAny (.type "set") _) _ _ _
    refine wpAny_pure ⟨Code.quiet_builtin _ (by decide +kernel), codeAny_builtin F.entry_type_call ?_⟩
    rw [Around.under_plain (weight_type_call_type "set" [.ref l] []) rfl]
    repeat (any_goals (first | assumption | wp_step))
    refine codeAny_mono (L2.code_set_led1 (.ref l) (E := E) (Q₁ := fun v z => v = .ref s.heap.objs.size ∧ z = { s with heap := s.heap.push (newSet w) }) ⟨rfl, rfl⟩) fun r z hr => ?_
    match r, hr with
    | .error e, hr => exact hr
    | .ok .next, hr => exact hr.elim
    | .ok .brk, hr => exact hr.elim
    | .ok .cont, hr => exact hr.elim
    | .ok (.ret v), ⟨e1, e2⟩ =>
      subst e1 e2
      have mine : (s.heap.push (newSet w)).get? s.heap.objs.size = some (newSet w) := Heap.get?_push_size _ rfl
      have kind : Shared.TypeIs { s with heap := s.heap.push (newSet w) } (.ref s.heap.objs.size) "set" := ⟨_, mine, rfl⟩
      have f6 := F.called_set.init.lookup; have f7 := F.called_set.init.bind (.ref s.heap.objs.size)
      repeat (any_goals (first | assumption | wp_step))
      refine codeAny_mono (codeAny_call_builtin (R := wants (fun r z => r = .none ∧ ∃ h' tk us, z = { s with heap := h', toks := tk } ∧
        SetT prog w h' s.heap.objs.size us ∧ Uniq us xs ∧ ∀ b o, s.heap.get? b = some o → h'.get? b = some o) E) F.called_set.init.plain F.entry_set_init (check_set_init_1 kind ?_)) fun r2 z2 hr2 => ?_
      · obtain ⟨⟨ocls, odict, odata, oslots⟩, ho, hc, nl, hd⟩ := at_
        simp only at hc hd; subst hc hd
        have ho2 : (s.heap.push (newSet w)).get? l = some { cls := .type "list", dict := odict, data := .seq its nl, slots := oslots } := Heap.get?_push_of_some _ ho
        have g1 := F.sub_list_set; have g2 := F.sub_list_frozenset; have g3 : (Value.type "list" == Value.type "dict") = false := by decide
        have ml : (s.heap.push (newSet w)).IsList l its := ⟨_, ho2, rfl, nl, rfl⟩
        unfold Builtin.«set.__init__» noKeywords Builtin.Frozenset.updateFrom
        generalize hI : pyIter = It
        wp_walk
        subst hI
        have lo : l < s.heap.objs.size := Heap.lt_size ho
        have far : l ≠ (s.heap.push (newSet w)).objs.size := by rw [Heap.size_push]; exact Nat.ne_of_lt (Nat.lt_succ_of_lt lo)
        refine wpAny_pyIter_list ml (wpAny_bind (wpAny_runValue (turns_any ((Walks.list (by simp [calm]) _ l far its).toS) s.heap.objs.size (by
            rw [Heap.size_push]; simp only [List.mem_cons, List.not_mem_nil, or_false, not_or]
            exact ⟨Nat.ne_of_lt (Nat.lt_succ_self _), Nat.ne_of_gt lo⟩) xs size.symm (by omega) (fun i v hv => SS.strs_at are i v (by rw [Array.getElem?_toList]; exact hv)) (its.size - 0) 0 _ (by omega) (Nat.zero_le _)
          ⟨⟨_, Heap.get?_push_size _ rfl, rfl, rfl⟩, (ml.push _)⟩ ?zer ?fin1)))
        case zer =>
          have e0 : ((s.heap.push (newSet w)).push { cls := .type "list_iterator", data := .fields #[.ref l, .int 0 0] }).get? s.heap.objs.size = some (newSet w) := Heap.get?_push_of_some _ mine
          exact ⟨[], setT_new e0, List.nodup_nil, Nat.zero_le _, fun k => by simp⟩
        case fin1 =>
          rintro ⟨h', g', d', tk', os'⟩ us hm hS hu
          obtain rfl : g' = s.gens := hm.gens
          obtain rfl : d' = s.drawn := hm.drawn
          obtain rfl : os' = s.os := hm.os
          show wpAny _ _ _ _ _ _
          refine wpAny_pure (by
            show wpAny _ _ (ret Value.none) _ _ _
            refine wpAny_pure ⟨rfl, h', tk', us, rfl, hS, hu, fun b o e => hm.heap b o ?_ (Heap.get?_push_of_some _ (Heap.get?_push_of_some _ e))⟩
            have lb := Heap.lt_size e
            rw [Heap.size_push]; simp only [List.mem_cons, List.not_mem_nil, or_false, not_or]
            exact ⟨Nat.ne_of_lt lb, Nat.ne_of_lt (Nat.lt_succ_of_lt lb)⟩)
      · match r2, hr2 with
        | .error e, h => exact h
        | .ok .next, h => exact h.elim
        | .ok .brk, h => exact h.elim
        | .ok .cont, h => exact h.elim
        | .ok (.ret v), ⟨e1, h', tk, us, e2, hS, hu, hk⟩ =>
          subst e1 e2
          repeat (any_goals (first | assumption | wp_step))
          exact k _ _ _ hS hu hk))
end
end Hb
set_option Elab.async false
set_option linter.all false
set_option maxRecDepth 100000
set_option maxHeartbeats 8000000
/-! sorted(set(texts)). -/
namespace Hb
open PySem PySem.Spec PyProof.Rows
section
variable {P : Program} {w : World} {A : Around} {E : Value → Shared → Prop} {s : Shared} {a : Addr} {l : List Str}
theorem strs_of : ∀ vs : List Value, (∀ v ∈ vs, ∃ k tk, v = Value.str k tk) → ∃ ss, StrsAre vs ss ∧ vs.map (fun v => match v with | .str k _ => k | _ => Str.empty) = ss
  | [], _ => ⟨[], .nil, rfl⟩
  | v :: vs, h => by
    obtain ⟨k, tk, rfl⟩ := h v List.mem_cons_self
    obtain ⟨ss, h1, h2⟩ := strs_of vs fun u hu => h u (List.mem_cons_of_mem _ hu)
    exact ⟨k :: ss, .cons k tk h1, by rw [List.map_cons, h2]⟩
theorem sorted_setT {Q : Value → Shared → Prop} (R : SetT P w s.heap a l) (calm : A.handled = none) (few : l.length < 64)
    (hQ : ∀ s' p (out : Array Value) (c : Nat) (ns : List Str), (∀ b o, s.heap.get? b = some o → s'.heap.get? b = some o) → s'.gens = s.gens → s'.os = s.os → s.heap.objs.size ≤ p →
      s'.heap.get? p = some (seqObj "list" out c) → StrsAre out.toList ns → sortedS ns = true → ns.Perm l → Q (.ref p) s') : wpAny (model P w) A (call (.builtin "sorted") [.ref a]) Q E s := by
  obtain ⟨o, es, ep, t, x⟩ := R
  have lenl : es.size = l.length := by rw [← x.mem.length_eq, List.length_map, Array.length_toList]
  refine Calls.call_function_entry kind_sorted plain_sorted entry_sorted (args_sorted1 _) ?_
  unfold Builtin.«sorted»
  refine wpAny_bind (m := checkCount "sorted" 1 1 _) (wpAny_pure (wpAny_bind (L2.collect_set (A := A.in1) calm ⟨o, x.ho, x.ex.1, x.hd⟩ x.fits x.few x.ris x.led fun s1 vs k1 hz g1 o1 pm => ?_)))
  have hvl : vs.length = l.length := by rw [pm.length_eq, List.length_map, Array.length_toList]; exact lenl
  obtain ⟨ss, hS, e⟩ := strs_of vs fun v hv => by
    obtain ⟨e, he, q⟩ := List.mem_map.mp (pm.mem_iff.mp hv)
    obtain ⟨k, tk, h1, _⟩ := x.good e he
    exact ⟨k, tk, by rw [← q]; exact h1⟩
  have ps : ss.Perm l := by
    have q := pm.map (fun v => match v with | Value.str k _ => k | _ => Str.empty)
    rw [e, List.map_map] at q
    exact q.trans x.mem
  have v64 : vs.length < 64 := by rw [hvl]; exact few
  refine wpAny_bind (wpAny_newList ?_ (by rw [hvl, sizeLine_eq]; omega))
  have hoL : (s1.heap.push (seqObj "list" vs.toArray 0)).get? s1.heap.objs.size = some (seqObj "list" vs.toArray 0) := Heap.get?_push_size _ rfl
  refine wpAny_bind (wpAny_holding (wpAny_call_entry slot_list_sort ⟨_, hoL, rfl⟩ entry_list_sort (list_sort_treeK strKind_oneLt hoL hS.keysOf (fun v₁ v₂ rest e => keyKind_strs (by rw [← e]; exact hS)) v64 fun st' a1 a2 => ⟨_, rfl, ?_⟩) (args_list_sort _)))
  obtain ⟨ss', b1, b2, b3⟩ := sorted_out_str hS a1 a2
  obtain ⟨c, hc⟩ := sortedHeap_at (vs := vs) (out := (arrOf st').map (·.2)) hoL
  refine wpAny_pure ⟨_, rfl, hQ _ s1.heap.objs.size _ c ss' (fun b u e => ?_) g1 o1 hz hc b1 b3 (b2.trans ps)⟩
  have q := k1 b u e
  have lt := Heap.lt_size q
  show (sortedHeap (s1.heap.push (seqObj "list" vs.toArray 0)) s1.heap.objs.size vs _).get? b = some u
  rw [sortedHeap_old (Nat.ne_of_lt lt) (by rw [size_push']; exact Nat.lt_succ_of_lt lt)]
  exact Heap.get?_push_of_some _ q
end
end Hb
namespace Hb
open PySem PySem.Spec PyProof.Rows L2
/-- sorted(set(xs)), xs a list of texts -/
def tSortSet (K : PySem.W.Frag) (ta : TE) : TE := fun σ H Q => ta σ H fun x H1 => ∃ (l : Addr) (xs : List Str), x = .ref l ∧ SqL K H1 l (xs.map V.str) ∧ xs.length < 64 ∧
  ∀ (ns : List Str) (p : Addr), ns.Nodup → (∀ k, k ∈ ns ↔ k ∈ xs) → sortedS ns = true → H1 p = none → Q (.ref p) (upd H1 p (.lst (ns.map V.str)))
theorem pe_sortSet {X : Cx} {a : Expr} {ta : TE} {p p2 q pos : Pos} (hg : Gl X "sorted") (hm : X.mg "sorted" = none) (hg2 : Gl X "set") (hm2 : X.mg "set" = none) (ha : PE X a ta) (calm : X.calm = true := by rfl)
    (na : starEach [a] X.env = (false, eval a X.env) :: starEach [] X.env := by rfl) : PE X (.Call (.Name "sorted" p) [.Call (.Name "set" p2) [a] [] q] [] pos) (tSortSet X.K ta) := by
  refine ⟨fun pins s σ H Q I h => Call_ (ld_blt I hg hm boot_sorted (callWith_builtin1 (args_cons (Call_ (ld_blt I hg2 hm2 boot_set
    (callWith_type1 (args_cons (thn (ha.run pins s σ H _ I h) fun v z ⟨x, H1, J, r, q⟩ => args_nil ?_) na) na rfl))) rfl) rfl rfl))⟩
  obtain ⟨l, xs, rfl, hq, few, q⟩ := q
  cases r
  obtain ⟨its, rv, pl, hz⟩ := J.list hq
  refine set_textsR (J.ok.hd calm) pl.isList (by simpa using strsAre_of rv) (by unfold scanBound; omega) fun h' tk us hS hu hk => args_nil ?_
  have J2 : Inv X pins σ H1 { z with heap := h', toks := tk } := J.kept hk
  refine sorted_setT hS (J.ok.hd calm) (Nat.lt_of_le_of_lt hu.2.1 few) fun s' p out c ns k1 g1 o1 lt at_ hs so pm => ?_
  have nl : (ns.map V.str).length ≤ sizeLine := by rw [List.length_map, pm.length_eq, sizeLine_eq]; have := hu.2.1; omega
  have free : H1 p = none := J2.hok.fresh lt
  have J3 : Inv X pins σ (upd H1 p (.lst (ns.map V.str))) { { z with heap := h', toks := tk } with heap := s'.heap, gens := s'.gens, drawn := s'.drawn, toks := s'.toks } :=
    J2.call (ch := []) (Un.laid k1 lt free) (J2.hok.laid k1 lt ⟨nl, out.toList, c, vals_of_strs hs, at_⟩) (by rw [g1]; exact J2.bare) fun _ y => nomatch y
  have e : s' = { { z with heap := h', toks := tk } with heap := s'.heap, gens := s'.gens, drawn := s'.drawn, toks := s'.toks } := by
    cases s'
    cases z
    cases o1
    rfl
  rw [e]
  exact ⟨.ref p, _, J3, rfl, q ns p (pm.nodup_iff.mpr hu.1) (fun k => pm.mem_iff.trans (hu.2.2 k)) so free⟩
end Hb
set_option Elab.async false
set_option linter.all false
set_option maxRecDepth 100000
set_option maxHeartbeats 4000000
/-! len(x) by a def of the class. -/
namespace Hb
open PySem PySem.Spec PyProof.Rows
section
variable {prog : Program} {w : World} {A : Around} {E : Value → Shared → Prop} {s : Shared} {K : PySem.W.Frag} {x C f : Addr} {ox : Obj} {od : Option Obj}
theorem lenBody_own {Q : Value → Shared → Prop} (X : K.In s.heap) (I : PySem.W.InstAt s.heap x ox C od) (hs : PySem.W.findIn K (.ref C) "__len__" = some (some (.ref f))) (hf : PySem.W.isFn K (.ref f) = true)
    (h : wpAny (model prog w) A (call (.ref f) [.ref x]) (fun r z => ∃ (n : Int) (t : Tok), r = Value.int n t ∧ 0 ≤ n ∧ n < 2 ^ 63 ∧ ∀ t' tk, Q (.int n t') { z with toks := tk }) E s) : wpAny (model prog w) A (Builtin.«len» ⟨[.ref x], []⟩) (fun fin s' => ∃ r, fin = .done (.ret r) ∧ Q r s') E s := by
  unfold Builtin.«len»
  refine wpAny_bind (m := oneArg "len" _) (wpAny_pure ?_)
  refine wpAny_bind (m := callSpecial? (.ref x) (Str.ofString "__len__")) (PySem.W.special_fn X I hs (beq_iff_eq.mp hf) (wpAny_mono h (fun r z hr => ?_) fun _ _ e => e))
  obtain ⟨n, t, rfl, h0, h1, q⟩ := hr
  refine wpAny_bind (wpAny_holding (wpAny_pure ?_))
  refine wpAny_bind (wpAny_letGo ?_)
  show wpAny _ _ (if n < 0 then _ else _) _ _ _
  rw [if_neg (by omega)]
  show wpAny _ _ (if n ≥ 2 ^ 63 then _ else _) _ _ _
  rw [if_neg (by omega)]
  exact wpAny_bind (wpAny_mkInt (wpAny_pure ⟨_, rfl, q _ _⟩))
end
end Hb
namespace Hb
open PySem PySem.Spec PyProof.Rows L2
/-- the class at C has a __len__ of its own -/
structure LenOf (P : Program) (w : World) (K : PySem.W.Frag) (mg : Str → Option Value) (base : Heap) (k : Nat) (C : Addr) (sp : Sp) : Prop where
  ex : ∃ (f : Addr) (fd : FuncData) (ps : List Str), PySem.W.findIn K (.ref C) "__len__" = some (some (.ref f)) ∧ PySem.W.isFn K (.ref f) = true ∧ FnOk P w K mg base CX0 k f fd ps sp ∧ Binds K fd ps []
def rLenOwn (C : Addr) (sp : Sp) : List V → Hp → VK → Prop := fun xs H Q => ∃ (a dx : Addr) (fs : List (Str × V)), xs = [.ref a] ∧ H a = some (.ins C dx fs) ∧ sp [.ref a] H (fun v H' => ∃ n : Int, v = .int n ∧ 0 ≤ n ∧ n < 2 ^ 63 ∧ Q v H') C8.E0
section
variable {X : Cx} {C : Addr} {k j : Nat} {sp : Sp}
theorem call_lenOwn (c : LenOf X.prog X.w X.K X.mg X.base k C sp) (hr : Room j X.A) (hk : k + 1 ≤ j) : CallR X (.builtin "len") (rLenOwn C sp) := by
  intro pins s σ H xs us Q I r h
  obtain ⟨f, fd, ps, hs, hf, FO, hb⟩ := c.ex
  obtain ⟨a, dx, fs, rfl, ha, q⟩ := h
  rw [Vals.ref1 r]
  obtain ⟨mA, J, _⟩ := ins_get I.hok ha
  obtain ⟨od, J, _⟩ := J.look
  have X0 := I.kIn
  have hj : Room (k + 1) X.A := hr.mono hk
  have h2 : Room k X.A.in1 := hj.in1
  have r2 : Vals [V.ref a] [Value.ref a] := .cons rfl .nil
  refine Calls.call_function_entry kind_len plain_len entry_len (args_len1 _) ?_
  refine lenBody_own X0 J hs hf (wpAny_call (codeAny_mono (FO.run X.A.in1 X.stack s H ⟨[.ref a], []⟩ [.ref a] [.ref a] _ C8.E0 h2 I.env0.in1 (by
      have l := FO.len _ _ _ _ q
      have z := hb s [.ref a] X0 (by simpa using l)
      simpa using z) r2 q) fun r s' hq => ?_))
  cases r with
  | error e => exact (C8.pass0 (E := C8.E0) pins σ H s e s' I hq)
  | ok fl =>
    cases fl with
    | ret w2 =>
      obtain ⟨z, H', I', rz, n, ez, n0, n1, qz⟩ := I.after hq
      subst ez
      obtain ⟨t, e⟩ := (show ∃ t, w2 = Value.int n t from rz)
      subst e
      exact ⟨n, t, rfl, n0, n1, fun t' tk => ⟨.int n, H', I'.tok tk, ⟨t', rfl⟩, qz⟩⟩
    | next => exact False.elim hq
    | brk => exact False.elim hq
    | cont => exact False.elim hq
end
end Hb
set_option Elab.async false
set_option linter.all false
set_option maxRecDepth 100000
set_option maxHeartbeats 4000000
/-! Defs that stand behind a record of a class (a property's getter, a classmethod's def), in a head's facts. -/
namespace He
open PySem PySem.Spec PyProof.Rows L2
def fnP (K : PySem.W.Frag) (a : Addr) : FnW := match K.lookup a with
  | some ⟨_, _, .func fd, _⟩ => some (fd.name, fd.qualname, fd.params, fd.body, fd.scope, fd.globals, fd.closure, fd.builtins)
  | _ => none
/-- the first thing of the record of the class T at C.m -/
def rp (K : PySem.W.Frag) (T : String) (C : Addr) (m : Str) : Addr := match PySem.W.recIn K (ma K C m) T with
  | some (.ref g :: _) => g
  | _ => 0
def okP (K : PySem.W.Frag) (a : Addr) (d : DefD) : Bool := PySem.W.keepIn K (.ref a) && (match K.lookup a with
  | some ⟨_, _, .func fd, _⟩ => PySem.W.codeIn K fd.code d.qual && (dflB K fd.defaults (d.dvs K) && kwdB K fd.kwdefaults (d.kws K))
  | _ => false)
theorem funP {K : PySem.W.Frag} {a : Addr} {d : DefD} (e : fnP K a = d.val) (c : okP K a d = true) : ∃ fd, FunD K d.name d.qual d.params d.body d.scope (d.dvs K) (d.kws K) a fd := by
  obtain ⟨kp, c2⟩ := ba c
  unfold fnP at e
  cases q : K.lookup a with
  | none =>
    rw [q] at c2
    cases c2
  | some o =>
    obtain ⟨oc, od, dt, osl⟩ := o
    rw [q] at c2 e
    cases dt with
    | func fd =>
      obtain ⟨n1, n2, n3, n4, n5, n6, n7, n8, n9, n10, n11, n12, n13, n14, n15⟩ := fd
      have e2 : (some (n1, n2, n3, n4, n5, n6, n7, n15) : FnW) = some (d.name, d.qual, d.params, .stmts d.body, d.scope, mainGlobals, [], builtinsNs) := e
      simp only [Option.some.injEq, Prod.mk.injEq] at e2
      obtain ⟨h1, h2, h3, h4, h5, h6, h7, h8⟩ := e2
      subst h1 h2 h3 h4 h5 h6 h7 h8
      have c3 : (PySem.W.codeIn K n13 d.qual && (dflB K n8 (d.dvs K) && kwdB K n9 (d.kws K))) = true := c2
      obtain ⟨k1, k2⟩ := ba c3
      obtain ⟨k3, k4⟩ := ba k2
      exact ⟨_, ⟨oc, od, n8, n9, n10, n11, n12, n13, n14, osl, rfl, q, k1, dflB_ok k3, kwdB_ok k4⟩, kp⟩
    | _ => cases e
abbrev Dp := (PySem.W.Frag → Addr) × DefD
abbrev AlY : Type := AlX × List FnW
def obsY (n : Nat) (fa : List Fa) (fn : List DefD) (ex : PySem.W.Frag → Bool) (fp : List Dp) (g : Addr → Option Obj) : AlY := (obsX n fa fn [] [] ex g, fp.map fun p => fnP (frT g (asD g n)) (p.1 (frT g (asD g n))))
def valY (fn : List DefD) (fp : List Dp) (w : World) : AlY := (valX fn [] w, fp.map fun p => p.2.val)
structure SaysY (fa : List Fa) (fn : List DefD) (ex : PySem.W.Frag → Bool) (fp : List Dp) (w : World) (h : Heap) (K : PySem.W.Frag) : Prop where
  x : SaysX fa fn [] [] ex w h K
  p : fp.map (fun p => fnP K (p.1 K)) = fp.map fun p => p.2.val
def hookY (n : Nat) (fa : List Fa) (fn : List DefD) (ex : PySem.W.Frag → Bool) (fp : List Dp) : PySem.W.Hook where
  α := AlY
  obs := fun s => obsY n fa fn ex fp s.heap.get?
  val := fun w => valY fn fp w
  says := fun w h => ∃ K : PySem.W.Frag, K.In h ∧ SaysY fa fn ex fp w h K
  of := fun _ _ e => ⟨_, frT_in, saysX_of (congrArg (fun z : AlY => z.1) e), congrArg (fun z : AlY => z.2) e⟩
  keeps := fun _ _ _ ⟨K, hK, c⟩ k => ⟨K, PySem.W.Frag.In.keeps hK k, ⟨⟨c.x.t, c.x.more, c.x.hd, c.x.out, fun p hp => k _ _ (c.x.empty p hp)⟩, c.p⟩⟩
theorem obsY_eq {n : Nat} {fa : List Fa} {fn : List DefD} {ex : PySem.W.Frag → Bool} {fp : List Dp} {g : Addr → Option Obj} {s : Shared} (h : ∀ a, g a = s.heap.get? a) : obsY n fa fn ex fp g = (hookY n fa fn ex fp).obs s := by
  have e : g = s.heap.get? := funext h
  rw [e] <;> rfl
/-- the i-th of them -/
theorem def_p {K : PySem.W.Frag} {fp : List Dp} (c : fp.map (fun p => fnP K (p.1 K)) = fp.map fun p => p.2.val) (i : Nat) {p : Dp} (h : fp[i]? = some p) (ok : okP K (p.1 K) p.2 = true) :
    ∃ fd, FunD K p.2.name p.2.qual p.2.params p.2.body p.2.scope (p.2.dvs K) (p.2.kws K) (p.1 K) fd := by
  have e2 : (fp.map fun p => fnP K (p.1 K))[i]? = (fp.map fun p => p.2.val)[i]? := by rw [c]
  rw [List.getElem?_map, List.getElem?_map, h] at e2
  exact funP (Option.some.inj e2) ok
/-! what the class must have -/
def propB (K : PySem.W.Frag) (C : Addr) (f : Str) : Bool := eqO (PySem.W.findIn K (.ref C) f) (some (some (.ref (ma K C f)))) && (eqO (PySem.W.specialIn K (.ref (ma K C f)) "__get__") (some (some (.builtin "property.__get__"))) && (decide (PySem.W.takesIn K (.ref (ma K C f)) = some true) &&
  (match PySem.W.recIn K (ma K C f) "property" with
  | some (.ref g :: _) => true
  | _ => false)))
theorem prop_ok {K : PySem.W.Frag} {C : Addr} {f : Str} (h : propB K C f = true) : PropOf K C f (ma K C f) (rp K "property" C f) := by
  obtain ⟨h1, h⟩ := ba h
  obtain ⟨h2, h⟩ := ba h
  obtain ⟨h3, h4⟩ := ba h
  refine ⟨eqO_ok h1, eqO_ok h2, of_decide_eq_true h3, ?_⟩
  unfold rp
  split at h4
  · rename_i g rest e
    rw [e]
    exact ⟨_, rfl⟩
  · cases h4
end He
set_option Elab.async false
set_option linter.all false
set_option maxRecDepth 100000
set_option maxHeartbeats 4000000
/-! Mathematics of houses: sorted things, shown things, mended houses. -/
namespace Hb
open PySem PySem.Spec PyProof.Rows L2
abbrev leS (a b : Str) : Prop := ltCps b.cps.toList a.cps.toList = false
theorem ltS_iff (a b : Str) : ltCps a.cps.toList b.cps.toList = true ↔ a.cps.toList < b.cps.toList := by rw [ltCps_eq]; exact decide_eq_true_iff
theorem leS_iff (a b : Str) : leS a b ↔ ¬ b.cps.toList < a.cps.toList := by unfold leS; rw [ltCps_eq]; exact decide_eq_false_iff_not
theorem leS_trans {a b c : Str} (h1 : leS a b) (h2 : leS b c) : leS a c := by
  rw [leS_iff] at *
  rw [List.not_lt] at *
  exact List.le_trans h1 h2
theorem leS_antisymm {a b : Str} (h1 : leS a b) (h2 : leS b a) : a = b := by
  rw [leS_iff] at *
  rw [List.not_lt] at *
  have e := List.le_antisymm h1 h2
  obtain ⟨⟨x⟩⟩ := a
  obtain ⟨⟨y⟩⟩ := b
  simp only at e
  subst e
  rfl
theorem leS_total (a b : Str) : leS a b ∨ leS b a := by
  rw [leS_iff, leS_iff, List.not_lt, List.not_lt]
  exact List.le_total _ _
theorem risingS_pw : ∀ (p : Str) (l : List Str), risingS p l = true → (p :: l).Pairwise leS
  | p, [], _ => List.pairwise_singleton _ _
  | p, x :: r, h => by
    have h2 : (!ltCps x.cps.toList p.cps.toList && risingS x r) = true := h
    obtain ⟨h3, h4⟩ := Bool.and_eq_true_iff.mp h2
    have h5 : leS p x := by simpa using h3
    have ih := risingS_pw x r h4
    refine List.pairwise_cons.mpr ⟨fun y hy => ?_, ih⟩
    rcases List.mem_cons.mp hy with rfl | hy
    · exact h5
    · exact leS_trans h5 (List.rel_of_pairwise_cons ih hy)
theorem sortedS_pw : ∀ {l : List Str}, sortedS l = true → l.Pairwise leS
  | [], _ => .nil
  | x :: r, h => risingS_pw x r h
theorem pw_unique {α : Type} {r : α → α → Prop} (anti : ∀ a b, r a b → r b a → a = b) : ∀ {l m : List α}, l.Pairwise r → m.Pairwise r → l.Nodup → m.Nodup → (∀ k, k ∈ l ↔ k ∈ m) → l = m
  | [], m, _, _, _, _, h => by
    cases m with
    | nil => rfl
    | cons y m => exact absurd ((h y).mpr List.mem_cons_self) (by simp)
  | x :: l, [], _, _, _, _, h => absurd ((h x).mp List.mem_cons_self) (by simp)
  | x :: l, y :: m, p1, p2, n1, n2, h => by
    obtain ⟨a1, b1⟩ := List.pairwise_cons.mp p1
    obtain ⟨a2, b2⟩ := List.pairwise_cons.mp p2
    obtain ⟨c1, d1⟩ := List.nodup_cons.mp n1
    obtain ⟨c2, d2⟩ := List.nodup_cons.mp n2
    have e : x = y := by
      rcases List.mem_cons.mp ((h x).mp List.mem_cons_self) with e | hx
      · exact e
      · rcases List.mem_cons.mp ((h y).mpr List.mem_cons_self) with e | hy
        · exact e.symm
        · exact anti x y (a1 y hy) (a2 x hx)
    subst e
    have ih := pw_unique anti b1 b2 d1 d2 fun k => by
      have hk := h k
      simp only [List.mem_cons] at hk
      by_cases e : k = x
      · subst e; exact ⟨fun q => absurd q c1, fun q => absurd q c2⟩
      · exact ⟨fun q => (hk.mp (.inr q)).resolve_left e, fun q => (hk.mpr (.inr q)).resolve_left e⟩
    rw [ih]
theorem sorted_unique {l m : List Str} (h1 : sortedS l = true) (h2 : sortedS m = true) (n1 : l.Nodup) (n2 : m.Nodup) (h : ∀ k, k ∈ l ↔ k ∈ m) : l = m :=
  pw_unique (fun _ _ => leS_antisymm) (sortedS_pw h1) (sortedS_pw h2) n1 n2 h
/-! what is sorted stays -/
theorem sort_id {α : Type} {le : α → α → Bool} {l : List α} (h : l.Pairwise fun a b => le a b = true) : l.mergeSort le = l := List.mergeSort_of_pairwise h
theorem leF {a b : Fl} (h : a.1 < b.1) : PySem.W.dataLe false encF a b = true := by
  have n : ¬ b.1 < a.1 := by omega
  simp [PySem.W.dataLe, PySem.W.sortLe, encF, PySem.W.keyToks, PySem.W.keyToksAll, PyProof.Rows.listOrd, PyProof.Rows.lexLt, PyProof.Rows.itemOrd, PyProof.Rows.itemLt, n, h]
theorem leI {a b : Int} (h : a < b) : PySem.W.dataLe false PyData.int a b = true := by
  have n : ¬ b < a := by omega
  simp [PySem.W.dataLe, PySem.W.sortLe, PySem.W.keyToks, PyProof.Rows.listOrd, PyProof.Rows.lexLt, PyProof.Rows.itemOrd, PyProof.Rows.itemLt, n, h]
theorem sortF_id {l : List Fl} (h : (l.map Prod.fst).Pairwise (· < ·)) : sortF l = l := sort_id ((List.pairwise_map.mp h).imp fun q => leF q)
theorem sortI_id {l : List Int} (h : l.Pairwise (· < ·)) : sortI l = l := sort_id (h.imp fun q => leI q)
theorem sortF_sortF (l : List Fl) : sortF (sortF l) = sortF l := sort_id (List.pairwise_mergeSort (PySem.W.sortLe_total _ _ _).trans (fun a b => Bool.or_eq_true_iff.mpr ((PySem.W.sortLe_total _ _ _).total a b)) l)
/-! what is shown is short -/
theorem piled_le {n : Nat} : ∀ {ts : List Str}, (∀ t ∈ ts, t.length ≤ n) → piled ts ≤ (n + 2) * ts.length
  | [], _ => by simp [piled]
  | t :: ts, h => by
    have h1 := h t List.mem_cons_self
    have h2 := piled_le (ts := ts) fun x hx => h x (List.mem_cons_of_mem _ hx)
    rw [piled_cons, List.length_cons, Nat.mul_add]
    omega
theorem tupleText_le (ts : List Str) : (tupleText ts).length ≤ piled ts + 3 := by
  unfold tupleText
  rw [Str.length_append, Str.length_append]
  have a : (("(" : Str)).length = 1 := rfl
  have b : ((if ts.length == 1 then ",)" else ")" : String) : Str).length ≤ 2 := by split <;> decide
  cases ts with
  | nil => rw [a]; simp only [piled_nil]; have : (Str.join ", " ([] : List Str)).length = 0 := rfl; omega
  | cons t r =>
    have := join_length_add (t :: r) (by simp)
    rw [a]
    omega
theorem shownAll_len : ∀ ds : List PyData, (PyData.shownAll ds).length = ds.length
  | [] => rfl
  | d :: ds => by simp only [PyData.shownAll, List.length_cons, shownAll_len ds]
theorem shownAll_le {n : Nat} : ∀ {ds : List PyData}, (∀ d ∈ ds, d.shown.length ≤ n) → ∀ t ∈ PyData.shownAll ds, t.length ≤ n
  | [], _, t, h => by simp [PyData.shownAll] at h
  | d :: ds, h0, t, h => by
    simp only [PyData.shownAll, List.mem_cons] at h
    rcases h with rfl | h
    · exact h0 d List.mem_cons_self
    · exact shownAll_le (fun e he => h0 e (List.mem_cons_of_mem _ he)) t h
theorem tup_le {n m : Nat} {ds : List PyData} (h : ∀ d ∈ ds, d.shown.length ≤ n) (hm : ds.length ≤ m) : (PyData.tuple ds).shown.length ≤ (n + 2) * m + 3 := by
  simp only [PyData.shown]
  have a := tupleText_le (PyData.shownAll ds)
  have b := piled_le (shownAll_le h)
  rw [shownAll_len] at b
  have c := Nat.mul_le_mul_left (n + 2) hm
  omega
end Hb
set_option Elab.async false
set_option linter.all false
set_option maxRecDepth 100000
set_option maxHeartbeats 4000000
/-! Methods, comparisons, properties of a class, from the head's facts. -/
namespace Hb
open PySem PySem.Spec PyProof.Rows L2
section
variable {P : Program} {w : World} {K : PySem.W.Frag} {mg : Str → Option Value} {base : Heap}
/-- a method without defaults -/
def Dm (K : PySem.W.Frag) (C m qual : Str) (st : Stmt) : Prop := Meth K (He.ga K C) m (He.ma K (He.ga K C) m) ∧ ∃ fd, FunD K m qual (defArgs st) (defBody st) (defScope st) [] [] (He.ma K (He.ga K C) m) fd
/-- a property -/
def Dprop (K : PySem.W.Frag) (C m qual : Str) (st : Stmt) : Prop := PropOf K (He.ga K C) m (He.ma K (He.ga K C) m) (He.rp K "property" (He.ga K C) m) ∧ ∃ fd, FunD K m qual (defArgs st) (defBody st) (defScope st) [] [] (He.rp K "property" (He.ga K C) m) fd
variable {C m qual : Str} {st : Stmt} {ps : List Str} {k : Nat} {sp : Sp}
abbrev BdN (m qual : Str) (st : Stmt) (ps : List Str) : Prop := ∀ (kV doc pm : Value) (an : Option Addr) (cdv ct : Value) (us : List Value), us.length = ps.length → bindArgs (PySem.W.fnOf m qual (defArgs st) (defBody st) (defScope st) .none kV doc pm an cdv ct) ⟨us, []⟩ = pure (ps.zip us)
theorem met_ (D : Dm K C m qual st) (c : Cls K (He.ga K C)) (bd : BdN m qual st ps) (ok : ∀ {f : Addr} {fd : FuncData}, FunD K m qual (defArgs st) (defBody st) (defScope st) [] [] f fd → FnOk P w K mg base CX0 k f fd ps sp) : C8.Met P w K mg base k (He.ga K C) m sp [] := by
  obtain ⟨hm, fd, F⟩ := D
  exact ⟨⟨_, fd, ps, [], c, hm, ok F, F.bindsN bd, .nil⟩⟩
theorem eqOf_ (D : Dm K C "__eq__" qual st) (bd : BdN "__eq__" qual st ps) (ok : ∀ {f : Addr} {fd : FuncData}, FunD K "__eq__" qual (defArgs st) (defBody st) (defScope st) [] [] f fd → FnOk P w K mg base CX0 k f fd ps sp) : EqOf P w K mg base k (He.ga K C) sp := by
  obtain ⟨hm, fd, F⟩ := D
  exact ⟨⟨_, fd, ps, hm.at_, hm.fn, ok F, F.bindsN bd⟩⟩
theorem lenOf_ (D : Dm K C "__len__" qual st) (bd : BdN "__len__" qual st ps) (ok : ∀ {f : Addr} {fd : FuncData}, FunD K "__len__" qual (defArgs st) (defBody st) (defScope st) [] [] f fd → FnOk P w K mg base CX0 k f fd ps sp) : LenOf P w K mg base k (He.ga K C) sp := by
  obtain ⟨hm, fd, F⟩ := D
  exact ⟨⟨_, fd, ps, hm.at_, hm.fn, ok F, F.bindsN bd⟩⟩
theorem strOf_ (D : Dm K C "__str__" qual st) (bd : BdN "__str__" qual st ps) (ok : ∀ {f : Addr} {fd : FuncData}, FunD K "__str__" qual (defArgs st) (defBody st) (defScope st) [] [] f fd → FnOk P w K mg base CX0 k f fd ps sp) : StrOf P w K mg base k (He.ga K C) sp := by
  obtain ⟨hm, fd, F⟩ := D
  exact ⟨⟨_, fd, ps, hm.at_, hm.fn, ok F, F.bindsN bd⟩⟩
/-- the class at C has a property -/
structure GetOf (P : Program) (w : World) (K : PySem.W.Frag) (mg : Str → Option Value) (base : Heap) (k : Nat) (C : Addr) (m : Str) (sp : Sp) : Prop where
  ex : ∃ (p g : Addr) (fd : FuncData) (ps : List Str), PropOf K C m p g ∧ FnOk P w K mg base CX0 k g fd ps sp ∧ Binds K fd ps []
theorem getOf_ (D : Dprop K C m qual st) (bd : BdN m qual st ps) (ok : ∀ {f : Addr} {fd : FuncData}, FunD K m qual (defArgs st) (defBody st) (defScope st) [] [] f fd → FnOk P w K mg base CX0 k f fd ps sp) : GetOf P w K mg base k (He.ga K C) m sp := by
  obtain ⟨hp, fd, F⟩ := D
  exact ⟨⟨_, _, fd, ps, hp, ok F, F.bindsN bd⟩⟩
end
theorem pe_get {X : Cx} {C : Addr} {m : Str} {k j : Nat} {sp : Sp} (c : GetOf X.prog X.w X.K X.mg X.base k C m sp) (cl : Cls X.K C) (hr : Room j X.A) (hk : k + 1 ≤ j) {e : Expr} {ta : TE} {pos : Pos} (he : PE X e ta)
    (hab : attributeBase e m X.env (eval e X.env) = eval e X.env := by rfl) : PE X (.Attribute e m pos) (tProp C sp [] C8.E0 ta) := by
  obtain ⟨p, g, fd, ps, hp, F, b⟩ := c.ex
  exact pe_prop he cl hp F (hr.mono hk) b .nil C8.pass0 hab
end Hb
set_option Elab.async false
set_option linter.all false
set_option maxRecDepth 100000
set_option maxHeartbeats 4000000
/-! A class whose __init__ has defaults, called with all arguments and with none of these; sorted permutations. -/
namespace He
open PySem PySem.Spec PyProof.Rows L2
def nilB (K : PySem.W.Frag) (a : Addr) : Bool := match K.lookup a with
  | some ⟨.type c, _, .seq its _, _⟩ => decide (c = "tuple") && its.isEmpty
  | _ => false
theorem nilB_ok {K : PySem.W.Frag} {a : Addr} (h : nilB K a = true) (H : Hp) : SqT K H a [] := by
  unfold nilB at h
  split at h
  · rename_i c d its n sl e
    obtain ⟨h1, h2⟩ := ba h
    have e1 : c = "tuple" := of_decide_eq_true h1
    have e2 : its = #[] := Array.isEmpty_iff.mp h2
    subst e1 e2
    exact .inr ⟨_, #[], n, e, rfl, rfl, Nat.zero_le _, .nil⟩
  · cases h
end He
namespace Hb
open PySem PySem.Spec PyProof.Rows L2
section
variable {P : Program} {w : World} {K : PySem.W.Frag} {mg : Str → Option Value} {base : Heap}
def Df1v (K : PySem.W.Frag) (mg : Str → Option Value) (C qual : Str) (st : Stmt) (dvs : List V) : Prop := Mk K (He.ga K C) (He.ma K (He.ga K C) "__init__") ∧ mg C = some (.ref (He.ga K C)) ∧
  ∃ fd, FunD K "__init__" qual (defArgs st) (defBody st) (defScope st) dvs [] (He.ma K (He.ga K C) "__init__") fd
theorem mak_mkD2 {C qual : Str} {st : Stmt} {N ps : List Str} {k n : Nat} {sp : Sp} {dvs : List V} (hd : dvs ≠ []) (hn : n + dvs.length = ps.length) (D : Df1v K mg C qual st dvs) (S : FnScope N ps (defScope st))
    (bd : ∀ (T : Addr) (kV doc pm : Value) (an : Option Addr) (cdv ct : Value) (us its : List Value), us.length = ps.length → its.length = dvs.length →
      ∃ k, bindArgs (PySem.W.fnOf "__init__" qual (defArgs st) (defBody st) (defScope st) (.ref T) kV doc pm an cdv ct) ⟨us, []⟩ = seqItems? (.ref T) >>= k ∧ k (some its.toArray) = pure (ps.zip us))
    (bp : ∀ (T : Addr) (kV doc pm : Value) (an : Option Addr) (cdv ct : Value) (us its : List Value), us.length = n → its.length = dvs.length →
      ∃ k, bindArgs (PySem.W.fnOf "__init__" qual (defArgs st) (defBody st) (defScope st) (.ref T) kV doc pm an cdv ct) ⟨us, []⟩ = seqItems? (.ref T) >>= k ∧ k (some its.toArray) = pure (ps.zip (us ++ its)))
    (len : ∀ vs H Q E, sp vs H Q E → vs.length = ps.length)
    (hbody : ∀ (f : Addr) (cdv : Value) (A : Around) (outer : List Env) (s : Shared) (H : Hp) (vs : List V) (Q : VK) (E : XK), Room k (A.deeper (envOfC qual (defScope st) s.heap.objs.size f cdv)) → sp vs H Q E →
      ∃ t, PSs (cxOf CX0 P w K mg base N qual (defScope st) f cdv A outer s H E).nox (defBody st) t ∧ t { nx := fun _ H' => Q .non H', rt := Q } (start N vs) H) :
    C8.Mak P w K mg base (k + 1) C (He.ga K C) sp [] ∧ C8.Mak P w K mg base (k + 1) C (He.ga K C) sp dvs := by
  obtain ⟨M, hm, fd, F⟩ := D
  have ok : FnOk P w K mg base CX0 (k + 1) (He.ma K (He.ga K C) "__init__") fd ps sp := F.ok S len fun cdv A outer s H vs Q E hr h => by
    obtain ⟨t, h1, h2⟩ := hbody _ cdv A outer s H vs Q E hr h
    exact ⟨t, h1.nox, h2⟩
  constructor
  · obtain ⟨ds, r, b⟩ := F.binds1 ps.length dvs.length hd (by rw [Nat.sub_self, Nat.add_zero]) fun T kV doc pm an cdv ct us its h1 h2 => by
      obtain ⟨k, e1, e2⟩ := bd T kV doc pm an cdv ct us its h1 h2
      exact ⟨k, e1, by rw [e2, List.drop_of_length_le (by rw [h2] <;> exact Nat.le_refl _), List.append_nil]⟩
    rw [List.drop_of_length_le (Nat.le_refl _)] at r
    cases r
    exact ⟨⟨_, fd, ps, [], M, ok, hm, b, .nil⟩⟩
  · obtain ⟨ds, r, b⟩ := F.binds1 n 0 hd (by rw [Nat.sub_zero]; exact hn) fun T kV doc pm an cdv ct us its h1 h2 => by
      obtain ⟨k, e1, e2⟩ := bp T kV doc pm an cdv ct us its h1 h2
      exact ⟨k, e1, by rw [e2, List.drop_zero]⟩
    rw [List.drop_zero] at r
    exact ⟨⟨_, fd, ps, ds, M, ok, hm, b, r⟩⟩
end
/-! sorted permutations -/
theorem data_total {a b : PyData} (h1 : (listOrd itemOrd).blt (PySem.W.keyToks b) (PySem.W.keyToks a) = false) (h2 : (listOrd itemOrd).blt (PySem.W.keyToks a) (PySem.W.keyToks b) = false) : PySem.W.keyToks a = PySem.W.keyToks b := (listOrd itemOrd).total _ _ h2 h1
theorem le_blt {α : Type} {enc : α → PyData} {a b : α} (h : PySem.W.dataLe false enc a b = true) : (listOrd itemOrd).blt (PySem.W.keyToks (enc b)) (PySem.W.keyToks (enc a)) = false := by
  have z : (!(listOrd itemOrd).blt (PySem.W.keyToks (enc b)) (PySem.W.keyToks (enc a))) = true := h
  simpa using z
theorem sort_pw {α : Type} (enc : α → PyData) (l : List α) : (l.mergeSort (PySem.W.dataLe false enc)).Pairwise fun a b => PySem.W.dataLe false enc a b = true :=
  List.pairwise_mergeSort (PySem.W.sortLe_total _ _ _).trans (fun a b => Bool.or_eq_true_iff.mpr ((PySem.W.sortLe_total _ _ _).total a b)) l
theorem encF_toks {a b : Fl} (e : PySem.W.keyToks (encF a) = PySem.W.keyToks (encF b)) : a = b := by
  obtain ⟨a1, ⟨⟨a2⟩⟩⟩ := a
  obtain ⟨b1, ⟨⟨b2⟩⟩⟩ := b
  simp [encF, PySem.W.keyToks, PySem.W.keyToksAll] at e
  rw [e.1, e.2]
theorem sortF_perm_eq {es fs : List Fl} (p : es.Perm fs) (a : (fs.map Prod.fst).Pairwise (· < ·)) : sortF es = fs := by
  have nd : fs.Nodup := (List.pairwise_map.mp a).imp fun {x y} q e => by subst e; exact absurd q (Int.lt_irrefl _)
  have ps := (sortF_perm es).trans p
  exact pw_unique (r := fun x y => PySem.W.dataLe false encF x y = true) (fun x y h1 h2 => encF_toks (data_total (le_blt h1) (le_blt h2))) (sort_pw encF es) ((List.pairwise_map.mp a).imp fun q => leF q) (ps.nodup_iff.mpr nd) nd fun k => ps.mem_iff
theorem sortI_perm_eq {es fs : List Int} (p : es.Perm fs) (a : fs.Pairwise (· < ·)) : sortI es = fs := by
  have nd : fs.Nodup := a.imp fun {x y} q e => by subst e; exact absurd q (Int.lt_irrefl _)
  have ps := (sortI_perm es).trans p
  refine pw_unique (r := fun x y => PySem.W.dataLe false PyData.int x y = true) (fun x y h1 h2 => ?_) (sort_pw PyData.int es) (a.imp fun q => leI q) (ps.nodup_iff.mpr nd) nd fun k => ps.mem_iff
  have e := data_total (le_blt h1) (le_blt h2)
  simp [PySem.W.keyToks] at e
  exact e
end Hb
set_option Elab.async false
set_option linter.all false
set_option maxRecDepth 100000
set_option maxHeartbeats 4000000
/-! Calls without arguments; data that equals itself. -/
namespace Hb
open PySem PySem.Spec PyProof.Rows L2
theorem pe_c0 {X : Cx} {k j : Nat} {x : Str} {sp : Sp} {dvs : List V} {p pos : Pos} (c : C8.Cal X.prog X.w X.K X.mg X.base k x sp dvs) (hr : Room j X.A) (hk : k ≤ j) (hg : Gl X x) (hdb : (x == ("__debug__" : Str)) = false := by decide) :
    PE X (.Call (.Name x p) [] [] pos) (tCall sp dvs C8.E0 tNil) := by
  obtain ⟨f, fd, ps, ds, F, hm, kp, b, d⟩ := c.ex
  exact pe_call0 F (hr.mono hk) hg hm kp b d C8.pass0 hdb
mutual
theorem alike_self : ∀ d : PyData, d.canLay0 = true → PySem.W.alike d d = true
  | .none, _ => rfl
  | .bool _, _ => rfl
  | .int _, _ => rfl
  | .str _, _ => rfl
  | .list xs, h => by
    simp only [PyData.canLay0] at h
    simp only [PySem.W.alike]
    exact alikeAll_self xs h
  | .tuple xs, h => by
    simp only [PyData.canLay0] at h
    simp only [PySem.W.alike]
    exact alikeAll_self xs h
  | .dict _, h => by simp [PyData.canLay0] at h
theorem alikeAll_self : ∀ ds : List PyData, PyData.canLayAll0 ds = true → PySem.W.alikeAll ds ds = true
  | [], _ => rfl
  | d :: ds, h => by
    simp only [PyData.canLayAll0, Bool.and_eq_true] at h
    simp only [PySem.W.alikeAll, alike_self d h.1, alikeAll_self ds h.2, Bool.and_self]
end
theorem eqv_self {d : PyData} (h : SeqAt.shaped d = true) : PyData.eqv d d = true := PySem.W.eqv_refl_alike d (alike_self d (SeqAt.canLay_of_shaped h))
section
variable {K : PySem.W.Frag} {H : Hp} {Q : VK} {x y : V} {d : PyData}
theorem ne_data (hx : Dp K H x d) (hy : Dp K H y d) (s : SeqAt.shaped d = true) (q : Q (.bl false) H) : rNeD K x y H Q := ⟨d, d, hx, hy, s, s, by rw [eqv_self s]; exact q⟩
theorem eq_data (hx : Dp K H x d) (hy : Dp K H y d) (s : SeqAt.shaped d = true) (q : Q (.bl true) H) : rEqD K x y H Q := ⟨d, d, hx, hy, s, s, by rw [eqv_self s]; exact q⟩
end
theorem shaped_of {d : PyData} (h : Shp d) : SeqAt.shaped d = true := h.shaped
/-- tuples and lists of such -/
theorem Shp.tup {n : Nat} {ds : List PyData} (h : ∀ d ∈ ds, d.canLay0 = true ∧ d.depth ≤ n) (hn : n + 1 ≤ 60) : (PyData.tuple ds).canLay0 = true ∧ (PyData.tuple ds).depth ≤ n + 1 := by
  have g : PyData.canLayAll0 ds = true ∧ PyData.depthAll ds ≤ n := by
    induction ds with
    | nil => exact ⟨by simp [PyData.canLayAll0], by simp [PyData.depthAll]⟩
    | cons d ds ih =>
      obtain ⟨h1, h2⟩ := ih fun e he => h e (List.mem_cons_of_mem _ he)
      obtain ⟨h3, h4⟩ := h d List.mem_cons_self
      exact ⟨by simp [PyData.canLayAll0, h1, h3], by simp only [PyData.depthAll]; omega⟩
  exact ⟨by simp only [PyData.canLay0]; exact g.1, by simp only [PyData.depth]; have := g.2; omega⟩
theorem Shp.lst {n : Nat} {ds : List PyData} (h : ∀ d ∈ ds, d.canLay0 = true ∧ d.depth ≤ n) (hn : n + 1 ≤ 60) : (PyData.list ds).canLay0 = true ∧ (PyData.list ds).depth ≤ n + 1 := by
  obtain ⟨a, b⟩ := Shp.tup h hn
  simp only [PyData.canLay0, PyData.depth] at a b ⊢
  exact ⟨a, b⟩
end Hb
set_option Elab.async false
set_option linter.all false
set_option maxRecDepth 100000
set_option maxHeartbeats 4000000
/-! A head with a table of texts, properties and classmethods. -/
namespace He
open PySem PySem.Spec PyProof.Rows L2
abbrev AlZ : Type := AlX × List FnW
/-- what the names reach, and the table of the interpreter's own statics -/
def frZ (n : Nat) (g : Addr → Option Obj) : PySem.W.Frag := frT g (asD g n ++ [cStatics])
def obsZ (n : Nat) (fa : List Fa) (fn : List DefD) (ts : List Tab) (ex : PySem.W.Frag → Bool) (fp : List Dp) (g : Addr → Option Obj) : AlZ := ((obsT fa fn ts (frZ n g), ex (frZ n g)), fp.map fun p => fnP (frZ n g) (p.1 (frZ n g)))
def valZ (fn : List DefD) (ts : List Tab) (fp : List Dp) (w : World) : AlZ := (valX fn ts w, fp.map fun p => p.2.val)
structure SaysZ (fa : List Fa) (fn : List DefD) (ts : List Tab) (ex : PySem.W.Frag → Bool) (fp : List Dp) (w : World) (h : Heap) (K : PySem.W.Frag) : Prop where
  x : SaysX fa fn ts [] ex w h K
  p : fp.map (fun p => fnP K (p.1 K)) = fp.map fun p => p.2.val
def hookZ (n : Nat) (fa : List Fa) (fn : List DefD) (ts : List Tab) (ex : PySem.W.Frag → Bool) (fp : List Dp) : PySem.W.Hook where
  α := AlZ
  obs := fun s => obsZ n fa fn ts ex fp s.heap.get?
  val := fun w => valZ fn ts fp w
  says := fun w h => ∃ K : PySem.W.Frag, K.In h ∧ SaysZ fa fn ts ex fp w h K
  of := fun _ _ e => ⟨_, frT_in, ⟨congrArg (fun z : AlZ => z.1.1) e, congrArg (fun z : AlZ => z.1.2) e, fun _ h => (nomatch h), fun _ h => (nomatch h), fun _ h => (nomatch h)⟩, congrArg (fun z : AlZ => z.2) e⟩
  keeps := fun _ _ _ ⟨K, hK, c⟩ k => ⟨K, PySem.W.Frag.In.keeps hK k, ⟨⟨c.x.t, c.x.more, c.x.hd, c.x.out, fun p hp => k _ _ (c.x.empty p hp)⟩, c.p⟩⟩
theorem obsZ_eq {n : Nat} {fa : List Fa} {fn : List DefD} {ts : List Tab} {ex : PySem.W.Frag → Bool} {fp : List Dp} {g : Addr → Option Obj} {s : Shared} (h : ∀ a, g a = s.heap.get? a) : obsZ n fa fn ts ex fp g = (hookZ n fa fn ts ex fp).obs s := by
  have e : g = s.heap.get? := funext h
  rw [e] <;> rfl
/-! the tuples that a table holds -/
def tabAt (x k : Str) (K : PySem.W.Frag) : Addr := match PySem.W.nsIn K (ga K x) k with
  | some (some (.ref a)) => a
  | _ => 0
def tupA (K : PySem.W.Frag) (a : Addr) (vs : List V) : Bool := match K.lookup a with
  | some ⟨.type c, _, .seq its _, _⟩ => decide (c = "tuple") && (decide (its.size ≤ sizeLine) && relAll vs its.toList)
  | _ => false
theorem tupA_ok {K : PySem.W.Frag} {a : Addr} {vs : List V} (h : tupA K a vs = true) (H : Hp) : SqT K H a vs := by
  unfold tupA at h
  split at h
  · rename_i c d its n sl e
    obtain ⟨h1, h2⟩ := ba h
    obtain ⟨h3, h4⟩ := ba h2
    have e1 : c = "tuple" := of_decide_eq_true h1
    subst e1
    exact .inr ⟨_, its, n, e, rfl, rfl, of_decide_eq_true h3, relAll_ok h4⟩
  · cases h
/-- a table of tuples of texts: each key's tuple -/
def tabB (K : PySem.W.Frag) (x : Str) (L : List (Str × List Str)) : Bool := L.all fun q => eqO (PySem.W.nsIn K (ga K x) q.1) (some (some (.ref (tabAt x q.1 K)))) && tupA K (tabAt x q.1 K) (q.2.map V.str)
theorem tabB_ok {K : PySem.W.Frag} {w : World} {x : Str} {L : List (Str × List Str)} (h : tabB K x L = true) {es : Array DictEntry} {n : Nat} (D : KDict K w (ga K x) es n) {q : Str × List Str} (hq : q ∈ L) :
    KDct K w (ga K x) q.1 (.ref (tabAt x q.1 K)) ∧ ∀ H, SqT K H (tabAt x q.1 K) (q.2.map V.str) := by
  obtain ⟨h1, h2⟩ := ba (List.all_eq_true.mp h q hq)
  exact ⟨⟨es, n, _, D.at_, D.lit, eqO_ok h1, rfl⟩, tupA_ok h2⟩
/-! a classmethod -/
def cmB (K : PySem.W.Frag) (C : Addr) (m : Str) : Bool := PySem.W.readsIn K C (.type "type") && (eqO (PySem.W.specialIn K (.ref C) "__getattribute__") (some (some (.builtin "type.__getattribute__"))) &&
  ((match PySem.W.findCls K (.ref C) (.type "type") m with
  | some (.get (.builtin b) (.ref p) .none (.ref C')) => decide (b = "classmethod.__get__") && (decide (p = ma K C m) && decide (C' = C))
  | _ => false) && ((match PySem.W.recIn K (ma K C m) "classmethod" with
  | some (.ref g :: _) => true
  | _ => false) && PySem.W.fnIn K (rp K "classmethod" C m))))
theorem cm_ok {K : PySem.W.Frag} {C : Addr} {m : Str} (h : cmB K C m = true) : ClX.CRead K C (.type "type") ∧ ClX.CMet K C (.type "type") m (ma K C m) (rp K "classmethod" C m) := by
  obtain ⟨h1, h⟩ := ba h
  obtain ⟨h2, h⟩ := ba h
  obtain ⟨h3, h⟩ := ba h
  obtain ⟨h4, h5⟩ := ba h
  refine ⟨⟨h1, eqO_ok h2⟩, ?_, ?_, h5⟩
  · split at h3
    · rename_i b p C' e
      obtain ⟨x1, x2⟩ := ba h3
      obtain ⟨x3, x4⟩ := ba x2
      rw [e, of_decide_eq_true x1, of_decide_eq_true x3, of_decide_eq_true x4]
    · cases h3
  · unfold rp
    split at h4
    · rename_i g rest e
      rw [e]
      exact ⟨_, rfl⟩
    · cases h4
end He
namespace Hb
open PySem PySem.Spec PyProof.Rows L2
/-- with all arguments, and with but the first n (the defaults from the j-th on fill up) -/
theorem mak_mkDj {P : Program} {w : World} {K : PySem.W.Frag} {mg : Str → Option Value} {base : Heap} {C qual : Str} {st : Stmt} {N ps : List Str} {k n j : Nat} {sp : Sp} {dvs : List V} (hd : dvs ≠ []) (hn : n + (dvs.length - j) = ps.length) (D : Df1v K mg C qual st dvs) (S : FnScope N ps (defScope st))
    (bd : ∀ (T : Addr) (kV doc pm : Value) (an : Option Addr) (cdv ct : Value) (us its : List Value), us.length = ps.length → its.length = dvs.length →
      ∃ k, bindArgs (PySem.W.fnOf "__init__" qual (defArgs st) (defBody st) (defScope st) (.ref T) kV doc pm an cdv ct) ⟨us, []⟩ = seqItems? (.ref T) >>= k ∧ k (some its.toArray) = pure (ps.zip us))
    (bp : ∀ (T : Addr) (kV doc pm : Value) (an : Option Addr) (cdv ct : Value) (us its : List Value), us.length = n → its.length = dvs.length →
      ∃ k, bindArgs (PySem.W.fnOf "__init__" qual (defArgs st) (defBody st) (defScope st) (.ref T) kV doc pm an cdv ct) ⟨us, []⟩ = seqItems? (.ref T) >>= k ∧ k (some its.toArray) = pure (ps.zip (us ++ its.drop j)))
    (len : ∀ vs H Q E, sp vs H Q E → vs.length = ps.length)
    (hbody : ∀ (f : Addr) (cdv : Value) (A : Around) (outer : List Env) (s : Shared) (H : Hp) (vs : List V) (Q : VK) (E : XK), Room k (A.deeper (envOfC qual (defScope st) s.heap.objs.size f cdv)) → sp vs H Q E →
      ∃ t, PSs (cxOf CX0 P w K mg base N qual (defScope st) f cdv A outer s H E).nox (defBody st) t ∧ t { nx := fun _ H' => Q .non H', rt := Q } (start N vs) H) :
    C8.Mak P w K mg base (k + 1) C (He.ga K C) sp [] ∧ C8.Mak P w K mg base (k + 1) C (He.ga K C) sp (dvs.drop j) := by
  obtain ⟨M, hm, fd, F⟩ := D
  have ok : FnOk P w K mg base CX0 (k + 1) (He.ma K (He.ga K C) "__init__") fd ps sp := F.ok S len fun cdv A outer s H vs Q E hr h => by
    obtain ⟨t, h1, h2⟩ := hbody _ cdv A outer s H vs Q E hr h
    exact ⟨t, h1.nox, h2⟩
  constructor
  · obtain ⟨ds, r, b⟩ := F.binds1 ps.length dvs.length hd (by rw [Nat.sub_self, Nat.add_zero]) fun T kV doc pm an cdv ct us its h1 h2 => by
      obtain ⟨k, e1, e2⟩ := bd T kV doc pm an cdv ct us its h1 h2
      exact ⟨k, e1, by rw [e2, List.drop_of_length_le (by rw [h2] <;> exact Nat.le_refl _), List.append_nil]⟩
    rw [List.drop_of_length_le (Nat.le_refl _)] at r
    cases r
    exact ⟨⟨_, fd, ps, [], M, ok, hm, b, .nil⟩⟩
  · obtain ⟨ds, r, b⟩ := F.binds1 n j hd hn bp
    exact ⟨⟨_, fd, ps, ds, M, ok, hm, b, r⟩⟩
/-- a classmethod of the class C, without defaults -/
def Dcm (K : PySem.W.Frag) (C m qual : Str) (st : Stmt) : Prop := (ClX.CRead K (He.ga K C) (.type "type") ∧ ClX.CMet K (He.ga K C) (.type "type") m (He.ma K (He.ga K C) m) (He.rp K "classmethod" (He.ga K C) m)) ∧
  ∃ fd, FunD K m qual (defArgs st) (defBody st) (defScope st) [] [] (He.rp K "classmethod" (He.ga K C) m) fd
structure CmOf (P : Program) (w : World) (K : PySem.W.Frag) (mg : Str → Option Value) (base : Heap) (k : Nat) (C : Addr) (m : Str) (sp : Sp) : Prop where
  ex : ∃ p g, ClX.CRead K C (.type "type") ∧ ClX.CMet K C (.type "type") m p g ∧ FnR P w K mg base CX0 k g sp
theorem cmOf_ {P : Program} {w : World} {K : PySem.W.Frag} {mg : Str → Option Value} {base : Heap} {C m qual : Str} {st : Stmt} {ps : List Str} {k : Nat} {sp : Sp} (D : Dcm K C m qual st) (bd : BdN m qual st ps)
    (ok : ∀ {f : Addr} {fd : FuncData}, FunD K m qual (defArgs st) (defBody st) (defScope st) [] [] f fd → FnOk P w K mg base CX0 k f fd ps sp) : CmOf P w K mg base k (He.ga K C) m sp := by
  obtain ⟨⟨h1, h2⟩, fd, F⟩ := D
  refine ⟨⟨_, _, h1, h2, ?_⟩⟩
  have z := FnOk.raw (ok F) (F.bindsN bd) .nil
  exact z.imp fun vs H Q E q => by simpa using q
theorem pe_cm {X : Cx} {C : Addr} {m : Str} {k j : Nat} {sp : Sp} {o e : Expr} {es : List Expr} {pos apos : Pos} {ta : TE} {t : TA} {pl : Sem Bool} (c : CmOf X.prog X.w X.K X.mg X.base k C m sp) (hr : Room j X.A) (hk : k ≤ j) (he : PE X o ta) (ha : PA X (e :: es) t)
    (hst : starEach (e :: es) X.env = (false, eval e X.env) :: starEach es X.env := by rfl) (hpl : (backTo pos (starEach es X.env)).any (·.1) = false := by rfl)
    (ht : eval (.Call (.Attribute o m apos) (e :: es) [] pos) X.env = (do
      let ov ← eval o X.env
      standAt apos.atName
      let (f, first) ← holding [ov] (getMethod ov m pl)
      callWith pos f first (backTo pos (starEach (e :: es) X.env)) (backToKw pos (keywordEach [] X.env))) := by rfl) :
    PE X (.Call (.Attribute o m apos) (e :: es) [] pos) (ClX.tCMeth C sp C8.E0 ta t) := by
  obtain ⟨p, g, h1, h2, F⟩ := c.ex
  exact ClX.pe_cmeth he h1 h2 F (hr.mono hk) C8.pass0 ha hst hpl ht
end Hb
set_option Elab.async false
set_option linter.all false
set_option maxRecDepth 100000
set_option maxHeartbeats 4000000
/-! enumerate of a list or a tuple. -/
namespace Hb
open PySem PySem.Spec PyProof.Rows L2
theorem meets_enum1 {v : Value} {o : Obj} {B0 : Heap → Prop} (B : Begins v o B0) :
    Meets (Builtin.«enumerate.__new__» ⟨[.type "enumerate", v], []⟩) (fun _ R s => B0 s.heap ∧
      R (.ok (.ret (.ref (s.heap.push o).objs.size))) { s with heap := (s.heap.push o).push { cls := .type "enumerate", data := .fields #[.none, .bool false, .ref s.heap.objs.size, rawInt 0, .none, .none] } }) :=
  .of_wp fun prog w A R s h => by
    obtain ⟨hp, g, d, tk, os⟩ := s; obtain ⟨h1, h⟩ := h
    have hsub := sub_enumerate
    have q1 : ∀ {A' : Around} {E : Value → Shared → Prop} {Q : Value → Shared → Prop}, Q (.ref hp.objs.size) ⟨hp.push o, g, d, tk, os⟩ → wpAny (model prog w) A' (pyIter v) Q E ⟨hp, g, d, tk, os⟩ :=
      fun q => B.iter prog w _ _ ⟨hp, g, d, tk, os⟩ _ h1 q
    wp_walk using q1
    refine wpAny_stack_any fun st => wpAny_pure ?_
    split
    · rename_i c _ _ _ _ _
      cases (c == Value.type "enumerate")
      · wp_walk using q1
        exact ⟨_, rfl, h⟩
      · wp_walk using q1
        exact ⟨_, rfl, h⟩
    · wp_walk using q1
      exact ⟨_, rfl, h⟩
section
variable {prog : Program} {w : World} {A : Around} {E : Value → Shared → Prop} {s : Shared}
theorem call_enum1 {v : Value} {o : Obj} {B0 : Heap → Prop} {Q : Value → Shared → Prop} (B : Begins v o B0) (h1 : B0 s.heap)
    (h : ∀ h', IsEnum h' (s.heap.objs.size + 1) s.heap.objs.size 0 .none → h'.get? s.heap.objs.size = some o → h'.objs.size = s.heap.objs.size + 2 →
      (∀ b o, s.heap.get? b = some o → h'.get? b = some o) → Q (.ref (s.heap.objs.size + 1)) { s with heap := h' }) :
    wpAny (model prog w) A (call (.type "enumerate") [v]) Q E s := by
  refine callType_new F.called_enumerate (by decide) (F.typeCall_enumerate_1 _) (F.newCall_enumerate_1 _) (fun obj => F.args_object_init_2 obj _) F.entry_enumerate_new
    (meets_enum1 B) ⟨h1, ?_⟩
  have hz : (s.heap.push o).objs.size = s.heap.objs.size + 1 := Heap.size_push ..
  show _ ∧ _
  rw [hz]
  have he : IsEnum ((s.heap.push o).push { cls := .type "enumerate", data := .fields #[.none, .bool false, .ref s.heap.objs.size, rawInt 0, .none, .none] }) (s.heap.objs.size + 1) s.heap.objs.size 0 .none := by
    have := Heap.get?_push_size (s.heap.push o) (o := { cls := .type "enumerate", data := .fields #[.none, .bool false, .ref s.heap.objs.size, rawInt 0, .none, .none] }) rfl
    rw [hz] at this; exact this
  refine ⟨⟨_, he, rfl⟩, h _ he (Heap.get?_push_of_some _ (Heap.get?_push_size _ B.free)) (by rw [Heap.size_push, hz]) fun b o x => Heap.get?_push_of_some _ (Heap.get?_push_of_some _ x)⟩
end
/-- the tuple at a, each item in a new pair -/
def Itet (K : PySem.W.Frag) (a : Addr) (xs : List V) : It :=
  ⟨fun i H => SqT K H a xs ∧ ∃ x, xs[i]? = some x, fun i H v H' => ∃ T x, v = .ref T ∧ H T = none ∧ H' = upd H T (.tup [.int (i : Nat), x]) ∧ xs[i]? = some x, fun i H => SqT K H a xs ∧ xs.length ≤ i⟩
theorem turn_enumT {P : Program} {w : World} {K : PySem.W.Frag} {elts : List Expr} {kk : Nat} {tpos : Pos} (a e it : Addr) (xs : List V) (ha : a ≠ it) (hea : e ≠ a) :
    L2.Turn P w K (.Tuple elts kk tpos) (Itet K a xs) [e, it] e (fun i h => (∃ old, IsEnum h e it ((i : Nat) : Int) old) ∧ h.IsTupleIter it a i ∧ e ≠ it) where
  mem := by simp
  obj := fun i h st b hb => by
    obtain ⟨⟨old, he⟩, ⟨o, ho, hc, hd⟩, _⟩ := st
    have e' : b = e ∨ b = it := by simpa using hb
    rcases e' with z | z
    · rw [z]; exact ⟨_, he, fun v q => nomatch q⟩
    · rw [z]; exact ⟨o, ho, fun v q => by rw [hd] at q; cases q⟩
  keep := fun i h h' st k => let ⟨⟨old, he⟩, hi, hne⟩ := st; ⟨⟨old, k e (by simp) _ he⟩, hi.at fun o q => k it (by simp) o q, hne⟩
  item := by
    intro X hP hw hK hc i pins s σ H E I hf st hg
    subst hP hw hK
    obtain ⟨⟨old, he⟩, hit, hne⟩ := st
    obtain ⟨hq, x, hx⟩ := hg
    obtain ⟨its, rv, p, hz⟩ := I.tuple hq
    obtain ⟨u, hu, ru⟩ := rv.get hx
    have hel : e < s.heap.objs.size := Heap.lt_size he
    have hil : it < s.heap.objs.size := by obtain ⟨_, q, _⟩ := hit; exact Heap.lt_size q
    have hlen : its.toArray.size = xs.length := by rw [List.size_toArray]; exact rv.length.symm
    have hix : i < its.toArray.size := by rw [hlen]; exact (List.getElem?_eq_some_iff.mp hx).1
    refine wpAny_pyNext_enum_itemD (Draws.tuple (A := X.A.in1) (I.ok.hd hc) it a ha its.toArray) he ⟨hit, p⟩ hix hne (by simp [hea, hne]) fun u2 h' tk hu2 ho st' hT hsz hk => ?_
    have eu : u2 = u := by
      have e1 : its.toArray[i]? = some u := by simpa using hu
      exact Option.some.inj (hu2.symm.trans e1)
    subst eu
    refine ⟨_, rfl, wpAny_letOwnedTupleGo_enum (s := { s with heap := h', toks := tk + 1 }) ho fun h'' he' sb => ?_⟩
    have hT2 : h''.get? s.heap.objs.size = some { cls := .type "tuple", data := .seq #[.int i tk, u2] } := (sb.2 _ (Nat.ne_of_gt hel)).trans hT
    have new : ObjOk X.prog X.w (upd H s.heap.objs.size (.tup [.int (i : Nat), x])) h'' s.heap.objs.size (.tup [.int (i : Nat), x]) :=
      ⟨by show 2 ≤ sizeLine; decide, [.int i tk, u2], .cons ⟨_, rfl⟩ (.cons ru .nil), ⟨_, hT2, rfl, _, rfl⟩⟩
    have I1 : Inv X pins σ (upd H s.heap.objs.size (.tup [.int (i : Nat), x])) { s with heap := h'', toks := tk + 1 } :=
      I.turnedNew (ch := [e, it]) (fun b ob hb q => (sb.2 b (fun z => hb (by simp [z]))).trans (hk b ob (fun z => hb (by simp [z])) (fun z => hb (by simp [z])) q)) hf (Nat.le_refl _) new
    refine ⟨.ref s.heap.objs.size, _, I1, rfl, ⟨_, x, rfl, I.hok.fresh (Nat.le_refl _), rfl, hx⟩, ⟨⟨u2, ?_⟩, st'.1.at fun o q => (sb.2 it (Ne.symm hne)).trans q, hne⟩, fun b hb => ?_⟩
    · have e1 : ((i + 1 : Nat) : Int) = (i : Int) + 1 := by omega
      rw [e1]; exact he'
    · have hb' : b < s.heap.objs.size := by
        have e' : b = e ∨ b = it := by simpa using hb
        rcases e' with z | z
        · rw [z]; exact hel
        · rw [z]; exact hil
      rw [upd_ne (Nat.ne_of_lt hb')]
      exact (hf b hb).1
  done := by
    intro X hP hw hK hc i pins s σ H E I hf st hg
    subst hP hw hK
    obtain ⟨⟨old, he⟩, hit, hne⟩ := st
    obtain ⟨hq, hx⟩ := hg
    obtain ⟨its, rv, p, hz⟩ := I.tuple hq
    obtain ⟨f0, f1, f2, f3, f4, f5⟩ := hf it (by simp)
    have hlen : its.toArray.size = xs.length := by rw [List.size_toArray]; exact rv.length.symm
    have T : s.TypeIs (.ref e) "enumerate" := ⟨_, he, rfl⟩
    unfold pyNext
    refine wpAny_bind (wpAny_attempt (wpAny_callSpecial?_slot (name := Str.ofString "__next__") T F.slot_enumerate_next
      (wpAny_call_entry F.slot_enumerate_next T F.entry_enumerate_next ?_ (F.args_enumerate_next_1 _))))
    show wpAny _ _ (field (.ref e) 2 >>= _) _ _ _
    refine wpAny_bind (wpAny_field he rfl (x := .ref it) rfl ?_)
    refine wpAny_bind (wpAny_nextOf_tuple_end (I.ok.hd hc) hit p (Array.getElem?_eq_none (by omega)) fun h' x eb hx' => ?_)
    obtain ⟨o, ho, hcl⟩ := hx'
    refine wpAny_bind (wpAny_isInstance (T := "StopIteration") (b := true) ⟨o, ho, hcl⟩ isSubtype_stop ?_)
    exact wpAny_pure ⟨rfl, I.turned (t' := s.toks) (fun b o hb q => eb b o hb q) f0 f1 f3 f4 f5⟩
  self := fun A i s Q E st h => let ⟨⟨_, he⟩, _⟩ := st; wpAny_pyIter_enum he h
theorem walk_enumT {K : PySem.W.Frag} {a : Addr} {xs : List V} : Walk (Itet K a xs) xs.length (fun H => SqT K H a xs) (YPair (fun i => some (.int (i : Nat))) (fun i => xs[i]?)) := by
  refine ⟨fun i _ hi q => ⟨q, xs[i], by simp [hi]⟩, fun _ q => ⟨q, Nat.le_refl _⟩, fun i H v H' _ q y => ?_⟩
  obtain ⟨T, x, h1, h2, h3, h4⟩ := y
  exact ⟨T, .int (i : Nat), x, h1, h2, h3, rfl, h4⟩
/-- a list or a tuple, with numbers -/
def iEnumS (K : PySem.W.Frag) (ta : TA) : TI := fun σ H R => ta σ H fun vs H1 => ∃ a xs, vs = [.ref a] ∧ (SqL K H1 a xs ∨ SqT K H1 a xs) ∧
  ∀ (J : It) (G : Hp → Prop), (∀ H', Same H1 H' → G H') → Walk J xs.length G (YPair (fun i => some (.int (i : Nat))) (fun i => xs[i]?)) → R J H1
theorem pi_enumS {X : Cx} {e : Expr} {ta : TA} {p pos tpos : Pos} {elts : List Expr} {kk : Nat} (hg : Gl X "enumerate") (hm : X.mg "enumerate" = none) (ha : PA X [e] ta) (hs : starEach [e] X.env = [(false, eval e X.env)] := by rfl) :
    PI X (.Tuple elts kk tpos) (.Call (.Name "enumerate" p) [e] [] pos) (iEnumS X.K ta) := by
  refine ⟨fun pins s σ H R I h => ?_⟩
  refine Call_ (ld_blt I hg hm boot_enumerate (PyProof.Rows.callWith_type1 (thn (ha.run pos pins s σ H _ I h) fun us s1 ⟨vs, H1, I1, r1, q1⟩ => ?_) hs rfl))
  obtain ⟨a, xs, ex, hq, q⟩ := q1
  subst ex
  cases r1 with
  | cons r rr =>
    cases rr
    cases r
    have far : ∀ b ∈ [s1.heap.objs.size + 1, s1.heap.objs.size], FpOk X pins H1 b := fun b hb => by
      have e' : b = s1.heap.objs.size + 1 ∨ b = s1.heap.objs.size := by simpa using hb
      have hle : s1.heap.objs.size ≤ b := by
        rcases e' with z | z
        · rw [z]; exact Nat.le_add_right _ _
        · rw [z]; exact Nat.le_refl _
      exact I1.fpOk hle (I1.hok.fresh hle)
    rcases hq with hq | hq
    · obtain ⟨its, rv, p', hz⟩ := I1.list hq
      refine call_enumerate_list p'.isList fun h' he hit hsz hk => wpAny_pyIter_enum he ?_
      exact ⟨s1.heap.objs.size + 1, [s1.heap.objs.size + 1, s1.heap.objs.size], _, _, H1, rfl, I1.kept (t' := s1.toks) hk, turn_enum a (s1.heap.objs.size + 1) s1.heap.objs.size, ⟨⟨.none, he⟩, hit, Nat.succ_ne_self _⟩, far, q _ _ (fun H' s => Same.seq s hq) walk_enum⟩
    · obtain ⟨its, rv, p', hz⟩ := I1.tuple hq
      have hal : a < s1.heap.objs.size := by obtain ⟨o, ho, _⟩ := id p'; exact Heap.lt_size ho
      refine call_enum1 (begins_tuple a its.toArray) p' fun h' he hit hsz hk => wpAny_pyIter_enum he ?_
      exact ⟨s1.heap.objs.size + 1, [s1.heap.objs.size + 1, s1.heap.objs.size], _, _, H1, rfl, I1.kept (t' := s1.toks) hk, turn_enumT a (s1.heap.objs.size + 1) s1.heap.objs.size xs (Nat.ne_of_lt hal) (Nat.ne_of_gt (Nat.lt_succ_of_lt hal)), ⟨⟨.none, he⟩, ⟨_, hit, rfl, rfl⟩, Nat.succ_ne_self _⟩, far, q _ _ (fun H' s => SqT.keep (Same.tk s) hq) walk_enumT⟩
end Hb
set_option Elab.async false
set_option linter.all false
set_option maxRecDepth 100000
set_option maxHeartbeats 4000000
/-! A law's def run where it is called from: nothing is being shown there, so that what repr gives is known. -/
namespace Hb
open PySem PySem.Spec PyProof.Rows L2
/-- a law's body, where the law is called from -/
def BodyG (P : Program) (w : World) (K : PySem.W.Frag) (mg : Str → Option Value) (N : List Str) (sc : Scope) (body : List Stmt) (k n : Nat) : Prop :=
  ∀ (base : Heap) (f a : Addr) (cdv : Value) (s : Shared) (H : Hp) (ns : List Int), ns.length ≤ n → SqL K H a (ns.map V.int) → Room k (callerA.deeper (envOfC "law" sc s.heap.objs.size f cdv)) →
    ∃ t, PSs (cxOf CX0 P w K mg base N "law" sc f cdv callerA [] s H E0).nox body t ∧ t { nx := fun _ _ => False, rt := fun v _ => v = .bl true } (start N [.ref a]) H
section
variable {P : Program} {w : World} {K : PySem.W.Frag} {mg mb : Str → Option Value} {k n : Nat} {fa a : Addr} {fd : FuncData} {x : Str} {N : List Str} {sc : Scope} {body : List Stmt} {params : Arguments} {s1 : Shared} {vs : List Value} {ns : List Int}
/-- from the heap in which the script alone may be tracked -/
theorem run_law {H : Hp} {base : Heap} (F : FunD K "law" "law" params body sc [] [] fa fd) (S : FnScope N [x] sc) (hr : Room (k + 1) callerA) (hbind : ∀ (s : Shared) (u : Value), BindsTo s fd ⟨[u], []⟩ [(x, u)])
    (B : BodyG P w K mg N sc body k n) (e0 : Env0 P w K mg base callerA [] s1 H) (hq : SqL K H a (ns.map V.int)) (hn : ns.length ≤ n) (only : Only H) :
    codeAny (model P w) callerA (.call (.ref fa) ⟨[.ref a], []⟩) (fun r s' => r = .ok (.ret (.bool true)) ∧ OldK s1.heap s'.heap ∧ s'.os = s1.os ∧ AllBare s'.gens) s1 := by
  obtain ⟨oc, od, dV, kV, doc, pm, an, cdv, ct, osl, rfl, lk, hcd, _, _⟩ := F.ex
  have KX : K.In s1.heap := e0.mod.kin.keeps fun b o e => (e0.bs b o e).1
  have lim : s1.heap.NoLimit := e0.mod.nolimit.keeps fun b o e => (e0.bs b o e).1
  have kinds : ∀ y ∈ ([x] : List Str).zip [Value.ref a], sc.names.lookup y.1 = some .local ∨ (sc.names.lookup y.1 = some .cell ∧ ((cellsFrom (s1.heap.objs.size + 1) sc.names []).lookup y.1).isSome = true) := by
    rintro ⟨m, v⟩ hy
    exact (S.par m (List.of_mem_zip hy).1).imp id fun q => ⟨q, PySem.W.cellsFrom_some _ _ _ (.inl q)⟩
  refine codeAny_call_function hr.depth (KX _ _ lk) rfl S.co S.gen rfl (PySem.W.codeRec_of KX hcd) (hbind s1 (.ref a) _ _ _ _ ?_)
  refine wpAny_newFunctionEnv_cells S.kind kinds fun env he z y => ?_
  subst he
  obtain ⟨t, ht, hb⟩ := B base fa a cdv s1 H ns hn hq (hr.deeper _)
  have I : Inv (cxOf CX0 P w K mg base N "law" sc fa cdv callerA [] s1 H E0) [] (start N [.ref a]) H z := inv_start S hr.hd e0 rfl (.cons rfl .nil) y
  refine ⟨lim.keeps y.toInCall.keep, codeAny_func (wpAny_mono (ht.run [] z (start N [.ref a]) H _ (I.wish _) hb) (fun fl s' hs0 => ?_) fun e s' hs => False.elim hs)⟩
  have hs := hs0.unwish
  cases fl with
  | brk => obtain ⟨_, _, _, q⟩ := hs; exact False.elim q
  | cont => obtain ⟨_, _, _, q⟩ := hs; exact False.elim q
  | next => obtain ⟨_, _, _, q⟩ := hs; exact False.elim q
  | ret u =>
    obtain ⟨v, σ', H', J, rv, q⟩ := hs
    have q2 : v = V.bl true := q
    subst q2
    obtain rfl : u = Value.bool true := rv
    refine ⟨rfl, OldK.of_keep fun b o e => ?_, J.os, J.bare⟩
    cases r : H b with
    | none => exact J.base.keep b o e r (by intro z; cases z) (by intro z; cases z)
    | some u =>
      rcases only b with z | ⟨ob, xs, z⟩
      · rw [r] at z; cases z
      · have z2 := J.base.frzs b ob _ z
        obtain ⟨e1, _⟩ := e0.hok b _ z
        obtain ⟨e2, _⟩ := J.hok b _ z2
        rw [e] at e1; cases e1
        exact e2
/-- from the heap behind the top: the script's list alone is tracked, where the written part has it not -/
theorem run_top (F : FunD K "law" "law" params body sc [] [] fa fd) (S : FnScope N [x] sc) (hr : Room (k + 1) callerA) (hbind : ∀ (s : Shared) (u : Value), BindsTo s fd ⟨[u], []⟩ [(x, u)])
    (B : BodyG P w K mg N sc body k n) (KX : K.In s1.heap) (hns : s1.heap.Ns mainGlobals mg) (hb : s1.heap.Ns builtinsNs mb) (hbb : ∀ x : Str, x ≠ "__name__" → mb x = bootBuiltins x) (hlim : s1.heap.NoLimit) (hg : s1.gens = #[])
    (ha : s1.heap.get? a = some { cls := .type "list", data := .seq vs.toArray }) (hi : IntsAre vs ns) (hn : ns.length ≤ n) (hl : n ≤ sizeLine) :
    codeAny (model P w) callerA (.call (.ref fa) ⟨[.ref a], []⟩) (fun r s' => r = .ok (.ret (.bool true)) ∧ OldK s1.heap s'.heap ∧ s'.os = s1.os ∧ AllBare s'.gens) s1 := by
  have rv := vals_ints hi
  have len := hi.length
  have few : ns.length ≤ sizeLine := Nat.le_trans hn hl
  have go : ∀ H : Hp, Only H → SqL K H a (ns.map V.int) → HOk P w H s1.heap → (∀ b, H b ≠ none → b = a ∧ K.lookup a = none) → codeAny (model P w) callerA (.call (.ref fa) ⟨[.ref a], []⟩) (fun r s' => r = .ok (.ret (.bool true)) ∧ OldK s1.heap s'.heap ∧ s'.os = s1.os ∧ AllBare s'.gens) s1 := by
    intro H only hq hok hA
    have none_of : ∀ b : Addr, b ≠ a → H b = none := fun b ne => by
      cases q : H b with
      | none => rfl
      | some u => exact absurd (hA b (by rw [q]; intro z; cases z)).1 ne
    have low : ∀ {b : Addr} {o : Obj}, s1.heap.get? b = some o → H b = none → (hidT s1.heap H).get? b = some o := fun e q => hidT_get e q
    have dct : ∀ {b : Addr} {m : Str → Option Value}, s1.heap.Ns b m → (hidT s1.heap H).Ns b m := by
      rintro b m ⟨o, es, ep, e, d, r⟩
      refine ⟨o, es, ep, low e (none_of b fun q => ?_), d, r⟩
      subst q
      rw [ha] at e
      cases e
      cases d
    have kin : K.In (hidT s1.heap H) := fun b o e => by
      refine low (KX b o e) ?_
      cases q : H b with
      | none => rfl
      | some u =>
        obtain ⟨rfl, z⟩ := hA b (by rw [q]; intro z; cases z)
        rw [z] at e; cases e
    obtain ⟨mc, l1, l2⟩ := hlim
    exact run_law (H := H) (base := hidT s1.heap H) F S hr hbind B ⟨rfl, ⟨kin, dct hns, ⟨mb, dct hb, hbb⟩, ⟨mc, dct l1, l2⟩⟩, fun b o e => of_hidT e, Nat.le_of_eq (hidT_size _ _), trivial, fun b z => (nomatch z), hok, .of_eq hg⟩ hq hn only
  cases lk : K.lookup a with
  | some o =>
    obtain rfl : o = { cls := .type "list", data := .seq vs.toArray } := by
      have e := KX a o lk
      rw [ha] at e
      exact (Option.some.inj e).symm
    exact go (fun _ => none) (fun _ => Or.inl rfl) (Or.inr ⟨_, vs.toArray, _, lk, rfl, rfl, rfl, by rw [List.size_toArray, len]; exact few, by simpa using rv⟩) (fun b u z => nomatch (show (none : Option HO) = some u from z)) fun b z => absurd rfl z
  | none =>
    let u : HO := .frz { cls := .type "list", data := .seq vs.toArray } (.lst (ns.map V.int))
    have at_ : ∀ b, (upd (fun _ => none) a u) b = if b = a then some u else none := fun b => by
      by_cases e : b = a
      · subst e; rw [if_pos rfl]; exact upd_same
      · rw [if_neg e]; exact upd_ne e
    refine go (upd (fun _ => none) a u) (fun b => ?_) (Or.inl (Or.inr ⟨_, upd_same⟩)) (fun b v z => ?_) fun b z => ⟨?_, lk⟩
    · rw [at_]; split
      · exact Or.inr ⟨_, _, rfl⟩
      · exact Or.inl rfl
    · rw [at_] at z
      by_cases e : b = a
      · rw [if_pos e] at z
        cases z
        subst e
        exact ⟨ha, by rw [List.length_map]; exact few, vs, _, rv, ha⟩
      · rw [if_neg e] at z; cases z
    · apply Classical.byContradiction
      intro e
      rw [at_, if_neg e] at z
      exact z rfl
end
open PySem PySem.Spec PyProof.Rows
/-- the walk behind the top, from the body of the law's def -/
theorem walk_ofG {l : PySem.W.OpenLaw} {n k : Nat} {q : Program} {loose : List Str} {XP : (Str → Option Value) → Heap → Prop} {YP : World → Heap → Prop} {d : DefRec} {x : Str}
    (hn : l.most = some n) (hl : n ≤ sizeLine) (hdf : d.params.defaults = []) (hr : Room (k + 1) callerA)
    (F : ∀ (w : World) (mg : Str → Option Value) (fa : Addr) (h : Heap), YP w h → h.Ns mainGlobals mg → mg d.name = some (.ref fa) →
      ∃ (K : PySem.W.Frag) (fd : FuncData) (N : List Str) (sc : Scope) (body : List Stmt) (params : Arguments), K.In h ∧ FunD K "law" "law" params body sc [] [] fa fd ∧ FnScope N [x] sc ∧
        (∀ (s : Shared) (u : Value), BindsTo s fd ⟨[u], []⟩ [(x, u)]) ∧ BodyG l.prog w K mg N sc body k n) :
    PySem.W.WalkO q loose XP YP l.row.toRowW d [] (fun f vs => PySem.call f vs) := by
  refine Att.attach_call hn hdf fun w s0 s1 mg mb fa o pm cd doc a vs ns G Y ho hd hcd hmg hobj hi hlen hg => ?_
  obtain ⟨K, fd, N, sc, body, params, KX, f, S, hb, B⟩ := F w mg fa _ Y G.T.g hmg
  exact run_top f S hr hb B KX G.T.g G.T.b G.T.builtins G.T.nolimit hg hobj hi hlen hl
end Hb
set_option Elab.async false
set_option linter.all false
set_option maxRecDepth 100000
set_option maxHeartbeats 8000000
namespace Hb
open PySem PySem.Spec PyProof.Rows L2
section
variable {X : Cx}
/-- repr of an object that is data -/
def rReprD (K : PySem.W.Frag) : List V → Hp → VK → Prop := fun vs H Q => ∃ (a : Addr) (d : PyData), vs = [.ref a] ∧ Dp K H (.ref a) d ∧ d.showable = true ∧ d.hasDict = false ∧ d.depth ≤ 60 ∧ d.shown.length ≤ sizeLine ∧ Q (.str d.shown) H
theorem cr_reprD (hg : X.A.guards = some []) (hu : X.A.units + 64 < cLine) : CallR X (.builtin "repr") (rReprD X.K) := by
  intro pins s σ H vs us Q I r h
  obtain ⟨a, d, rfl, hd, hs, hk, hz, hl, q⟩ := h
  rw [Vals.ref1 r]
  obtain ⟨as, rd⟩ := L2.Dp.reads I d _ (.ref a) hd rfl
  refine repr_of_reads' rd hs (fun e => by rw [hk] at e; cases e) hg (by omega) (fun _ _ e => e) (fun h' u tk k => ?_) hl
  exact ⟨.str d.shown, H, I.kept k, ⟨u, rfl⟩, q⟩
end
end Hb
set_option Elab.async false
set_option linter.all false
set_option maxRecDepth 100000
set_option maxHeartbeats 4000000
/-! d.update(e) of dicts with int and text keys; a target o[k] of such a dict; str of a text or an int; a def called where nothing is being shown. -/
namespace Hb
open PySem PySem.Spec PyProof.Rows L2
section
variable {X : Cx}
def rDUpd : V → List V → Hp → VK → Prop := fun x vs H Q => ∃ (a b : Addr) (kvs more : List (Key × V)), x = .ref a ∧ vs = [.ref b] ∧ a ≠ b ∧ H a = some (.dK kvs) ∧ H b = some (.dK more) ∧ kvs.length + more.length ≤ sizeLine ∧ Q .non (upd H a (.dK (mergeK kvs more)))
theorem mtd_upd : MtR X "dict.update" rDUpd := by
  intro pins s σ H x vs v us Q I rx rv h
  obtain ⟨a, b, kvs, more, rfl, rfl, ne, ha, hb, hz, q⟩ := h
  obtain rfl : v = Value.ref a := rx
  obtain ⟨u, rfl, ru⟩ := rv.one
  obtain rfl : u = Value.ref b := ru
  obtain ⟨z1, g1, vs1, rel1, dd1⟩ := dk_of I.hok ha
  obtain ⟨z2, g2, vs2, rel2, dd2⟩ := dk_of I.hok hb
  refine call_meetsIn PySem.F.slot_dict_update dd1.typeIs PySem.F.entry_dict_update (PySem.F.args_dict_update_2 _ _) (meets_dict_update (mixKind X.prog X.w) a b ne g2)
    ⟨vs1, vs2, dd1, dd2, by rw [← rel1.length, ← rel2.length]; exact hz, fun h' d1 _ hs => ⟨.non, _, ?_, rfl, q⟩⟩
  have he : ∃ q, h'.get? a = some q := let ⟨q, _, _, hq, _⟩ := d1; ⟨q, hq⟩
  exact d_write (t' := s.toks) I (by rw [ha]; exact True.intro) hs he (dk_new (Nat.le_trans (length_mergeK more kvs) hz) g1 (KV.merge rel2 rel1) d1)
/-- o[k] as a target, o a dict -/
theorem set_dK (hu : X.A.units + 1 < cLine) : PSet X (fun o i v H K => ∃ a H', o = .ref a ∧ DPut H a i v H' ∧ K H') := by
  intro pins s σ H o i v ov iv u K I ro ri rv h
  obtain ⟨a, H', rfl, g, q⟩ := h
  obtain rfl : ov = Value.ref a := ro
  exact d_setItem hu I g ri rv fun s' I' => ⟨H', I', q⟩
/-- str of a text or an int -/
theorem call_strV : CallR X (.type "str") (fun xs H Q => (∃ x, xs = [.str x] ∧ Q (.str x) H) ∨ ∃ i, xs = [.int i] ∧ i.natAbs.log2 < 1920 ∧ Q (.str (toString i)) H) := by
  intro pins s σ H xs us Q I r h
  rcases h with h | h
  · exact SkE.call_str_str pins s σ H xs us Q I r h
  · exact L2.call_str_int pins s σ H xs us Q I r h
end
/-- what a def promises where nothing is being shown -/
structure GOk (P : Program) (w : World) (K : PySem.W.Frag) (mg : Str → Option Value) (base : Heap) (k : Nat) (f : Addr) (fd : FuncData) (ps : List Str) (sp : Sp) : Prop where
  len : ∀ vs H Q E, sp vs H Q E → vs.length = ps.length
  go : ∀ (B : Around) (out : List Env) (s0 : Shared) (G : Hp) (ar : Args) (ws : List Value) (ys : List V) (R : VK) (Z : XK), B.guards = some [] → Room k B → Env0 P w K mg base B out s0 G → BindsTo s0 fd ar (ps.zip ws) → Vals ys ws → sp ys G R Z →
    codeAny (model P w) B (.call (.ref f) ar) (CR CX0 out P w G s0 R Z) s0
section
variable {P : Program} {w : World} {K : PySem.W.Frag} {mg : Str → Option Value} {base : Heap} {k : Nat} {x qual : Str} {f : Addr} {fd : FuncData} {N ps : List Str} {sp : Sp} {params : Arguments} {sc : Scope} {body : List Stmt}
theorem gOk_of (F : FunD K x qual params body sc [] [] f fd) (S : FnScope N ps sc) (len : ∀ vs H Q E, sp vs H Q E → vs.length = ps.length)
    (bodyG : ∀ (cdv : Value) (B : Around) (out : List Env) (s0 : Shared) (G : Hp) (ys : List V) (R : VK) (Z : XK), B.guards = some [] → Room k (B.deeper (envOfC qual sc s0.heap.objs.size f cdv)) → sp ys G R Z →
      ∃ t, PSs (cxOf CX0 P w K mg base N qual sc f cdv B out s0 G Z).nox body t ∧ t { nx := fun _ G' => R .non G', rt := R } (start N ys) G) : GOk P w K mg base (k + 1) f fd ps sp := by
  obtain ⟨oc, od, dV, kV, doc, pm, an, cdv, ct, osl, rfl, lk, hcd, _, _⟩ := F.ex
  refine ⟨len, fun B out s0 G ar ws ys R Z hg hr e0 hb r hsp => ?_⟩
  have KX : K.In s0.heap := e0.mod.kin.keeps fun b o e => (e0.bs b o e).1
  have lim : s0.heap.NoLimit := e0.mod.nolimit.keeps fun b o e => (e0.bs b o e).1
  have kinds : ∀ y ∈ ps.zip ws, sc.names.lookup y.1 = some .local ∨ (sc.names.lookup y.1 = some .cell ∧ ((cellsFrom (s0.heap.objs.size + 1) sc.names []).lookup y.1).isSome = true) := by
    rintro ⟨m, v⟩ hy
    exact (S.par m (List.of_mem_zip hy).1).imp id fun q => ⟨q, PySem.W.cellsFrom_some _ _ _ (.inl q)⟩
  refine codeAny_call_function hr.depth (KX _ _ lk) rfl S.co S.gen rfl (PySem.W.codeRec_of KX hcd) (hb _ _ _ _ ?_)
  refine wpAny_newFunctionEnv_cells S.kind kinds fun env he z y => ?_
  subst he
  obtain ⟨t, ht, hq⟩ := bodyG cdv B out s0 G ys R Z hg (hr.deeper _) hsp
  have I : Inv (cxOf CX0 P w K mg base N qual sc f cdv B out s0 G Z) [] (start N ys) G z := inv_start S hr.hd e0 (len _ _ _ _ hsp) r y
  refine ⟨lim.keeps y.toInCall.keep, codeAny_func (wpAny_mono (ht.run [] z (start N ys) G _ (I.wish _) hq) (fun fl s' hs0 => ?_) fun e s' hs => False.elim hs)⟩
  have hs := hs0.unwish
  cases fl with
  | brk => obtain ⟨_, _, _, q⟩ := hs; exact False.elim q
  | cont => obtain ⟨_, _, _, q⟩ := hs; exact False.elim q
  | next => obtain ⟨_, G', J, q⟩ := hs; exact ⟨.non, G', J.os, J.bare, J.base, J.hok, rfl, q⟩
  | ret u => obtain ⟨v, _, G', J, rv, q⟩ := hs; exact ⟨v, G', J.os, J.bare, J.base, J.hok, rv, q⟩
end
structure CalG (P : Program) (w : World) (K : PySem.W.Frag) (mg : Str → Option Value) (base : Heap) (k : Nat) (x : Str) (sp : Sp) : Prop where
  ex : ∃ (f : Addr) (fd : FuncData) (ps : List Str), GOk P w K mg base k f fd ps sp ∧ mg x = some (.ref f) ∧ PySem.W.keepIn K (.ref f) = true ∧ Binds K fd ps []
theorem calG_mk {P : Program} {w : World} {K : PySem.W.Frag} {mg : Str → Option Value} {base : Heap} {x : Str} {st : Stmt} {N ps : List Str} {k : Nat} {sp : Sp} (D : Df K mg x st) (S : FnScope N ps (defScope st))
    (bd : BdN x x st ps) (len : ∀ vs H Q E, sp vs H Q E → vs.length = ps.length)
    (bodyG : ∀ (f : Addr) (cdv : Value) (B : Around) (out : List Env) (s0 : Shared) (G : Hp) (ys : List V) (R : VK) (Z : XK), B.guards = some [] → Room k (B.deeper (envOfC x (defScope st) s0.heap.objs.size f cdv)) → sp ys G R Z →
      ∃ t, PSs (cxOf CX0 P w K mg base N x (defScope st) f cdv B out s0 G Z).nox (defBody st) t ∧ t { nx := fun _ G' => R .non G', rt := R } (start N ys) G) : CalG P w K mg base (k + 1) x sp := by
  obtain ⟨fd, F, hm⟩ := D
  exact ⟨_, fd, ps, gOk_of F S len fun cdv B out s0 G ys R Z => bodyG _ cdv B out s0 G ys R Z, hm, F.kp, F.bindsN bd⟩
theorem pe_cG {X : Cx} {k j : Nat} {x : Str} {sp : Sp} {e : Expr} {es : List Expr} {t : TA} {p pos : Pos} (hG : X.A.guards = some []) (c : CalG X.prog X.w X.K X.mg X.base k x sp) (hr : Room j X.A) (hk : k ≤ j) (hg : Gl X x) (ha : PA X (e :: es) t)
    (hdb : (x == ("__debug__" : Str)) = false := by decide) (he : starEach (e :: es) X.env = (false, eval e X.env) :: starEach es X.env := by rfl) (hpl : (backTo pos (starEach es X.env)).any (·.1) = false := by rfl) :
    PE X (.Call (.Name x p) (e :: es) [] pos) (tCall sp [] C8.E0 t) := by
  obtain ⟨f, fd, ps, F, hm, kp, b⟩ := c.ex
  refine ⟨fun pins s σ H Q I h => wpAny_Call_Name_kw (ld_glob I hg hm ?_ hdb)⟩
  refine PySem.W.callWith_K (h₀ := X.base) I.ok.mod.kin kp (thn (ha.run pos pins s σ H _ I h) fun us s1 ⟨vs, H1, I1, r, q⟩ => ⟨I1.kIn, ?_⟩) he hpl
  change sp (vs ++ []) H1 Q C8.E0 at q
  rw [List.append_nil] at q
  have hl : us.length = ps.length := by rw [← r.length]; exact F.len _ _ _ _ q
  have bb := b s1 us I1.kIn (by rw [List.append_nil]; exact hl)
  rw [List.append_nil] at bb
  refine wpAny_call (codeAny_mono (F.go X.A X.stack s1 H1 ⟨us, []⟩ us vs Q C8.E0 hG (hr.mono hk) I1.env0 bb r q) fun r s' hq => ?_)
  cases r with
  | error e => exact C8.pass0 (E := C8.E0) pins σ H1 s1 e s' I1 hq
  | ok fl =>
    cases fl with
    | ret u => exact I1.after hq
    | next => exact False.elim hq
    | brk => exact False.elim hq
    | cont => exact False.elim hq
/-- a tuple with numbers, while tuples stay -/
def iEnumT (K : PySem.W.Frag) (ta : TA) : TI := fun σ H R => ta σ H fun vs H1 => ∃ a xs, vs = [.ref a] ∧ SqT K H1 a xs ∧ R (Itet K a xs) H1
theorem pi_enumT {X : Cx} {e : Expr} {ta : TA} {p pos tpos : Pos} {elts : List Expr} {kk : Nat} (hg : Gl X "enumerate") (hm : X.mg "enumerate" = none) (ha : PA X [e] ta) (hs : starEach [e] X.env = [(false, eval e X.env)] := by rfl) :
    PI X (.Tuple elts kk tpos) (.Call (.Name "enumerate" p) [e] [] pos) (iEnumT X.K ta) := by
  refine ⟨fun pins s σ H R I h => ?_⟩
  refine Call_ (ld_blt I hg hm boot_enumerate (PyProof.Rows.callWith_type1 (thn (ha.run pos pins s σ H _ I h) fun us s1 ⟨vs, H1, I1, r1, a, xs, ex, hq, q⟩ => ?_) hs rfl))
  subst ex
  cases r1 with
  | cons r rr =>
    cases rr
    cases r
    obtain ⟨its, rv, p', hz⟩ := I1.tuple hq
    have hal : a < s1.heap.objs.size := by obtain ⟨o, ho, _⟩ := id p'; exact Heap.lt_size ho
    refine call_enum1 (begins_tuple a its.toArray) p' fun h' he hit hsz hk => wpAny_pyIter_enum he ?_
    refine ⟨s1.heap.objs.size + 1, [s1.heap.objs.size + 1, s1.heap.objs.size], _, _, H1, rfl, I1.kept (t' := s1.toks) hk, turn_enumT a (s1.heap.objs.size + 1) s1.heap.objs.size xs (Nat.ne_of_lt hal) (Nat.ne_of_gt (Nat.lt_succ_of_lt hal)), ⟨⟨.none, he⟩, ⟨_, hit, rfl, rfl⟩, Nat.succ_ne_self _⟩, fun b hb => ?_, q⟩
    have e' : b = s1.heap.objs.size + 1 ∨ b = s1.heap.objs.size := by simpa using hb
    have hle : s1.heap.objs.size ≤ b := by
      rcases e' with z | z
      · rw [z]; exact Nat.le_add_right _ _
      · rw [z]; exact Nat.le_refl _
    exact I1.fpOk hle (I1.hok.fresh hle)
end Hb
set_option Elab.async false
set_option linter.all false
set_option maxRecDepth 100000
set_option maxHeartbeats 8000000
namespace Hb
open PySem PySem.Spec PyProof.Rows L2
theorem tuple_mul_one (l : Addr) (items : Array Value) (n : Nat) (dd : Option Addr) (sl : Array (Option Value)) (u : Tok) :
    Meets (Builtin.«tuple.__mul__» ⟨[.ref l, .int 1 u], []⟩) (fun _ R s => s.heap.get? l = some { cls := .type "tuple", dict := dd, data := .seq items n, slots := sl } ∧ R (.ok (.ret (Value.ref l))) s) :=
  .of_wp fun prog w A R s h => by
    obtain ⟨hp, g, d, tk, os⟩ := s
    obtain ⟨hl, h⟩ := h
    have f1 := AutoSeq1.idx_int
    have c0 : (decide ((1 : Int) < -(2 ^ 63)) || decide ((1 : Int) ≥ 2 ^ 63)) = false := by decide
    have c1 : (items.isEmpty || (1 : Int) == 1) = true := by simp
    wp_walk using wpAny_loadPart' hl
    repeat (first
      | (refine wpAny_ite_false (decide_eq_false (by rw [c0]; exact Bool.false_ne_true)) ?_; wp_walk using wpAny_loadPart' hl)
      | (refine wpAny_ite_true (decide_eq_true (by rw [c1])) ?_; wp_walk using wpAny_loadPart' hl))
    exact ⟨_, rfl, h⟩
theorem tuple_mul_nil (l : Addr) (items : Array Value) (n : Nat) (dd : Option Addr) (sl : Array (Option Value)) (u : Tok) (ne : items.isEmpty = false) :
    Meets (Builtin.«tuple.__mul__» ⟨[.ref l, .int 0 u], []⟩) (fun _ R s => s.heap.get? l = some { cls := .type "tuple", dict := dd, data := .seq items n, slots := sl } ∧
      R (.ok (.ret (Value.ref s.heap.objs.size))) { s with heap := s.heap.push { cls := Value.type "tuple", data := Data.seq #[] }, toks := s.toks }) :=
  .of_wp fun prog w A R s h => by
    obtain ⟨hp, g, d, tk, os⟩ := s
    obtain ⟨hl, h⟩ := h
    have f1 := AutoSeq1.idx_int
    have c0 : (decide ((0 : Int) < -(2 ^ 63)) || decide ((0 : Int) ≥ 2 ^ 63)) = false := by decide
    have c1 : (items.isEmpty || (0 : Int) == 1) = false := by rw [ne]; rfl
    have c2 : (decide ((0 : Int) ≤ 0) || items.isEmpty) = true := by simp
    wp_walk using wpAny_loadPart' hl
    repeat (first
      | (refine wpAny_ite_false (decide_eq_false (by rw [c0]; exact Bool.false_ne_true)) ?_; wp_walk using wpAny_loadPart' hl)
      | (refine wpAny_ite_false (decide_eq_false (by rw [c1]; exact Bool.false_ne_true)) ?_; wp_walk using wpAny_loadPart' hl)
      | (refine wpAny_ite_true (decide_eq_true (by rw [c2])) ?_; wp_walk using wpAny_loadPart' hl))
    exact ⟨_, rfl, h⟩
/-- tuple * int, the int not below 0 -/
def rRepTA (K : PySem.W.Frag) : R2 := fun x y H Q => ∃ l k xs, x = .ref l ∧ y = .int k ∧ SqT K H l xs ∧ xs ≠ [] ∧ 0 ≤ k ∧ k ≤ 1000 ∧ xs.length ≤ 1000 ∧ ∀ p H', Same H H' → SqT K H' p (List.replicate k.toNat xs).flatten → Q (.ref p) H'
section
variable {X : Cx}
theorem op_repTA : OpR X (binaryOp .Mult) (rRepTA X.K) := by
  intro pins s σ H x y v u Q I rx ry h
  obtain ⟨l, k, xs, rfl, rfl, hT, hne, h0, h2, hz, q⟩ := h
  by_cases big : 2 ≤ k
  · exact op_repT pins s σ H _ _ v u Q I rx ry ⟨l, k, xs, rfl, rfl, hT, hne, big, h2, hz, fun p np => q p _ (Same.new np) (SqT.of upd_same)⟩
  · cases rx
    obtain ⟨t, rfl⟩ := ry
    obtain ⟨its, r, ⟨⟨cls, dd, data, sl⟩, ho, hc, n, hd⟩, hs⟩ := I.tuple hT
    simp only at hc hd
    subst hc hd
    have hle : its.length = xs.length := r.length.symm
    have hn : its ≠ [] := fun e => hne (by
      rw [e] at hle
      exact List.eq_nil_of_length_eq_zero hle.symm)
    have hi : its.toArray.isEmpty = false := by
      cases its with
      | nil => exact absurd rfl hn
      | cons a b => rfl
    by_cases k1 : k = 1
    · subst k1
      refine wpAny_binaryOp_repeat_ref (T := "tuple") (U := "int") (by decide) ⟨_, ho, rfl⟩ (fun s' => typeIs_int s' 1 t) noFill_tuple_mul F.fills_int_mul F.slot_int_rmul repeat_tuple F.slot_int_index.lookup
        (call_meets F.slot_int_rmul (typeIs_int s 1 t) F.entry_int_rmul (F.args_int_rmul_2 _ _) (int_rmul_tuple 1 t l its.toArray n dd sl)
          ⟨ho, rfl, ⟨_, ho, rfl⟩, call_meets F.slot_tuple_mul ⟨_, ho, rfl⟩ F.entry_tuple_mul (F.args_tuple_mul_2 _ _) (tuple_mul_one l its.toArray n dd sl t) ⟨ho, ?_⟩⟩)
      refine ⟨.ref l, _, I, rfl, q l H (Same.refl _) ?_⟩
      rw [show (List.replicate (1 : Int).toNat xs).flatten = xs by show (List.replicate 1 xs).flatten = xs; simp]
      exact hT
    · have k0 : k = 0 := by omega
      subst k0
      refine wpAny_binaryOp_repeat_ref (T := "tuple") (U := "int") (by decide) ⟨_, ho, rfl⟩ (fun s' => typeIs_int s' 0 t) noFill_tuple_mul F.fills_int_mul F.slot_int_rmul repeat_tuple F.slot_int_index.lookup
        (call_meets F.slot_int_rmul (typeIs_int s 0 t) F.entry_int_rmul (F.args_int_rmul_2 _ _) (int_rmul_tuple 0 t l its.toArray n dd sl)
          ⟨ho, rfl, ⟨_, ho, rfl⟩, call_meets F.slot_tuple_mul ⟨_, ho, rfl⟩ F.entry_tuple_mul (F.args_tuple_mul_2 _ _) (tuple_mul_nil l its.toArray n dd sl t hi) ⟨ho, ?_⟩⟩)
      have np : H s.heap.objs.size = none := I.hok.fresh (Nat.le_refl _)
      refine ⟨.ref s.heap.objs.size, _, I.laid (t' := s.toks) (o := .tup (List.replicate (0 : Int).toNat xs).flatten) (fun b ob q => Heap.get?_push_of_some _ q) (Nat.le_refl _) ?_, rfl, q _ _ (Same.new np) (SqT.of upd_same)⟩
      exact ⟨Nat.zero_le _, _, .nil, IsTup.new _ _⟩
end
end Hb
set_option Elab.async false
set_option linter.all false
set_option maxRecDepth 100000
set_option maxHeartbeats 8000000
namespace He
open PySem PySem.Spec PyProof.Rows L2
/-! A hook that looks at a part of the heap reached without a comparison of addresses: what was seen stands in a number's bits. -/
def withN {α : Type} (n : Nat) (k : Nat → α) : α := match n with
  | 0 => k 0
  | m + 1 => k (m + 1)
def withL {α β : Type} : List α → (List α → β) → β
  | [], k => k []
  | a :: r, k => withL r fun r' => k (a :: r')
theorem withL_eq {α β : Type} : ∀ (l : List α) (k : List α → β), withL l k = k l
  | [], _ => rfl
  | a :: r, k => withL_eq r fun r' => k (a :: r')
def newA {α : Type} : List Addr → Nat → List Addr → (List Addr → Nat → α) → α
  | [], vis, new, k => k new vis
  | a :: r, vis, new, k => match Nat.beq (Nat.land (Nat.shiftRight vis a) 1) 1 with
    | true => newA r vis new k
    | false => withN (Nat.lor vis (Nat.shiftLeft 1 a)) fun v => withN a fun a => newA r v (a :: new) k
def stepA (g : Addr → Option Obj) (front : List Addr) : List Addr := front.flatMap fun a => match g a with
  | some o => refsD o
  | none => []
def growA (g : Addr → Option Obj) : Nat → List Addr → Nat → List Addr → List Addr
  | 0, _, _, acc => acc
  | n + 1, front, vis, acc => newA (stepA g front) vis [] fun new v => growA g n new v (acc ++ new)
def asA (n : Nat) (g : Addr → Option Obj) : List Addr := withN mainGlobals fun m => growA g n [m] (Nat.shiftLeft 1 m) [m]
def obsA (n : Nat) (fa : List Fa) (fn : List DefD) (ex : PySem.W.Frag → Bool) (g : Addr → Option Obj) : AlX := withL (asA n g) fun as => withL (frT g as) fun K => (obsT fa fn [] K, ex K)
theorem obsA_is {n : Nat} {fa : List Fa} {fn : List DefD} {ex : PySem.W.Frag → Bool} {g : Addr → Option Obj} : obsA n fa fn ex g = (obsT fa fn [] (frT g (asA n g)), ex (frT g (asA n g))) := by
  unfold obsA
  rw [withL_eq, withL_eq]
theorem saysA_of {n : Nat} {fa : List Fa} {fn : List DefD} {ex : PySem.W.Frag → Bool} {w : World} {h : Heap} (e : obsA n fa fn ex h.get? = valX fn [] w) : SaysX fa fn [] [] ex w h (frT h.get? (asA n h.get?)) := by
  rw [obsA_is] at e
  have e1 : obsT fa fn [] (frT h.get? (asA n h.get?)) = valT fn [] w := congrArg (fun z : AlX => z.1) e
  have e2 : ex (frT h.get? (asA n h.get?)) = true := congrArg (fun z : AlX => z.2) e
  exact ⟨e1, e2, (fun _ hp => nomatch hp), (fun _ hp => nomatch hp), fun _ hp => nomatch hp⟩
def hookA (n : Nat) (fa : List Fa) (fn : List DefD) (ex : PySem.W.Frag → Bool) : PySem.W.Hook where
  α := AlX
  obs := fun s => obsA n fa fn ex s.heap.get?
  val := fun w => valX fn [] w
  says := fun w h => ∃ K : PySem.W.Frag, K.In h ∧ SaysX fa fn [] [] ex w h K
  of := fun _ _ e => ⟨_, frT_in, saysA_of e⟩
  keeps := fun _ _ _ ⟨K, hK, c⟩ k => ⟨K, PySem.W.Frag.In.keeps hK k, ⟨c.t, c.more, c.hd, c.out, fun p hp => k _ _ (c.empty p hp)⟩⟩
theorem obsA_eq {n : Nat} {fa : List Fa} {fn : List DefD} {ex : PySem.W.Frag → Bool} {g : Addr → Option Obj} {s : Shared} (h : ∀ a, g a = s.heap.get? a) : obsA n fa fn ex g = (hookA n fa fn ex).obs s := by
  have e : g = s.heap.get? := funext h
  rw [e] <;> rfl
end He
set_option Elab.async false
set_option linter.all false
set_option maxRecDepth 100000
set_option maxHeartbeats 4000000
/-! A body read in parts: blocks within blocks. -/
namespace Hb
open PySem PySem.Spec PyProof.Rows L2
/-- the block within a for, a while, an if -/
def inB : Stmt → List Stmt
  | .For _ _ b _ _ => b
  | .While _ b _ _ => b
  | .If _ b _ _ => b
  | _ => []
def nthB (ss : List Stmt) (i : Nat) : List Stmt := match ss[i]? with
  | some s => inB s
  | none => []
/-- a block's reading, whatever follows: with what holds ahead -/
def Part (X : Cx) (ss : List Stmt) (R : Ends → L2.St → Hp → Prop) : Prop := ∃ t, PSs X ss t ∧ ∀ D σ H, R D σ H → t D σ H
end Hb
set_option Elab.async false
set_option linter.all false
set_option maxRecDepth 100000
set_option maxHeartbeats 8000000
/-! The head with tables, properties and classmethods, its heap looked through by bits (HC3), what was seen computed once. -/
namespace He
open PySem PySem.Spec PyProof.Rows L2
def frB (n : Nat) (g : Addr → Option Obj) : PySem.W.Frag := frT g (asA n g ++ [cStatics])
def obsB (n : Nat) (fa : List Fa) (fn : List DefD) (ts : List Tab) (ex : PySem.W.Frag → Bool) (fp : List Dp) (g : Addr → Option Obj) : AlZ :=
  withL (asA n g) fun as => withL (frT g (as ++ [cStatics])) fun K => ((obsT fa fn ts K, ex K), fp.map fun p => fnP K (p.1 K))
theorem obsB_is {n : Nat} {fa : List Fa} {fn : List DefD} {ts : List Tab} {ex : PySem.W.Frag → Bool} {fp : List Dp} {g : Addr → Option Obj} :
    obsB n fa fn ts ex fp g = ((obsT fa fn ts (frB n g), ex (frB n g)), fp.map fun p => fnP (frB n g) (p.1 (frB n g))) := by
  unfold obsB frB
  rw [withL_eq, withL_eq]
def hookB (n : Nat) (fa : List Fa) (fn : List DefD) (ts : List Tab) (ex : PySem.W.Frag → Bool) (fp : List Dp) : PySem.W.Hook where
  α := AlZ
  obs := fun s => obsB n fa fn ts ex fp s.heap.get?
  val := fun w => valZ fn ts fp w
  says := fun w h => ∃ K : PySem.W.Frag, K.In h ∧ SaysZ fa fn ts ex fp w h K
  of := fun s _ e => by
    have e := obsB_is.symm.trans e
    exact ⟨_, frT_in, ⟨congrArg (fun z : AlZ => z.1.1) e, congrArg (fun z : AlZ => z.1.2) e, fun _ h => (nomatch h), fun _ h => (nomatch h), fun _ h => (nomatch h)⟩, congrArg (fun z : AlZ => z.2) e⟩
  keeps := fun _ _ _ ⟨K, hK, c⟩ k => ⟨K, PySem.W.Frag.In.keeps hK k, ⟨⟨c.x.t, c.x.more, c.x.hd, c.x.out, fun p hp => k _ _ (c.x.empty p hp)⟩, c.p⟩⟩
theorem obsB_eq {n : Nat} {fa : List Fa} {fn : List DefD} {ts : List Tab} {ex : PySem.W.Frag → Bool} {fp : List Dp} {g : Addr → Option Obj} {s : Shared} (h : ∀ a, g a = s.heap.get? a) : obsB n fa fn ts ex fp g = (hookB n fa fn ts ex fp).obs s := by
  have e : g = s.heap.get? := funext h
  rw [e] <;> rfl
end He
set_option Elab.async false
set_option linter.all false
set_option maxRecDepth 100000
set_option maxHeartbeats 4000000
/-! Dicts whose keys are data of tuples: by the object itself (ext), its entries told beside. -/
namespace Hb
open PySem PySem.Spec PyProof.Rows L2
/-! ### keys as data -/
mutual
def nk : PyData → NestedKey
  | .none => .none
  | .bool b => .num (if b = true then 1 else 0)
  | .int i => .num i
  | .str x => .text x
  | .tuple ds => .tup (nks ds)
  | .list _ => .none
  | .dict _ => .none
def nks : List PyData → List NestedKey
  | [] => []
  | d :: ds => nk d :: nks ds
end
section
variable {X : Cx} {pins : List (Addr × Obj)} {σ : L2.St} {H : Hp} {s : Shared}
mutual
theorem TD.nested (I : Inv X pins σ H s) : ∀ {v : V} {d : PyData} {u : Value}, TD X.K H v d → RelV v u → NestedIs s.heap (nk d) u
  | _, _, _, .non, r => by cases r; exact .none
  | _, _, _, .bl b, r => by cases r; exact .bool rfl
  | _, _, _, .int i, r => by obtain ⟨t, rfl⟩ := r; exact .int i t
  | _, _, _, .str x, r => by obtain ⟨t, rfl⟩ := r; exact .text x t
  | _, _, _, .tup h hs, r => by
    cases r
    obtain ⟨its, rv, p, hz⟩ := I.tuple h
    obtain ⟨o, ho, hc, n, hd⟩ := p
    refine .tup ho hc hd ?_
    have q := TDs.nested I hs rv
    simpa using q
theorem TDs.nested (I : Inv X pins σ H s) : ∀ {vs : List V} {ds : List PyData} {us : List Value}, TDs X.K H vs ds → Vals vs us → NestedAll s.heap (nks ds) us
  | _, _, _, .nil, r => by cases r; exact .nil
  | _, _, _, .cons h hs, r => by
    cases r with
    | cons r1 r2 => exact .cons (TD.nested I h r1) (TDs.nested I hs r2)
end
end
/-! ### the dict -/
def DNO (a : Addr) (o : Obj) : HO := .ext fun h => h.get? a = some o
theorem dno_ok {P : Program} {w : World} {H : Hp} {h : Heap} {a : Addr} {o : Obj} (e : h.get? a = some o) : ObjOk P w H h a (DNO a o) := ⟨e, ⟨o, e⟩, fun _ _ p k => k o p⟩
theorem dno_get {P : Program} {w : World} {H : Hp} {h : Heap} {a : Addr} {o : Obj} (ok : HOk P w H h) (e : H a = some (DNO a o)) : h.get? a = some o := by
  obtain ⟨p, _, _⟩ := (show ObjOk P w H h a (DNO a o) from ok a _ e)
  exact p
abbrev KN (K : PySem.W.Frag) (H : Hp) : List (PyData × V) → List (NestedKey × Addr × Value) → Prop := Paired fun p q => q.1 = nk p.1 ∧ TD K H (.ref q.2.1) p.1 ∧ q.1.depth ≤ 8 ∧ RelV p.2 q.2.2
structure DNIs (P : Program) (w : World) (K : PySem.W.Frag) (H : Hp) (a : Addr) (kvs : List (PyData × V)) (o : Obj) (es : Array DictEntry) (ep : Nat) (xs : List (NestedKey × Addr × Value)) : Prop where
  h : H a = some (DNO a o)
  x : o.ExactDict
  d : o.data = .dict es ep
  e : es.toList = xs.map (entryOfKey (nestedKind P w))
  k : KN K H kvs xs
  nd : (xs.map (·.1)).Nodup
  z : kvs.length ≤ sizeLine
  sm : (a == sysModules) = false
def DN (P : Program) (w : World) (K : PySem.W.Frag) (H : Hp) (a : Addr) (kvs : List (PyData × V)) : Prop := ∃ o es ep xs, DNIs P w K H a kvs o es ep xs
def valN (kvs : List (PyData × V)) (k : PyData) : Option V := valV (kvs.map fun p => (nk p.1, p.2)) (nk k)
def putN (kvs : List (PyData × V)) (k : PyData) (v : V) : List (PyData × V) := if (valN kvs k).isSome = true then kvs.map (fun p => if nk p.1 = nk k then (p.1, v) else p) else kvs ++ [(k, v)]
theorem putN_new {kvs : List (PyData × V)} {k : PyData} {v : V} (h : valN kvs k = none) : putN kvs k v = kvs ++ [(k, v)] := by
  unfold putN
  rw [h]
  exact if_neg (by decide)
theorem putN_len (kvs : List (PyData × V)) (k : PyData) (v : V) : (putN kvs k v).length ≤ kvs.length + 1 := by
  unfold putN
  split
  · rw [List.length_map]; omega
  · rw [List.length_append]; simp
section
variable {P : Program} {w : World} {K : PySem.W.Frag} {H H' : Hp} {a : Addr} {kvs : List (PyData × V)} {xs : List (NestedKey × Addr × Value)}
theorem KN.keep (t : TK H H') (r : KN K H kvs xs) : KN K H' kvs xs := Paired.mapP r fun _ _ z => ⟨z.1, TD.keep t z.2.1, z.2.2⟩
theorem DNIs.keep {o : Obj} {es : Array DictEntry} {ep : Nat} (y : DNIs P w K H a kvs o es ep xs) (t : TK H H') (e : ∀ u, H a = some u → H' a = some u) : DNIs P w K H' a kvs o es ep xs := ⟨e _ y.h, y.x, y.d, y.e, KN.keep t y.k, y.nd, y.z, y.sm⟩
theorem DN.keep (y : DN P w K H a kvs) (t : TK H H') (e : ∀ u, H a = some u → H' a = some u) : DN P w K H' a kvs := by
  obtain ⟨o, es, ep, xs, y⟩ := y
  exact ⟨o, es, ep, xs, y.keep t e⟩
theorem DN.same (y : DN P w K H a kvs) (s : Same H H') : DN P w K H' a kvs := y.keep (Same.tk s) fun _ e => s _ _ e
theorem KN.val (r : KN K H kvs xs) (k : NestedKey) : RelO (valV (kvs.map fun p => (nk p.1, p.2)) k) ((atKey xs k).map (·.2)) := by
  induction r with
  | nil => exact True.intro
  | @cons p q ps qs h t ih =>
    obtain ⟨h1, _, _, h2⟩ := h
    rw [List.map_cons]
    by_cases e : nk p.1 = k
    · have b : atKey (q :: qs) k = some q.2 := by simp [atKey, List.find?_cons, h1, e]
      rw [valV_pos (p := (nk p.1, p.2)) e, b]
      exact h2
    · have b : atKey (q :: qs) k = atKey qs k := by simp [atKey, List.find?_cons, h1, e]
      rw [valV_neg (p := (nk p.1, p.2)) e, b]
      exact ih
theorem KN.repl (r : KN K H kvs xs) (k : NestedKey) {y : V} {u : Value} (ry : RelV y u) : KN K H (kvs.map fun p => if nk p.1 = k then (p.1, y) else p) (xs.map (putAt k u)) := by
  induction r with
  | nil => exact .nil
  | @cons p q ps qs h t ih =>
    rw [List.map_cons, List.map_cons]
    refine .cons ?_ ih
    obtain ⟨h1, h2, h3, h4⟩ := h
    unfold putAt
    by_cases e : nk p.1 = k
    · rw [if_pos e, if_pos (h1.trans e)]
      exact ⟨h1, h2, h3, ry⟩
    · rw [if_neg e, if_neg (fun z => e (h1.symm.trans z))]
      exact ⟨h1, h2, h3, h4⟩
theorem KN.put (r : KN K H kvs xs) (d : PyData) {b : Addr} {y : V} {u : Value} (hb : TD K H (.ref b) d) (hd : (nk d).depth ≤ 8) (ry : RelV y u) : KN K H (putN kvs d y) (storedH xs (nk d) b u) := by
  have e : (valN kvs d).isSome = (atKey xs (nk d)).isSome := by
    have q := (r.val (nk d)).isSome_eq
    rw [Option.isSome_map] at q
    exact q
  unfold putN storedH
  rw [e]
  by_cases q : (atKey xs (nk d)).isSome = true
  · rw [if_pos q, if_pos q]
    exact r.repl _ ry
  · rw [if_neg q, if_neg q]
    exact Paired.snoc r ⟨rfl, hb, hd, ry⟩
end
section
variable {X : Cx} {pins : List (Addr × Obj)} {σ : L2.St} {H : Hp} {s : Shared} {a : Addr} {kvs : List (PyData × V)} {y v : V} {u r : Value} {d : PyData} {A : Around} {E : Value → Shared → Prop}
theorem DNIs.at (I : Inv X pins σ H s) {o : Obj} {es : Array DictEntry} {ep : Nat} {xs : List (NestedKey × Addr × Value)} (y : DNIs X.prog X.w X.K H a kvs o es ep xs) : s.heap.DictOfH (nestedKind X.prog X.w) a xs := by
  refine ⟨o, es, ep, dno_get I.hok y.h, y.x, y.d, y.e, fun q hq => ?_, y.nd⟩
  have all : ∀ {l : List (PyData × V)} {m : List (NestedKey × Addr × Value)}, KN X.K H l m → ∀ q ∈ m, (nestedKind X.prog X.w).is s.heap q.1 q.2.1 := by
    intro l m z
    induction z with
    | nil => intro q hq; exact nomatch hq
    | @cons p0 q0 ps qs h t ih =>
      intro q hq
      rcases List.mem_cons.mp hq with e | hq
      · subst e
        exact ⟨by rw [h.1]; exact TD.nested I h.2.1 rfl, h.2.2.1⟩
      · exact ih q hq
  exact all y.k q hq
theorem key_nk (I : Inv X pins σ H s) (hy : TD X.K H y d) (ry : RelV y u) (hd : (nk d).depth ≤ 8) {b : Addr} (e : u = .ref b) : (nestedKind X.prog X.w).is s.heap (nk d) b := by
  have q := TD.nested I hy ry
  rw [e] at q
  exact ⟨q, hd⟩
theorem dn_in {Q : Value → Shared → Prop} (hu : A.units + 9 < cLine) (I : Inv X pins σ H s) (g : DN X.prog X.w X.K H a kvs) (hy : TD X.K H y d) (ht : ∃ b, y = .ref b) (hd : (nk d).depth ≤ 8) (ry : RelV y u) (h : ∀ s', Inv X pins σ H s' → Q (.bool (valN kvs d).isSome) s') :
    wpAny (model X.prog X.w) A (compareOp .In u (.ref a)) Q E s := by
  obtain ⟨b, rfl⟩ := ht
  cases (show u = Value.ref b from ry)
  obtain ⟨o, es, ep, xs, g⟩ := g
  refine wpAny_in_heap (show A.in1.units + 8 < cLine by show A.units + 1 + 8 < cLine; omega) (key_nk I hy ry hd rfl) g.sm (g.at I) ?_
  have q := (g.k.val (nk d)).isSome_eq
  rw [Option.isSome_map] at q
  rw [← q]
  exact h _ (I.tok _)
theorem dn_notIn {Q : Value → Shared → Prop} (hu : A.units + 9 < cLine) (I : Inv X pins σ H s) (g : DN X.prog X.w X.K H a kvs) (hy : TD X.K H y d) (ht : ∃ b, y = .ref b) (hd : (nk d).depth ≤ 8) (ry : RelV y u) (h : ∀ s', Inv X pins σ H s' → Q (.bool (!(valN kvs d).isSome)) s') :
    wpAny (model X.prog X.w) A (compareOp .NotIn u (.ref a)) Q E s := by
  obtain ⟨b, rfl⟩ := ht
  cases (show u = Value.ref b from ry)
  obtain ⟨o, es, ep, xs, g⟩ := g
  refine wpAny_notIn_heap (show A.in1.units + 8 < cLine by show A.units + 1 + 8 < cLine; omega) (key_nk I hy ry hd rfl) g.sm (g.at I) ?_
  have q := (g.k.val (nk d)).isSome_eq
  rw [Option.isSome_map] at q
  rw [← q]
  exact h _ (I.tok _)
theorem dn_get {Q : Value → Shared → Prop} (hu : A.units + 9 < cLine) (I : Inv X pins σ H s) (g : DN X.prog X.w X.K H a kvs) (hy : TD X.K H y d) (ht : ∃ b, y = .ref b) (hd : (nk d).depth ≤ 8) (ry : RelV y u) (hv : valN kvs d = some v) (h : ∀ w' s', Inv X pins σ H s' → RelV v w' → Q w' s') :
    wpAny (model X.prog X.w) A (getItem (.ref a) u) Q E s := by
  obtain ⟨b, rfl⟩ := ht
  cases (show u = Value.ref b from ry)
  obtain ⟨o, es, ep, xs, g⟩ := g
  obtain ⟨w', hw, rw'⟩ := RelO.some_of (v := v) (o := (atKey xs (nk d)).map (·.2)) (by rw [← hv]; exact g.k.val (nk d))
  obtain ⟨p, hp, hp2⟩ := Option.map_eq_some_iff.mp hw
  refine wpAny_getItem_heap (show A.in1.units + 8 < cLine by show A.units + 1 + 8 < cLine; omega) (key_nk I hy ry hd rfl) (g.at I) hp ?_
  rw [hp2]
  exact h w' _ (I.tok _) rw'
theorem dn_set {Q : Unit → Shared → Prop} (hu : A.units + 9 < cLine) (I : Inv X pins σ H s) (g : DN X.prog X.w X.K H a kvs) (few : kvs.length < sizeLine) (hy : TD X.K H y d) (ht : ∃ b, y = .ref b) (hd : (nk d).depth ≤ 8) (ry : RelV y u) (rv : RelV v r)
    (h : ∀ o s', DN X.prog X.w X.K (upd H a (DNO a o)) a (putN kvs d v) → Inv X pins σ (upd H a (DNO a o)) s' → Q () s') : wpAny (model X.prog X.w) A (setItem (.ref a) u r) Q E s := by
  obtain ⟨b, rfl⟩ := ht
  cases (show u = Value.ref b from ry)
  obtain ⟨o, es, ep, xs, g⟩ := g
  have zl : xs.length ≤ sizeLine := by rw [← Paired.length g.k]; exact g.z
  refine wpAny_setItem_heap (hsz := zl) (show A.in1.units + 8 < cLine by show A.units + 1 + 8 < cLine; omega) (key_nk I hy ry hd rfl) (g.at I) fun h' dd' hs => ?_
  obtain ⟨o2, es2, ep2, ho2, hx2, hd2, he2, _, nd2⟩ := dd'
  have tk : TK H (upd H a (DNO a o2)) := TK.put g.h (by intro xs e; cases e) (by intro q u e; cases e)
  refine h o2 _ ⟨o2, es2, ep2, _, upd_same, hx2, hd2, he2, (g.k.put d hy hd rv).keep tk, nd2, by have := putN_len kvs d v; omega, g.sm⟩ ?_
  exact d_write I (by rw [g.h]; exact True.intro) hs ⟨o2, ho2⟩ (dno_ok ho2)
theorem dn_typeIs (I : Inv X pins σ H s) (g : DN X.prog X.w X.K H a kvs) : s.TypeIs (.ref a) "dict" := by
  obtain ⟨o, es, ep, xs, g⟩ := g
  exact (g.at I).typeIs
end
/-! ### readings and rules -/
/-- y in d, y not in d -/
def tNIn (P : Program) (w : World) (K : PySem.W.Frag) (neg : Bool) (ty td : TE) : TE := fun σ H Q => ty σ H fun y H1 => td σ H1 fun x H2 => ∃ a kvs b d, x = .ref a ∧ y = .ref b ∧ DN P w K H2 a kvs ∧ TD K H2 (.ref b) d ∧ (nk d).depth ≤ 8 ∧ Q (.bl (if neg = true then !(valN kvs d).isSome else (valN kvs d).isSome)) H2
/-- d[y] -/
def tNGet (P : Program) (w : World) (K : PySem.W.Frag) (td ty : TE) : TE := fun σ H Q => td σ H fun x H1 => ty σ H1 fun y H2 => ∃ a kvs b d v, x = .ref a ∧ y = .ref b ∧ DN P w K H2 a kvs ∧ TD K H2 (.ref b) d ∧ (nk d).depth ≤ 8 ∧ valN kvs d = some v ∧ Q v H2
/-- d[y] = v -/
def sNPut (P : Program) (w : World) (K : PySem.W.Frag) (td ty tv : TE) : TS := fun D σ H => tv σ H fun v H1 => td σ H1 fun x H2 => ty σ H2 fun y H3 => ∃ a kvs b d, x = .ref a ∧ y = .ref b ∧ DN P w K H3 a kvs ∧ TD K H3 (.ref b) d ∧ (nk d).depth ≤ 8 ∧ kvs.length < sizeLine ∧
  ∀ o, DN P w K (upd H3 a (DNO a o)) a (putN kvs d v) → D.nx σ (upd H3 a (DNO a o))
section
variable {X : Cx} {o i value : Expr} {pos pos' : Pos} {td ty tv : TE}
theorem pc_nin (hu : X.A.units + 9 < cLine) (hi : PE X i ty) (ho : PE X o td) : PC X .In i o (tNIn X.prog X.w X.K false ty td) := by
  refine ⟨fun pins s σ H Q I h => ?_⟩
  refine thn (hi.run pins s σ H _ I h) fun iv s1 ⟨y, H1, I1, ry, q1⟩ => thn (ho.run pins s1 σ H1 _ I1 q1) fun u s2 ⟨x, H2, I2, rx, a, kvs, b, d, ex, ey, g, hd, dp, q2⟩ => ?_
  subst ex ey
  obtain rfl : u = Value.ref a := rx
  exact dn_in hu I2 g hd ⟨b, rfl⟩ dp ry fun s3 I3 => ⟨.bl _, H2, I3, rfl, q2⟩
theorem pc_nnotin (hu : X.A.units + 9 < cLine) (hi : PE X i ty) (ho : PE X o td) : PC X .NotIn i o (tNIn X.prog X.w X.K true ty td) := by
  refine ⟨fun pins s σ H Q I h => ?_⟩
  refine thn (hi.run pins s σ H _ I h) fun iv s1 ⟨y, H1, I1, ry, q1⟩ => thn (ho.run pins s1 σ H1 _ I1 q1) fun u s2 ⟨x, H2, I2, rx, a, kvs, b, d, ex, ey, g, hd, dp, q2⟩ => ?_
  subst ex ey
  obtain rfl : u = Value.ref a := rx
  exact dn_notIn hu I2 g hd ⟨b, rfl⟩ dp ry fun s3 I3 => ⟨.bl _, H2, I3, rfl, q2⟩
theorem pe_nget (hu : X.A.units + 9 < cLine) (ho : PE X o td) (hi : PE X i ty) (hs : NoSl i) : PE X (.Subscript o i pos) (tNGet X.prog X.w X.K td ty) := by
  refine ⟨fun pins s σ H Q I h => ?_⟩
  refine subD_of PySem.F.slot_dict_getitem.lookup hs (thn (ho.run pins s σ H _ I h) fun u s1 ⟨x, H1, I1, rx, q1⟩ => thn (hi.run pins s1 σ H1 _ I1 q1) fun iv s2 ⟨y, H2, I2, ry, a, kvs, b, d, v, ex, ey, g, hd, dp, hv, q2⟩ => ?_)
  subst ex ey
  obtain rfl : u = Value.ref a := rx
  exact ⟨dn_typeIs I2 g, dn_get hu I2 g hd ⟨b, rfl⟩ dp ry hv fun w' s3 I3 rw' => ⟨v, H2, I3, rw', q2⟩⟩
theorem ps_nput (hu : X.A.units + 9 < cLine) (ho : PE X o td) (hi : PE X i ty) (hv : PE X value tv) (hs : swapsWith value (some (.Subscript o i pos')) pos.line X.env = pure false) :
    PS X (.Assign [.Subscript o i pos'] value pos) (sNPut X.prog X.w X.K td ty tv) := by
  refine ⟨fun pins s σ H D I h => ?_⟩
  refine wpAny_Assign_Subscript (thn (hv.run pins s σ H _ I h) fun r s1 ⟨v, H1, I1, rv, q1⟩ => thn (ho.run pins s1 σ H1 _ I1 q1) fun u s2 ⟨x, H2, I2, rx, q2⟩ => thn (hi.run pins s2 σ H2 _ I2 q2) fun iv s3 ⟨y, H3, I3, ry, a, kvs, b, d, ex, ey, g, hd, dp, few, q3⟩ => ?_) hs
  subst ex ey
  obtain rfl : u = Value.ref a := rx
  exact dn_set hu I3 g few hd ⟨b, rfl⟩ dp ry rv fun o2 s4 g2 I4 => ⟨σ, _, I4, q3 o2 g2⟩
end
/-! ### walks over the keys -/
def ItN (d : Addr) (o : Obj) (bs : List Addr) : It :=
  ⟨fun i H => H d = some (DNO d o) ∧ i < bs.length, fun i H x H' => H' = H ∧ ∃ b, bs[i]? = some b ∧ x = .ref b, fun i H => H d = some (DNO d o) ∧ bs.length ≤ i⟩
section
variable {P : Program} {w : World} {K : PySem.W.Frag} {tg : Expr} {d : Addr} {o : Obj} {es : Array DictEntry} {ep : Nat}
theorem turn_keysN {bs : List Addr} (it : Addr) (hod : o.data = .dict es ep) (hx : o.ExactDict) (hz : es.size = bs.length) (hk : ∀ (i : Nat) (b : Addr), bs[i]? = some b → ∃ en, es[i]? = some en ∧ en.key = .ref b) :
    L2.Turn P w K tg (ItN d o bs) [it] it (fun i h => h.IsKeyIter it d i bs.length ep) where
  mem := by simp
  obj := fun i h st b hb => by
    have e : b = it := by simpa using hb
    subst e
    obtain ⟨oi, e, c, dd⟩ := st
    exact ⟨oi, e, fun v z => by rw [dd] at z; cases z⟩
  keep := fun i h h' st k => st.at fun oi e => k it (by simp) oi e
  item := by
    intro X hP hw hK hc i pins s σ H E I hf st hg
    subst hP hw hK
    obtain ⟨hd, hi⟩ := hg
    obtain ⟨f0, f1, f2, f3, f4, f5⟩ := hf it (by simp)
    have hgd := dno_get I.hok hd
    obtain ⟨b, hb⟩ : ∃ b, bs[i]? = some b := ⟨bs[i], List.getElem?_eq_getElem hi⟩
    obtain ⟨en, hen, hkey⟩ := hk i b hb
    refine next_key_item st hgd hod hz hen fun h' st' sb => ?_
    have I1 : Inv X pins σ H { s with heap := h' } := I.turned (t' := s.toks) (fun b ob hb e => (sb.2 b hb).trans e) f0 f1 f3 f4 f5
    obtain ⟨oi, e, c, dd⟩ := id st'
    exact ⟨en.key, rfl, go_of (s := { s with heap := h' }) e c dd (by decide) ⟨.ref b, H, I1, hkey, ⟨rfl, b, hb, rfl⟩, st', fun b hb => (hf b hb).1⟩⟩
  done := by
    intro X hP hw hK hc i pins s σ H E I hf st hg
    subst hP hw hK
    obtain ⟨hd, hi⟩ := hg
    obtain ⟨f0, f1, f2, f3, f4, f5⟩ := hf it (by simp)
    have hgd := dno_get I.hok hd
    exact next_key_end (I.ok.hd hc) st hgd hod hz hi fun h' eb => ⟨rfl, I.turned (t' := s.toks) (fun b ob hb e => eb b ob hb e) f0 f1 f3 f4 f5⟩
  self := fun A i s Q E st h => by
    refine wpAny_pyIter_slot st.typeIs F.slot_dict_keyiterator_iter (wpAny_call_entry F.slot_dict_keyiterator_iter st.typeIs F.entry_dict_keyiterator_iter ?_ (F.args_dict_keyiterator_iter_1 _))
    show wpAny _ _ (ret (.ref it)) _ _ s
    exact wpAny_pure ⟨_, rfl, "dict_keyiterator", _, st.typeIs, F.slot_dict_keyiterator_next.lookup, h⟩
/-- for k in d -/
def iKeysN (P : Program) (w : World) (K : PySem.W.Frag) (td : TE) : TI := fun σ H R => td σ H fun x H1 => ∃ d kvs, x = .ref d ∧ DN P w K H1 d kvs ∧ ∀ o (bs : List Addr), bs.length = kvs.length → H1 d = some (DNO d o) → (∀ (i : Nat) (b : Addr), bs[i]? = some b → ∃ p : PyData × V, kvs[i]? = some p ∧ TD K H1 (.ref b) p.1) → R (ItN d o bs) H1
theorem pi_keysN {X : Cx} {tg e : Expr} {td : TE} (he : PE X e td) : PI X tg e (iKeysN X.prog X.w X.K td) := by
  refine ⟨fun pins s σ H R I h => ?_⟩
  refine thn (he.run pins s σ H _ I h) fun u s1 ⟨x, H1, I1, rx, d, kvs, ex, g, q⟩ => ?_
  subst ex
  obtain rfl : u = Value.ref d := rx
  obtain ⟨o, es, ep, xs, g⟩ := g
  have hgd := dno_get I1.hok g.h
  have len : xs.length = kvs.length := (Paired.length g.k).symm
  have es1 : es.size = xs.length := by rw [← Array.length_toList, g.e, List.length_map]
  have hk : ∀ (i : Nat) (b : Addr), (xs.map (·.2.1))[i]? = some b → ∃ en, es[i]? = some en ∧ en.key = .ref b := fun i b hb => by
    rw [List.getElem?_map] at hb
    obtain ⟨p, hp, rfl⟩ := Option.map_eq_some_iff.mp hb
    refine ⟨entryOfKey (nestedKind X.prog X.w) p, ?_, rfl⟩
    rw [← Array.getElem?_toList, g.e, List.getElem?_map, hp]
    rfl
  have all : ∀ (i : Nat) (b : Addr), (xs.map (·.2.1))[i]? = some b → ∃ p, kvs[i]? = some p ∧ TD X.K H1 (.ref b) p.1 := fun i b hb => by
    rw [List.getElem?_map] at hb
    obtain ⟨p, hp, rfl⟩ := Option.map_eq_some_iff.mp hb
    have go : ∀ {l : List (PyData × V)} {m : List (NestedKey × Addr × Value)} {i : Nat}, KN X.K H1 l m → m[i]? = some p → ∃ p', l[i]? = some p' ∧ TD X.K H1 (.ref p.2.1) p'.1 := by
      intro l m i z
      induction z generalizing i with
      | nil => intro e; simp at e
      | @cons p0 q0 ps qs h t ih =>
        intro e
        cases i with
        | zero => simp at e; subst e; exact ⟨p0, rfl, h.2.1⟩
        | succ i => obtain ⟨p', e1, e2⟩ := ih (i := i) (by simpa using e); exact ⟨p', by simpa using e1, e2⟩
    exact go g.k hp
  refine iter_keys g.sm hgd g.x g.d (pi_one (tk := s1.toks) I1 _ (turn_keysN (bs := xs.map (·.2.1)) _ g.d g.x (by rw [List.length_map]; exact es1) hk) ⟨_, Heap.get?_push_size _ rfl, rfl, ?_⟩ (q o _ (by rw [List.length_map]; exact len) g.h all))
  rw [List.length_map, es1] <;> rfl
theorem walk_keysN {bs : List Addr} : Walk (ItN d o bs) bs.length (fun H => H d = some (DNO d o)) (fun i H x H' => H' = H ∧ ∃ b, bs[i]? = some b ∧ x = .ref b) :=
  ⟨fun i _ hi q => ⟨q, hi⟩, fun _ q => ⟨q, Nat.le_refl _⟩, fun _ _ _ _ _ _ y => y⟩
end
/-! ### a display of one pair -/
theorem Dict_pairsOf {prog : Program} {w : World} {K : Type} [DecidableEq K] {knd : HeapKind prog w K} {A : Around} {E : Value → Shared → Prop} {s : Shared} {env : Env} {keys : List (Option Expr)} {values : List Expr} {pos : Pos} {pairs : List (Sem Value × Sem Value)} {Q : Value → Shared → Prop} (hu : knd.room A)
    (hshape : (evalEachOpt keys env).zip ((evalEach values env).map fun v => do let x ← v; standAt pos; pure x) = pairs.map fun p => (some p.1, p.2)) (h0 : pairs ≠ []) (hlen : pairs.length ≤ 15)
    (h : wpAny (model prog w) A (evalPairs pairs) (fun vs s₁ => ∃ ps, CarriesH knd s₁.heap vs ps ∧ s₁.heap.DictOfH knd s.heap.objs.size [] ∧
      ∀ h' tk, h'.DictOfH knd s.heap.objs.size (storedAllH [] ps) → Heap.SameBut s.heap.objs.size s₁.heap h' → Q (.ref s.heap.objs.size) { s₁ with heap := h', toks := tk }) E
      { s with heap := s.heap.push { cls := .type "dict", data := .dict #[] } }) :
    wpAny (model prog w) A (eval (.Dict keys values pos) env) Q E s := by
  rw [arm_eval_Dict, hshape, dictDisplay_pairs pairs h0 (by omega)]
  exact wpAny_bind (wpAny_standAt (wpAny_bind (wpAny_subDictH (knd := knd) (Q := fun d s' => wpAny (model prog w) A (pure (Value.ref d)) Q E s') hu hlen
    (wpAny_mono h (fun vs s₁ h₁ => by obtain ⟨ps, hc, hm, hq⟩ := h₁; exact ⟨ps, hc, hm, fun h' tk a b => wpAny_pure (hq h' tk a b)⟩) fun _ _ e => e))))
def tNDisp1 (P : Program) (w : World) (K : PySem.W.Frag) (tk tv : TE) : TE := fun σ H Q => ∀ p, H p = none → tPairs [(tk, tv)] σ (upd H p (.dT [])) fun ps H2 => H2 p = some (.dT []) ∧ ∃ b d v, ps = [(.ref b, v)] ∧ TD K H2 (.ref b) d ∧ (nk d).depth ≤ 8 ∧ ∀ o, DN P w K (upd H2 p (DNO p o)) p [(d, v)] → Q (.ref p) (upd H2 p (DNO p o))
theorem pe_ndisp1 {X : Cx} {k v : Expr} {pos : Pos} {tk tv : TE} (hu : X.A.units + 9 < cLine) (hk : PE X k tk) (hv : PE X v tv)
    (hshape : (evalEachOpt [some k] X.env).zip ((evalEach [v] X.env).map fun v => do let x ← v; standAt pos; pure x) = (pairTrees [some k] [v] X.env pos).map fun p => (some p.1, p.2) := by rfl) :
    PE X (.Dict [some k] [v] pos) (tNDisp1 X.prog X.w X.K tk tv) := by
  refine ⟨fun pins s σ H Q I q => ?_⟩
  have hn := I.hok.fresh (Nat.le_refl s.heap.objs.size)
  have I1 := I.laid (a := s.heap.objs.size) (o := .dT []) (h' := s.heap.push { cls := .type "dict", data := .dict #[] }) (t' := s.toks) (fun _ _ q => Heap.get?_push_of_some _ q) (Nat.le_refl _) (dt_empty s.heap I.big)
  have pp : PPs X pos [some k] [v] [(tk, tv)] := pps_cons hk hv pps_nil
  refine Dict_pairsOf (knd := nestedKind X.prog X.w) (show X.A.units + 8 < cLine by omega) hshape (by intro e; cases e) (by show 1 ≤ 15; decide) ?_
  refine thn (pp.run pins _ σ _ _ I1 (q _ hn)) fun ws s2 ⟨ps, H2, I2, rel, hp, b, d, y, eps, hd, dp, q2⟩ => ?_
  subst eps
  cases rel with
  | @cons p0 w0 _ ws0 r1 r2 =>
    cases r2
    obtain ⟨u1, u2⟩ := w0
    obtain ⟨ra, rb⟩ := r1
    cases (show u1 = Value.ref b from ra)
    obtain ⟨_, sm, xs0, kt0, o0, es0, ep0, ho0, hx0, hd0, he0, hn0⟩ := (show ObjOk X.prog X.w H2 s2.heap s.heap.objs.size (.dT []) from I2.hok _ _ hp)
    cases kt0
    refine ⟨[(nk d, b, u2)], ⟨rfl, rfl, key_nk I2 hd (show RelV (.ref b) (.ref b) from rfl) dp rfl, trivial⟩, ⟨o0, es0, ep0, ho0, hx0, hd0, he0, (fun _ h => nomatch h), List.nodup_nil⟩, fun h' tk' hm hs => ?_⟩
    obtain ⟨o2, es2, ep2, ho2, hx2, hd2, he2, hi2, nd2⟩ := hm
    have tkp : TK H2 (upd H2 s.heap.objs.size (DNO s.heap.objs.size o2)) := TK.put hp (by intro xs e; cases e) (by intro q u e; cases e)
    have e1 : storedAllH [] [(nk d, b, u2)] = [(nk d, b, u2)] := rfl
    rw [e1] at he2 nd2
    refine ⟨.ref s.heap.objs.size, _, d_write I2 (by rw [hp]; exact True.intro) hs ⟨o2, ho2⟩ (dno_ok ho2), rfl, q2 o2 ⟨o2, es2, ep2, _, upd_same, hx2, hd2, he2, .cons ⟨rfl, TD.keep tkp hd, dp, rb⟩ .nil, nd2, by show 1 ≤ sizeLine; decide, sm⟩⟩
end Hb
set_option Elab.async false
set_option linter.all false
set_option maxRecDepth 100000
set_option maxHeartbeats 4000000
/-! The set of ints {e for a in A for b in B}. -/
namespace Hb
open PySem PySem.Spec PyProof.Rows L2
/-- the comprehension itself -/
abbrev sC (e ta ia tb ib : Expr) (sc : Scope) (ps : Pos) : Expr := .SetComp e [⟨ta, ia, [], 0⟩, ⟨tb, ib, [], 0⟩] sc ps
section
variable {prog : Program} {w : World} {A : Around} {R : Result → Shared → Prop} {s : Shared} {e ta ia tb ib : Expr} {sc : Scope} {ps : Pos} {it acc : Value} {env : Env}
theorem sC_outer : compTurn (sC e ta ia tb ib sc ps) 0 it acc env = (do
      standAt ia.pos
      match ← pyNext it with
      | none => pure (.done .next)
      | some item =>
        letOwnedTupleGo ta it item
        assign ta env item
        let mut good := true
        for q in ([] : List Expr) do
          if good then good ← isTrue q env (eval q env)
        if good then
          let src ← eval ib env
          standAt ib.pos
          let src ← foldedSetIterable ib env src
          let _ ← runOwn (.compStart (sC e ta ia tb ib sc ps) 1 (← holding [src] (pyIter src)) acc env) env
        again (.compLoop (sC e ta ia tb ib sc ps) 0 it acc env)) := by rfl
theorem sC_inner : compTurn (sC e ta ia tb ib sc ps) 1 it acc env = (do
      standAt ib.pos
      match ← pyNext it with
      | none => pure (.done .next)
      | some item =>
        letOwnedTupleGo tb it item
        assign tb env item
        let mut good := true
        for q in ([] : List Expr) do
          if good then good ← isTrue q env (eval q env)
        if good then
          (do let got ← eval e env; standAt e.pos; let _ ← call (.builtin "set.add") [acc, got])
        again (.compLoop (sC e ta ia tb ib sc ps) 1 it acc env)) := by rfl
/-- what is wanted of an exception on the way -/
abbrev Xw (prog : Program) (w : World) (A : Around) (env : Env) (R : Result → Shared → Prop) : Value → Shared → Prop := notedBy (model prog w) A env fun x z => R (.error x) z
theorem sC_out_loop (hs : ∀ x, foldedSetIterable ib env x = pure x) (Z : Nat → Shared → Prop)
    (go : ∀ n z, Z n z → wpAny (model prog w) A (pyNext it) (fun r z1 => match r with
      | none => R (.ok .next) z1
      | some u => wpAny (model prog w) A (letOwnedTupleGo ta it u) (fun _ z2 => wpAny (model prog w) A (assign ta env u) (fun _ z3 =>
          wpAny (model prog w) A (eval ib env) (fun x z4 => wpAny (model prog w) A (pyIter x) (fun jt z5 =>
            codeAny (model prog w) A (.compStart (sC e ta ia tb ib sc ps) 1 jt acc env) (fun r z6 => match r with
              | .ok _ => ∃ m, m < n ∧ Z m z6
              | .error _ => False) z5) (Xw prog w A env R) z4) (Xw prog w A env R) z3) (Xw prog w A env R) z2) (Xw prog w A env R) z1) (Xw prog w A env R) z)
    (n : Nat) (h : Z n s) : codeAny (model prog w) A (.compLoop (sC e ta ia tb ib sc ps) 0 it acc env) R s := by
  refine codeAny_loop rfl Z (fun n z hz => ?_) n h
  show wpAny _ A ((compTurn (sC e ta ia tb ib sc ps) 0 it acc env).onRaise (fun x => do noteFrame x env; theTreesLotGoes x)) _ _ z
  refine wpAny_noted ?_
  rw [sC_outer]
  refine wpAny_bind (wpAny_standAt (wpAny_bind (wpAny_mono (go n z hz) (fun r z1 h1 => ?_) fun _ _ q => q)))
  cases r with
  | none => exact wpAny_pure h1
  | some u =>
    refine wpAny_bind (wpAny_mono h1 (fun _ z2 h2 => wpAny_bind (wpAny_mono h2 (fun _ z3 h3 => ?_) fun _ _ q => q)) fun _ _ q => q)
    refine wpAny_bind (wpAny_tests_nil ?_)
    dsimp only
    rw [if_pos rfl]
    refine wpAny_bind (wpAny_mono h3 (fun x z4 h4 => ?_) fun _ _ q => q)
    refine wpAny_bind (wpAny_standAt (wpAny_bind (wpAny_of_eq (hs x) (wpAny_bind (wpAny_holding (wpAny_mono h4 (fun jt z5 h5 => ?_) fun _ _ q => q))))))
    refine wpAny_bind (wpAny_runOwn ?_)
    rw [Around.mark_none]
    refine codeAny_mono h5 fun r z6 hr => ?_
    cases r with
    | error x => exact hr.elim
    | ok fl =>
      first
        | exact wpAny_pure ⟨rfl, hr⟩
        | exact wpAny_bind (wpAny_pure (wpAny_pure ⟨rfl, hr⟩))
theorem sC_in_loop (Z : Nat → Shared → Prop)
    (go : ∀ n z, Z n z → wpAny (model prog w) A (pyNext it) (fun r z1 => match r with
      | none => R (.ok .next) z1
      | some u => wpAny (model prog w) A (letOwnedTupleGo tb it u) (fun _ z2 => wpAny (model prog w) A (assign tb env u) (fun _ z3 =>
          wpAny (model prog w) A (eval e env) (fun x z4 => wpAny (model prog w) A (call (.builtin "set.add") [acc, x]) (fun _ z5 => ∃ m, m < n ∧ Z m z5) (Xw prog w A env R) z4) (Xw prog w A env R) z3) (Xw prog w A env R) z2) (Xw prog w A env R) z1) (Xw prog w A env R) z)
    (n : Nat) (h : Z n s) : codeAny (model prog w) A (.compLoop (sC e ta ia tb ib sc ps) 1 it acc env) R s := by
  refine codeAny_loop rfl Z (fun n z hz => ?_) n h
  show wpAny _ A ((compTurn (sC e ta ia tb ib sc ps) 1 it acc env).onRaise (fun x => do noteFrame x env; theTreesLotGoes x)) _ _ z
  refine wpAny_noted ?_
  rw [sC_inner]
  refine wpAny_bind (wpAny_standAt (wpAny_bind (wpAny_mono (go n z hz) (fun r z1 h1 => ?_) fun _ _ q => q)))
  cases r with
  | none => exact wpAny_pure h1
  | some u =>
    refine wpAny_bind (wpAny_mono h1 (fun _ z2 h2 => wpAny_bind (wpAny_mono h2 (fun _ z3 h3 => ?_) fun _ _ q => q)) fun _ _ q => q)
    refine wpAny_bind (wpAny_tests_nil ?_)
    dsimp only
    rw [if_pos rfl]
    exact wpAny_bind (wpAny_bind (wpAny_mono h3 (fun x z4 h4 => wpAny_bind (wpAny_standAt (wpAny_bind (wpAny_mono h4 (fun _ z5 h5 => wpAny_pure (wpAny_pure ⟨rfl, h5⟩)) fun _ _ q => q)))) fun _ _ q => q))
theorem sC_start (h0 : codeAny (model prog w) A (.compLoop (sC e ta ia tb ib sc ps) 1 it acc env) R s)
    (h : wpAny (model prog w) A (pyIter it) (fun jt z => codeAny (model prog w) A (.compLoop (sC e ta ia tb ib sc ps) 1 jt acc env) R z) (Xw prog w A env R) s) :
    codeAny (model prog w) A (.compStart (sC e ta ia tb ib sc ps) 1 it acc env) R s := by
  refine codeAny_of_tree ?_
  show wpAny _ _ ((compStart (sC e ta ia tb ib sc ps) 1 it acc env).onRaise (fun x => do noteFrame x env; standAt theWindowsPlace)) _ _ s
  refine wpAny_notedAt ?_
  unfold compStart
  show wpAny _ _ (ask >>= _) _ _ s
  refine wpAny_bind (wpAny_askSetting (wpAny_ite ?_))
  split
  · first
      | exact wpAny_pure (And.intro rfl h0)
      | exact wpAny_bind (wpAny_pure (wpAny_pure (And.intro rfl h0)))
  · first
      | exact wpAny_bind (wpAny_rule (wpAny_bind (wpAny_standAt (wpAny_bind (wpAny_mono h (fun jt z q => wpAny_pure (And.intro rfl q)) fun _ _ q => q)))))
      | (refine wpAny_bind (wpAny_rule ?_); show wpAny _ _ (standAt ib.pos >>= _) _ _ s; exact wpAny_bind (wpAny_standAt (wpAny_bind (wpAny_mono h (fun jt z q => wpAny_pure (And.intro rfl q)) fun _ _ q => q))))
end
/-- the reading: D the new set; va the names of the block, vb those of the second target -/
def tSc2 (w : World) (wa : TI) (ga : TG) (wb : TI) (gb : TG) (te : TE) (va vb : List Nat) : TE := fun σ H Q => wa σ H fun J H1 => ∀ D, H1 D = none → ∃ W : Nat → Nat → Hp → Prop, (∃ m, W 0 m (upd H1 D (SetO w D (fun _ => false) 0))) ∧ ∀ i m H, W i m H →
  (J.stop i H ∧ Q (.ref D) H) ∨ (J.go i H ∧ ∃ Y : Hp → Prop, (∀ H', Y H' → ∃ m', m' < m ∧ W (i + 1) m' H') ∧ ∀ x H', J.yld i H x H' → ga x (wipe σ va) H' fun σ2 H2 => wipe σ2 va = wipe σ va ∧
    wb σ2 H2 fun J1 H4 => ∃ W1 : Nat → Nat → Hp → Prop, (∃ m, W1 0 m H4) ∧ ∀ j k H, W1 j k H →
      (J1.stop j H ∧ Y H) ∨ (J1.go j H ∧ ∃ Y1 : Hp → Prop, (∀ H', Y1 H' → ∃ k', k' < k ∧ W1 (j + 1) k' H') ∧ ∀ x H', J1.yld j H x H' → gb x (wipe σ2 vb) H' fun σ3 H5 => wipe σ3 vb = wipe σ2 vb ∧
        te σ3 H5 fun y H7 => ∃ (c : Int) (S : Int → Bool) (n : Nat), y = .int c ∧ H7 D = some (SetO w D S n) ∧ n + 1 < scanBound ∧ Y1 (upd H7 D (SetO w D (fun q => S q || decide (q = c)) (if S c = true then n else n + 1)))))
section
variable {X : Cx} {e ta ia tb ib : Expr} {sc : Scope} {own : List (PySem.Str × Nat)} {vb : List Nat} {pos : Pos} {wa wb : TI} {ga gb : TG} {te : TE}
theorem pe_sc2 (calm : X.calm = true) (ndN : X.N.Nodup) (hA : PI X ta ia wa) (ok : BlkOk X.N X.env.scope sc own) (sub : ∀ i ∈ vb, i ∈ own.map (·.2))
    (hga : ∀ (s : Shared) (H : Hp) (C : Addr) (cl : List (PySem.Str × Addr)) (fp : List Addr), PG (X.blk s H sc (compEnvC sc cl C X.env) fp) ta ga)
    (hB : ∀ (s : Shared) (H : Hp) (C : Addr) (cl : List (PySem.Str × Addr)) (fp : List Addr), PI (X.blk s H sc (compEnvC sc cl C X.env) fp) tb ib wb)
    (hgb : ∀ (s : Shared) (H : Hp) (C : Addr) (cl : List (PySem.Str × Addr)) (fp : List Addr), PG (X.blk s H sc (compEnvC sc cl C X.env) fp) tb gb)
    (hel : ∀ (s : Shared) (H : Hp) (C : Addr) (cl : List (PySem.Str × Addr)) (fp : List Addr), PE (X.blk s H sc (compEnvC sc cl C X.env) fp) e te)
    (fa : ∀ x, foldedSetIterable ia X.env x = pure x := by intro _; rfl) (fb : ∀ env x, foldedSetIterable ib env x = pure x := by intro _ _; rfl) :
    PE X (sC e ta ia tb ib sc pos) (tSc2 X.w wa ga wb gb te (own.map (·.2)) vb) := by
  refine ⟨fun pins s σ H Q I rd => ?_⟩
  rw [PpSet.eval_SetComp]
  have frees : ∀ y ∈ sc.names, y.2 = .free → ∃ c, X.env.cells.lookup y.1 = some c := fun y hy ey => by
    rcases ok.free y hy ey with z | z
    · exact I.ok.has _ (.inl z)
    · exact I.ok.has _ (.inr z)
  refine wpAny_comprehension_free (use := none) rfl fa (closure_ok frees) ok.kind (fun y hy ey => by rw [ok.uniq y hy, ey]) (thn (hA.run pins s σ H _ I rd) fun xv z1 hx => thn hx fun itv z2 got => ?_)
  obtain ⟨it, fp, tn, J, H2, e2, I2, T, st2, f2, rest⟩ := got
  subst e2
  refine PpSet.newSet_ok (newEnv_comp ?_)
  generalize eD : z2.heap.objs.size = D
  have nD : H2 D = none := I2.hok.fresh (Nat.le_of_eq eD)
  obtain ⟨W, ⟨m0, w0⟩, turn⟩ := rest D nD
  -- the set stands there, empty
  have e3 : ∃ z3 : Shared, z3 = { z2 with heap := z2.heap.push { cls := .type "set", dict := none, data := .set #[] 0 (.fresh 0 0 (!X.w.params.followText "set-order")) } } := ⟨_, rfl⟩
  obtain ⟨z3, e3⟩ := e3
  rw [← e3]
  have hp3 : z3.heap = z2.heap.push { cls := .type "set", dict := none, data := .set #[] 0 (.fresh 0 0 (!X.w.params.followText "set-order")) } := by rw [e3]
  have old3 : ∀ b o, z2.heap.get? b = some o → z3.heap.get? b = some o := fun b o q => by
    rw [hp3]
    exact Heap.get?_push_of_some _ q
  have I3 : Inv X pins σ (upd H2 D (SetO X.w D (fun _ => false) 0)) z3 := by
    rw [e3]
    refine I2.laid (t' := z2.toks) (fun b o q => Heap.get?_push_of_some _ q) (Nat.le_of_eq eD) ?_
    rw [← eD]
    exact setO_new (setR_fresh X.w)
  have small : ∀ b ∈ fp, b < z2.heap.objs.size := fun b hb => (T.obj _ _ st2 b hb).elim fun o q => Heap.lt_size q.1
  have f3 : ∀ b ∈ fp, FpOk X pins (upd H2 D (SetO X.w D (fun _ => false) 0)) b ∧ b < z3.heap.objs.size := fun b hb => by
    have lt := small b hb
    refine ⟨⟨?_, (f2 b hb).2⟩, ?_⟩
    · rw [upd_ne (by rw [← eD]; exact Nat.ne_of_lt lt)]
      exact (f2 b hb).1
    · rw [hp3, Heap.size_push]
      exact Nat.lt_succ_of_lt lt
  have st3 : tn 0 z3.heap := T.keep _ _ _ st2 fun b _ o q => old3 b o q
  have I4 := block_start I3 ok ndN f3
  have clean : ∀ b ∈ fp, (upd H2 D (SetO X.w D (fun _ => false) 0)) b = none := fun b hb => (f3 b hb).1.1
  have pga := hga z3 (upd H2 D (SetO X.w D (fun _ => false) 0)) z3.heap.objs.size (cellsFrom (z3.heap.objs.size + 1) sc.names (cloFrom X.env.cells sc.names [])) fp
  have piB := hB z3 (upd H2 D (SetO X.w D (fun _ => false) 0)) z3.heap.objs.size (cellsFrom (z3.heap.objs.size + 1) sc.names (cloFrom X.env.cells sc.names [])) fp
  have pgb := hgb z3 (upd H2 D (SetO X.w D (fun _ => false) 0)) z3.heap.objs.size (cellsFrom (z3.heap.objs.size + 1) sc.names (cloFrom X.env.cells sc.names [])) fp
  have pel := hel z3 (upd H2 D (SetO X.w D (fun _ => false) 0)) z3.heap.objs.size (cellsFrom (z3.heap.objs.size + 1) sc.names (cloFrom X.env.cells sc.names [])) fp
  show codeAny _ _ (.compStart (sC e ta ia tb ib sc pos) 0 (.ref it) (.ref D) (compEnvC sc (cellsFrom (z3.heap.objs.size + 1) sc.names (cloFrom X.env.cells sc.names [])) z3.heap.objs.size X.env)) (compPost (model X.prog X.w) X.A X.xe none _ (.ref D) z3.heap.objs.size) { z3 with heap := pushCells (z3.heap.push { cls := .type "dict", data := .dict #[] }) sc.names }
  generalize ec : compEnvC sc (cellsFrom (z3.heap.objs.size + 1) sc.names (cloFrom X.env.cells sc.names [])) z3.heap.objs.size X.env = ce at I4 pga piB pgb pel ⊢
  have lc : ce.locals = z3.heap.objs.size := by rw [← ec]; rfl
  generalize eH : upd H2 D (SetO X.w D (fun _ => false) 0) = H3 at I3 I4 pga piB pgb pel w0 clean f3
  generalize e4 : ({ z3 with heap := pushCells (z3.heap.push { cls := .type "dict", data := .dict #[] }) sc.names } : Shared) = z4 at I4 ⊢
  have st4 : tn 0 z4.heap := T.keep _ _ _ st3 fun b _ o q => by
    rw [← e4]
    exact pushCells_keeps _ _ _ _ (Heap.get?_push_of_some _ q)
  have okfp : ∀ {τ : L2.St} {G : Hp} {z : Shared}, Inv (X.blk z3 H3 sc ce fp) [] τ G z → (∀ b ∈ fp, G b = none) → ∀ b ∈ fp, FpOk (X.blk z3 H3 sc ce fp) [] G b := fun {τ G z} J0 hn b hb =>
    ⟨hn b hb, (J0.ok.exf b hb).1, J0.ok.exfs b hb, .inl hb, fun x c q => (J0.ok.exf b hb).2 x c q, fun p hp => by
      have : p ∈ ([] : List (Addr × Obj)) := by simpa using hp
      cases this⟩
  have whole : codeAny (model X.prog X.w) X.A (.compLoop (sC e ta ia tb ib sc pos) 0 (.ref it) (.ref D) ce) (compPost (model X.prog X.w) X.A X.xe none (fun v z => ∃ y G, Inv X pins σ G z ∧ RelV y v ∧ Q y G) (.ref D) z3.heap.objs.size) z4 := by
    refine sC_out_loop (fb ce) (fun n z => ∃ i G, Inv (X.blk z3 H3 sc ce fp) [] (wipe σ (own.map (·.2))) G z ∧ tn i z.heap ∧ (∀ b ∈ fp, G b = none) ∧ W i n G) ?_ m0 ⟨0, H3, I4, st4, clean, w0⟩
    rintro n z5 ⟨i, H5, I5, st5, n5, w5⟩
    rcases turn i n H5 w5 with ⟨stop, fin⟩ | ⟨goes, Y, hY, step⟩
    · refine thnF (T.done (X.blk z3 H3 sc ce fp) rfl rfl rfl calm i [] z5 _ H5 (fun _ _ => False) I5 (okfp I5 n5) st5 stop) fun r z6 ⟨er, I6⟩ => ?_
      subst er
      have I7 : Inv X pins σ H5 z6 := I3.call' (ch := fp) I6.os I6.base I6.hok I6.bare fun b hb => by
        obtain ⟨_, a1, a2, a3, a4, a5⟩ := (f3 b hb).1
        exact ⟨a3, a1, a4, a5⟩
      have gone : H5 z3.heap.objs.size = none := by
        rw [← lc]
        exact I6.free
      obtain ⟨m, hn, _⟩ := I6.loc
      have hn2 : z6.heap.Ns z3.heap.objs.size m := by
        rw [← lc]
        exact hn
      refine ⟨m, hn2, fun g sb => ?_⟩
      obtain ⟨b0, b1, b2, b3, b4, b5⟩ := I3.fpOk (Nat.le_refl _) gone
      exact ⟨.ref D, H5, I7.turned (t' := z6.toks) (fun b o hb q => (sb.2 b hb).trans q) b0 b1 b3 b4 b5, rfl, fin⟩
    · refine thnF (T.item (X.blk z3 H3 sc ce fp) rfl rfl rfl calm i [] z5 _ H5 (fun _ _ => False) I5 (okfp I5 n5) st5 goes) fun r z6 ⟨u, er, h6⟩ => ?_
      subst er
      refine thnF h6 fun _ z7 ⟨x, H7, I7, r7, y7, st7, n7⟩ => ?_
      refine thnF (pga.run _ z7 _ H7 x u _ (I7.pinned (okfp I7 n7) (T.obj _ _ st7)) r7 (step x H7 y7)) fun _ z8 ⟨τ, H8, I8, hτ, q8⟩ => ?_
      have back : ∀ {ρ : L2.St} {z : Shared} {G : Hp}, Inv (X.blk z3 H3 sc ce fp) ([] ++ pinsAt fp z7.heap) ρ G z → (wipe σ (own.map (·.2))).length = ρ.length → (∀ (j : Nat) v, (wipe σ (own.map (·.2)))[j]? = some (some v) → ρ[j]? = some (some v)) → Y G →
          ∃ m, m < n ∧ ∃ i G, Inv (X.blk z3 H3 sc ce fp) [] (wipe σ (own.map (·.2))) G z ∧ tn i z.heap ∧ (∀ b ∈ fp, G b = none) ∧ W i m G := fun {ρ z G} J0 hl hk hy => by
        obtain ⟨m, lt, w6⟩ := hY G hy
        have pinned : ∀ b ∈ fp, ∀ o, z7.heap.get? b = some o → z.heap.get? b = some o ∧ G b = none := fun b hb o q => by
          have z9 := J0.pin (b, o) (List.mem_append_right _ (List.mem_append_right _ (mem_pinsAt hb q)))
          exact ⟨z9.1, z9.2.1⟩
        refine ⟨m, lt, i + 1, G, (J0.unpinned (pins := [])).weak hl hk, T.keep _ _ _ st7 fun b hb o q => (pinned b hb o q).1, fun b hb => ?_, w6⟩
        obtain ⟨o, q, _⟩ := T.obj _ _ st7 b hb
        exact (pinned b hb o q).2
      have len8 : (wipe σ (own.map (·.2))).length = τ.length := by rw [← hτ, wipe_length]
      have know : ∀ (j : Nat) v, (wipe σ (own.map (·.2)))[j]? = some (some v) → (wipe τ vb)[j]? = some (some v) := fun j v q => by
        rw [← hτ] at q
        obtain ⟨q1, q2⟩ := wipe_some q
        rw [wipe_out fun z => q2 (sub j z)]
        exact q1
      refine thnF (piB.run _ z8 τ H8 _ I8 q8) fun xv z9 hx => thnF hx fun jtv z10 got2 => ?_
      obtain ⟨jt, fq, tm, J1, H10, e10, I10, T1, st10, f10, W1, ⟨m1, w1⟩, turn1⟩ := got2
      subst e10
      have okfq : ∀ {G : Hp}, (∀ b ∈ fq, G b = none) → ∀ b ∈ fq, FpOk (X.blk z3 H3 sc ce fp) ([] ++ pinsAt fp z7.heap) G b := fun hn b hb => ⟨hn b hb, (f10 b hb).2⟩
      have inner : codeAny (model X.prog X.w) X.A (.compLoop (sC e ta ia tb ib sc pos) 1 (.ref jt) (.ref D) ce)
          (fun r z => match r with
            | .ok _ => ∃ m, m < n ∧ ∃ i G, Inv (X.blk z3 H3 sc ce fp) [] (wipe σ (own.map (·.2))) G z ∧ tn i z.heap ∧ (∀ b ∈ fp, G b = none) ∧ W i m G
            | .error _ => False) z10 := by
        refine sC_in_loop (fun k z => ∃ j G, Inv (X.blk z3 H3 sc ce fp) ([] ++ pinsAt fp z7.heap) (wipe τ vb) G z ∧ tm j z.heap ∧ (∀ b ∈ fq, G b = none) ∧ W1 j k G) ?_ m1 ⟨0, H10, I10.weak (wipe_length _ _) (fun j v q => (wipe_some q).1), st10, fun b hb => (f10 b hb).1, w1⟩
        rintro k z11 ⟨j, H11, I11, st11, n11, w11⟩
        rcases turn1 j k H11 w11 with ⟨stop1, y1⟩ | ⟨goes1, Y1, hY1, step1⟩
        · refine thnF (T1.done (X.blk z3 H3 sc ce fp) rfl rfl rfl calm j _ z11 (wipe τ vb) H11 (fun _ _ => False) I11 (okfq n11) st11 stop1) fun r z12 ⟨er, I12⟩ => ?_
          subst er
          exact back I12 (len8.trans (wipe_length τ vb).symm) know y1
        · refine thnF (T1.item (X.blk z3 H3 sc ce fp) rfl rfl rfl calm j _ z11 (wipe τ vb) H11 (fun _ _ => False) I11 (okfq n11) st11 goes1) fun r z12 ⟨u1, er, h12⟩ => ?_
          subst er
          refine thnF h12 fun _ z13 ⟨x1, H13, I13, r13, y13, st13, n13⟩ => ?_
          refine thnF (pgb.run _ z13 (wipe τ vb) H13 x1 u1 _ (I13.pinned (okfq n13) (T1.obj _ _ st13)) r13 (step1 x1 H13 y13)) fun _ z14 ⟨ρ, H14, I14, hρ, q14⟩ => ?_
          have back1 : ∀ {z : Shared} {G : Hp}, Inv (X.blk z3 H3 sc ce fp) (([] ++ pinsAt fp z7.heap) ++ pinsAt fq z13.heap) ρ G z → Y1 G → ∃ m, m < k ∧ ∃ j G, Inv (X.blk z3 H3 sc ce fp) ([] ++ pinsAt fp z7.heap) (wipe τ vb) G z ∧ tm j z.heap ∧ (∀ b ∈ fq, G b = none) ∧ W1 j m G := fun {z G} J0 hy => by
            obtain ⟨m, lt, w15⟩ := hY1 G hy
            have pinned : ∀ b ∈ fq, ∀ o, z13.heap.get? b = some o → z.heap.get? b = some o ∧ G b = none := fun b hb o q => by
              have z9 := J0.pin (b, o) (List.mem_append_right _ (List.mem_append_right _ (mem_pinsAt hb q)))
              exact ⟨z9.1, z9.2.1⟩
            refine ⟨m, lt, j + 1, G, J0.unpinned.weak (by rw [← hρ, wipe_length]) (fun j v q => by rw [← hρ] at q; exact (wipe_some q).1), T1.keep _ _ _ st13 fun b hb o q => (pinned b hb o q).1, fun b hb => ?_, w15⟩
            obtain ⟨o, q, _⟩ := T1.obj _ _ st13 b hb
            exact (pinned b hb o q).2
          refine thnF (pel.run _ z14 ρ H14 _ I14 q14) fun zv z15 ⟨yv, H15, I15, r15, c, S, cnt, ey, hD15, few15, y15⟩ => ?_
          subst ey
          refine thnF (mt_sadd (X := X.blk z3 H3 sc ce fp) _ z15 ρ H15 (.ref D) [.int c] (.ref D) [zv] (fun _ G => Y1 G) I15 rfl (.cons r15 .nil) ⟨D, c, S, cnt, rfl, rfl, hD15, few15, y15⟩) fun _ z16 ⟨_, G, J16, _, q16⟩ => ?_
          exact back1 J16 q16
      exact sC_start inner (T1.self X.A 0 _ _ _ st10 inner)
  exact PpSet.codeAny_compStart_set whole (T.self X.A 0 _ _ _ st4 whole)
end
end Hb
set_option Elab.async false
set_option linter.all false
set_option maxRecDepth 100000
set_option maxHeartbeats 4000000
/-! Errors of the program: a class over ValueError (through other classes of the program) whose __init__ keeps one argument; raised, caught, looked at. -/
namespace Hb
open PySem PySem.Spec PyProof.Rows L2
def oexB (K : PySem.W.Frag) (C : Addr) : Bool := match K.lookup C with
  | some ⟨.type "type", _, .cls cd, sl⟩ => (match cd.mro, sl.toList with
    | .ref C' :: bm, [_, _, _, _, some (.builtin n), _] => decide (C' = C) && (decide (n = "ValueError.__new__") && (!cd.hasDel && (cd.hasDict && PySem.HandSPX.refsVE bm)))
    | _, _ => false)
  | _ => false
theorem oexB_ok {K : PySem.W.Frag} {C : Addr} (q : oexB K C = true) : ∃ nm qn N bs bm sn sub ab col dd k0 k1 k2 k3 k5, K.lookup C = some (excClassObj nm qn C N bs bm true sn sub ab col dd k0 k1 k2 k3 k5 "ValueError.__new__") ∧ PySem.HandSPX.refsVE bm = true := by
  unfold oexB at q
  split at q
  · rename_i dd cd sl ho
    split at q
    · rename_i C' bm k0 k1 k2 k3 n k5 hm hs
      rw [Bool.and_eq_true, Bool.and_eq_true, Bool.and_eq_true, Bool.and_eq_true] at q
      obtain ⟨e1, e2, e3, e4, e5⟩ := q
      obtain rfl := of_decide_eq_true e1
      obtain rfl := of_decide_eq_true e2
      obtain ⟨nm, bs, mro, ns, qn, hd, sn, sub, ab, col, del⟩ := cd
      dsimp only at hm e3 e4
      subst hm e4
      have e3' : del = false := by
        cases del
        · rfl
        · cases e3
      subst e3'
      have hl : sl = #[k0, k1, k2, k3, some (.builtin "ValueError.__new__"), k5] := by
        obtain ⟨l⟩ := sl
        exact congrArg Array.mk hs
      subst hl
      exact ⟨nm, qn, ns, bs, bm, sn, sub, ab, col, dd, k0, k1, k2, k3, k5, ho, e5⟩
    · cases q
  · cases q
/-- what the written part says of an error's class with one attribute f -/
structure ErrC (K : PySem.W.Frag) (C : Addr) (f : Str) : Prop where
  T : OexC K C
  xf : XfC K C
  ha : PySem.W.findIn K (.ref C) "__class__" = some (some (.builtin "object.__class__"))
  hm : PySem.W.mroIn K C (.type "object") = some true
  iC : PySem.W.findIn K (.ref C) "__init__" = some (some (.ref (He.ma K C "__init__")))
  tI : PySem.W.typeIn K (.ref (He.ma K C "__init__")) = some (.type "function")
  noF : PySem.W.findIn K (.ref C) f = some none
  cl : (PySem.W.clsIn K C).isSome = true
  sub : PySem.W.subIn K (.ref C) (.ref C) = some true
def errB (K : PySem.W.Frag) (C : Addr) (f : Str) : Bool :=
  oexB K C && (decide (PySem.W.findIn K (.ref C) "__setattr__" = some (some (.builtin "object.__setattr__"))) && (decide (PySem.W.subIn K (.ref C) (.type "BaseException") = some true) && (decide (PySem.W.typeIn K (.ref C) = some (.type "type")) && (PySem.W.keepIn K (.ref C) && (xfB K C &&
  (decide (PySem.W.findIn K (.ref C) "__class__" = some (some (.builtin "object.__class__"))) && (decide (PySem.W.mroIn K C (.type "object") = some true) && (decide (PySem.W.findIn K (.ref C) "__init__" = some (some (.ref (He.ma K C "__init__")))) &&
  (decide (PySem.W.typeIn K (.ref (He.ma K C "__init__")) = some (.type "function")) && (decide (PySem.W.findIn K (.ref C) f = some none) && ((PySem.W.clsIn K C).isSome && decide (PySem.W.subIn K (.ref C) (.ref C) = some true))))))))))))
theorem errB_ok {K : PySem.W.Frag} {C : Addr} {f : Str} (q : errB K C f = true) : ErrC K C f := by
  unfold errB at q
  simp only [Bool.and_eq_true, decide_eq_true_eq] at q
  obtain ⟨a, b, c, d, e, g, h, i, j, k, l, m, n⟩ := q
  exact ⟨⟨oexB_ok a, b, c, d, e⟩, xfB_ok g, h, i, j, k, l, m, n⟩
/-- what its __init__ does: self.f = v -/
def spErr (f : Str) (C : Addr) : Sp := fun vs H Q _ => ∃ (a : Addr) (v : V), vs = [.ref a, v] ∧ H a = some (exo a C none) ∧ ∀ dx, H dx = none → dx ≠ a → Q .non (upd (upd H dx (exd dx [(f, v)])) a (exo a C (some dx)))
/-- an error that can be made -/
structure ErrOk (P : Program) (w : World) (K : PySem.W.Frag) (mg : Str → Option Value) (base : Heap) (x f : Str) : Prop where
  c : ErrC K (He.ga K x) f
  m : mg x = some (.ref (He.ga K x))
  i : ∃ fd ps, FnOk P w K mg base CX0 1 (He.ma K (He.ga K x) "__init__") fd ps (spErr f (He.ga K x)) ∧ Binds K fd ps []
theorem err_heap {H : Hp} {a d C : Addr} {fs : List (Str × V)} (ha : H a = none) (hd : H d = none) (ne : d ≠ a) : upd (del (upd (upd H d (exd d fs)) a (exo a C (some d))) a) d (.xd fs) = upd H d (.xd fs) := by
  funext b
  by_cases e : b = d
  · rw [e, upd_same, upd_same]
  · rw [upd_ne e, upd_ne e]
    by_cases q : b = a
    · rw [q, del_same, ha]
    · rw [del_ne q, upd_ne q, upd_ne e]
/-- x(v): a new error whose own dict keeps v -/
theorem err_go {C : Addr} {f : Str} {v : V} {H : Hp} {Q : XK} {E : XK} (k : ∀ d, H d = none → Q (.ref C) (some d) (upd H d (.xd [(f, v)]))) : ([v] : List V).length ≤ 1000 ∧ ∀ a, H a = none → spErr f C (.ref a :: ([v] ++ [])) (upd H a (exo a C none))
    (fun v H2 => v = .non ∧ ∃ (d : Addr) (fs : List (Str × V)), H2 a = some (exo a C (some d)) ∧ H2 d = some (exd d fs) ∧ H d = none ∧ Q (.ref C) (some d) (upd (del H2 a) d (.xd fs))) E := by
  refine ⟨by show 1 ≤ 1000; omega, fun a na => ⟨a, v, rfl, upd_same, fun dx nd ne => ⟨rfl, dx, [(f, v)], upd_same, ?_, ?_, ?_⟩⟩⟩
  · rw [upd_ne ne, upd_same]
  · rw [upd_ne ne] at nd
    exact nd
  · rw [upd_ne ne] at nd
    have e : upd (upd (upd H a (exo a C none)) dx (exd dx [(f, v)])) a (exo a C (some dx)) = upd (upd H dx (exd dx [(f, v)])) a (exo a C (some dx)) := by
      funext b
      by_cases q : b = a
      · rw [q, upd_same, upd_same]
      · rw [upd_ne q, upd_ne q]
        by_cases q2 : b = dx
        · rw [q2, upd_same, upd_same]
        · rw [upd_ne q2, upd_ne q2, upd_ne q]
    rw [e, err_heap na nd ne]
    exact k dx nd
section
variable {X : Cx} {j : Nat} {x f : Str} {e : Expr} {ta : TA} {p pos pos2 : Pos}
theorem pmk_err (c : ErrOk X.prog X.w X.K X.mg X.base x f) (hr : Room j X.A) (hk : 2 ≤ j) (hg : Gl X x) (ha : PA X [e] ta)
    (hdb : (x == ("__debug__" : Str)) = false := by decide) (he : starEach [e] X.env = (false, eval e X.env) :: starEach [] X.env := by rfl) (hpl : (backTo pos (starEach [] X.env)).any (·.1) = false := by rfl) :
    PMk X (.Call (.Name x p) [e] [] pos) (tMkO (He.ga X.K x) (spErr f (He.ga X.K x)) [] ta) := by
  obtain ⟨cc, hm, fd, ps, F, b⟩ := c
  exact pmk_oex (CX := CX0) cc.T cc.iC cc.tI F (hr.mono hk) b .nil (fun _ _ _ _ _ _ _ z => z.elim) hg hm ha hdb he hpl
/-- raise x(e) where nothing is handled -/
theorem ps_err {W : WX} (hc : X.calm = true) (tk : Takes X W) (c : ErrOk X.prog X.w X.K X.mg X.base x f) (hr : Room j X.A) (hk : 2 ≤ j) (hg : Gl X x) (ha : PA X [e] ta)
    (hdb : (x == ("__debug__" : Str)) = false := by decide) (he : starEach [e] X.env = (false, eval e X.env) :: starEach [] X.env := by rfl) (hpl : (backTo pos (starEach [] X.env)).any (·.1) = false := by rfl) :
    PS X (.Raise (some (.Call (.Name x p) [e] [] pos)) none pos2) (fun _ σ H => tMkO (He.ga X.K x) (spErr f (He.ga X.K x)) [] ta σ H fun cls d H' => W cls d σ H') := ps_raise hc tk (pmk_err c hr hk hg ha hdb he hpl)
end
/-! ### defs that may raise -/
section
variable {P : Program} {w : World} {K : PySem.W.Frag} {mg : Str → Option Value} {base : Heap}
structure CalX (P : Program) (w : World) (K : PySem.W.Frag) (mg : Str → Option Value) (base : Heap) (k : Nat) (x : Str) (sp : Sp) : Prop where
  ex : ∃ (f : Addr) (fd : FuncData) (ps : List Str), FnOk P w K mg base (L2.CX P w) k f fd ps sp ∧ mg x = some (.ref f) ∧ PySem.W.keepIn K (.ref f) = true ∧ Binds K fd ps []
structure MakX (P : Program) (w : World) (K : PySem.W.Frag) (mg : Str → Option Value) (base : Heap) (k : Nat) (x : Str) (C : Addr) (sp : Sp) (dvs : List V) : Prop where
  ex : ∃ (f : Addr) (fd : FuncData) (ps : List Str) (ds : List Value), Mk K C f ∧ FnOk P w K mg base (L2.CX P w) k f fd ps sp ∧ mg x = some (.ref C) ∧ Binds K fd ps ds ∧ Vals dvs ds
structure MetX (P : Program) (w : World) (K : PySem.W.Frag) (mg : Str → Option Value) (base : Heap) (k : Nat) (C : Addr) (m : Str) (sp : Sp) : Prop where
  ex : ∃ (f : Addr) (fd : FuncData) (ps : List Str), Cls K C ∧ Meth K C m f ∧ FnOk P w K mg base (L2.CX P w) k f fd ps sp ∧ Binds K fd ps []
/-- by its body: the text at a context whose exceptions are wished for -/
theorem calX_mk {x : Str} {st : Stmt} {N ps : List Str} {k : Nat} {sp : Sp} (D : Df K mg x st) (S : FnScope N ps (defScope st)) (bd : BdN x x st ps) (len : ∀ vs H Q E, sp vs H Q E → vs.length = ps.length)
    (hbody : ∀ (f : Addr) (cdv : Value) (A : Around) (outer : List Env) (s : Shared) (H : Hp) (vs : List V) (Q : VK) (E : XK), Room k (A.deeper (envOfC x (defScope st) s.heap.objs.size f cdv)) → sp vs H Q E →
      ∃ t, PSs (cxOf (L2.CX P w) P w K mg base N x (defScope st) f cdv A outer s H E) (defBody st) t ∧ t { nx := fun _ H' => Q .non H', rt := Q } (start N vs) H) : CalX P w K mg base (k + 1) x sp := by
  obtain ⟨fd, F, hm⟩ := D
  exact ⟨_, fd, ps, F.ok (CX := L2.CX P w) S len fun cdv A outer s H vs Q E hr h => hbody _ cdv A outer s H vs Q E hr h, hm, F.kp, F.bindsN bd⟩
theorem metX_mk {C m qual : Str} {st : Stmt} {N ps : List Str} {k : Nat} {sp : Sp} (D : Dm K C m qual st) (c : Cls K (He.ga K C)) (S : FnScope N ps (defScope st)) (bd : BdN m qual st ps) (len : ∀ vs H Q E, sp vs H Q E → vs.length = ps.length)
    (hbody : ∀ (f : Addr) (cdv : Value) (A : Around) (outer : List Env) (s : Shared) (H : Hp) (vs : List V) (Q : VK) (E : XK), Room k (A.deeper (envOfC qual (defScope st) s.heap.objs.size f cdv)) → sp vs H Q E →
      ∃ t, PSs (cxOf (L2.CX P w) P w K mg base N qual (defScope st) f cdv A outer s H E) (defBody st) t ∧ t { nx := fun _ H' => Q .non H', rt := Q } (start N vs) H) : MetX P w K mg base (k + 1) (He.ga K C) m sp := by
  obtain ⟨hm, fd, F⟩ := D
  exact ⟨_, fd, ps, c, hm, F.ok (CX := L2.CX P w) S len fun cdv A outer s H vs Q E hr h => hbody _ cdv A outer s H vs Q E hr h, F.bindsN bd⟩
/-- a def that raises nothing on some way, there -/
theorem CalX.cal {k : Nat} {x : Str} {sp sp' : Sp} (c : CalX P w K mg base k x sp) (h : ∀ vs H Q E, sp' vs H Q E → sp vs H Q C8.E0) : C8.Cal P w K mg base k x sp' [] := by
  obtain ⟨f, fd, ps, F, hm, kp, b⟩ := c.ex
  exact ⟨f, fd, ps, [], ⟨fun vs H Q E q => F.len _ _ _ _ (h _ _ _ _ q), fun A outer s H args us vs Q E hr he hb hv hs => codeAny_mono (F.run A outer s H args us vs Q C8.E0 hr he hb hv (h _ _ _ _ hs)) fun r s' q => by
    cases r with
    | error e =>
      obtain ⟨_, _, _, _, _, _, _, _, _, _, _, _, z⟩ := q
      exact z.elim
    | ok fl => cases fl <;> exact q⟩, hm, kp, b, .nil⟩
end
section
variable {X : Cx} {j k : Nat} {x f : Str} {sp : Sp} {W : WX} {e : Expr} {es : List Expr} {t : TA} {p pos : Pos}
/-- a call in the body of a try -/
theorem pe_try (c : CalX X.prog X.w X.K X.mg X.base k x sp) (tk : Takes X W) (hr : Room j X.A) (hk : k ≤ j) (hg : Gl X x) (ha : PA X (e :: es) t)
    (hdb : (x == ("__debug__" : Str)) = false := by decide) (he : starEach (e :: es) X.env = (false, eval e X.env) :: starEach es X.env := by rfl) (hpl : (backTo pos (starEach es X.env)).any (·.1) = false := by rfl) :
    PE X (.Call (.Name x p) (e :: es) [] pos) (tCallS sp (WE W) t) := by
  obtain ⟨f, fd, ps, F, hm, kp, b⟩ := c.ex
  exact pe_callS F (hr.mono hk) hg hm kp b (fun σ => passAt tk σ) ha hdb he hpl
/-- isinstance(e, T) in an except suite, e its error -/
def rIsE2 (K : PySem.W.Frag) (a : Addr) (cls : Value) (d : Option Addr) (f : Str) : List V → Hp → VK → Prop := fun xs H Q => ∃ (D dd : Addr) (fs : List (Str × V)) (c : V) (cv : Value) (b : Bool), xs = [.ref a, c] ∧ cls = .ref D ∧ d = some dd ∧ H dd = some (.xd fs) ∧ ErrC K D f ∧ (∀ u, RelV c u → u = cv) ∧ PySem.W.kitOne K (.ref D) cv = some b ∧ Q (.bl b) H
theorem call_isE2 {a : Addr} {cls : Value} {d : Option Addr} {oe : Obj} {pn : List (Addr × Obj)} (hn : PySem.W.specialIn X.K (.builtin "object.__class__") "__get__" = some (some (.builtin "getset_descriptor.__get__"))) (ht : PySem.W.takesIn X.K (.builtin "object.__class__") = some true)
    (hz : Zc cls d oe) (hf : ∃ vs, oe.data = .fields vs) : CallR (X.suite a ((a, oe) :: pn)) (.builtin "isinstance") (rIsE2 X.K a cls d f) := by
  intro pins s σ H xs us Q I r h
  obtain ⟨D, dd, fs, c, cv, b, rfl, ec, ed, hx, C, hcv, ek, q⟩ := h
  subst ec ed
  obtain ⟨u1, u2, rfl, r1, r2⟩ := vals2 r
  cases r1
  have e2 := hcv _ r2
  subst e2
  have pin := (I.pin (a, oe) (List.mem_append.mpr (.inl List.mem_cons_self))).1
  obtain ⟨vs, hv⟩ := hf
  have ox : ObjOk X.prog X.w H s.heap dd (.xd fs) := I.hok dd _ hx
  obtain ⟨mA, hns, _⟩ := ox
  obtain ⟨od, ho, _⟩ := lookIn_ns hns
  have J : PySem.W.InstAt s.heap a oe D (some od) := ⟨pin, hz.1, by unfold PySem.W.notCls; rw [hv] <;> rfl, by
    rw [hz.2]
    exact ho⟩
  exact PySem.W.kia_one (PySem.W.kitx_exc C.cl C.xf.ga C.xf.gg C.xf.exC C.ha hn ht C.hm) I.kIn J ek (fun z => nomatch z) fun tk => ⟨.bl b, H, I.kept (t' := tk) fun _ _ z => z, rfl, q⟩
end
end Hb
set_option Elab.async false
set_option linter.all false
set_option maxRecDepth 100000
set_option maxHeartbeats 8000000
/-! repr of a number or None. -/
namespace Hb
open PySem PySem.Spec PyProof.Rows L2
section
variable {X : Cx}
/-- a number, None or a text, shown -/
def rtext : V → Str
  | .non => "None"
  | .int i => (toString i : String)
  | .str x => reprText x
  | _ => Str.empty
def okR : V → Prop
  | .non => True
  | .int i => i.natAbs.log2 < 1920
  | .str x => (reprText x).length ≤ sizeLine
  | _ => False
def rReprO : List V → Hp → VK → Prop := fun vs H Q => ∃ v : V, vs = [v] ∧ okR v ∧ Q (.str (rtext v)) H
theorem cr_reprO : CallR X (.builtin "repr") rReprO := by
  intro pins s σ H vs us Q I r h
  obtain ⟨v, rfl, hv, q⟩ := h
  obtain ⟨u, rfl, ru⟩ := r.one
  cases v with
  | int i =>
    obtain ⟨t, rfl⟩ := ru
    exact PySem.P.repr_of_int hv ⟨.str (rtext (.int i)), H, I.tok _, ⟨_, rfl⟩, q⟩
  | non =>
    obtain rfl : u = Value.none := ru
    exact PySem.P.repr_of_none ⟨.str (rtext .non), H, I.tok _, ⟨_, rfl⟩, q⟩
  | str x =>
    obtain ⟨t, rfl⟩ := ru
    exact PySem.P.repr_of_str ⟨.str (rtext (.str x)), H, I.tok _, ⟨_, rfl⟩, q⟩ hv
  | _ => exact hv.elim
end
end Hb
set_option Elab.async false
set_option linter.all false
set_option maxRecDepth 100000
set_option maxHeartbeats 8000000
/-! set(ints) of a list with repeats; sorted of such a set. -/
namespace Hb
open PySem PySem.Spec PyProof.Rows
theorem ints_at : ∀ {us : List Value} {ns : List Int}, PyProof.Rows.IntsAre us ns → ∀ (i : Nat) (v : Value), us[i]? = some v → ∃ k t, ns[i]? = some k ∧ v = .int k t
  | _, _, .nil, i, v, h => by simp at h
  | _, _, .cons n k t, 0, v, h => ⟨n, k, rfl, (Option.some.inj h).symm⟩
  | _, _, .cons n k t, i + 1, v, h => ints_at t i v h
section
variable {prog : Program} {w : World} {A : Around} {E : Value → Shared → Prop} {s : Shared}
/-- set(xs) of a list of ints -/
theorem set_intsR {l : Addr} {its : Array Value} {xs : List Int} {Q : Value → Shared → Prop} (calm : A.handled = none) (at_ : s.heap.IsList l its) (are : PyProof.Rows.IntsAre its.toList xs) (few : xs.length + 1 < scanBound)
    (k : ∀ (h' : Heap) (tk : Nat) (c : Nat), L2.SetR w h' s.heap.objs.size (fun j => decide (j ∈ xs)) c → c ≤ xs.length → (∀ b o, s.heap.get? b = some o → h'.get? b = some o) → Q (.ref s.heap.objs.size) { s with heap := h', toks := tk }) :
    wpAny (model prog w) A (call (.type "set") [.ref l]) Q E s := by
  have size : its.size = xs.length := by have q := are.length; rw [Array.length_toList] at q; exact q
  obtain ⟨c, tl, mro⟩ := F.called_set.mro
  have f1 := F.called_set.made; have f2 := F.called_set.sub; have f3 := F.called_set.notType; have f4 := F.called_set.canCreate; have f5 := F.typeCall_set_1 (.ref l)
  refine wpAny_call (codeAny_of_tree (by
    show wpAny _ _ (callAny (.type "set") _) _ _ _
    refine wpAny_pure ⟨Code.quiet_builtin _ (by decide +kernel), codeAny_builtin F.entry_type_call ?_⟩
    rw [Around.under_plain (weight_type_call_type "set" [.ref l] []) rfl]
    repeat (any_goals (first | assumption | wp_step))
    refine codeAny_mono (L2.code_set_led1 (.ref l) (E := E) (Q₁ := fun v z => v = .ref s.heap.objs.size ∧ z = { s with heap := s.heap.push (newSet w) }) ⟨rfl, rfl⟩) fun r z hr => ?_
    match r, hr with
    | .error e, hr => exact hr
    | .ok .next, hr => exact hr.elim
    | .ok .brk, hr => exact hr.elim
    | .ok .cont, hr => exact hr.elim
    | .ok (.ret v), ⟨e1, e2⟩ =>
      subst e1 e2
      have mine : (s.heap.push (newSet w)).get? s.heap.objs.size = some (newSet w) := Heap.get?_push_size _ rfl
      have kind : Shared.TypeIs { s with heap := s.heap.push (newSet w) } (.ref s.heap.objs.size) "set" := ⟨_, mine, rfl⟩
      have f6 := F.called_set.init.lookup; have f7 := F.called_set.init.bind (.ref s.heap.objs.size)
      repeat (any_goals (first | assumption | wp_step))
      refine codeAny_mono (codeAny_call_builtin (R := wants (fun r z => r = .none ∧ ∃ h' tk c, z = { s with heap := h', toks := tk } ∧
        L2.SetR w h' s.heap.objs.size (fun j => decide (j ∈ xs)) c ∧ c ≤ xs.length ∧ ∀ b o, s.heap.get? b = some o → h'.get? b = some o) E) F.called_set.init.plain F.entry_set_init (check_set_init_1 kind ?_)) fun r2 z2 hr2 => ?_
      · obtain ⟨⟨ocls, odict, odata, oslots⟩, ho, hc, nl, hd⟩ := at_
        simp only at hc hd; subst hc hd
        have ho2 : (s.heap.push (newSet w)).get? l = some { cls := .type "list", dict := odict, data := .seq its nl, slots := oslots } := Heap.get?_push_of_some _ ho
        have g1 := F.sub_list_set; have g2 := F.sub_list_frozenset; have g3 : (Value.type "list" == Value.type "dict") = false := by decide
        have ml : (s.heap.push (newSet w)).IsList l its := ⟨_, ho2, rfl, nl, rfl⟩
        unfold Builtin.«set.__init__» noKeywords Builtin.Frozenset.updateFrom
        generalize hI : pyIter = It
        wp_walk
        subst hI
        have lo : l < s.heap.objs.size := Heap.lt_size ho
        have far : l ≠ (s.heap.push (newSet w)).objs.size := by rw [Heap.size_push]; exact Nat.ne_of_lt (Nat.lt_succ_of_lt lo)
        refine wpAny_pyIter_list ml (wpAny_bind (wpAny_runValue (L2.set_update_ints ((Walks.list (by simp [calm]) _ l far its).toS) s.heap.objs.size (by
            rw [Heap.size_push]; simp only [List.mem_cons, List.not_mem_nil, or_false, not_or]
            exact ⟨Nat.ne_of_lt (Nat.lt_succ_self _), Nat.ne_of_gt lo⟩) xs size (by omega) (fun i v hv => ints_at are i v (by rw [Array.getElem?_toList]; exact hv)) (its.size - 0) 0 _ (by omega) (Nat.zero_le _)
          ⟨⟨_, Heap.get?_push_size _ rfl, rfl, rfl⟩, (ml.push _)⟩ ?zer ?fin1)))
        case zer =>
          have e0 : ((s.heap.push (newSet w)).push { cls := .type "list_iterator", data := .fields #[.ref l, .int 0 0] }).get? s.heap.objs.size = some (newSet w) := Heap.get?_push_of_some _ mine
          exact ⟨0, Nat.le_refl _, L2.setR_new_at e0⟩
        case fin1 =>
          rintro ⟨h', g', d', tk', os'⟩ us hm hu hS
          obtain rfl : g' = s.gens := hm.gens
          obtain rfl : d' = s.drawn := hm.drawn
          obtain rfl : os' = s.os := hm.os
          show wpAny _ _ _ _ _ _
          refine wpAny_pure (by
            show wpAny _ _ (ret Value.none) _ _ _
            refine wpAny_pure ⟨rfl, h', tk', us, rfl, hS, by rw [← size]; exact hu, fun b o e => hm.heap b o ?_ (Heap.get?_push_of_some _ (Heap.get?_push_of_some _ e))⟩
            have lb := Heap.lt_size e
            rw [Heap.size_push]; simp only [List.mem_cons, List.not_mem_nil, or_false, not_or]
            exact ⟨Nat.ne_of_lt lb, Nat.ne_of_lt (Nat.lt_succ_of_lt lb)⟩)
      · match r2, hr2 with
        | .error e, h => exact h
        | .ok .next, h => exact h.elim
        | .ok .brk, h => exact h.elim
        | .ok .cont, h => exact h.elim
        | .ok (.ret v), ⟨e1, h', tk, us, e2, hS, hu, hk⟩ =>
          subst e1 e2
          repeat (any_goals (first | assumption | wp_step))
          exact k _ _ _ hS hu hk))
end
end Hb
namespace Hb
open PySem PySem.Spec PyProof.Rows L2
/-- sorted(set(xs)), xs a list of ints -/
def tSortSetI (K : PySem.W.Frag) (ta : TE) : TE := fun σ H Q => ta σ H fun x H1 => ∃ (l : Addr) (xs : List Int), x = .ref l ∧ SqL K H1 l (xs.map V.int) ∧ xs.length < 64 ∧
  ∀ (ns : List Int) (p : Addr), ns.Pairwise (· < ·) → (∀ k, k ∈ ns ↔ k ∈ xs) → H1 p = none → Q (.ref p) (upd H1 p (.lst (ns.map V.int)))
theorem vals_of_ints : ∀ {us : List Value} {ns : List Int}, PyProof.Rows.IntsAre us ns → Vals (ns.map V.int) us
  | _, _, .nil => .nil
  | _, _, .cons n k t => .cons ⟨k, rfl⟩ (vals_of_ints t)
theorem pe_sortSetI {X : Cx} {a : Expr} {ta : TE} {p p2 q pos : Pos} (hg : Gl X "sorted") (hm : X.mg "sorted" = none) (hg2 : Gl X "set") (hm2 : X.mg "set" = none) (ha : PE X a ta) (calm : X.calm = true := by rfl)
    (na : starEach [a] X.env = (false, eval a X.env) :: starEach [] X.env := by rfl) : PE X (.Call (.Name "sorted" p) [.Call (.Name "set" p2) [a] [] q] [] pos) (tSortSetI X.K ta) := by
  refine ⟨fun pins s σ H Q I h => Call_ (ld_blt I hg hm boot_sorted (callWith_builtin1 (args_cons (Call_ (ld_blt I hg2 hm2 boot_set
    (callWith_type1 (args_cons (thn (ha.run pins s σ H _ I h) fun v z ⟨x, H1, J, r, q⟩ => args_nil ?_) na) na rfl))) rfl) rfl rfl))⟩
  obtain ⟨l, xs, rfl, hq, few, q⟩ := q
  cases r
  obtain ⟨its, rv, pl, hz⟩ := J.list hq
  refine set_intsR (J.ok.hd calm) pl.isList (by simpa using RZ.intsAre_vals rv) (by unfold scanBound; omega) fun h' tk c hS hc hk => args_nil ?_
  have J2 : Inv X pins σ H1 { z with heap := h', toks := tk } := J.kept hk
  refine L2.sorted_set hS (J.ok.hd calm) (Nat.lt_of_le_of_lt hc few) fun s' p out c ns k1 g1 o1 lt at_ hs so mem ln => ?_
  have nl : (ns.map V.int).length ≤ sizeLine := by rw [List.length_map, ln, sizeLine_eq]; omega
  have free : H1 p = none := J2.hok.fresh lt
  have J3 : Inv X pins σ (upd H1 p (.lst (ns.map V.int))) { { z with heap := h', toks := tk } with heap := s'.heap, gens := s'.gens, drawn := s'.drawn, toks := s'.toks } :=
    J2.call (ch := []) (Un.laid k1 lt free) (J2.hok.laid k1 lt ⟨nl, out.toList, c, vals_of_ints hs, at_⟩) (by rw [g1]; exact J2.bare) fun _ y => nomatch y
  have e : s' = { { z with heap := h', toks := tk } with heap := s'.heap, gens := s'.gens, drawn := s'.drawn, toks := s'.toks } := by
    cases s'
    cases z
    cases o1
    rfl
  rw [e]
  exact ⟨.ref p, _, J3, rfl, q ns p so (fun k => (mem k).trans decide_eq_true_iff) free⟩
end Hb
set_option Elab.async false
set_option linter.all false
/-! Loops within a comprehension, its reading told. -/
namespace Hb
open PySem PySem.Spec PyProof.Rows L2
section
variable {X : Cx} {tg l : Expr} {tl : TE} {K : PySem.W.Frag}
theorem pi_tupK (e : X.K = K) (hl : PE X l tl) : PI X tg l (iTup K tl) := by
  subst e
  exact pi_tup hl
theorem pi_listK (e : X.K = K) (hl : PE X l tl) : PI X tg l (iList K tl) := by
  subst e
  exact pi_list hl
end
end Hb
set_option Elab.async false
set_option linter.all false
set_option maxRecDepth 100000
set_option maxHeartbeats 8000000
/-! set of a tuple of unlike texts; len of it. -/
namespace Hb
open PySem PySem.Spec PyProof.Rows L2
section
variable {prog : Program} {w : World} {A : Around} {E : Value → Shared → Prop} {s : Shared}
/-- set(xs) of a tuple of unlike texts -/
theorem set_textsT {l : Addr} {its : Array Value} {xs : List Str} {Q : Value → Shared → Prop} (calm : A.handled = none) (at_ : s.heap.IsTuple l its) (are : StrsAre its.toList xs) (nd : xs.Nodup) (few : xs.length + 1 < scanBound)
    (k : ∀ (h' : Heap) (tk : Nat), h'.SetOf (PySem.strKind prog w) s.heap.objs.size (fun z => (xs.take xs.length).any (· == z)) xs.length → (∀ b o, s.heap.get? b = some o → h'.get? b = some o) → Q (.ref s.heap.objs.size) { s with heap := h', toks := tk }) :
    wpAny (model prog w) A (call (.type "set") [.ref l]) Q E s := by
  have size : its.size = xs.length := by have q := are.length; rw [Array.length_toList] at q; exact q
  obtain ⟨c, tl, mro⟩ := F.called_set.mro
  have f1 := F.called_set.made; have f2 := F.called_set.sub; have f3 := F.called_set.notType; have f4 := F.called_set.canCreate; have f5 := F.typeCall_set_1 (.ref l)
  refine wpAny_call (codeAny_of_tree (by
    show wpAny _ _ (callAny (.type "set") _) _ _ _
    refine wpAny_pure ⟨Code.quiet_builtin _ (by decide +kernel), codeAny_builtin F.entry_type_call ?_⟩
    rw [Around.under_plain (weight_type_call_type "set" [.ref l] []) rfl]
    repeat (any_goals (first | assumption | wp_step))
    refine codeAny_mono (code_set_new_1 (.ref l) (E := E) (Q₁ := fun v z => ∃ led : Bool, v = .ref s.heap.objs.size ∧ z = { s with heap := s.heap.push (bareSet led) }) fun led => ⟨led, rfl, rfl⟩) fun r z hr => ?_
    match r, hr with
    | .error e, hr => exact hr
    | .ok .next, hr => exact hr.elim
    | .ok .brk, hr => exact hr.elim
    | .ok .cont, hr => exact hr.elim
    | .ok (.ret v), ⟨led, e1, e2⟩ =>
      subst e1 e2
      have mine : (s.heap.push (bareSet led)).get? s.heap.objs.size = some (bareSet led) := Heap.get?_push_size _ rfl
      have kind : Shared.TypeIs { s with heap := s.heap.push (bareSet led) } (.ref s.heap.objs.size) "set" := ⟨_, mine, rfl⟩
      have f6 := F.called_set.init.lookup; have f7 := F.called_set.init.bind (.ref s.heap.objs.size)
      repeat (any_goals (first | assumption | wp_step))
      refine codeAny_mono (codeAny_call_builtin (R := wants (fun r z => r = .none ∧ ∃ h' tk, z = { s with heap := h', toks := tk } ∧
        h'.SetOf (PySem.strKind prog w) s.heap.objs.size (fun z => (xs.take xs.length).any (· == z)) xs.length ∧ ∀ b o, s.heap.get? b = some o → h'.get? b = some o) E) F.called_set.init.plain F.entry_set_init (check_set_init_1 kind ?_)) fun r2 z2 hr2 => ?_
      · obtain ⟨⟨ocls, odict, odata, oslots⟩, ho, hc, nl, hd⟩ := at_
        simp only at hc hd; subst hc hd
        have ho2 : (s.heap.push (bareSet led)).get? l = some { cls := .type "tuple", dict := odict, data := .seq its nl, slots := oslots } := Heap.get?_push_of_some _ ho
        have g1 := F.sub_tuple_set; have g2 := F.sub_tuple_frozenset; have g3 : (Value.type "tuple" == Value.type "dict") = false := by decide
        have ml : (s.heap.push (bareSet led)).IsTuple l its := ⟨_, ho2, rfl, nl, rfl⟩
        unfold Builtin.«set.__init__» noKeywords Builtin.Frozenset.updateFrom
        generalize hI : pyIter = It
        wp_walk
        subst hI
        have lo : l < s.heap.objs.size := Heap.lt_size ho
        have far : l ≠ (s.heap.push (bareSet led)).objs.size := by rw [Heap.size_push]; exact Nat.ne_of_lt (Nat.lt_succ_of_lt lo)
        refine wpAny_pyIter_tuple ml (wpAny_bind (wpAny_runValue (turns_text ((Walks.tuple (by simp [calm]) _ l far its).toS) s.heap.objs.size (by
            rw [Heap.size_push]; simp only [List.mem_cons, List.not_mem_nil, or_false, not_or]
            exact ⟨Nat.ne_of_lt (Nat.lt_succ_self _), Nat.ne_of_gt lo⟩) xs size.symm nd (by omega) (fun i v hv => SS.strs_at are i v (by rw [Array.getElem?_toList]; exact hv)) (its.size - 0) 0 _ (by omega) (Nat.zero_le _)
          ⟨⟨_, Heap.get?_push_size _ rfl, rfl, rfl⟩, (ml.push _)⟩ ?zer ?fin1)))
        case zer =>
          have e0 : ((s.heap.push (bareSet led)).push { cls := .type "tuple_iterator", data := .fields #[.ref l, .int 0 0] }).get? s.heap.objs.size = some (bareSet led) := Heap.get?_push_of_some _ mine
          exact SetOf_congr ((setObjOf_fresh (knd := PySem.strKind prog w) led).setOf e0 (by unfold scanBound; omega)) (fun _ => rfl) rfl
        case fin1 =>
          rintro ⟨h', g', d', tk', os'⟩ hm hS
          obtain rfl : g' = s.gens := hm.gens
          obtain rfl : d' = s.drawn := hm.drawn
          obtain rfl : os' = s.os := hm.os
          show wpAny _ _ _ _ _ _
          refine wpAny_pure (by
            show wpAny _ _ (ret Value.none) _ _ _
            rw [size] at hS
            refine wpAny_pure ⟨rfl, h', tk', rfl, hS, fun b o e => hm.heap b o ?_ (Heap.get?_push_of_some _ (Heap.get?_push_of_some _ e))⟩
            have lb := Heap.lt_size e
            rw [Heap.size_push]; simp only [List.mem_cons, List.not_mem_nil, or_false, not_or]
            exact ⟨Nat.ne_of_lt lb, Nat.ne_of_lt (Nat.lt_succ_of_lt lb)⟩)
      · match r2, hr2 with
        | .error e, h => exact h
        | .ok .next, h => exact h.elim
        | .ok .brk, h => exact h.elim
        | .ok .cont, h => exact h.elim
        | .ok (.ret v), ⟨e1, h', tk, e2, hS, hk⟩ =>
          subst e1 e2
          repeat (any_goals (first | assumption | wp_step))
          exact k _ _ hS hk))
end
/-- len(set(xs)), xs a list or a tuple of unlike texts, or a list or a tuple of unlike ints -/
def tLenSet4 (K : PySem.W.Frag) (ta : TE) : TE := fun σ H Q => ta σ H fun x H1 => ∃ l : Addr, x = .ref l ∧
  ((∃ xs : List Str, (SqL K H1 l (xs.map V.str) ∨ SqT K H1 l (xs.map V.str)) ∧ xs.Nodup ∧ xs.length ≤ 4000 ∧ Q (.int xs.length) H1) ∨ ∃ ns : List Int, (SqL K H1 l (ns.map V.int) ∨ SqT K H1 l (ns.map V.int)) ∧ ns.Nodup ∧ ns.length ≤ 4000 ∧ Q (.int ns.length) H1)
theorem pe_lenSet4 {X : Cx} {a : Expr} {ta : TE} {p p2 q pos : Pos} (hg : Gl X "len") (hm : X.mg "len" = none) (hg2 : Gl X "set") (hm2 : X.mg "set" = none) (ha : PE X a ta) (calm : X.calm = true := by rfl)
    (na : starEach [a] X.env = (false, eval a X.env) :: starEach [] X.env := by rfl) : PE X (.Call (.Name "len" p) [.Call (.Name "set" p2) [a] [] q] [] pos) (tLenSet4 X.K ta) := by
  refine ⟨fun pins s σ H Q I h => Call_ (ld_blt I hg hm boot_len (callWith_builtin1 (args_cons (Call_ (ld_blt I hg2 hm2 boot_set
    (callWith_type1 (args_cons (thn (ha.run pins s σ H _ I h) fun v z ⟨x, H1, J, r, q⟩ => args_nil ?_) na) na rfl))) rfl) rfl rfl))⟩
  obtain ⟨l, rfl, q⟩ := q
  cases r
  have fin : ∀ (n : Nat) (h' : Heap) (tk : Nat) (κ : Type) (i1 : DecidableEq κ) (i2 : BEq κ) (i3 : LawfulBEq κ) (kd : KeyKind X.prog X.w κ) (S : κ → Bool), n ≤ 4000 → h'.SetOf kd z.heap.objs.size S n → (∀ b o, z.heap.get? b = some o → h'.get? b = some o) → Q (.int n) H1 →
      wpAny (model X.prog X.w) X.A (spliced (backTo pos (starEach [] X.env))) (fun vs y => wpAny (model X.prog X.w) X.A (call (.builtin "len") (Value.ref z.heap.objs.size :: vs)) (EP X pins σ Q) X.xe y) X.xe { z with heap := h', toks := tk } := by
    intro n h' tk κ i1 i2 i3 kd S hn hS hk q
    refine args_nil ?_
    obtain ⟨o, es, ep, t, ho, hex, hd, _, _, _, hf, e⟩ := hS
    have J2 : Inv X pins σ H1 { z with heap := h', toks := tk } := J.kept hk
    exact call_len_set ho hex hd hf (by rw [e] <;> omega) ⟨.int n, H1, J2.tok _, ⟨_, by rw [e]⟩, q⟩
  rcases q with ⟨xs, hq, nd, few, q⟩ | ⟨ns, hq, nd, few, q⟩
  · rcases hq with hq | hq
    · obtain ⟨its, r, pl, hz⟩ := J.list hq
      exact set_texts (J.ok.hd calm) pl.isList (by simpa using strsAre_of r) nd (by unfold scanBound; omega) fun h' tk hS hk => fin _ h' tk _ inferInstance inferInstance inferInstance _ _ few hS hk q
    obtain ⟨its, r, pl, hz⟩ := J.tuple hq
    exact set_textsT (J.ok.hd calm) (show z.heap.IsTuple l its.toArray from pl) (by simpa using strsAre_of r) nd (by unfold scanBound; omega) fun h' tk hS hk => fin _ h' tk _ inferInstance inferInstance inferInstance _ _ few hS hk q
  · rcases hq with hq | hq
    · obtain ⟨its, r, pl, hz⟩ := J.list hq
      have size : its.toArray.size = ns.length := by rw [List.size_toArray, ← r.length, List.length_map]
      refine call_set_list (J.ok.hd calm) pl.isList (by simpa using RZ.intsAre_vals r) (by rw [size]; unfold scanBound; omega) fun h' tk hS hk => ?_
      rw [size, RZ.firstMet_nodup nd ns.length (Nat.le_refl _)] at hS
      rw [List.take_length] at hS
      exact fin _ h' tk _ inferInstance inferInstance inferInstance _ _ few hS (fun b o e => hk b o (Heap.lt_size e) e) q
    · obtain ⟨its, r, pl, hz⟩ := J.tuple hq
      refine L2.call_set_tupI ns (J.ok.hd calm) (show z.heap.IsTuple l its.toArray from pl) (by simpa using RZ.intsAre_vals r) (by unfold scanBound; omega) fun h' tk c hS hc hk => ?_
      obtain ⟨o, es, ep, t, ho, hex, hd, _, kn, ks, _, hf, e, _⟩ := hS
      have pm : (es.toList.map L2.keyOf).Perm ns := (List.perm_ext_iff_of_nodup kn nd).mpr fun k => by rw [← ks k, decide_eq_true_iff]
      have n1 : es.size = ns.length := by have q := pm.length_eq; rw [List.length_map, Array.length_toList] at q; exact q
      refine args_nil ?_
      have J2 : Inv X pins σ H1 { z with heap := h', toks := tk } := J.kept hk
      exact call_len_set ho hex hd hf (by rw [n1] <;> omega) ⟨.int ns.length, H1, J2.tok _, ⟨_, by rw [n1]⟩, q⟩
end Hb
set_option Elab.async false
set_option linter.all false
set_option maxRecDepth 100000
set_option maxHeartbeats 8000000
/-! a list or a tuple, walked, where other lists change beside it -/
namespace Hb
open PySem PySem.Spec PyProof.Rows L2
def IsSeqG (K : PySem.W.Frag) (a : Addr) (xs : List V) (G : Hp → Prop) : Prop := (G = fun H => SqL K H a xs) ∨ G = fun H => SqT K H a xs
theorem seqG {K : PySem.W.Frag} {H : Hp} {a : Addr} {xs : List V} (h : SqL K H a xs ∨ SqT K H a xs) : ∃ G : Hp → Prop, IsSeqG K a xs G ∧ ∀ H', Same H H' → G H' := by
  rcases h with h | h
  · exact ⟨_, .inl rfl, fun H' s => Same.seq s h⟩
  · exact ⟨_, .inr rfl, fun H' s => SqT.keep (Same.tk s) h⟩
theorem IsSeqG.sq {K : PySem.W.Frag} {a : Addr} {xs : List V} {G : Hp → Prop} (g : IsSeqG K a xs G) {H : Hp} (h : G H) : SqL K H a xs ∨ SqT K H a xs := by
  rcases g with rfl | rfl
  · exact .inl h
  · exact .inr h
def iSeq2 (K : PySem.W.Frag) (tl : TE) : TI := fun σ H R => tl σ H fun x H1 => ∃ a xs, ∃ (G : Hp → Prop), x = .ref a ∧ IsSeqG K a xs G ∧ G H1 ∧ ∀ J : It, Walk J xs.length G (YAt xs) → R J H1
theorem pi_seq2 {X : Cx} {tg l : Expr} {tl : TE} (hl : PE X l tl) : PI X tg l (iSeq2 X.K tl) := by
  refine ⟨fun pins s σ H R I h => thn (hl.run pins s σ H _ I h) fun v z ⟨x, H1, J, r, a, xs, G, e, hk, hq, q⟩ => ?_⟩
  subst e
  cases r
  have far : ∀ b ∈ [z.heap.objs.size], FpOk X pins H1 b := fun b hb => by
    rw [List.mem_singleton.mp hb]; exact J.fpOk (Nat.le_refl _) (J.hok.fresh (Nat.le_refl _))
  rcases hk with rfl | rfl
  · have q2 := q _ walk_list
    obtain ⟨its, rv, p, hz⟩ := J.list hq
    exact wpAny_pyIter_list p.isList ⟨_, [z.heap.objs.size], _, _, H1, rfl, J.kept (t' := z.toks) (fun b o e => Heap.get?_push_of_some _ e), turn_list a _, ⟨_, Heap.get?_push_size _ rfl, rfl, rfl⟩, (by exact far), q2⟩
  · have q2 := q _ walk_tup
    obtain ⟨its, rv, p, hz⟩ := J.tuple hq
    exact wpAny_pyIter_tuple (show z.heap.IsTuple a its.toArray from p) ⟨_, [z.heap.objs.size], _, _, H1, rfl, J.kept (t' := z.toks) (fun b o e => Heap.get?_push_of_some _ e), turn_tuple a _, ⟨_, Heap.get?_push_size _ rfl, rfl, rfl⟩, (by exact far), q2⟩
end Hb
set_option Elab.async false
set_option linter.all false
set_option maxRecDepth 100000
set_option maxHeartbeats 8000000
/-! repr of any data but texts -/
namespace Hb
open PySem PySem.Spec PyProof.Rows L2
section
variable {X : Cx}
def rReprA (K : PySem.W.Frag) : List V → Hp → VK → Prop := fun vs H Q => ∃ (v : V) (d : PyData), vs = [v] ∧ Dp K H v d ∧ d.showable = true ∧ d.hasDict = false ∧ d.depth ≤ 60 ∧ d.shown.length ≤ sizeLine ∧ (∀ i, d = .int i → i.natAbs.log2 < 1920) ∧ (∀ x, d ≠ .str x) ∧ Q (.str d.shown) H
theorem cr_reprA (hg : X.A.guards = some []) (hu : X.A.units + 64 < cLine) : CallR X (.builtin "repr") (rReprA X.K) := by
  intro pins s σ H vs us Q I r h
  obtain ⟨v, d, rfl, hd, hs, hk, hz, hl, hi, hx, q⟩ := h
  have ref : ∀ a, v = .ref a → wpAny (model X.prog X.w) X.A (call (.builtin "repr") us) (EP X pins σ Q) X.xe s := fun a e => by
    subst e
    exact cr_reprD hg hu pins s σ H _ us Q I r ⟨a, d, rfl, hd, hs, hk, hz, hl, q⟩
  obtain ⟨u, rfl, ru⟩ := r.one
  cases hd with
  | non =>
    obtain rfl : u = Value.none := ru
    exact PySem.P.repr_of_none ⟨.str "None", H, I.tok _, ⟨_, rfl⟩, q⟩
  | bl b =>
    obtain rfl : u = Value.bool b := ru
    exact PySem.P.repr_of_bool ⟨.str _, H, I.tok _, ⟨_, rfl⟩, q⟩
  | int i =>
    obtain ⟨t, rfl⟩ := ru
    exact PySem.P.repr_of_int (hi i rfl) ⟨.str (toString i : String), H, I.tok _, ⟨_, rfl⟩, q⟩
  | str x => exact absurd rfl (hx x)
  | lst h1 h2 => exact ref _ rfl
  | tup h1 h2 => exact ref _ rfl
end
end Hb
set_option Elab.async false
set_option linter.all false
set_option maxRecDepth 100000
set_option maxHeartbeats 4000000
/-! repr of an int or None -/
namespace Hb
open PySem PySem.Spec PyProof.Rows L2
def shownI (i : Int) : Str := (toString i : String)
def rReprN : List V → Hp → VK → Prop := fun vs H Q => ∃ v, vs = [v] ∧ ((∃ i : Int, v = .int i ∧ i.natAbs.log2 < 1920 ∧ Q (.str (shownI i)) H) ∨ (v = .non ∧ Q (.str ("None" : Str)) H))
section
variable {X : Cx}
theorem cr_reprN : CallR X (.builtin "repr") rReprN := by
  intro pins s σ H vs us Q I r h
  obtain ⟨v, rfl, h⟩ := h
  obtain ⟨u, rfl, ru⟩ := r.one
  rcases h with ⟨i, rfl, hi, q⟩ | ⟨rfl, q⟩
  · obtain ⟨t, rfl⟩ := ru
    exact PySem.P.repr_of_int hi ⟨.str (toString i : String), H, I.tok _, ⟨_, rfl⟩, q⟩
  · obtain rfl : u = Value.none := ru
    exact PySem.P.repr_of_none ⟨.str "None", H, I.tok _, ⟨_, rfl⟩, q⟩
end
theorem log2_few {n : Nat} (h : n < 1000000) : ((n : Nat) : Int).natAbs.log2 < 1920 := by
  have e : ((n : Nat) : Int).natAbs = n := rfl
  rw [e]
  by_cases c : n = 0
  · subst c; decide
  · refine (Nat.log2_lt c).mpr (Nat.lt_of_lt_of_le h ?_)
    exact Nat.le_trans (by decide : 1000000 ≤ 2 ^ 20) (Nat.pow_le_pow_right (by decide) (by decide))
end Hb
set_option Elab.async false
set_option linter.all false
set_option maxRecDepth 100000
set_option maxHeartbeats 4000000
/-! tuple of a dict whose keys are nested tuples -/
namespace Hb
open PySem PySem.Spec PyProof.Rows L2
open PySem.W (KdlSrc kdl_extend)
section
variable {prog : Program} {w : World} {A : Around} {E : Value → Shared → Prop} {s : Shared} {T : String} {r d : Addr} {n : Nat} {P : Nat → Value → Prop} {OK : Heap → Prop}
theorem collect_src {Q : List Value → Shared → Prop} (K : KdlSrc prog w T r d n P OK) (hh : A.handled = none) (hok : OK s.heap) (hn : n ≤ sizeLine)
    (hQ : ∀ (h' : Heap) (tk : Nat) (acc : Array Value), (∀ b o, s.heap.get? b = some o → h'.get? b = some o) → ItemsOf P acc n → Q acc.toList { s with heap := h', toks := tk }) :
    wpAny (model prog w) A (collect (.ref r)) Q E s := by
  unfold collect
  refine wpAny_bind (wpAny_runValue (codeAny_builtin F.entry_proto_collect ?_))
  rw [Around.under_plainId F.plain_proto_collect _]
  show wpAny _ A.in1 (newList [] >>= fun l => again (.builtin "list.__iadd__" ⟨[l, .ref r], []⟩)) _ _ s
  refine wpAny_bind (wpAny_newObj_type ?_)
  refine wpAny_pure ⟨plainId_quiet F.plain_list_iadd _, codeAny_builtin F.entry_list_iadd ?_⟩
  rw [Around.under_plainId F.plain_list_iadd _]
  show wpAny _ A.in1 (Builtin.List.listExtendWith (.ref s.heap.objs.size) (.ref r) (.ref s.heap.objs.size)) _ _ _
  have hS : (s.heap.push { cls := .type "list", data := .seq ([] : List Value).toArray }).get? s.heap.objs.size = some { cls := .type "list", data := .seq #[] 0 } := Heap.get?_push_size _ rfl
  have hlt := K.there _ hok
  refine wpAny_mono (kdl_extend (A := A) (R := fun rr s' => rr = .ok (.ret (.ref s.heap.objs.size)) ∧ ∃ (h' : Heap) (tk : Nat) (acc : Array Value) (c' : Nat), s' = { s with heap := h', toks := tk } ∧
      (∀ b o, s.heap.get? b = some o → h'.get? b = some o) ∧ h'.get? s.heap.objs.size = some { cls := .type "list", dict := none, data := .seq acc c', slots := #[] } ∧ ItemsOf P acc n)
    (s := { s with heap := s.heap.push { cls := .type "list", data := .seq ([] : List Value).toArray } }) K hh (K.keep _ _ hok fun b _ o e => Heap.get?_push_of_some _ e) _ (Nat.ne_of_gt hlt.1) (Nat.ne_of_gt hlt.2) _ 0 hS
    (fun h' tk acc c' hk e hi => ⟨rfl, h', tk, acc, c', rfl, fun b o q => hk b o (Nat.ne_of_lt (Heap.lt_size q)) (Heap.get?_push_of_some _ q), e, hi⟩) hn) (fun fin s' h => ?_) (fun e s' h => ?_)
  · cases fin with
    | done f =>
      obtain ⟨e, h', tk, acc, c', rfl, hk, hS', hi⟩ := h
      cases e
      show wpAny _ A (load s.heap.objs.size >>= _) _ _ _
      exact wpAny_bind (wpAny_load hS' (wpAny_pure (hQ h' tk acc hk hi)))
    | again c' =>
      refine ⟨h.1, codeAny_mono h.2 fun rr s'' hr' => ?_⟩
      obtain ⟨rfl, h', tk, acc, c', rfl, hk, hS', hi⟩ := hr'
      show wpAny _ A (load s.heap.objs.size >>= _) _ _ _
      exact wpAny_bind (wpAny_load hS' (wpAny_pure (hQ h' tk acc hk hi)))
  · exact absurd h.1 (by simp)
theorem code_tuple_new_src {Q₁ : Value → Shared → Prop} (K : KdlSrc prog w "dict" r d n P OK) (hh : A.handled = none) (hok : OK s.heap) (hn : n ≤ sizeLine)
    (h : ∀ (h' : Heap) (tk : Nat) (acc : Array Value), (∀ b o, s.heap.get? b = some o → h'.get? b = some o) → ItemsOf P acc n →
      Q₁ (.ref h'.objs.size) { s with heap := h'.push { cls := .type "tuple", data := .seq acc }, toks := tk }) :
    codeAny (model prog w) A (.call (.builtin "tuple.__new__") ⟨[.type "tuple", .ref r], []⟩) (wants Q₁ E) s := by
  refine codeAny_of_tree ?_
  show wpAny _ A.in1 (do checkBuiltinCall "tuple.__new__" ⟨[.type "tuple", .ref r], []⟩; again (.builtin "tuple.__new__" ⟨[.type "tuple", .ref r], []⟩)) _ _ s
  refine wpAny_bind (wpAny_of_eq (F.newCall_tuple_1 _) (wpAny_pure ⟨plainId_quiet F.plain_tuple_new _, codeAny_builtin F.entry_tuple_new ?_⟩))
  rw [Around.under_plainId F.plain_tuple_new _]
  have hsub := sub_tuple_self
  have hinit := init_tuple_lookup
  have hmh := madeHere_tuple
  have hh1 : A.in1.handled = none := hh
  have hTI : s.TypeIs (.ref r) "dict" := K.type s hok
  wp_walk using wpAny_typeOf hTI, collect_src (A := A.in1) K hh1 hok hn
  intro h' tk acc hk hacc
  show wpAny _ _ (Builtin.Tuple.tupleExact acc.toList.toArray >>= fun v => ret v) _ _ _
  unfold Builtin.Tuple.tupleExact
  refine wpAny_bind (wpAny_newObj_type ?_ (by show acc.toList.toArray.size ≤ sizeLine; simp only [Array.toArray_toList]; rw [hacc.1]; exact hn))
  refine wpAny_pure ?_
  have e : acc.toList.toArray = acc := by simp
  rw [e]
  exact h h' tk acc hk hacc
theorem call_tuple_src {Q : Value → Shared → Prop} (K : KdlSrc prog w "dict" r d n P OK) (hh : A.handled = none) (hok : OK s.heap) (hn : n ≤ sizeLine)
    (hQ : ∀ (h' : Heap) (tk : Nat) (acc : Array Value), (∀ b o, s.heap.get? b = some o → h'.get? b = some o) → ItemsOf P acc n →
      Q (.ref h'.objs.size) { s with heap := h'.push { cls := .type "tuple", data := .seq acc }, toks := tk }) :
    wpAny (model prog w) A (call (.type "tuple") [.ref r]) Q E s := by
  refine callType_codes (Q₁ := fun obj s₁ => s₁.TypeIs obj "tuple" ∧ Q obj s₁) F.called_tuple (F.typeCall_tuple_1 _) F.entry_object_init
    (code_tuple_new_src (A := A.in1) K hh hok hn fun h' tk acc hk hacc => ⟨⟨_, Heap.get?_push_size _ rfl, rfl⟩, hQ h' tk acc hk hacc⟩) fun obj s₁ h₁ => ?_
  exact ⟨h₁.1, F.args_object_init_2 obj _, object_init_meets F.called_tuple.init.lookup F.called_tuple.made (by decide) prog w A.in1 _ s₁ ⟨h₁.1, rfl, h₁.2⟩⟩
end
/-- tuple(d) of such a dict: its keys in their order -/
def rTupN (P : Program) (w : World) (K : PySem.W.Frag) : List V → Hp → VK → Prop := fun xs H Q => ∃ d kvs, xs = [.ref d] ∧ DN P w K H d kvs ∧ kvs.length ≤ sizeLine ∧
  ∀ q (bs : List Addr), H q = none → bs.length = kvs.length → (∀ (i : Nat) (b : Addr), bs[i]? = some b → ∃ p : PyData × V, kvs[i]? = some p ∧ TD K H (.ref b) p.1) → Q (.ref q) (upd H q (.tup (bs.map V.ref)))
section
variable {X : Cx}
theorem call_tupleN (hc : X.calm = true) : CallR X (.type "tuple") (rTupN X.prog X.w X.K) := by
  intro pins s σ H xs us Q I r h
  obtain ⟨d, kvs, rfl, g, few, q⟩ := h
  obtain ⟨u, rfl, ru⟩ := r.one
  obtain rfl : u = Value.ref d := ru
  obtain ⟨o, es, ep, xs, g⟩ := g
  have hgd := dno_get I.hok g.h
  have len : xs.length = kvs.length := (Paired.length g.k).symm
  have es1 : es.size = xs.length := by rw [← Array.length_toList, g.e, List.length_map]
  have hk : ∀ (i : Nat) (b : Addr), (xs.map (·.2.1))[i]? = some b → ∃ en, es[i]? = some en ∧ en.key = .ref b := fun i b hb => by
    rw [List.getElem?_map] at hb
    obtain ⟨p, hp, rfl⟩ := Option.map_eq_some_iff.mp hb
    refine ⟨entryOfKey (nestedKind X.prog X.w) p, ?_, rfl⟩
    rw [← Array.getElem?_toList, g.e, List.getElem?_map, hp]
    rfl
  have all : ∀ (i : Nat) (b : Addr), (xs.map (·.2.1))[i]? = some b → ∃ p, kvs[i]? = some p ∧ TD X.K H (.ref b) p.1 := fun i b hb => by
    rw [List.getElem?_map] at hb
    obtain ⟨p, hp, rfl⟩ := Option.map_eq_some_iff.mp hb
    have go : ∀ {l : List (PyData × V)} {m : List (NestedKey × Addr × Value)} {i : Nat}, KN X.K H l m → m[i]? = some p → ∃ p', l[i]? = some p' ∧ TD X.K H (.ref p.2.1) p'.1 := by
      intro l m i z
      induction z generalizing i with
      | nil => intro e; simp at e
      | @cons p0 q0 ps qs h t ih =>
        intro e
        cases i with
        | zero => simp at e; subst e; exact ⟨p0, rfl, h.2.1⟩
        | succ i => obtain ⟨p', e1, e2⟩ := ih (i := i) (by simpa using e); exact ⟨p', by simpa using e1, e2⟩
    exact go g.k hp
  have raw : s.heap.DictRaw d es ep := ⟨o, hgd, g.x, g.d⟩
  refine call_tuple_src (KdlSrc.rawDict g.sm) (I.ok.hd hc) raw (by omega) fun h' tk acc hk' hacc => ?_
  have I2 : Inv X pins σ H { s with heap := h', toks := tk } := I.kept hk'
  refine ⟨.ref h'.objs.size, upd H h'.objs.size (.tup ((xs.map (·.2.1)).map V.ref)), I2.laid (t' := tk) (fun c o e => Heap.get?_push_of_some _ e) (Nat.le_refl _) (show ObjOk X.prog X.w _ _ _ (.tup ((xs.map (·.2.1)).map V.ref)) from ⟨?_, acc.toList, ?_, ?_⟩), rfl, q _ (xs.map (·.2.1)) (I2.hok.fresh (Nat.le_refl _)) (by rw [List.length_map]; exact len) all⟩
  · rw [List.length_map, List.length_map]; omega
  · refine vals_of_at (by rw [List.length_map, List.length_map]; have a1 := hacc.1; have e2 : acc.toList.length = acc.size := Array.length_toList; omega) fun j x u h1 h2 => ?_
    rw [List.getElem?_map] at h1
    obtain ⟨b, hb, rfl⟩ := Option.map_eq_some_iff.mp h1
    obtain ⟨en, hen, hkey⟩ := hk j b hb
    rw [Array.getElem?_toList] at h2
    obtain ⟨hi, e⟩ := hacc.2 j u h2
    have : es[j]? = some es[j] := Array.getElem?_eq_getElem hi
    rw [this] at hen
    cases hen
    rw [e, hkey]
    rfl
  · rw [Array.toArray_toList]; exact IsTup.new _ _
end
end Hb
set_option Elab.async false
set_option linter.all false
set_option maxRecDepth 100000
set_option maxHeartbeats 4000000
/-! The text, by places. -/
namespace Lw
open PySem PySem.Spec PyProof.Rows L2 Hb
def top (i : Nat) : Stmt := PySem.Challenge.pw_hushsteps_k78_whole_tables_and_walks.main.body.getD i (.Pass ⟨0, 0, 0, 0⟩)
abbrev s_is_whole : Stmt := (top 9)
abbrev N_is_whole : List Str := ["value"]
theorem sc_is_whole : FnScope N_is_whole ["value"] (defScope s_is_whole) := C8.fnScope_by (by decide +kernel)
theorem bd_is_whole : ∀ (kV doc pm : Value) (an : Option Addr) (cdv ct : Value) (us : List Value), us.length = (["value"] : List Str).length → bindArgs (PySem.W.fnOf "is_whole" "is_whole" (defArgs s_is_whole) (defBody s_is_whole) (defScope s_is_whole) .none kV doc pm an cdv ct) ⟨us, []⟩ = pure ((["value"] : List Str).zip us) :=
  fun _ _ _ _ _ _ us hl => match us, hl with | [_], _ => rfl
abbrev s_is_number : Stmt := (top 10)
abbrev N_is_number : List Str := ["value"]
theorem sc_is_number : FnScope N_is_number ["value"] (defScope s_is_number) := C8.fnScope_by (by decide +kernel)
theorem bd_is_number : ∀ (kV doc pm : Value) (an : Option Addr) (cdv ct : Value) (us : List Value), us.length = (["value"] : List Str).length → bindArgs (PySem.W.fnOf "is_number" "is_number" (defArgs s_is_number) (defBody s_is_number) (defScope s_is_number) .none kV doc pm an cdv ct) ⟨us, []⟩ = pure ((["value"] : List Str).zip us) :=
  fun _ _ _ _ _ _ us hl => match us, hl with | [_], _ => rfl
abbrev s_is_positive : Stmt := (top 11)
abbrev N_is_positive : List Str := ["value"]
theorem sc_is_positive : FnScope N_is_positive ["value"] (defScope s_is_positive) := C8.fnScope_by (by decide +kernel)
theorem bd_is_positive : ∀ (kV doc pm : Value) (an : Option Addr) (cdv ct : Value) (us : List Value), us.length = (["value"] : List Str).length → bindArgs (PySem.W.fnOf "is_positive" "is_positive" (defArgs s_is_positive) (defBody s_is_positive) (defScope s_is_positive) .none kV doc pm an cdv ct) ⟨us, []⟩ = pure ((["value"] : List Str).zip us) :=
  fun _ _ _ _ _ _ us hl => match us, hl with | [_], _ => rfl
abbrev s_is_name : Stmt := (top 12)
abbrev N_is_name : List Str := ["value", "letter"]
theorem sc_is_name : FnScope N_is_name ["value"] (defScope s_is_name) := C8.fnScope_by (by decide +kernel)
theorem bd_is_name : ∀ (kV doc pm : Value) (an : Option Addr) (cdv ct : Value) (us : List Value), us.length = (["value"] : List Str).length → bindArgs (PySem.W.fnOf "is_name" "is_name" (defArgs s_is_name) (defBody s_is_name) (defScope s_is_name) .none kV doc pm an cdv ct) ⟨us, []⟩ = pure ((["value"] : List Str).zip us) :=
  fun _ _ _ _ _ _ us hl => match us, hl with | [_], _ => rfl
abbrev s_is_row : Stmt := (top 13)
abbrev N_is_row : List Str := ["value"]
theorem sc_is_row : FnScope N_is_row ["value"] (defScope s_is_row) := C8.fnScope_by (by decide +kernel)
theorem bd_is_row : ∀ (kV doc pm : Value) (an : Option Addr) (cdv ct : Value) (us : List Value), us.length = (["value"] : List Str).length → bindArgs (PySem.W.fnOf "is_row" "is_row" (defArgs s_is_row) (defBody s_is_row) (defScope s_is_row) .none kV doc pm an cdv ct) ⟨us, []⟩ = pure ((["value"] : List Str).zip us) :=
  fun _ _ _ _ _ _ us hl => match us, hl with | [_], _ => rfl
abbrev s_is_tuple_of : Stmt := (top 14)
abbrev N_is_tuple_of : List Str := ["value", "many"]
theorem sc_is_tuple_of : FnScope N_is_tuple_of ["value", "many"] (defScope s_is_tuple_of) := C8.fnScope_by (by decide +kernel)
theorem bd_is_tuple_of : ∀ (kV doc pm : Value) (an : Option Addr) (cdv ct : Value) (us : List Value), us.length = (["value", "many"] : List Str).length → bindArgs (PySem.W.fnOf "is_tuple_of" "is_tuple_of" (defArgs s_is_tuple_of) (defBody s_is_tuple_of) (defScope s_is_tuple_of) .none kV doc pm an cdv ct) ⟨us, []⟩ = pure ((["value", "many"] : List Str).zip us) :=
  fun _ _ _ _ _ _ us hl => match us, hl with | [_, _], _ => rfl
abbrev s_are_unlike : Stmt := (top 15)
abbrev N_are_unlike : List Str := ["things"]
theorem sc_are_unlike : FnScope N_are_unlike ["things"] (defScope s_are_unlike) := C8.fnScope_by (by decide +kernel)
theorem bd_are_unlike : ∀ (kV doc pm : Value) (an : Option Addr) (cdv ct : Value) (us : List Value), us.length = (["things"] : List Str).length → bindArgs (PySem.W.fnOf "are_unlike" "are_unlike" (defArgs s_are_unlike) (defBody s_are_unlike) (defScope s_are_unlike) .none kV doc pm an cdv ct) ⟨us, []⟩ = pure ((["things"] : List Str).zip us) :=
  fun _ _ _ _ _ _ us hl => match us, hl with | [_], _ => rfl
abbrev s_is_numeral : Stmt := (top 16)
abbrev N_is_numeral : List Str := ["word", "digit"]
theorem sc_is_numeral : FnScope N_is_numeral ["word"] (defScope s_is_numeral) := C8.fnScope_by (by decide +kernel)
theorem bd_is_numeral : ∀ (kV doc pm : Value) (an : Option Addr) (cdv ct : Value) (us : List Value), us.length = (["word"] : List Str).length → bindArgs (PySem.W.fnOf "is_numeral" "is_numeral" (defArgs s_is_numeral) (defBody s_is_numeral) (defScope s_is_numeral) .none kV doc pm an cdv ct) ⟨us, []⟩ = pure ((["word"] : List Str).zip us) :=
  fun _ _ _ _ _ _ us hl => match us, hl with | [_], _ => rfl
abbrev s_is_room : Stmt := (top 27)
abbrev N_is_room : List Str := ["rooms", "value"]
theorem sc_is_room : FnScope N_is_room ["rooms", "value"] (defScope s_is_room) := C8.fnScope_by (by decide +kernel)
theorem bd_is_room : ∀ (kV doc pm : Value) (an : Option Addr) (cdv ct : Value) (us : List Value), us.length = (["rooms", "value"] : List Str).length → bindArgs (PySem.W.fnOf "is_room" "is_room" (defArgs s_is_room) (defBody s_is_room) (defScope s_is_room) .none kV doc pm an cdv ct) ⟨us, []⟩ = pure ((["rooms", "value"] : List Str).zip us) :=
  fun _ _ _ _ _ _ us hl => match us, hl with | [_, _], _ => rfl
abbrev s_is_door : Stmt := (top 28)
abbrev N_is_door : List Str := ["rooms", "value", "one", "other", "noise"]
theorem sc_is_door : FnScope N_is_door ["rooms", "value"] (defScope s_is_door) := C8.fnScope_by (by decide +kernel)
theorem bd_is_door : ∀ (kV doc pm : Value) (an : Option Addr) (cdv ct : Value) (us : List Value), us.length = (["rooms", "value"] : List Str).length → bindArgs (PySem.W.fnOf "is_door" "is_door" (defArgs s_is_door) (defBody s_is_door) (defScope s_is_door) .none kV doc pm an cdv ct) ⟨us, []⟩ = pure ((["rooms", "value"] : List Str).zip us) :=
  fun _ _ _ _ _ _ us hl => match us, hl with | [_, _], _ => rfl
abbrev s_is_floor : Stmt := (top 29)
abbrev N_is_floor : List Str := ["rooms", "value"]
theorem sc_is_floor : FnScope N_is_floor ["rooms", "value"] (defScope s_is_floor) := C8.fnScope_by (by decide +kernel)
theorem bd_is_floor : ∀ (kV doc pm : Value) (an : Option Addr) (cdv ct : Value) (us : List Value), us.length = (["rooms", "value"] : List Str).length → bindArgs (PySem.W.fnOf "is_floor" "is_floor" (defArgs s_is_floor) (defBody s_is_floor) (defScope s_is_floor) .none kV doc pm an cdv ct) ⟨us, []⟩ = pure ((["rooms", "value"] : List Str).zip us) :=
  fun _ _ _ _ _ _ us hl => match us, hl with | [_, _], _ => rfl
abbrev s_are_doors : Stmt := (top 30)
abbrev N_are_doors : List Str := ["rooms", "value", "door"]
theorem sc_are_doors : FnScope N_are_doors ["rooms", "value"] (defScope s_are_doors) := C8.fnScope_by (by decide +kernel)
theorem bd_are_doors : ∀ (kV doc pm : Value) (an : Option Addr) (cdv ct : Value) (us : List Value), us.length = (["rooms", "value"] : List Str).length → bindArgs (PySem.W.fnOf "are_doors" "are_doors" (defArgs s_are_doors) (defBody s_are_doors) (defScope s_are_doors) .none kV doc pm an cdv ct) ⟨us, []⟩ = pure ((["rooms", "value"] : List Str).zip us) :=
  fun _ _ _ _ _ _ us hl => match us, hl with | [_, _], _ => rfl
abbrev s_are_floors : Stmt := (top 31)
abbrev N_are_floors : List Str := ["rooms", "value", "floor"]
theorem sc_are_floors : FnScope N_are_floors ["rooms", "value"] (defScope s_are_floors) := C8.fnScope_by (by decide +kernel)
theorem bd_are_floors : ∀ (kV doc pm : Value) (an : Option Addr) (cdv ct : Value) (us : List Value), us.length = (["rooms", "value"] : List Str).length → bindArgs (PySem.W.fnOf "are_floors" "are_floors" (defArgs s_are_floors) (defBody s_are_floors) (defScope s_are_floors) .none kV doc pm an cdv ct) ⟨us, []⟩ = pure ((["rooms", "value"] : List Str).zip us) :=
  fun _ _ _ _ _ _ us hl => match us, hl with | [_, _], _ => rfl
abbrev s_are_cradles : Stmt := (top 32)
abbrev N_are_cradles : List Str := ["rooms", "value", "room"]
theorem sc_are_cradles : FnScope N_are_cradles ["rooms", "value"] (defScope s_are_cradles) := C8.fnScope_by (by decide +kernel)
theorem bd_are_cradles : ∀ (kV doc pm : Value) (an : Option Addr) (cdv ct : Value) (us : List Value), us.length = (["rooms", "value"] : List Str).length → bindArgs (PySem.W.fnOf "are_cradles" "are_cradles" (defArgs s_are_cradles) (defBody s_are_cradles) (defScope s_are_cradles) .none kV doc pm an cdv ct) ⟨us, []⟩ = pure ((["rooms", "value"] : List Str).zip us) :=
  fun _ _ _ _ _ _ us hl => match us, hl with | [_, _], _ => rfl
abbrev s_House_init : Stmt := (inClass (top 40) 0)
abbrev N_House_init : List Str := ["self", "rooms", "doors", "floors", "cradles"]
theorem sc_House_init : FnScope N_House_init ["self", "rooms", "doors", "floors", "cradles"] (defScope s_House_init) := C8.fnScope_by (by decide +kernel)
theorem bd_House_init : ∀ (kV doc pm : Value) (an : Option Addr) (cdv ct : Value) (us : List Value), us.length = (["self", "rooms", "doors", "floors", "cradles"] : List Str).length → bindArgs (PySem.W.fnOf "__init__" "House.__init__" (defArgs s_House_init) (defBody s_House_init) (defScope s_House_init) .none kV doc pm an cdv ct) ⟨us, []⟩ = pure ((["self", "rooms", "doors", "floors", "cradles"] : List Str).zip us) :=
  fun _ _ _ _ _ _ us hl => match us, hl with | [_, _, _, _, _], _ => rfl
theorem bk_House_init : ∀ (T : Addr) (kV doc pm : Value) (an : Option Addr) (cdv ct : Value) (us its : List Value), us.length = (["self", "rooms", "doors", "floors", "cradles"] : List Str).length → its.length = 2 → ∃ k, bindArgs (PySem.W.fnOf "__init__" "House.__init__" (defArgs s_House_init) (defBody s_House_init) (defScope s_House_init) (.ref T) kV doc pm an cdv ct) ⟨us, []⟩ = seqItems? (.ref T) >>= k ∧ k (some its.toArray) = pure ((["self", "rooms", "doors", "floors", "cradles"] : List Str).zip us) :=
  fun _ _ _ _ _ _ _ us its h1 h2 => match us, its, h1, h2 with | [_, _, _, _, _], [_, _], _, _ => ⟨_, rfl, rfl⟩
theorem bkp_House_init : ∀ (T : Addr) (kV doc pm : Value) (an : Option Addr) (cdv ct : Value) (us its : List Value), us.length = 3 → its.length = 2 → ∃ k, bindArgs (PySem.W.fnOf "__init__" "House.__init__" (defArgs s_House_init) (defBody s_House_init) (defScope s_House_init) (.ref T) kV doc pm an cdv ct) ⟨us, []⟩ = seqItems? (.ref T) >>= k ∧ k (some its.toArray) = pure ((["self", "rooms", "doors", "floors", "cradles"] : List Str).zip (us ++ its)) :=
  fun _ _ _ _ _ _ _ us its h1 h2 => match us, its, h1, h2 with | [_, _, _], [_, _], _, _ => ⟨_, rfl, rfl⟩
theorem bkp1_House_init : ∀ (T : Addr) (kV doc pm : Value) (an : Option Addr) (cdv ct : Value) (us its : List Value), us.length = 4 → its.length = 2 → ∃ k, bindArgs (PySem.W.fnOf "__init__" "House.__init__" (defArgs s_House_init) (defBody s_House_init) (defScope s_House_init) (.ref T) kV doc pm an cdv ct) ⟨us, []⟩ = seqItems? (.ref T) >>= k ∧ k (some its.toArray) = pure ((["self", "rooms", "doors", "floors", "cradles"] : List Str).zip (us ++ its.drop 1)) :=
  fun _ _ _ _ _ _ _ us its h1 h2 => match us, its, h1, h2 with | [_, _, _, _], [_, _], _, _ => ⟨_, rfl, rfl⟩
abbrev s_is_sorted_name : Stmt := (top 49)
abbrev N_is_sorted_name : List Str := ["value"]
theorem sc_is_sorted_name : FnScope N_is_sorted_name ["value"] (defScope s_is_sorted_name) := C8.fnScope_by (by decide +kernel)
theorem bd_is_sorted_name : ∀ (kV doc pm : Value) (an : Option Addr) (cdv ct : Value) (us : List Value), us.length = (["value"] : List Str).length → bindArgs (PySem.W.fnOf "is_sorted_name" "is_sorted_name" (defArgs s_is_sorted_name) (defBody s_is_sorted_name) (defScope s_is_sorted_name) .none kV doc pm an cdv ct) ⟨us, []⟩ = pure ((["value"] : List Str).zip us) :=
  fun _ _ _ _ _ _ us hl => match us, hl with | [_], _ => rfl
abbrev s_are_sorts : Stmt := (top 50)
abbrev N_are_sorts : List Str := ["value", "pair"]
theorem sc_are_sorts : FnScope N_are_sorts ["value"] (defScope s_are_sorts) := C8.fnScope_by (by decide +kernel)
theorem bd_are_sorts : ∀ (kV doc pm : Value) (an : Option Addr) (cdv ct : Value) (us : List Value), us.length = (["value"] : List Str).length → bindArgs (PySem.W.fnOf "are_sorts" "are_sorts" (defArgs s_are_sorts) (defBody s_are_sorts) (defScope s_are_sorts) .none kV doc pm an cdv ct) ⟨us, []⟩ = pure ((["value"] : List Str).zip us) :=
  fun _ _ _ _ _ _ us hl => match us, hl with | [_], _ => rfl
abbrev s_Sleeper_init : Stmt := (inClass (top 54) 0)
abbrev N_Sleeper_init : List Str := ["self", "sorts", "stir", "doze", "near", "loud"]
theorem sc_Sleeper_init : FnScope N_Sleeper_init ["self", "sorts", "stir", "doze", "near", "loud"] (defScope s_Sleeper_init) := C8.fnScope_by (by decide +kernel)
theorem bd_Sleeper_init : ∀ (kV doc pm : Value) (an : Option Addr) (cdv ct : Value) (us : List Value), us.length = (["self", "sorts", "stir", "doze", "near", "loud"] : List Str).length → bindArgs (PySem.W.fnOf "__init__" "Sleeper.__init__" (defArgs s_Sleeper_init) (defBody s_Sleeper_init) (defScope s_Sleeper_init) .none kV doc pm an cdv ct) ⟨us, []⟩ = pure ((["self", "sorts", "stir", "doze", "near", "loud"] : List Str).zip us) :=
  fun _ _ _ _ _ _ us hl => match us, hl with | [_, _, _, _, _, _], _ => rfl
abbrev s_first_state : Stmt := (top 55)
abbrev N_first_state : List Str := ["sleeper", "first"]
theorem sc_first_state : FnScope N_first_state ["sleeper", "first"] (defScope s_first_state) := C8.fnScope_by (by decide +kernel)
theorem bd_first_state : ∀ (kV doc pm : Value) (an : Option Addr) (cdv ct : Value) (us : List Value), us.length = (["sleeper", "first"] : List Str).length → bindArgs (PySem.W.fnOf "first_state" "first_state" (defArgs s_first_state) (defBody s_first_state) (defScope s_first_state) .none kV doc pm an cdv ct) ⟨us, []⟩ = pure ((["sleeper", "first"] : List Str).zip us) :=
  fun _ _ _ _ _ _ us hl => match us, hl with | [_, _], _ => rfl
abbrev s_heard : Stmt := (top 56)
abbrev N_heard : List Str := ["sleeper", "state", "noise", "sort"]
theorem sc_heard : FnScope N_heard ["sleeper", "state", "noise"] (defScope s_heard) := C8.fnScope_by (by decide +kernel)
theorem bd_heard : ∀ (kV doc pm : Value) (an : Option Addr) (cdv ct : Value) (us : List Value), us.length = (["sleeper", "state", "noise"] : List Str).length → bindArgs (PySem.W.fnOf "heard" "heard" (defArgs s_heard) (defBody s_heard) (defScope s_heard) .none kV doc pm an cdv ct) ⟨us, []⟩ = pure ((["sleeper", "state", "noise"] : List Str).zip us) :=
  fun _ _ _ _ _ _ us hl => match us, hl with | [_, _, _], _ => rfl
abbrev s_heard_all : Stmt := (top 57)
abbrev N_heard_all : List Str := ["sleeper", "state", "noises", "behind", "noise"]
theorem sc_heard_all : FnScope N_heard_all ["sleeper", "state", "noises"] (defScope s_heard_all) := C8.fnScope_by (by decide +kernel)
theorem bd_heard_all : ∀ (kV doc pm : Value) (an : Option Addr) (cdv ct : Value) (us : List Value), us.length = (["sleeper", "state", "noises"] : List Str).length → bindArgs (PySem.W.fnOf "heard_all" "heard_all" (defArgs s_heard_all) (defBody s_heard_all) (defScope s_heard_all) .none kV doc pm an cdv ct) ⟨us, []⟩ = pure ((["sleeper", "state", "noises"] : List Str).zip us) :=
  fun _ _ _ _ _ _ us hl => match us, hl with | [_, _, _], _ => rfl
abbrev s_ticked : Stmt := (top 58)
abbrev N_ticked : List Str := ["sleeper", "state"]
theorem sc_ticked : FnScope N_ticked ["sleeper", "state"] (defScope s_ticked) := C8.fnScope_by (by decide +kernel)
theorem bd_ticked : ∀ (kV doc pm : Value) (an : Option Addr) (cdv ct : Value) (us : List Value), us.length = (["sleeper", "state"] : List Str).length → bindArgs (PySem.W.fnOf "ticked" "ticked" (defArgs s_ticked) (defBody s_ticked) (defScope s_ticked) .none kV doc pm an cdv ct) ⟨us, []⟩ = pure ((["sleeper", "state"] : List Str).zip us) :=
  fun _ _ _ _ _ _ us hl => match us, hl with | [_, _], _ => rfl
abbrev s_hummed : Stmt := (top 59)
abbrev N_hummed : List Str := ["sleeper", "state", "word"]
theorem sc_hummed : FnScope N_hummed ["sleeper", "state", "word"] (defScope s_hummed) := C8.fnScope_by (by decide +kernel)
theorem bd_hummed : ∀ (kV doc pm : Value) (an : Option Addr) (cdv ct : Value) (us : List Value), us.length = (["sleeper", "state", "word"] : List Str).length → bindArgs (PySem.W.fnOf "hummed" "hummed" (defArgs s_hummed) (defBody s_hummed) (defScope s_hummed) .none kV doc pm an cdv ct) ⟨us, []⟩ = pure ((["sleeper", "state", "word"] : List Str).zip us) :=
  fun _ _ _ _ _ _ us hl => match us, hl with | [_, _, _], _ => rfl
abbrev s_dozing_anew : Stmt := (top 60)
abbrev N_dozing_anew : List Str := ["sleeper"]
theorem sc_dozing_anew : FnScope N_dozing_anew ["sleeper"] (defScope s_dozing_anew) := C8.fnScope_by (by decide +kernel)
theorem bd_dozing_anew : ∀ (kV doc pm : Value) (an : Option Addr) (cdv ct : Value) (us : List Value), us.length = (["sleeper"] : List Str).length → bindArgs (PySem.W.fnOf "dozing_anew" "dozing_anew" (defArgs s_dozing_anew) (defBody s_dozing_anew) (defScope s_dozing_anew) .none kV doc pm an cdv ct) ⟨us, []⟩ = pure ((["sleeper"] : List Str).zip us) :=
  fun _ _ _ _ _ _ us hl => match us, hl with | [_], _ => rfl
abbrev s_sort_of : Stmt := (top 61)
abbrev N_sort_of : List Str := ["sleeper", "noise", "name", "sort"]
theorem sc_sort_of : FnScope N_sort_of ["sleeper", "noise"] (defScope s_sort_of) := C8.fnScope_by (by decide +kernel)
theorem bd_sort_of : ∀ (kV doc pm : Value) (an : Option Addr) (cdv ct : Value) (us : List Value), us.length = (["sleeper", "noise"] : List Str).length → bindArgs (PySem.W.fnOf "sort_of" "sort_of" (defArgs s_sort_of) (defBody s_sort_of) (defScope s_sort_of) .none kV doc pm an cdv ct) ⟨us, []⟩ = pure ((["sleeper", "noise"] : List Str).zip us) :=
  fun _ _ _ _ _ _ us hl => match us, hl with | [_, _], _ => rfl
abbrev s_heard_asleep : Stmt := (top 62)
abbrev N_heard_asleep : List Str := ["sleeper", "state", "noise", "sort"]
theorem sc_heard_asleep : FnScope N_heard_asleep ["sleeper", "state", "noise", "sort"] (defScope s_heard_asleep) := C8.fnScope_by (by decide +kernel)
theorem bd_heard_asleep : ∀ (kV doc pm : Value) (an : Option Addr) (cdv ct : Value) (us : List Value), us.length = (["sleeper", "state", "noise", "sort"] : List Str).length → bindArgs (PySem.W.fnOf "heard_asleep" "heard_asleep" (defArgs s_heard_asleep) (defBody s_heard_asleep) (defScope s_heard_asleep) .none kV doc pm an cdv ct) ⟨us, []⟩ = pure ((["sleeper", "state", "noise", "sort"] : List Str).zip us) :=
  fun _ _ _ _ _ _ us hl => match us, hl with | [_, _, _, _], _ => rfl
abbrev s_heard_loud_dozing : Stmt := (top 63)
abbrev N_heard_loud_dozing : List Str := ["sleeper", "state"]
theorem sc_heard_loud_dozing : FnScope N_heard_loud_dozing ["sleeper", "state"] (defScope s_heard_loud_dozing) := C8.fnScope_by (by decide +kernel)
theorem bd_heard_loud_dozing : ∀ (kV doc pm : Value) (an : Option Addr) (cdv ct : Value) (us : List Value), us.length = (["sleeper", "state"] : List Str).length → bindArgs (PySem.W.fnOf "heard_loud_dozing" "heard_loud_dozing" (defArgs s_heard_loud_dozing) (defBody s_heard_loud_dozing) (defScope s_heard_loud_dozing) .none kV doc pm an cdv ct) ⟨us, []⟩ = pure ((["sleeper", "state"] : List Str).zip us) :=
  fun _ _ _ _ _ _ us hl => match us, hl with | [_, _], _ => rfl
abbrev s_is_person : Stmt := (top 74)
abbrev N_is_person : List Str := ["people", "word"]
theorem sc_is_person : FnScope N_is_person ["people", "word"] (defScope s_is_person) := C8.fnScope_by (by decide +kernel)
theorem bd_is_person : ∀ (kV doc pm : Value) (an : Option Addr) (cdv ct : Value) (us : List Value), us.length = (["people", "word"] : List Str).length → bindArgs (PySem.W.fnOf "is_person" "is_person" (defArgs s_is_person) (defBody s_is_person) (defScope s_is_person) .none kV doc pm an cdv ct) ⟨us, []⟩ = pure ((["people", "word"] : List Str).zip us) :=
  fun _ _ _ _ _ _ us hl => match us, hl with | [_, _], _ => rfl
abbrev s_is_event : Stmt := (top 75)
abbrev N_is_event : List Str := ["people", "value", "words"]
theorem sc_is_event : FnScope N_is_event ["people", "value"] (defScope s_is_event) := C8.fnScope_by (by decide +kernel)
theorem bd_is_event : ∀ (kV doc pm : Value) (an : Option Addr) (cdv ct : Value) (us : List Value), us.length = (["people", "value"] : List Str).length → bindArgs (PySem.W.fnOf "is_event" "is_event" (defArgs s_is_event) (defBody s_is_event) (defScope s_is_event) .none kV doc pm an cdv ct) ⟨us, []⟩ = pure ((["people", "value"] : List Str).zip us) :=
  fun _ _ _ _ _ _ us hl => match us, hl with | [_, _], _ => rfl
abbrev s_Walk_init : Stmt := (inClass (top 76) 0)
abbrev N_Walk_init : List Str := ["self", "guests", "nurses", "first", "events", "at", "event"]
theorem sc_Walk_init : FnScope N_Walk_init ["self", "guests", "nurses", "first", "events"] (defScope s_Walk_init) := C8.fnScope_by (by decide +kernel)
theorem bd_Walk_init : ∀ (kV doc pm : Value) (an : Option Addr) (cdv ct : Value) (us : List Value), us.length = (["self", "guests", "nurses", "first", "events"] : List Str).length → bindArgs (PySem.W.fnOf "__init__" "Walk.__init__" (defArgs s_Walk_init) (defBody s_Walk_init) (defScope s_Walk_init) .none kV doc pm an cdv ct) ⟨us, []⟩ = pure ((["self", "guests", "nurses", "first", "events"] : List Str).zip us) :=
  fun _ _ _ _ _ _ us hl => match us, hl with | [_, _, _, _, _], _ => rfl
theorem bk_Walk_init : ∀ (T : Addr) (kV doc pm : Value) (an : Option Addr) (cdv ct : Value) (us its : List Value), us.length = (["self", "guests", "nurses", "first", "events"] : List Str).length → its.length = 1 → ∃ k, bindArgs (PySem.W.fnOf "__init__" "Walk.__init__" (defArgs s_Walk_init) (defBody s_Walk_init) (defScope s_Walk_init) (.ref T) kV doc pm an cdv ct) ⟨us, []⟩ = seqItems? (.ref T) >>= k ∧ k (some its.toArray) = pure ((["self", "guests", "nurses", "first", "events"] : List Str).zip us) :=
  fun _ _ _ _ _ _ _ us its h1 h2 => match us, its, h1, h2 with | [_, _, _, _, _], [_], _, _ => ⟨_, rfl, rfl⟩
theorem bkp_Walk_init : ∀ (T : Addr) (kV doc pm : Value) (an : Option Addr) (cdv ct : Value) (us its : List Value), us.length = 4 → its.length = 1 → ∃ k, bindArgs (PySem.W.fnOf "__init__" "Walk.__init__" (defArgs s_Walk_init) (defBody s_Walk_init) (defScope s_Walk_init) (.ref T) kV doc pm an cdv ct) ⟨us, []⟩ = seqItems? (.ref T) >>= k ∧ k (some its.toArray) = pure ((["self", "guests", "nurses", "first", "events"] : List Str).zip (us ++ its)) :=
  fun _ _ _ _ _ _ _ us its h1 h2 => match us, its, h1, h2 with | [_, _, _, _], [_], _, _ => ⟨_, rfl, rfl⟩
abbrev s_beyond : Stmt := (top 2)
abbrev N_beyond : List Str := ["house", "number", "room", "one", "other", "noise"]
theorem sc_beyond : FnScope N_beyond ["house", "number", "room"] (defScope s_beyond) := C8.fnScope_by (by decide +kernel)
theorem bd_beyond : ∀ (kV doc pm : Value) (an : Option Addr) (cdv ct : Value) (us : List Value), us.length = (["house", "number", "room"] : List Str).length → bindArgs (PySem.W.fnOf "beyond" "beyond" (defArgs s_beyond) (defBody s_beyond) (defScope s_beyond) .none kV doc pm an cdv ct) ⟨us, []⟩ = pure ((["house", "number", "room"] : List Str).zip us) :=
  fun _ _ _ _ _ _ us hl => match us, hl with | [_, _, _], _ => rfl
abbrev s_floor_noise : Stmt := (top 3)
abbrev N_floor_noise : List Str := ["house", "room", "place", "noise"]
theorem sc_floor_noise : FnScope N_floor_noise ["house", "room"] (defScope s_floor_noise) := C8.fnScope_by (by decide +kernel)
theorem bd_floor_noise : ∀ (kV doc pm : Value) (an : Option Addr) (cdv ct : Value) (us : List Value), us.length = (["house", "room"] : List Str).length → bindArgs (PySem.W.fnOf "floor_noise" "floor_noise" (defArgs s_floor_noise) (defBody s_floor_noise) (defScope s_floor_noise) .none kV doc pm an cdv ct) ⟨us, []⟩ = pure ((["house", "room"] : List Str).zip us) :=
  fun _ _ _ _ _ _ us hl => match us, hl with | [_, _], _ => rfl
abbrev s_noises_of_step : Stmt := (top 4)
abbrev N_noises_of_step : List Str := ["house", "number", "room", "one", "other", "noise", "made"]
theorem sc_noises_of_step : FnScope N_noises_of_step ["house", "number", "room"] (defScope s_noises_of_step) := C8.fnScope_by (by decide +kernel)
theorem bd_noises_of_step : ∀ (kV doc pm : Value) (an : Option Addr) (cdv ct : Value) (us : List Value), us.length = (["house", "number", "room"] : List Str).length → bindArgs (PySem.W.fnOf "noises_of_step" "noises_of_step" (defArgs s_noises_of_step) (defBody s_noises_of_step) (defScope s_noises_of_step) .none kV doc pm an cdv ct) ⟨us, []⟩ = pure ((["house", "number", "room"] : List Str).zip us) :=
  fun _ _ _ _ _ _ us hl => match us, hl with | [_, _, _], _ => rfl
abbrev s_Night_init : Stmt := (inClass (top 78) 0)
abbrev N_Night_init : List Str := ["self", "house", "sleeper", "walk"]
theorem sc_Night_init : FnScope N_Night_init ["self", "house", "sleeper", "walk"] (defScope s_Night_init) := C8.fnScope_by (by decide +kernel)
theorem bd_Night_init : ∀ (kV doc pm : Value) (an : Option Addr) (cdv ct : Value) (us : List Value), us.length = (["self", "house", "sleeper", "walk"] : List Str).length → bindArgs (PySem.W.fnOf "__init__" "Night.__init__" (defArgs s_Night_init) (defBody s_Night_init) (defScope s_Night_init) .none kV doc pm an cdv ct) ⟨us, []⟩ = pure ((["self", "house", "sleeper", "walk"] : List Str).zip us) :=
  fun _ _ _ _ _ _ us hl => match us, hl with | [_, _, _, _], _ => rfl
abbrev s_Night_allows : Stmt := (inClass (top 78) 1)
abbrev N_Night_allows : List Str := ["self", "words", "person"]
theorem sc_Night_allows : FnScope N_Night_allows ["self", "words"] (defScope s_Night_allows) := C8.fnScope_by (by decide +kernel)
theorem bd_Night_allows : ∀ (kV doc pm : Value) (an : Option Addr) (cdv ct : Value) (us : List Value), us.length = (["self", "words"] : List Str).length → bindArgs (PySem.W.fnOf "allows" "Night.allows" (defArgs s_Night_allows) (defBody s_Night_allows) (defScope s_Night_allows) .none kV doc pm an cdv ct) ⟨us, []⟩ = pure ((["self", "words"] : List Str).zip us) :=
  fun _ _ _ _ _ _ us hl => match us, hl with | [_, _], _ => rfl
abbrev s_Night_follow : Stmt := (inClass (top 78) 2)
abbrev N_Night_follow : List Str := ["self", "words"]
theorem sc_Night_follow : FnScope N_Night_follow ["self", "words"] (defScope s_Night_follow) := C8.fnScope_by (by decide +kernel)
theorem bd_Night_follow : ∀ (kV doc pm : Value) (an : Option Addr) (cdv ct : Value) (us : List Value), us.length = (["self", "words"] : List Str).length → bindArgs (PySem.W.fnOf "follow" "Night.follow" (defArgs s_Night_follow) (defBody s_Night_follow) (defScope s_Night_follow) .none kV doc pm an cdv ct) ⟨us, []⟩ = pure ((["self", "words"] : List Str).zip us) :=
  fun _ _ _ _ _ _ us hl => match us, hl with | [_, _], _ => rfl
abbrev s_Night_tick : Stmt := (inClass (top 78) 3)
abbrev N_Night_tick : List Str := ["self"]
theorem sc_Night_tick : FnScope N_Night_tick ["self"] (defScope s_Night_tick) := C8.fnScope_by (by decide +kernel)
theorem bd_Night_tick : ∀ (kV doc pm : Value) (an : Option Addr) (cdv ct : Value) (us : List Value), us.length = (["self"] : List Str).length → bindArgs (PySem.W.fnOf "tick" "Night.tick" (defArgs s_Night_tick) (defBody s_Night_tick) (defScope s_Night_tick) .none kV doc pm an cdv ct) ⟨us, []⟩ = pure ((["self"] : List Str).zip us) :=
  fun _ _ _ _ _ _ us hl => match us, hl with | [_], _ => rfl
abbrev s_Night_step : Stmt := (inClass (top 78) 4)
abbrev N_Night_step : List Str := ["self", "person", "number", "room", "noises", "noise"]
theorem sc_Night_step : FnScope N_Night_step ["self", "person", "number"] (defScope s_Night_step) := C8.fnScope_by (by decide +kernel)
theorem bd_Night_step : ∀ (kV doc pm : Value) (an : Option Addr) (cdv ct : Value) (us : List Value), us.length = (["self", "person", "number"] : List Str).length → bindArgs (PySem.W.fnOf "step" "Night.step" (defArgs s_Night_step) (defBody s_Night_step) (defScope s_Night_step) .none kV doc pm an cdv ct) ⟨us, []⟩ = pure ((["self", "person", "number"] : List Str).zip us) :=
  fun _ _ _ _ _ _ us hl => match us, hl with | [_, _, _], _ => rfl
abbrev s_Played_init : Stmt := (inClass (top 77) 0)
abbrev N_Played_init : List Str := ["self", "state", "places", "ticks", "made", "woke"]
theorem sc_Played_init : FnScope N_Played_init ["self", "state", "places", "ticks", "made", "woke"] (defScope s_Played_init) := C8.fnScope_by (by decide +kernel)
theorem bd_Played_init : ∀ (kV doc pm : Value) (an : Option Addr) (cdv ct : Value) (us : List Value), us.length = (["self", "state", "places", "ticks", "made", "woke"] : List Str).length → bindArgs (PySem.W.fnOf "__init__" "Played.__init__" (defArgs s_Played_init) (defBody s_Played_init) (defScope s_Played_init) .none kV doc pm an cdv ct) ⟨us, []⟩ = pure ((["self", "state", "places", "ticks", "made", "woke"] : List Str).zip us) :=
  fun _ _ _ _ _ _ us hl => match us, hl with | [_, _, _, _, _, _], _ => rfl
abbrev s_play : Stmt := (top 79)
abbrev N_play : List Str := ["house", "sleeper", "walk", "night", "woke", "at", "event", "words"]
theorem sc_play : FnScope N_play ["house", "sleeper", "walk"] (defScope s_play) := C8.fnScope_by (by decide +kernel)
theorem bd_play : ∀ (kV doc pm : Value) (an : Option Addr) (cdv ct : Value) (us : List Value), us.length = (["house", "sleeper", "walk"] : List Str).length → bindArgs (PySem.W.fnOf "play" "play" (defArgs s_play) (defBody s_play) (defScope s_play) .none kV doc pm an cdv ct) ⟨us, []⟩ = pure ((["house", "sleeper", "walk"] : List Str).zip us) :=
  fun _ _ _ _ _ _ us hl => match us, hl with | [_, _, _], _ => rfl
abbrev s_all_steps : Stmt := (top 5)
abbrev N_all_steps : List Str := ["house", "steps", "number", "one", "other", "noise"]
theorem sc_all_steps : FnScope N_all_steps ["house"] (defScope s_all_steps) := C8.fnScope_by (by decide +kernel)
theorem bd_all_steps : ∀ (kV doc pm : Value) (an : Option Addr) (cdv ct : Value) (us : List Value), us.length = (["house"] : List Str).length → bindArgs (PySem.W.fnOf "all_steps" "all_steps" (defArgs s_all_steps) (defBody s_all_steps) (defScope s_all_steps) .none kV doc pm an cdv ct) ⟨us, []⟩ = pure ((["house"] : List Str).zip us) :=
  fun _ _ _ _ _ _ us hl => match us, hl with | [_], _ => rfl
abbrev s_begin : Stmt := (top 65)
abbrev N_begin : List Str := ["sleeper", "first"]
theorem sc_begin : FnScope N_begin ["sleeper", "first"] (defScope s_begin) := C8.fnScope_by (by decide +kernel)
theorem bd_begin : ∀ (kV doc pm : Value) (an : Option Addr) (cdv ct : Value) (us : List Value), us.length = (["sleeper", "first"] : List Str).length → bindArgs (PySem.W.fnOf "begin" "begin" (defArgs s_begin) (defBody s_begin) (defScope s_begin) .none kV doc pm an cdv ct) ⟨us, []⟩ = pure ((["sleeper", "first"] : List Str).zip us) :=
  fun _ _ _ _ _ _ us hl => match us, hl with | [_, _], _ => rfl
abbrev s_with_room : Stmt := (top 66)
abbrev N_with_room : List Str := ["lot", "room"]
theorem sc_with_room : FnScope N_with_room ["lot", "room"] (defScope s_with_room) := C8.fnScope_by (by decide +kernel)
theorem bd_with_room : ∀ (kV doc pm : Value) (an : Option Addr) (cdv ct : Value) (us : List Value), us.length = (["lot", "room"] : List Str).length → bindArgs (PySem.W.fnOf "with_room" "with_room" (defArgs s_with_room) (defBody s_with_room) (defScope s_with_room) .none kV doc pm an cdv ct) ⟨us, []⟩ = pure ((["lot", "room"] : List Str).zip us) :=
  fun _ _ _ _ _ _ us hl => match us, hl with | [_, _], _ => rfl
abbrev s_behind_step : Stmt := (top 67)
abbrev N_behind_step : List Str := ["sleeper", "standing", "step", "state", "begun", "now", "number", "left", "room", "noises", "behind"]
theorem sc_behind_step : FnScope N_behind_step ["sleeper", "standing", "step"] (defScope s_behind_step) := C8.fnScope_by (by decide +kernel)
theorem bd_behind_step : ∀ (kV doc pm : Value) (an : Option Addr) (cdv ct : Value) (us : List Value), us.length = (["sleeper", "standing", "step"] : List Str).length → bindArgs (PySem.W.fnOf "behind_step" "behind_step" (defArgs s_behind_step) (defBody s_behind_step) (defScope s_behind_step) .none kV doc pm an cdv ct) ⟨us, []⟩ = pure ((["sleeper", "standing", "step"] : List Str).zip us) :=
  fun _ _ _ _ _ _ us hl => match us, hl with | [_, _, _], _ => rfl
abbrev s_behind_tick : Stmt := (top 68)
abbrev N_behind_tick : List Str := ["sleeper", "standing", "state", "begun", "now", "behind"]
theorem sc_behind_tick : FnScope N_behind_tick ["sleeper", "standing"] (defScope s_behind_tick) := C8.fnScope_by (by decide +kernel)
theorem bd_behind_tick : ∀ (kV doc pm : Value) (an : Option Addr) (cdv ct : Value) (us : List Value), us.length = (["sleeper", "standing"] : List Str).length → bindArgs (PySem.W.fnOf "behind_tick" "behind_tick" (defArgs s_behind_tick) (defBody s_behind_tick) (defScope s_behind_tick) .none kV doc pm an cdv ct) ⟨us, []⟩ = pure ((["sleeper", "standing"] : List Str).zip us) :=
  fun _ _ _ _ _ _ us hl => match us, hl with | [_, _], _ => rfl
abbrev s_Search_init : Stmt := (inClass (top 69) 0)
abbrev N_Search_init : List Str := ["self", "house", "sleeper", "first", "start", "layer", "ticks"]
theorem sc_Search_init : FnScope N_Search_init ["self", "house", "sleeper", "first"] (defScope s_Search_init) := C8.fnScope_by (by decide +kernel)
theorem bd_Search_init : ∀ (kV doc pm : Value) (an : Option Addr) (cdv ct : Value) (us : List Value), us.length = (["self", "house", "sleeper", "first"] : List Str).length → bindArgs (PySem.W.fnOf "__init__" "Search.__init__" (defArgs s_Search_init) (defBody s_Search_init) (defScope s_Search_init) .none kV doc pm an cdv ct) ⟨us, []⟩ = pure ((["self", "house", "sleeper", "first"] : List Str).zip us) :=
  fun _ _ _ _ _ _ us hl => match us, hl with | [_, _, _, _], _ => rfl
abbrev s_Search_spread : Stmt := (inClass (top 69) 1)
abbrev N_Search_spread : List Str := ["self", "layer", "ticks", "at", "step", "behind"]
theorem sc_Search_spread : FnScope N_Search_spread ["self", "layer", "ticks"] (defScope s_Search_spread) := C8.fnScope_by (by decide +kernel)
theorem bd_Search_spread : ∀ (kV doc pm : Value) (an : Option Addr) (cdv ct : Value) (us : List Value), us.length = (["self", "layer", "ticks"] : List Str).length → bindArgs (PySem.W.fnOf "spread" "Search.spread" (defArgs s_Search_spread) (defBody s_Search_spread) (defScope s_Search_spread) .none kV doc pm an cdv ct) ⟨us, []⟩ = pure ((["self", "layer", "ticks"] : List Str).zip us) :=
  fun _ _ _ _ _ _ us hl => match us, hl with | [_, _, _], _ => rfl
abbrev s_Search_following : Stmt := (inClass (top 69) 2)
abbrev N_Search_following : List Str := ["self", "layer", "ticks", "later", "standing", "behind"]
theorem sc_Search_following : FnScope N_Search_following ["self", "layer", "ticks"] (defScope s_Search_following) := C8.fnScope_by (by decide +kernel)
theorem bd_Search_following : ∀ (kV doc pm : Value) (an : Option Addr) (cdv ct : Value) (us : List Value), us.length = (["self", "layer", "ticks"] : List Str).length → bindArgs (PySem.W.fnOf "following" "Search.following" (defArgs s_Search_following) (defBody s_Search_following) (defScope s_Search_following) .none kV doc pm an cdv ct) ⟨us, []⟩ = pure ((["self", "layer", "ticks"] : List Str).zip us) :=
  fun _ _ _ _ _ _ us hl => match us, hl with | [_, _, _], _ => rfl
abbrev s_is_without : Stmt := (top 72)
abbrev N_is_without : List Str := ["standings", "room", "state", "begun", "now"]
theorem sc_is_without : FnScope N_is_without ["standings", "room"] (defScope s_is_without) := C8.fnScope_by (by decide +kernel)
theorem bd_is_without : ∀ (kV doc pm : Value) (an : Option Addr) (cdv ct : Value) (us : List Value), us.length = (["standings", "room"] : List Str).length → bindArgs (PySem.W.fnOf "is_without" "is_without" (defArgs s_is_without) (defBody s_is_without) (defScope s_is_without) .none kV doc pm an cdv ct) ⟨us, []⟩ = pure ((["standings", "room"] : List Str).zip us) :=
  fun _ _ _ _ _ _ us hl => match us, hl with | [_, _], _ => rfl
abbrev s_table : Stmt := (top 71)
abbrev N_table : List Str := ["house", "sleeper", "first", "room", "search", "standings"]
theorem sc_table : FnScope N_table ["house", "sleeper", "first", "room"] (defScope s_table) := C8.fnScope_by (by decide +kernel)
theorem bd_table : ∀ (kV doc pm : Value) (an : Option Addr) (cdv ct : Value) (us : List Value), us.length = (["house", "sleeper", "first", "room"] : List Str).length → bindArgs (PySem.W.fnOf "table" "table" (defArgs s_table) (defBody s_table) (defScope s_table) .none kV doc pm an cdv ct) ⟨us, []⟩ = pure ((["house", "sleeper", "first", "room"] : List Str).zip us) :=
  fun _ _ _ _ _ _ us hl => match us, hl with | [_, _, _, _], _ => rfl
abbrev s_box : Stmt := (top 81)
abbrev N_box : List Str := ["_law_script", "_law_k", "_law_great", "_law_seed"]
theorem sc_box : FnScope N_box ["_law_script", "_law_k"] (defScope s_box) := C8.fnScope_by (by decide +kernel)
theorem bd_box : ∀ (kV doc pm : Value) (an : Option Addr) (cdv ct : Value) (us : List Value), us.length = (["_law_script", "_law_k"] : List Str).length → bindArgs (PySem.W.fnOf "_law_box" "_law_box" (defArgs s_box) (defBody s_box) (defScope s_box) .none kV doc pm an cdv ct) ⟨us, []⟩ = pure ((["_law_script", "_law_k"] : List Str).zip us) :=
  fun _ _ _ _ _ _ us hl => match us, hl with | [_, _], _ => rfl
abbrev s_take : Stmt := (top 82)
abbrev N_take : List Str := ["_law_box_here", "_law_many", "_law_digit", "_law_near"]
theorem sc_take : FnScope N_take ["_law_box_here", "_law_many"] (defScope s_take) := C8.fnScope_by (by decide +kernel)
theorem bd_take : ∀ (kV doc pm : Value) (an : Option Addr) (cdv ct : Value) (us : List Value), us.length = (["_law_box_here", "_law_many"] : List Str).length → bindArgs (PySem.W.fnOf "_law_take" "_law_take" (defArgs s_take) (defBody s_take) (defScope s_take) .none kV doc pm an cdv ct) ⟨us, []⟩ = pure ((["_law_box_here", "_law_many"] : List Str).zip us) :=
  fun _ _ _ _ _ _ us hl => match us, hl with | [_, _], _ => rfl
abbrev s_pick : Stmt := (top 83)
abbrev N_pick : List Str := ["_law_box_here", "_law_some"]
theorem sc_pick : FnScope N_pick ["_law_box_here", "_law_some"] (defScope s_pick) := C8.fnScope_by (by decide +kernel)
theorem bd_pick : ∀ (kV doc pm : Value) (an : Option Addr) (cdv ct : Value) (us : List Value), us.length = (["_law_box_here", "_law_some"] : List Str).length → bindArgs (PySem.W.fnOf "_law_pick" "_law_pick" (defArgs s_pick) (defBody s_pick) (defScope s_pick) .none kV doc pm an cdv ct) ⟨us, []⟩ = pure ((["_law_box_here", "_law_some"] : List Str).zip us) :=
  fun _ _ _ _ _ _ us hl => match us, hl with | [_, _], _ => rfl
abbrev s_shuffled : Stmt := (top 84)
abbrev N_shuffled : List Str := ["_law_box_here", "_law_some", "_law_rest", "_law_found", "_law_turn"]
theorem sc_shuffled : FnScope N_shuffled ["_law_box_here", "_law_some"] (defScope s_shuffled) := C8.fnScope_by (by decide +kernel)
theorem bd_shuffled : ∀ (kV doc pm : Value) (an : Option Addr) (cdv ct : Value) (us : List Value), us.length = (["_law_box_here", "_law_some"] : List Str).length → bindArgs (PySem.W.fnOf "_law_shuffled" "_law_shuffled" (defArgs s_shuffled) (defBody s_shuffled) (defScope s_shuffled) .none kV doc pm an cdv ct) ⟨us, []⟩ = pure ((["_law_box_here", "_law_some"] : List Str).zip us) :=
  fun _ _ _ _ _ _ us hl => match us, hl with | [_, _], _ => rfl
abbrev s_house : Stmt := (top 85)
abbrev N_house : List Str := ["_law_box_here", "_law_many", "_law_extra", "_law_calls", "_law_rooms", "_law_doors", "_law_room", "_law_ends", "_law_turn", "_law_one", "_law_other", "_law_floors"]
theorem sc_house : FnScope N_house ["_law_box_here", "_law_many", "_law_extra", "_law_calls"] (defScope s_house) := C8.fnScope_by (by decide +kernel)
theorem bd_house : ∀ (kV doc pm : Value) (an : Option Addr) (cdv ct : Value) (us : List Value), us.length = (["_law_box_here", "_law_many", "_law_extra", "_law_calls"] : List Str).length → bindArgs (PySem.W.fnOf "_law_house" "_law_house" (defArgs s_house) (defBody s_house) (defScope s_house) .none kV doc pm an cdv ct) ⟨us, []⟩ = pure ((["_law_box_here", "_law_many", "_law_extra", "_law_calls"] : List Str).zip us) :=
  fun _ _ _ _ _ _ us hl => match us, hl with | [_, _, _, _], _ => rfl
abbrev s_sleeper : Stmt := (top 86)
abbrev N_sleeper : List Str := ["_law_box_here", "_law_calls", "_law_most", "_law_sorts", "_law_name", "_law_sort", "_law_found"]
theorem sc_sleeper : FnScope N_sleeper ["_law_box_here", "_law_calls", "_law_most"] (defScope s_sleeper) := C8.fnScope_by (by decide +kernel)
theorem bd_sleeper : ∀ (kV doc pm : Value) (an : Option Addr) (cdv ct : Value) (us : List Value), us.length = (["_law_box_here", "_law_calls", "_law_most"] : List Str).length → bindArgs (PySem.W.fnOf "_law_sleeper" "_law_sleeper" (defArgs s_sleeper) (defBody s_sleeper) (defScope s_sleeper) .none kV doc pm an cdv ct) ⟨us, []⟩ = pure ((["_law_box_here", "_law_calls", "_law_most"] : List Str).zip us) :=
  fun _ _ _ _ _ _ us hl => match us, hl with | [_, _, _], _ => rfl
abbrev s_house_of : Stmt := (top 87)
abbrev N_house_of : List Str := ["_law_house_here"]
theorem sc_house_of : FnScope N_house_of ["_law_house_here"] (defScope s_house_of) := C8.fnScope_by (by decide +kernel)
theorem bd_house_of : ∀ (kV doc pm : Value) (an : Option Addr) (cdv ct : Value) (us : List Value), us.length = (["_law_house_here"] : List Str).length → bindArgs (PySem.W.fnOf "_law_house_of" "_law_house_of" (defArgs s_house_of) (defBody s_house_of) (defScope s_house_of) .none kV doc pm an cdv ct) ⟨us, []⟩ = pure ((["_law_house_here"] : List Str).zip us) :=
  fun _ _ _ _ _ _ us hl => match us, hl with | [_], _ => rfl
abbrev s_sleeper_of : Stmt := (top 88)
abbrev N_sleeper_of : List Str := ["_law_sleeper_here", "_law_pairs", "_law_name"]
theorem sc_sleeper_of : FnScope N_sleeper_of ["_law_sleeper_here"] (defScope s_sleeper_of) := C8.fnScope_by (by decide +kernel)
theorem bd_sleeper_of : ∀ (kV doc pm : Value) (an : Option Addr) (cdv ct : Value) (us : List Value), us.length = (["_law_sleeper_here"] : List Str).length → bindArgs (PySem.W.fnOf "_law_sleeper_of" "_law_sleeper_of" (defArgs s_sleeper_of) (defBody s_sleeper_of) (defScope s_sleeper_of) .none kV doc pm an cdv ct) ⟨us, []⟩ = pure ((["_law_sleeper_here"] : List Str).zip us) :=
  fun _ _ _ _ _ _ us hl => match us, hl with | [_], _ => rfl
abbrev s_first : Stmt := (top 89)
abbrev N_first : List Str := ["_law_sleeper_here", "_law_first_here"]
theorem sc_first : FnScope N_first ["_law_sleeper_here", "_law_first_here"] (defScope s_first) := C8.fnScope_by (by decide +kernel)
theorem bd_first : ∀ (kV doc pm : Value) (an : Option Addr) (cdv ct : Value) (us : List Value), us.length = (["_law_sleeper_here", "_law_first_here"] : List Str).length → bindArgs (PySem.W.fnOf "_law_first" "_law_first" (defArgs s_first) (defBody s_first) (defScope s_first) .none kV doc pm an cdv ct) ⟨us, []⟩ = pure ((["_law_sleeper_here", "_law_first_here"] : List Str).zip us) :=
  fun _ _ _ _ _ _ us hl => match us, hl with | [_, _], _ => rfl
abbrev s_l_heard : Stmt := (top 90)
abbrev N_l_heard : List Str := ["_law_sleeper_here", "_law_state", "_law_noise", "_law_sort"]
theorem sc_l_heard : FnScope N_l_heard ["_law_sleeper_here", "_law_state", "_law_noise"] (defScope s_l_heard) := C8.fnScope_by (by decide +kernel)
theorem bd_l_heard : ∀ (kV doc pm : Value) (an : Option Addr) (cdv ct : Value) (us : List Value), us.length = (["_law_sleeper_here", "_law_state", "_law_noise"] : List Str).length → bindArgs (PySem.W.fnOf "_law_heard" "_law_heard" (defArgs s_l_heard) (defBody s_l_heard) (defScope s_l_heard) .none kV doc pm an cdv ct) ⟨us, []⟩ = pure ((["_law_sleeper_here", "_law_state", "_law_noise"] : List Str).zip us) :=
  fun _ _ _ _ _ _ us hl => match us, hl with | [_, _, _], _ => rfl
abbrev s_noises : Stmt := (top 91)
abbrev N_noises : List Str := ["_law_sleeper_here", "_law_state", "_law_names", "_law_noise"]
theorem sc_noises : FnScope N_noises ["_law_sleeper_here", "_law_state", "_law_names"] (defScope s_noises) := C8.fnScope_by (by decide +kernel)
theorem bd_noises : ∀ (kV doc pm : Value) (an : Option Addr) (cdv ct : Value) (us : List Value), us.length = (["_law_sleeper_here", "_law_state", "_law_names"] : List Str).length → bindArgs (PySem.W.fnOf "_law_noises" "_law_noises" (defArgs s_noises) (defBody s_noises) (defScope s_noises) .none kV doc pm an cdv ct) ⟨us, []⟩ = pure ((["_law_sleeper_here", "_law_state", "_law_names"] : List Str).zip us) :=
  fun _ _ _ _ _ _ us hl => match us, hl with | [_, _, _], _ => rfl
abbrev s_l_ticked : Stmt := (top 92)
abbrev N_l_ticked : List Str := ["_law_sleeper_here", "_law_state"]
theorem sc_l_ticked : FnScope N_l_ticked ["_law_sleeper_here", "_law_state"] (defScope s_l_ticked) := C8.fnScope_by (by decide +kernel)
theorem bd_l_ticked : ∀ (kV doc pm : Value) (an : Option Addr) (cdv ct : Value) (us : List Value), us.length = (["_law_sleeper_here", "_law_state"] : List Str).length → bindArgs (PySem.W.fnOf "_law_ticked" "_law_ticked" (defArgs s_l_ticked) (defBody s_l_ticked) (defScope s_l_ticked) .none kV doc pm an cdv ct) ⟨us, []⟩ = pure ((["_law_sleeper_here", "_law_state"] : List Str).zip us) :=
  fun _ _ _ _ _ _ us hl => match us, hl with | [_, _], _ => rfl
abbrev s_l_hummed : Stmt := (top 93)
abbrev N_l_hummed : List Str := ["_law_sleeper_here", "_law_state", "_law_word"]
theorem sc_l_hummed : FnScope N_l_hummed ["_law_sleeper_here", "_law_state", "_law_word"] (defScope s_l_hummed) := C8.fnScope_by (by decide +kernel)
theorem bd_l_hummed : ∀ (kV doc pm : Value) (an : Option Addr) (cdv ct : Value) (us : List Value), us.length = (["_law_sleeper_here", "_law_state", "_law_word"] : List Str).length → bindArgs (PySem.W.fnOf "_law_hummed" "_law_hummed" (defArgs s_l_hummed) (defBody s_l_hummed) (defScope s_l_hummed) .none kV doc pm an cdv ct) ⟨us, []⟩ = pure ((["_law_sleeper_here", "_law_state", "_law_word"] : List Str).zip us) :=
  fun _ _ _ _ _ _ us hl => match us, hl with | [_, _, _], _ => rfl
abbrev s_door_noise : Stmt := (top 94)
abbrev N_door_noise : List Str := ["_law_house_here", "_law_door"]
theorem sc_door_noise : FnScope N_door_noise ["_law_house_here", "_law_door"] (defScope s_door_noise) := C8.fnScope_by (by decide +kernel)
theorem bd_door_noise : ∀ (kV doc pm : Value) (an : Option Addr) (cdv ct : Value) (us : List Value), us.length = (["_law_house_here", "_law_door"] : List Str).length → bindArgs (PySem.W.fnOf "_law_door_noise" "_law_door_noise" (defArgs s_door_noise) (defBody s_door_noise) (defScope s_door_noise) .none kV doc pm an cdv ct) ⟨us, []⟩ = pure ((["_law_house_here", "_law_door"] : List Str).zip us) :=
  fun _ _ _ _ _ _ us hl => match us, hl with | [_, _], _ => rfl
abbrev s_l_floor_noise : Stmt := (top 95)
abbrev N_l_floor_noise : List Str := ["_law_house_here", "_law_room", "_law_spot", "_law_noise"]
theorem sc_l_floor_noise : FnScope N_l_floor_noise ["_law_house_here", "_law_room"] (defScope s_l_floor_noise) := C8.fnScope_by (by decide +kernel)
theorem bd_l_floor_noise : ∀ (kV doc pm : Value) (an : Option Addr) (cdv ct : Value) (us : List Value), us.length = (["_law_house_here", "_law_room"] : List Str).length → bindArgs (PySem.W.fnOf "_law_floor_noise" "_law_floor_noise" (defArgs s_l_floor_noise) (defBody s_l_floor_noise) (defScope s_l_floor_noise) .none kV doc pm an cdv ct) ⟨us, []⟩ = pure ((["_law_house_here", "_law_room"] : List Str).zip us) :=
  fun _ _ _ _ _ _ us hl => match us, hl with | [_, _], _ => rfl
abbrev s_ways : Stmt := (top 96)
abbrev N_ways : List Str := ["_law_house_here", "_law_room", "_law_found", "_law_door", "_law_one", "_law_other", "_law_noise"]
theorem sc_ways : FnScope N_ways ["_law_house_here", "_law_room"] (defScope s_ways) := C8.fnScope_by (by decide +kernel)
theorem bd_ways : ∀ (kV doc pm : Value) (an : Option Addr) (cdv ct : Value) (us : List Value), us.length = (["_law_house_here", "_law_room"] : List Str).length → bindArgs (PySem.W.fnOf "_law_ways" "_law_ways" (defArgs s_ways) (defBody s_ways) (defScope s_ways) .none kV doc pm an cdv ct) ⟨us, []⟩ = pure ((["_law_house_here", "_law_room"] : List Str).zip us) :=
  fun _ _ _ _ _ _ us hl => match us, hl with | [_, _], _ => rfl
abbrev s_l_begin : Stmt := (top 97)
abbrev N_l_begin : List Str := ["_law_house_here", "_law_sleeper_here", "_law_people", "_law_first_here", "_law_rooms", "_law_tired", "_law_person"]
theorem sc_l_begin : FnScope N_l_begin ["_law_house_here", "_law_sleeper_here", "_law_people", "_law_first_here"] (defScope s_l_begin) := C8.fnScope_by (by decide +kernel)
theorem bd_l_begin : ∀ (kV doc pm : Value) (an : Option Addr) (cdv ct : Value) (us : List Value), us.length = (["_law_house_here", "_law_sleeper_here", "_law_people", "_law_first_here"] : List Str).length → bindArgs (PySem.W.fnOf "_law_begin" "_law_begin" (defArgs s_l_begin) (defBody s_l_begin) (defScope s_l_begin) .none kV doc pm an cdv ct) ⟨us, []⟩ = pure ((["_law_house_here", "_law_sleeper_here", "_law_people", "_law_first_here"] : List Str).zip us) :=
  fun _ _ _ _ _ _ us hl => match us, hl with | [_, _, _, _], _ => rfl
abbrev s_go : Stmt := (top 98)
abbrev N_go : List Str := ["_law_house_here", "_law_sleeper_here", "_law_world", "_law_event", "_law_room", "_law_into", "_law_door", "_law_other", "_law_names"]
theorem sc_go : FnScope N_go ["_law_house_here", "_law_sleeper_here", "_law_world", "_law_event"] (defScope s_go) := C8.fnScope_by (by decide +kernel)
theorem bd_go : ∀ (kV doc pm : Value) (an : Option Addr) (cdv ct : Value) (us : List Value), us.length = (["_law_house_here", "_law_sleeper_here", "_law_world", "_law_event"] : List Str).length → bindArgs (PySem.W.fnOf "_law_go" "_law_go" (defArgs s_go) (defBody s_go) (defScope s_go) .none kV doc pm an cdv ct) ⟨us, []⟩ = pure ((["_law_house_here", "_law_sleeper_here", "_law_world", "_law_event"] : List Str).zip us) :=
  fun _ _ _ _ _ _ us hl => match us, hl with | [_, _, _, _], _ => rfl
abbrev s_event_text : Stmt := (top 99)
abbrev N_event_text : List Str := ["_law_event", "_law_one"]
theorem sc_event_text : FnScope N_event_text ["_law_event"] (defScope s_event_text) := C8.fnScope_by (by decide +kernel)
theorem bd_event_text : ∀ (kV doc pm : Value) (an : Option Addr) (cdv ct : Value) (us : List Value), us.length = (["_law_event"] : List Str).length → bindArgs (PySem.W.fnOf "_law_event_text" "_law_event_text" (defArgs s_event_text) (defBody s_event_text) (defScope s_event_text) .none kV doc pm an cdv ct) ⟨us, []⟩ = pure ((["_law_event"] : List Str).zip us) :=
  fun _ _ _ _ _ _ us hl => match us, hl with | [_], _ => rfl
abbrev s_is_below : Stmt := (top 100)
abbrev N_is_below : List Str := ["_law_world", "_law_told", "_law_state", "_law_begun", "_law_now", "_law_room"]
theorem sc_is_below : FnScope N_is_below ["_law_world", "_law_told"] (defScope s_is_below) := C8.fnScope_by (by decide +kernel)
theorem bd_is_below : ∀ (kV doc pm : Value) (an : Option Addr) (cdv ct : Value) (us : List Value), us.length = (["_law_world", "_law_told"] : List Str).length → bindArgs (PySem.W.fnOf "_law_is_below" "_law_is_below" (defArgs s_is_below) (defBody s_is_below) (defScope s_is_below) .none kV doc pm an cdv ct) ⟨us, []⟩ = pure ((["_law_world", "_law_told"] : List Str).zip us) :=
  fun _ _ _ _ _ _ us hl => match us, hl with | [_, _], _ => rfl
abbrev s_law : Stmt := (top 101)
abbrev N_law : List Str := ["_law_script", "_law_k", "_law_box_here", "_law_turn", "_law_house_here", "_law_sleeper_here", "_law_home", "_law_other", "_law_start", "_law_sheets", "_law_room", "_law_people", "_law_world", "_law_lines", "_law_more", "_law_person", "_law_some", "_law_door", "_law_event", "_law_told", "_law_done"]
theorem sc_law : FnScope N_law ["_law_script"] (defScope s_law) := C8.fnScope_by (by decide +kernel)
theorem bd_law : ∀ (kV doc pm : Value) (an : Option Addr) (cdv ct : Value) (us : List Value), us.length = (["_law_script"] : List Str).length → bindArgs (PySem.W.fnOf "law" "law" (defArgs s_law) (defBody s_law) (defScope s_law) .none kV doc pm an cdv ct) ⟨us, []⟩ = pure ((["_law_script"] : List Str).zip us) :=
  fun _ _ _ _ _ _ us hl => match us, hl with | [_], _ => rfl
/-- what the module's names stand for -/
structure Tx (K : PySem.W.Frag) (mg : Str → Option Value) : Prop where
  n_len : mg "len" = none
  n_set : mg "set" = none
  n_abs : mg "abs" = none
  n_min : mg "min" = none
  n_max : mg "max" = none
  n_int : mg "int" = none
  n_str : mg "str" = none
  n_bool : mg "bool" = none
  n_list : mg "list" = none
  n_tuple : mg "tuple" = none
  n_dict : mg "dict" = none
  n_isinstance : mg "isinstance" = none
  n_all : mg "all" = none
  n_any : mg "any" = none
  n_sorted : mg "sorted" = none
  n_range : mg "range" = none
  n_repr : mg "repr" = none
  n_enumerate : mg "enumerate" = none
  s_DIGITS : ∃ t, mg "DIGITS" = some (.str "0123456789" t)
  s_LETTERS : ∃ t, mg "LETTERS" = some (.str "abcdefghijklmnopqrstuvwxyz" t)
  g_SORTS : mg "SORTS" = some (.ref (He.ga K "SORTS"))
  t_SORTS : ∀ H, SqT K H (He.ga K "SORTS") [.str "faint", .str "loud", .str "soft", .str "sudden"]
  g_LOUD_RULES : mg "LOUD_RULES" = some (.ref (He.ga K "LOUD_RULES"))
  t_LOUD_RULES : ∀ H, SqT K H (He.ga K "LOUD_RULES") [.str "again", .str "nothing", .str "wake"]
  g_UP : mg "UP" = some (.ref (He.ga K "UP"))
  t_UP : ∀ H, SqT K H (He.ga K "UP") [.str "up"]
  g_ASLEEP : mg "ASLEEP" = some (.ref (He.ga K "ASLEEP"))
  t_ASLEEP : ∀ H, SqT K H (He.ga K "ASLEEP") [.str "asleep"]
  g_WOKEN : mg "WOKEN" = some (.ref (He.ga K "WOKEN"))
  t_WOKEN : ∀ H, SqT K H (He.ga K "WOKEN") [.str "woken"]
  g_FIRSTS : mg "FIRSTS" = some (.ref (He.ga K "FIRSTS"))
  t_FIRSTS : ∀ H, SqT K H (He.ga K "FIRSTS") [.str "asleep", .str "dozing", .str "up"]
  g_HUMMED : mg "HUMMED" = some (.ref (He.ga K "HUMMED"))
  t_HUMMED : ∀ H, SqT K H (He.ga K "HUMMED") [.str "doze", .str "up"]
  d_0 : ∀ H, SqT K H (He.dflAt ("Walk", some "__init__") 0 K) []
  cls_House : Cls K (He.ga K "House")
  a_rooms : NoAttr K (He.ga K "House") "rooms"
  a_doors : NoAttr K (He.ga K "House") "doors"
  a_floors : NoAttr K (He.ga K "House") "floors"
  a_cradles : NoAttr K (He.ga K "House") "cradles"
  cls_Sleeper : Cls K (He.ga K "Sleeper")
  a_sorts : NoAttr K (He.ga K "Sleeper") "sorts"
  a_stir : NoAttr K (He.ga K "Sleeper") "stir"
  a_doze : NoAttr K (He.ga K "Sleeper") "doze"
  a_near : NoAttr K (He.ga K "Sleeper") "near"
  a_loud : NoAttr K (He.ga K "Sleeper") "loud"
  cls_Walk : Cls K (He.ga K "Walk")
  a_guests : NoAttr K (He.ga K "Walk") "guests"
  a_nurses : NoAttr K (He.ga K "Walk") "nurses"
  a_first : NoAttr K (He.ga K "Walk") "first"
  a_events : NoAttr K (He.ga K "Walk") "events"
  cls_Night : Cls K (He.ga K "Night")
  b_own_house : NoAttr K (He.ga K "Night") "own_house"
  b_own_sleeper : NoAttr K (He.ga K "Night") "own_sleeper"
  b_guests : NoAttr K (He.ga K "Night") "guests"
  b_state : NoAttr K (He.ga K "Night") "state"
  b_places : NoAttr K (He.ga K "Night") "places"
  b_moved : NoAttr K (He.ga K "Night") "moved"
  b_ticks : NoAttr K (He.ga K "Night") "ticks"
  b_made : NoAttr K (He.ga K "Night") "made"
  cls_Played : Cls K (He.ga K "Played")
  p_state : NoAttr K (He.ga K "Played") "state"
  p_places : NoAttr K (He.ga K "Played") "places"
  p_ticks : NoAttr K (He.ga K "Played") "ticks"
  p_made : NoAttr K (He.ga K "Played") "made"
  p_woke : NoAttr K (He.ga K "Played") "woke"
  cls_Search : Cls K (He.ga K "Search")
  q_own_sleeper : NoAttr K (He.ga K "Search") "own_sleeper"
  q_steps : NoAttr K (He.ga K "Search") "steps"
  q_found : NoAttr K (He.ga K "Search") "found"
end Lw
set_option Elab.async false
set_option linter.all false
set_option maxRecDepth 100000
set_option maxHeartbeats 0
namespace Lw
open PySem PySem.Spec PyProof.Rows L2 Hb
/-! ### the head: facts by names, the run -/
def d_is_whole : He.DefD := ⟨("is_whole", none), "is_whole", "is_whole", defArgs s_is_whole, defBody s_is_whole, defScope s_is_whole, [], []⟩
def d_is_number : He.DefD := ⟨("is_number", none), "is_number", "is_number", defArgs s_is_number, defBody s_is_number, defScope s_is_number, [], []⟩
def d_is_positive : He.DefD := ⟨("is_positive", none), "is_positive", "is_positive", defArgs s_is_positive, defBody s_is_positive, defScope s_is_positive, [], []⟩
def d_is_name : He.DefD := ⟨("is_name", none), "is_name", "is_name", defArgs s_is_name, defBody s_is_name, defScope s_is_name, [], []⟩
def d_is_row : He.DefD := ⟨("is_row", none), "is_row", "is_row", defArgs s_is_row, defBody s_is_row, defScope s_is_row, [], []⟩
def d_is_tuple_of : He.DefD := ⟨("is_tuple_of", none), "is_tuple_of", "is_tuple_of", defArgs s_is_tuple_of, defBody s_is_tuple_of, defScope s_is_tuple_of, [], []⟩
def d_are_unlike : He.DefD := ⟨("are_unlike", none), "are_unlike", "are_unlike", defArgs s_are_unlike, defBody s_are_unlike, defScope s_are_unlike, [], []⟩
def d_is_numeral : He.DefD := ⟨("is_numeral", none), "is_numeral", "is_numeral", defArgs s_is_numeral, defBody s_is_numeral, defScope s_is_numeral, [], []⟩
def d_is_room : He.DefD := ⟨("is_room", none), "is_room", "is_room", defArgs s_is_room, defBody s_is_room, defScope s_is_room, [], []⟩
def d_is_door : He.DefD := ⟨("is_door", none), "is_door", "is_door", defArgs s_is_door, defBody s_is_door, defScope s_is_door, [], []⟩
def d_is_floor : He.DefD := ⟨("is_floor", none), "is_floor", "is_floor", defArgs s_is_floor, defBody s_is_floor, defScope s_is_floor, [], []⟩
def d_are_doors : He.DefD := ⟨("are_doors", none), "are_doors", "are_doors", defArgs s_are_doors, defBody s_are_doors, defScope s_are_doors, [], []⟩
def d_are_floors : He.DefD := ⟨("are_floors", none), "are_floors", "are_floors", defArgs s_are_floors, defBody s_are_floors, defScope s_are_floors, [], []⟩
def d_are_cradles : He.DefD := ⟨("are_cradles", none), "are_cradles", "are_cradles", defArgs s_are_cradles, defBody s_are_cradles, defScope s_are_cradles, [], []⟩
def d_House_init : He.DefD := ⟨("House", some "__init__"), "__init__", "House.__init__", defArgs s_House_init, defBody s_House_init, defScope s_House_init, [.adr (He.dflAt ("House", some "__init__") 0), .adr (He.dflAt ("House", some "__init__") 1)], []⟩
def d_is_sorted_name : He.DefD := ⟨("is_sorted_name", none), "is_sorted_name", "is_sorted_name", defArgs s_is_sorted_name, defBody s_is_sorted_name, defScope s_is_sorted_name, [], []⟩
def d_are_sorts : He.DefD := ⟨("are_sorts", none), "are_sorts", "are_sorts", defArgs s_are_sorts, defBody s_are_sorts, defScope s_are_sorts, [], []⟩
def d_Sleeper_init : He.DefD := ⟨("Sleeper", some "__init__"), "__init__", "Sleeper.__init__", defArgs s_Sleeper_init, defBody s_Sleeper_init, defScope s_Sleeper_init, [], []⟩
def d_first_state : He.DefD := ⟨("first_state", none), "first_state", "first_state", defArgs s_first_state, defBody s_first_state, defScope s_first_state, [], []⟩
def d_heard : He.DefD := ⟨("heard", none), "heard", "heard", defArgs s_heard, defBody s_heard, defScope s_heard, [], []⟩
def d_heard_all : He.DefD := ⟨("heard_all", none), "heard_all", "heard_all", defArgs s_heard_all, defBody s_heard_all, defScope s_heard_all, [], []⟩
def d_ticked : He.DefD := ⟨("ticked", none), "ticked", "ticked", defArgs s_ticked, defBody s_ticked, defScope s_ticked, [], []⟩
def d_hummed : He.DefD := ⟨("hummed", none), "hummed", "hummed", defArgs s_hummed, defBody s_hummed, defScope s_hummed, [], []⟩
def d_dozing_anew : He.DefD := ⟨("dozing_anew", none), "dozing_anew", "dozing_anew", defArgs s_dozing_anew, defBody s_dozing_anew, defScope s_dozing_anew, [], []⟩
def d_sort_of : He.DefD := ⟨("sort_of", none), "sort_of", "sort_of", defArgs s_sort_of, defBody s_sort_of, defScope s_sort_of, [], []⟩
def d_heard_asleep : He.DefD := ⟨("heard_asleep", none), "heard_asleep", "heard_asleep", defArgs s_heard_asleep, defBody s_heard_asleep, defScope s_heard_asleep, [], []⟩
def d_heard_loud_dozing : He.DefD := ⟨("heard_loud_dozing", none), "heard_loud_dozing", "heard_loud_dozing", defArgs s_heard_loud_dozing, defBody s_heard_loud_dozing, defScope s_heard_loud_dozing, [], []⟩
def d_is_person : He.DefD := ⟨("is_person", none), "is_person", "is_person", defArgs s_is_person, defBody s_is_person, defScope s_is_person, [], []⟩
def d_is_event : He.DefD := ⟨("is_event", none), "is_event", "is_event", defArgs s_is_event, defBody s_is_event, defScope s_is_event, [], []⟩
def d_Walk_init : He.DefD := ⟨("Walk", some "__init__"), "__init__", "Walk.__init__", defArgs s_Walk_init, defBody s_Walk_init, defScope s_Walk_init, [.adr (He.dflAt ("Walk", some "__init__") 0)], []⟩
def d_beyond : He.DefD := ⟨("beyond", none), "beyond", "beyond", defArgs s_beyond, defBody s_beyond, defScope s_beyond, [], []⟩
def d_floor_noise : He.DefD := ⟨("floor_noise", none), "floor_noise", "floor_noise", defArgs s_floor_noise, defBody s_floor_noise, defScope s_floor_noise, [], []⟩
def d_noises_of_step : He.DefD := ⟨("noises_of_step", none), "noises_of_step", "noises_of_step", defArgs s_noises_of_step, defBody s_noises_of_step, defScope s_noises_of_step, [], []⟩
def d_Night_init : He.DefD := ⟨("Night", some "__init__"), "__init__", "Night.__init__", defArgs s_Night_init, defBody s_Night_init, defScope s_Night_init, [], []⟩
def d_Night_allows : He.DefD := ⟨("Night", some "allows"), "allows", "Night.allows", defArgs s_Night_allows, defBody s_Night_allows, defScope s_Night_allows, [], []⟩
def d_Night_follow : He.DefD := ⟨("Night", some "follow"), "follow", "Night.follow", defArgs s_Night_follow, defBody s_Night_follow, defScope s_Night_follow, [], []⟩
def d_Night_tick : He.DefD := ⟨("Night", some "tick"), "tick", "Night.tick", defArgs s_Night_tick, defBody s_Night_tick, defScope s_Night_tick, [], []⟩
def d_Night_step : He.DefD := ⟨("Night", some "step"), "step", "Night.step", defArgs s_Night_step, defBody s_Night_step, defScope s_Night_step, [], []⟩
def d_Played_init : He.DefD := ⟨("Played", some "__init__"), "__init__", "Played.__init__", defArgs s_Played_init, defBody s_Played_init, defScope s_Played_init, [], []⟩
def d_play : He.DefD := ⟨("play", none), "play", "play", defArgs s_play, defBody s_play, defScope s_play, [], []⟩
def d_all_steps : He.DefD := ⟨("all_steps", none), "all_steps", "all_steps", defArgs s_all_steps, defBody s_all_steps, defScope s_all_steps, [], []⟩
def d_begin : He.DefD := ⟨("begin", none), "begin", "begin", defArgs s_begin, defBody s_begin, defScope s_begin, [], []⟩
def d_with_room : He.DefD := ⟨("with_room", none), "with_room", "with_room", defArgs s_with_room, defBody s_with_room, defScope s_with_room, [], []⟩
def d_behind_step : He.DefD := ⟨("behind_step", none), "behind_step", "behind_step", defArgs s_behind_step, defBody s_behind_step, defScope s_behind_step, [], []⟩
def d_behind_tick : He.DefD := ⟨("behind_tick", none), "behind_tick", "behind_tick", defArgs s_behind_tick, defBody s_behind_tick, defScope s_behind_tick, [], []⟩
def d_Search_init : He.DefD := ⟨("Search", some "__init__"), "__init__", "Search.__init__", defArgs s_Search_init, defBody s_Search_init, defScope s_Search_init, [], []⟩
def d_Search_spread : He.DefD := ⟨("Search", some "spread"), "spread", "Search.spread", defArgs s_Search_spread, defBody s_Search_spread, defScope s_Search_spread, [], []⟩
def d_Search_following : He.DefD := ⟨("Search", some "following"), "following", "Search.following", defArgs s_Search_following, defBody s_Search_following, defScope s_Search_following, [], []⟩
def d_is_without : He.DefD := ⟨("is_without", none), "is_without", "is_without", defArgs s_is_without, defBody s_is_without, defScope s_is_without, [], []⟩
def d_table : He.DefD := ⟨("table", none), "table", "table", defArgs s_table, defBody s_table, defScope s_table, [], []⟩
def d_box : He.DefD := ⟨("_law_box", none), "_law_box", "_law_box", defArgs s_box, defBody s_box, defScope s_box, [], []⟩
def d_take : He.DefD := ⟨("_law_take", none), "_law_take", "_law_take", defArgs s_take, defBody s_take, defScope s_take, [], []⟩
def d_pick : He.DefD := ⟨("_law_pick", none), "_law_pick", "_law_pick", defArgs s_pick, defBody s_pick, defScope s_pick, [], []⟩
def d_shuffled : He.DefD := ⟨("_law_shuffled", none), "_law_shuffled", "_law_shuffled", defArgs s_shuffled, defBody s_shuffled, defScope s_shuffled, [], []⟩
def d_house : He.DefD := ⟨("_law_house", none), "_law_house", "_law_house", defArgs s_house, defBody s_house, defScope s_house, [], []⟩
def d_sleeper : He.DefD := ⟨("_law_sleeper", none), "_law_sleeper", "_law_sleeper", defArgs s_sleeper, defBody s_sleeper, defScope s_sleeper, [], []⟩
def d_house_of : He.DefD := ⟨("_law_house_of", none), "_law_house_of", "_law_house_of", defArgs s_house_of, defBody s_house_of, defScope s_house_of, [], []⟩
def d_sleeper_of : He.DefD := ⟨("_law_sleeper_of", none), "_law_sleeper_of", "_law_sleeper_of", defArgs s_sleeper_of, defBody s_sleeper_of, defScope s_sleeper_of, [], []⟩
def d_first : He.DefD := ⟨("_law_first", none), "_law_first", "_law_first", defArgs s_first, defBody s_first, defScope s_first, [], []⟩
def d_l_heard : He.DefD := ⟨("_law_heard", none), "_law_heard", "_law_heard", defArgs s_l_heard, defBody s_l_heard, defScope s_l_heard, [], []⟩
def d_noises : He.DefD := ⟨("_law_noises", none), "_law_noises", "_law_noises", defArgs s_noises, defBody s_noises, defScope s_noises, [], []⟩
def d_l_ticked : He.DefD := ⟨("_law_ticked", none), "_law_ticked", "_law_ticked", defArgs s_l_ticked, defBody s_l_ticked, defScope s_l_ticked, [], []⟩
def d_l_hummed : He.DefD := ⟨("_law_hummed", none), "_law_hummed", "_law_hummed", defArgs s_l_hummed, defBody s_l_hummed, defScope s_l_hummed, [], []⟩
def d_door_noise : He.DefD := ⟨("_law_door_noise", none), "_law_door_noise", "_law_door_noise", defArgs s_door_noise, defBody s_door_noise, defScope s_door_noise, [], []⟩
def d_l_floor_noise : He.DefD := ⟨("_law_floor_noise", none), "_law_floor_noise", "_law_floor_noise", defArgs s_l_floor_noise, defBody s_l_floor_noise, defScope s_l_floor_noise, [], []⟩
def d_ways : He.DefD := ⟨("_law_ways", none), "_law_ways", "_law_ways", defArgs s_ways, defBody s_ways, defScope s_ways, [], []⟩
def d_l_begin : He.DefD := ⟨("_law_begin", none), "_law_begin", "_law_begin", defArgs s_l_begin, defBody s_l_begin, defScope s_l_begin, [], []⟩
def d_go : He.DefD := ⟨("_law_go", none), "_law_go", "_law_go", defArgs s_go, defBody s_go, defScope s_go, [], []⟩
def d_event_text : He.DefD := ⟨("_law_event_text", none), "_law_event_text", "_law_event_text", defArgs s_event_text, defBody s_event_text, defScope s_event_text, [], []⟩
def d_is_below : He.DefD := ⟨("_law_is_below", none), "_law_is_below", "_law_is_below", defArgs s_is_below, defBody s_is_below, defScope s_is_below, [], []⟩
def d_law : He.DefD := ⟨("law", none), "law", "law", defArgs s_law, defBody s_law, defScope s_law, [], []⟩
def fn : List He.DefD := [d_is_whole, d_is_number, d_is_positive, d_is_name, d_is_row, d_is_tuple_of, d_are_unlike, d_is_numeral, d_is_room, d_is_door, d_is_floor, d_are_doors, d_are_floors, d_are_cradles, d_House_init, d_is_sorted_name, d_are_sorts, d_Sleeper_init, d_first_state, d_heard, d_heard_all, d_ticked, d_hummed, d_dozing_anew, d_sort_of, d_heard_asleep, d_heard_loud_dozing, d_is_person, d_is_event, d_Walk_init, d_beyond, d_floor_noise, d_noises_of_step, d_Night_init, d_Night_allows, d_Night_follow, d_Night_tick, d_Night_step, d_Played_init, d_play, d_all_steps, d_begin, d_with_room, d_behind_step, d_behind_tick, d_Search_init, d_Search_spread, d_Search_following, d_is_without, d_table, d_box, d_take, d_pick, d_shuffled, d_house, d_sleeper, d_house_of, d_sleeper_of, d_first, d_l_heard, d_noises, d_l_ticked, d_l_hummed, d_door_noise, d_l_floor_noise, d_ways, d_l_begin, d_go, d_event_text, d_is_below, d_law]
def fa : List He.Fa := [.meth "Night" "allows", .meth "Night" "follow", .meth "Night" "tick", .meth "Night" "step", .meth "Search" "spread", .meth "Search" "following", .glo "is_whole", .glo "is_number", .glo "is_positive", .glo "is_name", .glo "is_row", .glo "is_tuple_of", .glo "are_unlike", .glo "is_numeral", .glo "is_room", .glo "is_door", .glo "is_floor", .glo "are_doors", .glo "are_floors", .glo "are_cradles", .glo "is_sorted_name", .glo "are_sorts", .glo "first_state", .glo "heard", .glo "heard_all", .glo "ticked", .glo "hummed", .glo "dozing_anew", .glo "sort_of", .glo "heard_asleep", .glo "heard_loud_dozing", .glo "is_person", .glo "is_event", .glo "beyond", .glo "floor_noise", .glo "noises_of_step", .glo "play", .glo "all_steps", .glo "begin", .glo "with_room", .glo "behind_step", .glo "behind_tick", .glo "is_without", .glo "table", .glo "_law_box", .glo "_law_take", .glo "_law_pick", .glo "_law_shuffled", .glo "_law_house", .glo "_law_sleeper", .glo "_law_house_of", .glo "_law_sleeper_of", .glo "_law_first", .glo "_law_heard", .glo "_law_noises", .glo "_law_ticked", .glo "_law_hummed", .glo "_law_door_noise", .glo "_law_floor_noise", .glo "_law_ways", .glo "_law_begin", .glo "_law_go", .glo "_law_event_text", .glo "_law_is_below", .glo "law", .free "len", .free "set", .free "abs", .free "min", .free "max", .free "int", .free "str", .free "bool", .free "list", .free "tuple", .free "dict", .free "isinstance", .free "all", .free "any", .free "sorted", .free "range", .free "repr", .free "enumerate", .str "DIGITS" "0123456789", .str "LETTERS" "abcdefghijklmnopqrstuvwxyz", .glo "SORTS", .glo "LOUD_RULES", .glo "UP", .glo "ASLEEP", .glo "WOKEN", .glo "FIRSTS", .glo "HUMMED", .cls "House", .noat "House" "rooms", .noat "House" "doors", .noat "House" "floors", .noat "House" "cradles", .cls "Sleeper", .noat "Sleeper" "sorts", .noat "Sleeper" "stir", .noat "Sleeper" "doze", .noat "Sleeper" "near", .noat "Sleeper" "loud", .cls "Walk", .noat "Walk" "guests", .noat "Walk" "nurses", .noat "Walk" "first", .noat "Walk" "events", .cls "Night", .noat "Night" "own_house", .noat "Night" "own_sleeper", .noat "Night" "guests", .noat "Night" "state", .noat "Night" "places", .noat "Night" "moved", .noat "Night" "ticks", .noat "Night" "made", .cls "Played", .noat "Played" "state", .noat "Played" "places", .noat "Played" "ticks", .noat "Played" "made", .noat "Played" "woke", .cls "Search", .noat "Search" "own_sleeper", .noat "Search" "steps", .noat "Search" "found", .mkr "House", .glo "House", .mkr "Sleeper", .glo "Sleeper", .mkr "Walk", .glo "Walk", .mkr "Night", .glo "Night", .mkr "Played", .glo "Played", .mkr "Search", .glo "Search"]
def ex (K : PySem.W.Frag) : Bool := (He.tupB K "SORTS" [.str "faint", .str "loud", .str "soft", .str "sudden"] && (He.tupB K "LOUD_RULES" [.str "again", .str "nothing", .str "wake"] && (He.tupB K "UP" [.str "up"] && (He.tupB K "ASLEEP" [.str "asleep"] && (He.tupB K "WOKEN" [.str "woken"] && (He.tupB K "FIRSTS" [.str "asleep", .str "dozing", .str "up"] && (He.tupB K "HUMMED" [.str "doze", .str "up"] && (He.nilB K (He.dflAt ("Walk", some "__init__") 0 K) && true))))))))
theorem EX0 {K : PySem.W.Frag} (h : ex K = true) : He.tupB K "SORTS" [.str "faint", .str "loud", .str "soft", .str "sudden"] = true := (He.ba h).1
theorem EX1 {K : PySem.W.Frag} (h : ex K = true) : He.tupB K "LOUD_RULES" [.str "again", .str "nothing", .str "wake"] = true := (He.ba (He.ba h).2).1
theorem EX2 {K : PySem.W.Frag} (h : ex K = true) : He.tupB K "UP" [.str "up"] = true := (He.ba (He.ba (He.ba h).2).2).1
theorem EX3 {K : PySem.W.Frag} (h : ex K = true) : He.tupB K "ASLEEP" [.str "asleep"] = true := (He.ba (He.ba (He.ba (He.ba h).2).2).2).1
theorem EX4 {K : PySem.W.Frag} (h : ex K = true) : He.tupB K "WOKEN" [.str "woken"] = true := (He.ba (He.ba (He.ba (He.ba (He.ba h).2).2).2).2).1
theorem EX5 {K : PySem.W.Frag} (h : ex K = true) : He.tupB K "FIRSTS" [.str "asleep", .str "dozing", .str "up"] = true := (He.ba (He.ba (He.ba (He.ba (He.ba (He.ba h).2).2).2).2).2).1
theorem EX6 {K : PySem.W.Frag} (h : ex K = true) : He.tupB K "HUMMED" [.str "doze", .str "up"] = true := (He.ba (He.ba (He.ba (He.ba (He.ba (He.ba (He.ba h).2).2).2).2).2).2).1
theorem EX7 {K : PySem.W.Frag} (h : ex K = true) : He.nilB K (He.dflAt ("Walk", some "__init__") 0 K) = true := (He.ba (He.ba (He.ba (He.ba (He.ba (He.ba (He.ba (He.ba h).2).2).2).2).2).2).2).1
abbrev R : PySem.W.OpenRow := PySem.W.OpenLaw.row PySem.Challenge.rw_hushsteps_k78_whole_tables_and_walks
abbrev hk : PySem.W.Hook := He.hookA 7 fa fn ex
def ob (s : PySem.W.SharedT) : He.AlX := He.obsA 7 fa fn ex (HandSHeadRun.getT s)
theorem ob_eq (s : PySem.W.SharedT) : ob s = hk.obs s.abs := He.obsA_eq (HandSHeadRun.getT_eq s)
def names : List PySem.Str := (["_wall", "beyond", "floor_noise", "noises_of_step", "all_steps", "DIGITS", "LETTERS", "is_whole", "is_number", "is_positive", "is_name", "is_row"] : List PySem.Str) ++ (["is_tuple_of", "are_unlike", "is_numeral", "HushError", "InvalidHouse", "InvalidSleeper", "InvalidWalk", "InvalidEvent", "InvalidText", "Refused", "FOLLOWING", "is_room"] : List PySem.Str) ++ (["is_door", "is_floor", "are_doors", "are_floors", "are_cradles", "door_line", "read_door", "read_floor", "are_numerals", "has_form", "has_form_houses", "wrong_line"] : List PySem.Str) ++ (["House", "SORTS", "LOUD_RULES", "FIRSTS", "HUMMED", "UP", "ASLEEP", "WOKEN", "is_sorted_name", "are_sorts", "has_form_sleepers", "are_all_sorted_names"] : List PySem.Str) ++ (["Sleeper", "first_state", "heard", "heard_all", "ticked", "hummed", "dozing_anew", "sort_of", "heard_asleep", "heard_loud_dozing", "begin", "with_room"] : List PySem.Str) ++ (["behind_step", "behind_tick", "Search", "table", "is_without", "is_person", "is_event", "Walk", "Played", "Night", "play", "_law_box"] : List PySem.Str) ++ (["_law_take", "_law_pick", "_law_shuffled", "_law_house", "_law_sleeper", "_law_house_of", "_law_sleeper_of", "_law_first", "_law_heard", "_law_noises", "_law_ticked", "_law_hummed"] : List PySem.Str) ++ (["_law_door_noise", "_law_floor_noise", "_law_ways", "_law_begin", "_law_go", "_law_event_text", "_law_is_below"] : List PySem.Str)
theorem run_f (w : World) : HandSHeadRun.RunEq R (PySem.W.view R.prog [101]) hk ob 12000 names (w.withFollow "special-get-raises" false) := by
  intro os
  kernel_rfl
theorem run_t (w : World) : HandSHeadRun.RunEq R (PySem.W.view R.prog [101]) hk ob 12000 names (w.withFollow "special-get-raises" true) := by
  intro os
  kernel_rfl
theorem run (w : World) : HandSHeadRun.RunEq R (PySem.W.view R.prog [101]) hk ob 12000 names w := PySem.W.byRow2 "special-get-raises" (P := fun w => HandSHeadRun.RunEq R (PySem.W.view R.prog [101]) hk ob 12000 names w) run_f run_t w
end Lw
set_option Elab.async false
set_option linter.all false
set_option maxRecDepth 100000
set_option maxHeartbeats 4000000
namespace Lw
open PySem PySem.Spec PyProof.Rows L2 Hb
def spWhole : Sp := fun vs H Q _ => ∃ i : Int, vs = [.int i] ∧ Q (.bl true) H
def spPos : Sp := fun vs H Q _ => ∃ i : Int, vs = [.int i] ∧ Q (.bl (decide (1 ≤ i))) H
def spName : Sp := fun vs H Q _ => ∃ x : Str, vs = [.str x] ∧ x.length ≤ 1000 ∧ ∀ H', Same H H' → Q (.bl (nameB x)) H'
section
variable {P : Program} {w : World} {K : PySem.W.Frag} {mg : Str → Option Value} {base : Heap}
theorem c_is_whole (D : Df K mg "is_whole" s_is_whole) (T : Tx K mg) : C8.Cal P w K mg base 1 "is_whole" spWhole [] := by
  refine cal_mk D sc_is_whole bd_is_whole (fun vs H Q E h => ?_) fun f cdv A outer s H vs Q E hr h => ?_
  · obtain ⟨i, rfl, _⟩ := h
    rfl
  · obtain ⟨i, rfl, k⟩ := h
    refine ⟨_, (pss_one (ps_ret (pe_and (pe_callB call_isi (by rfl) T.n_isinstance (by decide +kernel) (pa_cons (pv 0) (pa_cons (pe_bltn (v := .ty "int") (u := .type "int") rfl T.n_int (by decide +kernel) rfl) pa_nil))) (pe_one (pe_not (pe_callB call_isi (by rfl) T.n_isinstance (by decide +kernel) (pa_cons (pv 0) (pa_cons (pe_bltn (v := .ty "bool") (u := .type "bool") rfl T.n_bool (by decide +kernel) rfl) pa_nil)))))))), ?_⟩
    refine ⟨_, rfl, _, _, _, _, true, rfl, .ty _, .base (.int i), kit_ty (by decide +kernel), _, rfl, iteT ?_⟩
    exact ⟨_, rfl, _, _, _, _, false, rfl, .ty _, .base (.int i), kit_ty (by decide +kernel), _, rfl, k⟩
theorem c_is_positive (D : Df K mg "is_positive" s_is_positive) (T : Tx K mg) (c_is_whole : C8.Cal P w K mg base 1 "is_whole" spWhole []) : C8.Cal P w K mg base 2 "is_positive" spPos [] := by
  refine cal_mk D sc_is_positive bd_is_positive (fun vs H Q E h => ?_) fun f cdv A outer s H vs Q E hr h => ?_
  · obtain ⟨i, rfl, _⟩ := h
    rfl
  · obtain ⟨i, rfl, k⟩ := h
    refine ⟨_, (pss_one (ps_ret (pe_and (C8.pe_c c_is_whole hr (by decide) rfl (pa_cons (pv 0) pa_nil)) (pe_one (pe_cmpR op_ge (pv 0) pe_int (by first | exact nomark _ | rfl)))))), ?_⟩
    exact ⟨_, rfl, i, rfl, _, rfl, iteT ⟨_, rfl, _, _, rfl, rfl, k⟩⟩
theorem c_is_name (D : Df K mg "is_name" s_is_name) (T : Tx K mg) : C8.Cal P w K mg base 1 "is_name" spName [] := by
  refine cal_mk D sc_is_name bd_is_name (fun vs H Q E h => ?_) fun f cdv A outer s H vs Q E hr h => ?_
  · obtain ⟨i, rfl, _⟩ := h
    rfl
  · obtain ⟨x, rfl, few, k⟩ := h
    obtain ⟨tL, hLETTERS⟩ := T.s_LETTERS
    have line := sizeLine_eq
    refine ⟨_, (pss_cons (ps_if (PW.pt (pw_or (pt_not (pt_val (pe_callB call_isi (by rfl) T.n_isinstance (by decide +kernel) (pa_cons (pv 0) (pa_cons (pe_bltn (v := .ty "str") (u := .type "str") rfl T.n_str (by decide +kernel) rfl) pa_nil))))) (pw_or1 (pt_not (pt_chain op_le op_le pe_int (pe_callB call_len (by rfl) T.n_len (by decide +kernel) (pa_cons (pv 0) pa_nil)) pe_int)))))
 (pss_one (ps_ret pe_bl))
 pss_nil)
 (pss_one (ps_ret (pe_callB (cr_all rfl) (by rfl) T.n_all (by decide +kernel) (pa_cons (pe_lc (own := [("letter", 1)]) (by rfl) sc_is_name.nd (pi_str (pv 0)) (blkOk_by (N := N_is_name) (sc := defScope s_is_name) (by decide +kernel)) (fun _ _ _ _ _ => (pg_name (i := 1) sc_is_name.nd rfl (Or.inl rfl))) (fun _ _ _ _ _ => pts_nil) (fun _ _ _ _ _ => (pe_cmpR op_in_sign (pv 1) (pe_glob (v := .str "abcdefghijklmnopqrstuvwxyz") rfl hLETTERS ⟨_, rfl⟩) (by first | exact nomark _ | rfl)))) pa_nil))))), ?_⟩
    refine ⟨_, rfl, _, _, _, _, true, rfl, .ty _, .base (.str x), kit_ty (by decide +kernel), _, rfl, iteF ?_⟩
    refine ⟨_, rfl, .str x, x.length, rfl, ⟨by omega, rfl⟩, _, _, rfl, rfl, _, rfl, ?_⟩
    by_cases h1 : (1 : Int) ≤ (x.length : Nat)
    · rw [decide_eq_true h1]
      refine iteT ⟨_, _, rfl, rfl, _, rfl, ?_⟩
      by_cases h2 : ((x.length : Nat) : Int) ≤ 4
      · rw [decide_eq_true h2]
        refine iteF ⟨_, rfl, x, rfl, fun D nD => lc_it (walk_str (z := x)) (fun i H' => H' = upd H D (.lst (((x.cps.toList.take i).map isLetter).map V.bl))) (by simp) (fun _ _ _ _ => trivial) ?_ ?_⟩
        · rintro i v H' H2 hi rfl ⟨e, c, hc, rfl⟩
          subst e
          refine ⟨rfl, yes_ ⟨_, rfl, c, _, rfl, rfl, _, upd_same, ?_, ?_⟩⟩
          · rw [List.length_map, List.length_map, List.length_take]
            have el : x.cps.toList.length = x.length := by simp [Str.length]
            omega
          · rw [upd_upd]
            have hc2 : x.cps.toList[i]? = some c := by rw [Array.getElem?_toList]; exact hc
            show upd H D _ = upd H D _
            rw [List.take_add_one, hc2]
            simp [isLetter]
        · rintro H' rfl
          have el : x.cps.size = x.cps.toList.length := by simp
          refine ⟨D, x.cps.toList.map isLetter, rfl, SqL.of (by rw [el, List.take_length]; exact upd_same), ?_⟩
          have e : (x.cps.toList.map isLetter).all id = nameB x := by
            have q : decide (1 ≤ x.length ∧ x.length ≤ 4) = true := decide_eq_true ⟨by omega, by omega⟩
            rw [nameB, q, List.all_map]
            rfl
          rw [e]
          exact k _ (Same.new nD)
      · rw [decide_eq_false h2]
        refine iteT ?_
        have q : nameB x = false := by
          have q : decide (1 ≤ x.length ∧ x.length ≤ 4) = false := decide_eq_false (by omega)
          rw [nameB, q, Bool.false_and]
        have k2 := k H (Same.refl H)
        rw [q] at k2
        exact k2
    · rw [decide_eq_false h1]
      refine iteF ⟨_, rfl, iteT ?_⟩
      have q : nameB x = false := by
        have q : decide (1 ≤ x.length ∧ x.length ≤ 4) = false := decide_eq_false (by omega)
        rw [nameB, q, Bool.false_and]
      have k2 := k H (Same.refl H)
      rw [q] at k2
      exact k2
def spRow (K : PySem.W.Frag) : Sp := fun vs H Q _ => ∃ (a : Addr) (xs : List V), vs = [.ref a] ∧ (SqL K H a xs ∨ SqT K H a xs) ∧ ∀ H', Same H H' → Q (.bl true) H'
theorem c_is_row (D : Df K mg "is_row" s_is_row) (T : Tx K mg) : C8.Cal P w K mg base 1 "is_row" (spRow K) [] := by
  refine cal_mk D sc_is_row bd_is_row (fun vs H Q E h => ?_) fun f cdv A outer s H vs Q E hr h => ?_
  · obtain ⟨a, xs, rfl, _⟩ := h
    rfl
  · obtain ⟨a, xs, rfl, hq, k⟩ := h
    refine ⟨_, (pss_one (ps_ret (pe_callB call_isiT (by rfl) T.n_isinstance (by decide +kernel) (pa_cons (pv 0) (pa_cons (pe_tup (pa_cons (pe_bltn (v := .ty "list") (u := .type "list") rfl T.n_list (by decide +kernel) rfl) (pa_cons (pe_bltn (v := .ty "tuple") (u := .type "tuple") rfl T.n_tuple (by decide +kernel) rfl) pa_nil))) pa_nil))))), ?_⟩
    refine ⟨_, rfl, by show 2 ≤ sizeLine; decide, fun p np => ?_⟩
    rcases hq with h | h
    · exact ⟨_, p, _, _, _, true, rfl, upd_same, .cons (.ty _) (.cons (.ty _) .nil), ty_lst (SqL.laid h np), kitAny_cons (kit_ty (b := "list") (r := true) (by decide +kernel)) (fun z => by cases z) (fun _ => rfl), k _ (Same.new np)⟩
    · exact ⟨_, p, _, _, _, true, rfl, upd_same, .cons (.ty _) (.cons (.ty _) .nil), ty_tup (SqT.laid h np), kitAny_cons (kit_ty (b := "list") (r := false) (by decide +kernel)) (fun _ => kitAny_cons (kit_ty (b := "tuple") (r := true) (by decide +kernel)) (fun z => by cases z) (fun _ => rfl)) (fun z => by cases z), k _ (Same.new np)⟩
def spTupOf (K : PySem.W.Frag) : Sp := fun vs H Q _ => ∃ (a : Addr) (xs : List V) (n : Int), vs = [.ref a, .int n] ∧ SqT K H a xs ∧ Q (.bl (decide (((xs.length : Nat) : Int) = n))) H
theorem c_is_tuple_of (D : Df K mg "is_tuple_of" s_is_tuple_of) (T : Tx K mg) : C8.Cal P w K mg base 1 "is_tuple_of" (spTupOf K) [] := by
  refine cal_mk D sc_is_tuple_of bd_is_tuple_of (fun vs H Q E h => ?_) fun f cdv A outer s H vs Q E hr h => ?_
  · obtain ⟨a, xs, n, rfl, _⟩ := h
    rfl
  · obtain ⟨a, xs, n, rfl, hq, k⟩ := h
    refine ⟨_, (pss_one (ps_ret (pe_and (pe_callB call_isi (by rfl) T.n_isinstance (by decide +kernel) (pa_cons (pv 0) (pa_cons (pe_bltn (v := .ty "tuple") (u := .type "tuple") rfl T.n_tuple (by decide +kernel) rfl) pa_nil))) (pe_one (pe_cmpR op_eq (pe_callB call_len (by rfl) T.n_len (by decide +kernel) (pa_cons (pv 0) pa_nil)) (pv 1) (by first | exact nomark _ | rfl)))))), ?_⟩
    refine ⟨_, rfl, _, _, _, _, true, rfl, .ty _, ty_tup hq, kit_ty (by decide +kernel), _, rfl, iteT ?_⟩
    refine ⟨_, rfl, .ref a, xs.length, rfl, .inr ⟨_, hq, rfl⟩, _, rfl, rfl, ?_⟩
    have e : decide (V.int ((xs.length : Nat) : Int) = V.int n) = decide (((xs.length : Nat) : Int) = n) := by
      by_cases q : ((xs.length : Nat) : Int) = n
      · rw [q]; simp
      · rw [decide_eq_false q, decide_eq_false (fun z => q (by injection z))]
    rw [e]
    exact k
def spUnlike (K : PySem.W.Frag) : Sp := fun vs H Q _ => ∃ (a : Addr), vs = [.ref a] ∧ ((∃ xs : List Str, SqL K H a (xs.map V.str) ∧ xs.Nodup ∧ xs.length ≤ 4000) ∨ ∃ ns : List Int, (SqL K H a (ns.map V.int) ∨ SqT K H a (ns.map V.int)) ∧ ns.Nodup ∧ ns.length ≤ 4000) ∧ Q (.bl true) H
theorem c_are_unlike (D : Df K mg "are_unlike" s_are_unlike) (T : Tx K mg) : C8.Cal P w K mg base 1 "are_unlike" (spUnlike K) [] := by
  refine cal_mk D sc_are_unlike bd_are_unlike (fun vs H Q E h => ?_) fun f cdv A outer s H vs Q E hr h => ?_
  · obtain ⟨a, rfl, _⟩ := h
    rfl
  · obtain ⟨a, rfl, hq, k⟩ := h
    refine ⟨_, (pss_one (ps_ret (pe_cmpR op_eq (Hb.pe_lenSet3 rfl T.n_len rfl T.n_set (pv 0)) (pe_callB call_len (by rfl) T.n_len (by decide +kernel) (pa_cons (pv 0) pa_nil)) (by first | exact nomark _ | rfl)))), ?_⟩
    rcases hq with ⟨xs, hq, nd, few⟩ | ⟨xs, hq, nd, few⟩
    · refine ⟨_, rfl, a, rfl, .inl ⟨xs, hq, nd, few, _, rfl, .ref a, _, rfl, .inl ⟨_, hq, rfl⟩, rfl, ?_⟩⟩
      rw [List.length_map, decide_eq_true rfl]
      exact k
    · refine ⟨_, rfl, a, rfl, .inr ⟨xs, hq, nd, few, _, rfl, .ref a, _, rfl, hq.imp (fun hq => ⟨_, hq, rfl⟩) (fun hq => ⟨_, hq, rfl⟩), rfl, ?_⟩⟩
      rw [List.length_map, decide_eq_true rfl]
      exact k
theorem name_short {x : Str} (h : nameB x = true) : x.length ≤ 4 := by
  have h1 := (Bool.and_eq_true_iff.mp h).1
  exact (of_decide_eq_true h1).2
end
end Lw
set_option Elab.async false
set_option linter.all false
set_option maxRecDepth 100000
set_option maxHeartbeats 4000000
namespace Lw
open PySem PySem.Spec PyProof.Rows L2 Hb
def spRoom : Sp := fun vs H Q _ => ∃ r v : Int, vs = [.int r, .int v] ∧ inR r v ∧ Q (.bl true) H
section
variable {P : Program} {w : World} {K : PySem.W.Frag} {mg : Str → Option Value} {base : Heap}
theorem c_is_room (D : Df K mg "is_room" s_is_room) (T : Tx K mg) (c_is_whole : C8.Cal P w K mg base 1 "is_whole" spWhole []) : C8.Cal P w K mg base 2 "is_room" spRoom [] := by
  refine cal_mk D sc_is_room bd_is_room (fun vs H Q E h => ?_) fun f cdv A outer s H vs Q E hr h => ?_
  · obtain ⟨r, v, rfl, _⟩ := h
    rfl
  · obtain ⟨r, v, rfl, ⟨i0, i1⟩, k⟩ := h
    refine ⟨_, (pss_one (ps_ret (pe_and (C8.pe_c c_is_whole hr (by decide) rfl (pa_cons (pv 1) pa_nil)) (pe_one (pe_chain op_le op_lt pe_int (pv 1) (pv 0)))))), ?_⟩
    refine ⟨_, rfl, v, rfl, _, rfl, iteT ?_⟩
    refine ⟨_, rfl, _, _, rfl, rfl, _, rfl, ?_⟩
    rw [decide_eq_true i0]
    refine iteT ⟨_, rfl, _, _, rfl, rfl, ?_⟩
    show Q (V.bl (decide (v < r))) H
    rw [decide_eq_true i1]
    exact k
def spDoor (K : PySem.W.Frag) : Sp := fun vs H Q _ => ∃ (r : Int) (t : Addr) (x : Dr), vs = [.int r, .ref t] ∧ SqT K H t [.int x.1, .int x.2.1, nzV x.2.2] ∧ DrOk r x ∧ ∀ H', Same H H' → Q (.bl true) H'
theorem c_is_door (D : Df K mg "is_door" s_is_door) (T : Tx K mg) (c_is_tuple_of : C8.Cal P w K mg base 1 "is_tuple_of" (spTupOf K) []) (c_is_room : C8.Cal P w K mg base 2 "is_room" spRoom []) (c_is_name : C8.Cal P w K mg base 1 "is_name" spName []) :
    C8.Cal P w K mg base 3 "is_door" (spDoor K) [] := by
  refine cal_mk D sc_is_door bd_is_door (fun vs H Q E h => ?_) fun f cdv A outer s H vs Q E hr h => ?_
  · obtain ⟨r, t, x, rfl, _⟩ := h
    rfl
  · obtain ⟨r, t, x, rfl, ht, ok, k⟩ := h
    refine ⟨_, (pss_cons (ps_if (pt_not (pt_val (C8.pe_c c_is_tuple_of hr (by decide) rfl (pa_cons (pv 1) (pa_cons pe_int pa_nil)))))
 (pss_one (ps_ret pe_bl))
 pss_nil)
 (pss_cons (ps_asg (pv 1) (pg_tup (by rfl) (pgs_cons (pg_name (i := 2) sc_is_door.nd rfl (Or.inl rfl)) (pgs_cons (pg_name (i := 3) sc_is_door.nd rfl (Or.inl rfl)) (pgs_cons (pg_name (i := 4) sc_is_door.nd rfl (Or.inl rfl)) pgs_nil)))))
 (pss_cons (ps_if (PW.pt (pw_or (pt_not (pt_val (C8.pe_c c_is_room hr (by decide) rfl (pa_cons (pv 0) (pa_cons (pv 2) pa_nil))))) (pw_or (pt_not (pt_val (C8.pe_c c_is_room hr (by decide) rfl (pa_cons (pv 0) (pa_cons (pv 3) pa_nil))))) (pw_or1 (pt_cmpR op_eq (pv 2) (pv 3) (by first | exact nomark _ | rfl))))))
 (pss_one (ps_ret pe_bl))
 pss_nil)
 (pss_one (ps_ret (pe_or (pe_cmpR op_isN (pv 4) pe_non (by first | exact nomark _ | rfl)) (pe_one (C8.pe_c c_is_name hr (by decide) rfl (pa_cons (pv 4) pa_nil))))))))), ?_⟩
    refine ⟨_, rfl, t, _, 3, rfl, ht, _, rfl, iteF ?_⟩
    obtain ⟨o1, o2, o3, o4⟩ := ok
    refine ⟨_, rfl, t, _, rfl, ht, rfl, _, _, rfl, _, _, rfl, _, _, rfl, rfl, ?_⟩
    refine ⟨_, rfl, _, rfl, r, x.1, rfl, o1, _, rfl, iteF ⟨_, rfl, _, rfl, r, x.2.1, rfl, o2, _, rfl, iteF ⟨_, rfl, _, rfl, rfl, _, rfl, ?_⟩⟩⟩
    rw [decide_eq_false (show ¬ V.int x.1 = V.int x.2.1 from fun q => o3 (by injection q))]
    refine iteF ?_
    obtain ⟨x1, x2, nz⟩ := x
    cases nz with
    | none => exact ⟨_, rfl, rfl, _, rfl, iteT (k _ (Same.refl H))⟩
    | some n =>
      have nb := o4 n rfl
      refine ⟨_, rfl, rfl, _, rfl, iteF ⟨_, rfl, n, rfl, Nat.le_trans (name_short nb) (by decide), fun H1 s1 => ?_⟩⟩
      rw [nb]
      exact k H1 s1
def spFloor (K : PySem.W.Frag) : Sp := fun vs H Q _ => ∃ (r : Int) (t : Addr) (x : Fl), vs = [.int r, .ref t] ∧ SqT K H t [.int x.1, .str x.2] ∧ FlOk r x ∧ ∀ H', Same H H' → Q (.bl true) H'
theorem c_is_floor (D : Df K mg "is_floor" s_is_floor) (T : Tx K mg) (c_is_tuple_of : C8.Cal P w K mg base 1 "is_tuple_of" (spTupOf K) []) (c_is_room : C8.Cal P w K mg base 2 "is_room" spRoom []) (c_is_name : C8.Cal P w K mg base 1 "is_name" spName []) :
    C8.Cal P w K mg base 3 "is_floor" (spFloor K) [] := by
  refine cal_mk D sc_is_floor bd_is_floor (fun vs H Q E h => ?_) fun f cdv A outer s H vs Q E hr h => ?_
  · obtain ⟨r, t, x, rfl, _⟩ := h
    rfl
  · obtain ⟨r, t, x, rfl, ht, ok, k⟩ := h
    refine ⟨_, (pss_one (ps_ret (pe_and (C8.pe_c c_is_tuple_of hr (by decide) rfl (pa_cons (pv 1) (pa_cons pe_int pa_nil))) (pe_and (C8.pe_c c_is_room hr (by decide) rfl (pa_cons (pv 0) (pa_cons (pe_ix ix_tup (pv 1) pe_int (fun _ _ => rfl)) pa_nil))) (pe_one (C8.pe_c c_is_name hr (by decide) rfl (pa_cons (pe_ix ix_tup (pv 1) pe_int (fun _ _ => rfl)) pa_nil))))))), ?_⟩
    obtain ⟨h1, h2⟩ := ok
    refine ⟨_, rfl, t, _, 2, rfl, ht, _, rfl, iteT ?_⟩
    refine ⟨_, rfl, _, rfl, t, _, 0, .int x.1, rfl, rfl, ht, rfl, r, x.1, rfl, h1, _, rfl, iteT ?_⟩
    refine ⟨_, rfl, t, _, 1, .str x.2, rfl, rfl, ht, rfl, x.2, rfl, Nat.le_trans (name_short h2) (by decide), fun H1 s1 => ?_⟩
    rw [h2]
    exact k H1 s1
def spDoors (K : PySem.W.Frag) : Sp := fun vs H Q _ => ∃ (r : Int) (a : Addr) (xs : List V) (ds : List Dr), vs = [.int r, .ref a] ∧ (SqL K H a xs ∨ SqT K H a xs) ∧ TDs K H xs (ds.map encD) ∧ (∀ x ∈ ds, DrOk r x) ∧ ds.length ≤ 1000 ∧ ∀ H', Same H H' → Q (.bl true) H'
theorem c_are_doors (D : Df K mg "are_doors" s_are_doors) (T : Tx K mg) (c_is_row : C8.Cal P w K mg base 1 "is_row" (spRow K) []) (c_is_door : C8.Cal P w K mg base 3 "is_door" (spDoor K) []) :
    C8.Cal P w K mg base 4 "are_doors" (spDoors K) [] := by
  refine cal_mk D sc_are_doors bd_are_doors (fun vs H Q E h => ?_) fun f cdv A outer s H vs Q E hr h => ?_
  · obtain ⟨r, a, xs, ds, rfl, _⟩ := h
    rfl
  · obtain ⟨r, a, xs, ds, rfl, hq, td, ok, few, k⟩ := h
    have line := sizeLine_eq
    have len : xs.length = ds.length := by rw [td.length, List.length_map]
    refine ⟨_, (pss_one (ps_ret (pe_and (C8.pe_c c_is_row hr (by decide) rfl (pa_cons (pv 1) pa_nil)) (pe_one (pe_callB (cr_all rfl) (by rfl) T.n_all (by decide +kernel) (pa_cons (pe_lc (own := [("door", 2)]) (by rfl) sc_are_doors.nd (pi_seq (pv 1)) (blkOk_by (N := N_are_doors) (sc := defScope s_are_doors) (by decide +kernel)) (fun _ _ _ _ _ => (pg_name (i := 2) sc_are_doors.nd rfl (Or.inl rfl))) (fun _ _ _ _ _ => pts_nil) (fun _ _ _ _ _ => (C8.pe_c c_is_door hr (by decide) rfl (pa_cons (pv 0) (pa_cons (pv 2) pa_nil))))) pa_nil)))))), ?_⟩
    refine ⟨_, rfl, a, xs, rfl, hq, fun H1 s1 => ⟨_, rfl, iteT ?_⟩⟩
    have hq1 : SqL K H1 a xs ∨ SqT K H1 a xs := hq.imp (Same.seq s1) (SqT.keep (Same.tk s1))
    refine ⟨_, rfl, a, xs, rfl, hq1, fun J G hG wk D nD => lc_it wk (fun i H' => Same H1 H' ∧ H' D = some (.lst (List.replicate i (.bl true)))) ⟨Same.new nD, upd_same⟩ (fun i H' _ p => hG _ p.1) ?_ ?_⟩
    · rintro i x H' H2 hi ⟨s2, hD⟩ ⟨rfl, hx⟩
      obtain ⟨p, hp, tdp⟩ := TDs.at_map (TDs.keep (Same.tk (s1.trans s2)) td) hx
      obtain ⟨t, rfl, ht⟩ := TD.door_inv tdp
      refine ⟨rfl, yes_ ⟨_, rfl, _, rfl, r, t, p, rfl, ht, ok p (List.mem_of_getElem? hp), fun H3 s3 => ?_⟩⟩
      refine ⟨_, s3 _ _ hD, by rw [List.length_replicate]; omega, Hb.Same.acc (s2.trans s3) nD, ?_⟩
      rw [upd_same, List.replicate_succ']
    · rintro H2 ⟨s2, hD⟩
      refine ⟨D, List.replicate xs.length true, rfl, SqL.of (by rw [hD, List.map_replicate]), ?_⟩
      rw [show (List.replicate xs.length true).all id = true by simp]
      exact k _ (s1.trans s2)
def spFloors (K : PySem.W.Frag) : Sp := fun vs H Q _ => ∃ (r : Int) (a : Addr) (xs : List V) (ds : List Fl), vs = [.int r, .ref a] ∧ (SqL K H a xs ∨ SqT K H a xs) ∧ TDs K H xs (ds.map encF) ∧ (∀ x ∈ ds, FlOk r x) ∧ (ds.map Prod.fst).Nodup ∧ ds.length ≤ 1000 ∧ ∀ H', Same H H' → Q (.bl true) H'
theorem c_are_floors (D : Df K mg "are_floors" s_are_floors) (T : Tx K mg) (c_is_row : C8.Cal P w K mg base 1 "is_row" (spRow K) []) (c_is_floor : C8.Cal P w K mg base 3 "is_floor" (spFloor K) [])
    (c_are_unlike : C8.Cal P w K mg base 1 "are_unlike" (spUnlike K) []) : C8.Cal P w K mg base 4 "are_floors" (spFloors K) [] := by
  refine cal_mk D sc_are_floors bd_are_floors (fun vs H Q E h => ?_) fun f cdv A outer s H vs Q E hr h => ?_
  · obtain ⟨r, a, xs, ds, rfl, _⟩ := h
    rfl
  · obtain ⟨r, a, xs, ds, rfl, hq, td, ok, nd, few, k⟩ := h
    have line := sizeLine_eq
    have len : xs.length = ds.length := by rw [td.length, List.length_map]
    refine ⟨_, (pss_cons (ps_if (PW.pt (pw_or (pt_not (pt_val (C8.pe_c c_is_row hr (by decide) rfl (pa_cons (pv 1) pa_nil)))) (pw_or1 (pt_not (pt_val (pe_callB (cr_all rfl) (by rfl) T.n_all (by decide +kernel) (pa_cons (pe_lc (own := [("floor", 2)]) (by rfl) sc_are_floors.nd (pi_seq (pv 1)) (blkOk_by (N := N_are_floors) (sc := defScope s_are_floors) (by decide +kernel)) (fun _ _ _ _ _ => (pg_name (i := 2) sc_are_floors.nd rfl (Or.inl rfl))) (fun _ _ _ _ _ => pts_nil) (fun _ _ _ _ _ => (C8.pe_c c_is_floor hr (by decide) rfl (pa_cons (pv 0) (pa_cons (pv 2) pa_nil))))) pa_nil)))))))
 (pss_one (ps_ret pe_bl))
 pss_nil)
 (pss_one (ps_ret (C8.pe_c c_are_unlike hr (by decide) rfl (pa_cons (pe_lc (own := [("floor", 2)]) (by rfl) sc_are_floors.nd (pi_seq (pv 1)) (blkOk_by (N := N_are_floors) (sc := defScope s_are_floors) (by decide +kernel)) (fun _ _ _ _ _ => (pg_name (i := 2) sc_are_floors.nd rfl (Or.inl rfl))) (fun _ _ _ _ _ => pts_nil) (fun _ _ _ _ _ => (pe_ix (show IxR _ (rIxT K) from ix_tup) (pv 2) pe_int (fun _ _ => rfl)))) pa_nil))))), ?_⟩
    refine ⟨_, rfl, a, xs, rfl, hq, fun H1 s1 => ⟨_, rfl, iteF ?_⟩⟩
    have hq1 : SqL K H1 a xs ∨ SqT K H1 a xs := hq.imp (Same.seq s1) (SqT.keep (Same.tk s1))
    refine ⟨_, rfl, a, xs, rfl, hq1, fun J G hG wk D nD => lc_it wk (fun i H' => Same H1 H' ∧ H' D = some (.lst (List.replicate i (.bl true)))) ⟨Same.new nD, upd_same⟩ (fun i H' _ p => hG _ p.1) ?_ ?_⟩
    · rintro i x H' H2 hi ⟨s2, hD⟩ ⟨rfl, hx⟩
      obtain ⟨p, hp, tdp⟩ := TDs.at_map (TDs.keep (Same.tk (s1.trans s2)) td) hx
      obtain ⟨t, rfl, ht⟩ := TD.floor_inv tdp
      refine ⟨rfl, yes_ ⟨_, rfl, _, rfl, r, t, p, rfl, ht, ok p (List.mem_of_getElem? hp), fun H3 s3 => ?_⟩⟩
      refine ⟨_, s3 _ _ hD, by rw [List.length_replicate]; omega, Hb.Same.acc (s2.trans s3) nD, ?_⟩
      rw [upd_same, List.replicate_succ']
    · rintro H2 ⟨s2, hD⟩
      refine ⟨D, List.replicate xs.length true, rfl, SqL.of (by rw [hD, List.map_replicate]), ?_⟩
      rw [show (List.replicate xs.length true).all id = true by simp]
      refine ⟨_, rfl, iteF ?_⟩
      have hq2 : SqL K H2 a xs ∨ SqT K H2 a xs := hq1.imp (Same.seq s2) (SqT.keep (Same.tk s2))
      have s12 := s1.trans s2
      refine ⟨_, rfl, a, xs, rfl, hq2, fun J G hG wk D2 nD2 => lc_it wk (fun i H' => H' = upd H2 D2 (.lst (((ds.take i).map Prod.fst).map V.int))) (by simp) (fun i H' _ p => by rw [p]; exact hG _ (Same.new nD2)) ?_ ?_⟩
      · rintro i x H' H3 hi rfl ⟨e, hx⟩
        subst e
        have s3 : Same H2 (upd H2 D2 (.lst (((ds.take i).map Prod.fst).map V.int))) := Same.new nD2
        obtain ⟨p, hp, tdp⟩ := TDs.at_map (TDs.keep (Same.tk (s12.trans s3)) td) hx
        obtain ⟨t, rfl, ht⟩ := TD.floor_inv tdp
        refine ⟨rfl, yes_ ⟨_, rfl, t, _, 0, .int p.1, rfl, rfl, ht, rfl, _, upd_same, ?_, ?_⟩⟩
        · rw [List.length_map, List.length_map, List.length_take]
          omega
        · rw [upd_upd]
          show upd H2 D2 _ = upd H2 D2 _
          rw [List.take_add_one, hp]
          simp
      · rintro H3 rfl
        rw [len, List.take_length]
        exact ⟨D2, rfl, .inr ⟨ds.map Prod.fst, .inl (SqL.of upd_same), nd, by rw [List.length_map]; omega⟩, k _ (s12.trans (Same.new nD2))⟩
def spCradles (K : PySem.W.Frag) : Sp := fun vs H Q _ => ∃ (r : Int) (a : Addr) (ns : List Int), vs = [.int r, .ref a] ∧ (SqL K H a (ns.map V.int) ∨ SqT K H a (ns.map V.int)) ∧ (∀ x ∈ ns, inR r x) ∧ ns.Nodup ∧ ns.length ≤ 1000 ∧ ∀ H', Same H H' → Q (.bl true) H'
theorem c_are_cradles (D : Df K mg "are_cradles" s_are_cradles) (T : Tx K mg) (c_is_row : C8.Cal P w K mg base 1 "is_row" (spRow K) []) (c_is_room : C8.Cal P w K mg base 2 "is_room" spRoom [])
    (c_are_unlike : C8.Cal P w K mg base 1 "are_unlike" (spUnlike K) []) : C8.Cal P w K mg base 3 "are_cradles" (spCradles K) [] := by
  refine cal_mk D sc_are_cradles bd_are_cradles (fun vs H Q E h => ?_) fun f cdv A outer s H vs Q E hr h => ?_
  · obtain ⟨r, a, ns, rfl, _⟩ := h
    rfl
  · obtain ⟨r, a, ns, rfl, hq, ok, nd, few, k⟩ := h
    have line := sizeLine_eq
    refine ⟨_, (pss_one (ps_ret (pe_and (C8.pe_c c_is_row hr (by decide) rfl (pa_cons (pv 1) pa_nil)) (pe_and (pe_callB (cr_all rfl) (by rfl) T.n_all (by decide +kernel) (pa_cons (pe_lc (own := [("room", 2)]) (by rfl) sc_are_cradles.nd (pi_seq (pv 1)) (blkOk_by (N := N_are_cradles) (sc := defScope s_are_cradles) (by decide +kernel)) (fun _ _ _ _ _ => (pg_name (i := 2) sc_are_cradles.nd rfl (Or.inl rfl))) (fun _ _ _ _ _ => pts_nil) (fun _ _ _ _ _ => (C8.pe_c c_is_room hr (by decide) rfl (pa_cons (pv 0) (pa_cons (pv 2) pa_nil))))) pa_nil)) (pe_one (C8.pe_c c_are_unlike hr (by decide) rfl (pa_cons (pv 1) pa_nil))))))), ?_⟩
    refine ⟨_, rfl, a, _, rfl, hq, fun H1 s1 => ⟨_, rfl, iteT ?_⟩⟩
    have hq1 : SqL K H1 a (ns.map V.int) ∨ SqT K H1 a (ns.map V.int) := hq.imp (Same.seq s1) (SqT.keep (Same.tk s1))
    refine ⟨_, rfl, a, _, rfl, hq1, fun J G hG wk D nD => lc_it wk (fun i H' => Same H1 H' ∧ H' D = some (.lst (List.replicate i (.bl true)))) ⟨Same.new nD, upd_same⟩ (fun i H' _ p => hG _ p.1) ?_ ?_⟩
    · rintro i x H' H2 hi ⟨s2, hD⟩ ⟨rfl, hx⟩
      obtain ⟨n, hn, rfl⟩ := List.mem_map.mp (List.mem_of_getElem? hx)
      refine ⟨rfl, yes_ ⟨_, rfl, _, rfl, r, n, rfl, ok n hn, _, hD, by rw [List.length_replicate]; rw [List.length_map] at hi; omega, Hb.Same.acc s2 nD, ?_⟩⟩
      rw [upd_same, List.replicate_succ']
    · rintro H2 ⟨s2, hD⟩
      refine ⟨D, List.replicate (ns.map V.int).length true, rfl, SqL.of (by rw [hD, List.map_replicate]), ?_⟩
      rw [show (List.replicate (ns.map V.int).length true).all id = true by simp]
      have hq2 : SqL K H2 a (ns.map V.int) ∨ SqT K H2 a (ns.map V.int) := hq1.imp (Same.seq s2) (SqT.keep (Same.tk s2))
      refine ⟨_, rfl, iteT ⟨_, rfl, a, rfl, .inr ⟨ns, hq2, nd, by omega⟩, k _ (s1.trans s2)⟩⟩
end
end Lw
set_option Elab.async false
set_option linter.all false
set_option maxRecDepth 100000
set_option maxHeartbeats 4000000
namespace Lw
open PySem PySem.Spec PyProof.Rows L2 Hb
theorem alike_I (p q : Int) : PySem.W.alike (PyData.int p) (PyData.int q) = true := by simp [PySem.W.alike]
theorem depth_I (p : Int) : (PyData.int p).depth ≤ 60 := by simp [PyData.depth]
def spHInit (K : PySem.W.Frag) (C : Addr) : Sp := fun vs H Q _ => ∃ (x dx a b c : Addr) (xs ys : List V) (h : Hz), vs = [.ref x, .int h.rooms, .ref a, .ref b, .ref c] ∧ H x = some (.ins C dx []) ∧
  (SqL K H a xs ∨ SqT K H a xs) ∧ TDs K H xs (h.doors.map encD) ∧ (SqL K H b ys ∨ SqT K H b ys) ∧ TDs K H ys (h.floors.map encF) ∧ (SqL K H c (h.cradles.map V.int) ∨ SqT K H c (h.cradles.map V.int)) ∧
  Hin h ∧ ∀ H', (∀ b o, b ≠ x → H b = some o → H' b = some o) → HAt K C H' x h → Q .non H'
section
variable {P : Program} {w : World} {K : PySem.W.Frag} {mg : Str → Option Value} {base : Heap}
theorem m_House_mk (D : Df1d K mg "House" "House.__init__" s_House_init 1) (T : Tx K mg) (c_is_positive : C8.Cal P w K mg base 2 "is_positive" spPos []) (c_are_doors : C8.Cal P w K mg base 4 "are_doors" (spDoors K) [])
    (c_are_floors : C8.Cal P w K mg base 4 "are_floors" (spFloors K) []) (c_are_cradles : C8.Cal P w K mg base 3 "are_cradles" (spCradles K) []) :
    C8.Mak P w K mg base 5 "House" (He.ga K "House") (spHInit K (He.ga K "House")) [] := by
  refine mak_mkD D sc_House_init bk_House_init (fun vs H Q E h => ?_) fun f cdv A outer s H vs Q E hr h => ?_
  · obtain ⟨x, dx, a, b, c, xs, ys, h, rfl, _⟩ := h
    rfl
  · obtain ⟨x, dx, a, b, c, xs, ys, h, rfl, hx, hd, tdd, hf, tdf, hc, hi, k⟩ := h
    refine ⟨_, (pss_cons (ps_if (pt_not (pt_val (C8.pe_c c_is_positive hr (by decide) rfl (pa_cons (pv 1) pa_nil))))
 (pss_one ps_never)
 pss_nil)
 (pss_cons (ps_if (pt_not (pt_val (C8.pe_c c_are_doors hr (by decide) rfl (pa_cons (pv 1) (pa_cons (pv 2) pa_nil)))))
 (pss_one ps_never)
 pss_nil)
 (pss_cons (ps_if (pt_not (pt_val (C8.pe_c c_are_floors hr (by decide) rfl (pa_cons (pv 1) (pa_cons (pv 3) pa_nil)))))
 (pss_one ps_never)
 pss_nil)
 (pss_cons (ps_if (pt_not (pt_val (C8.pe_c c_are_cradles hr (by decide) rfl (pa_cons (pv 1) (pa_cons (pv 4) pa_nil)))))
 (pss_one ps_never)
 pss_nil)
 (pss_cons (ps_fld (pv 0) (pv 1) rfl)
 (pss_cons (ps_fld (pv 0) (pe_callTy call_tuple_of (by rfl) T.n_tuple (by decide +kernel) (pa_cons (pv 2) pa_nil)) rfl)
 (pss_cons (ps_fld (pv 0) (pe_callTy call_tuple_of (by rfl) T.n_tuple (by decide +kernel) (pa_cons (pe_callB (cr_sortedAny encF hr.units) (by rfl) T.n_sorted (by decide +kernel) (pa_cons (pv 3) pa_nil)) pa_nil)) rfl)
 (pss_one (ps_fld (pv 0) (pe_callTy call_tuple_of (by rfl) T.n_tuple (by decide +kernel) (pa_cons (pe_callB (cr_sortedAny PyData.int hr.units) (by rfl) T.n_sorted (by decide +kernel) (pa_cons (pv 4) pa_nil)) pa_nil)) rfl))))))))), ?_⟩
    refine ⟨_, rfl, h.rooms, rfl, _, rfl, ?_⟩
    rw [decide_eq_true hi.r1]
    refine iteF ⟨_, rfl, _, rfl, h.rooms, a, xs, h.doors, rfl, hd, tdd, hi.d, hi.fewd, fun H1 s1 => ⟨_, rfl, iteF ?_⟩⟩
    have hf1 : SqL K H1 b ys ∨ SqT K H1 b ys := hf.imp (Same.seq s1) (SqT.keep (Same.tk s1))
    refine ⟨_, rfl, _, rfl, h.rooms, b, ys, h.floors, rfl, hf1, TDs.keep (Same.tk s1) tdf, hi.f, hi.fnd, hi.fewf, fun H2 s2 => ⟨_, rfl, iteF ?_⟩⟩
    have s12 := s1.trans s2
    have hc2 : SqL K H2 c (h.cradles.map V.int) ∨ SqT K H2 c (h.cradles.map V.int) := hc.imp (Same.seq s12) (SqT.keep (Same.tk s12))
    refine ⟨_, rfl, _, rfl, h.rooms, c, h.cradles, rfl, hc2, hi.c, hi.cnd, hi.fewc, fun H3 s3 => ⟨_, rfl, iteF ?_⟩⟩
    have s13 := s12.trans s3
    refine ⟨_, rfl, _, rfl, x, _, dx, [], rfl, s13 _ _ hx, T.cls_House, T.a_rooms, by decide, ?_⟩
    have kx4 : KX x H (upd H3 x (.ins (He.ga K "House") dx (putF "rooms" (.int h.rooms) []))) := (Hb.Same.kx s13).trans KX.put
    have hx4 : upd H3 x (.ins (He.ga K "House") dx (putF "rooms" (.int h.rooms) [])) x = some (.ins (He.ga K "House") dx [("rooms", .int h.rooms)]) := upd_same
    generalize upd H3 x (.ins (He.ga K "House") dx (putF "rooms" (.int h.rooms) [])) = H4 at kx4 hx4 ⊢
    dsimp only
    refine cut_seq (fun σ H' => σ = L2.start N_House_init [.ref x, .int h.rooms, .ref a, .ref b, .ref c] ∧ ∃ t, KX x H H' ∧ H' x = some (.ins (He.ga K "House") dx [("rooms", .int h.rooms), ("doors", .ref t)]) ∧ SqT K H' t xs) ?_ fun rest => ?_
    · rintro σ H5 ⟨rfl, t, kx5, hx5, ht⟩
      have tk5 := kx5.tk hx
      have hf5 : SqL K H5 b ys ∨ SqT K H5 b ys := hf.imp (fun q => kx5.seq hx q) (SqT.keep tk5)
      have tdf5 := TDs.keep tk5 tdf
      have len : ys.length = h.floors.length := by rw [tdf.length, List.length_map]
      have ztd := zip_tdE tdf5
      refine ⟨_, rfl, b, ys.zip h.floors, rfl, by rw [zip_fst len]; exact hf5, fun y hy => TD.dp (ztd y hy), PySem.W.AllAlike.of (fun b b' => alike_F b.2 b'.2), PySem.W.Sortable.tuples (fun b => ⟨_, _, rfl⟩), fun y _ => depth_F y.2, fun p np => ?_⟩
      generalize hzs : (ys.zip h.floors).mergeSort (PySem.W.dataLe false fun y => encF y.2) = zs
      have pz : zs.Perm (ys.zip h.floors) := by rw [← hzs]; exact List.mergeSort_perm _ _
      have snd : zs.map (·.2) = sortF h.floors := by rw [← hzs, sort_zipE, zip_snd len]; rfl
      have tds : TDs K H5 (zs.map (·.1)) ((sortF h.floors).map encF) := by
        rw [← snd]
        exact tdE_zip fun y hy => ztd y (pz.mem_iff.mp hy)
      have s6 : Same H5 (upd H5 p (.lst (zs.map (·.1)))) := Same.new np
      refine ⟨p, _, rfl, .inl ⟨SqL.of upd_same, fun t2 nt2 => ?_⟩⟩
      have s7 := s6.trans (Same.new nt2 (o := .tup (zs.map (·.1))))
      have ht7 : upd (upd H5 p (.lst (zs.map (·.1)))) t2 (.tup (zs.map (·.1))) t2 = some (.tup (zs.map (·.1))) := upd_same
      generalize upd (upd H5 p (.lst (zs.map (·.1)))) t2 (.tup (zs.map (·.1))) = H7 at s7 ht7 ⊢
      have hx7 := s7 _ _ hx5
      refine ⟨_, rfl, x, _, dx, _, rfl, hx7, T.cls_House, T.a_floors, by show 2 < 1000; decide, ?_⟩
      have hx8 : upd H7 x (.ins (He.ga K "House") dx (putF "floors" (.ref t2) [("rooms", .int h.rooms), ("doors", .ref t)])) x = some (.ins (He.ga K "House") dx [("rooms", .int h.rooms), ("doors", .ref t), ("floors", .ref t2)]) := upd_same
      have kx58 : KX x H5 (upd H7 x (.ins (He.ga K "House") dx (putF "floors" (.ref t2) [("rooms", .int h.rooms), ("doors", .ref t)]))) := (Hb.Same.kx s7).trans KX.put
      have ht8 : SqT K (upd H7 x (.ins (He.ga K "House") dx (putF "floors" (.ref t2) [("rooms", .int h.rooms), ("doors", .ref t)]))) t2 (zs.map (·.1)) := SqT.keep (KX.tk KX.put hx7) (SqT.of ht7)
      have td8 : TDs K (upd H7 x (.ins (He.ga K "House") dx (putF "floors" (.ref t2) [("rooms", .int h.rooms), ("doors", .ref t)]))) (zs.map (·.1)) ((sortF h.floors).map encF) := TDs.keep (kx58.tk hx5) tds
      generalize upd H7 x (.ins (He.ga K "House") dx (putF "floors" (.ref t2) [("rooms", .int h.rooms), ("doors", .ref t)])) = H8 at hx8 kx58 ht8 td8 ⊢
      have kx8 := kx5.trans kx58
      have tk8 := kx8.tk hx
      have hc8 : SqL K H8 c (h.cradles.map V.int) ∨ SqT K H8 c (h.cradles.map V.int) := hc.imp (fun q => kx8.seq hx q) (SqT.keep tk8)
      have tdc : TDs K H8 (h.cradles.map V.int) (h.cradles.map PyData.int) := tds_ints _
      have zc := zip_tdE tdc
      have lenc : (h.cradles.map V.int).length = h.cradles.length := List.length_map _
      refine ⟨_, rfl, c, (h.cradles.map V.int).zip h.cradles, rfl, by rw [zip_fst lenc]; exact hc8, fun y hy => TD.dp (zc y hy), PySem.W.AllAlike.of (fun b b' => alike_I b.2 b'.2), PySem.W.Sortable.others (fun b => ⟨(by intro e; cases e), (by intro xs e; cases e)⟩), fun y _ => depth_I y.2, fun p2 np2 => ?_⟩
      generalize hzc : ((h.cradles.map V.int).zip h.cradles).mergeSort (PySem.W.dataLe false fun y => PyData.int y.2) = cs
      have pc : cs.Perm ((h.cradles.map V.int).zip h.cradles) := by rw [← hzc]; exact List.mergeSort_perm _ _
      have sndc : cs.map (·.2) = sortI h.cradles := by rw [← hzc, sort_zipE, zip_snd lenc]; rfl
      have tdcs : TDs K H8 (cs.map (·.1)) ((sortI h.cradles).map PyData.int) := by
        rw [← sndc]
        exact tdE_zip fun y hy => zc y (pc.mem_iff.mp hy)
      have ec := TDs.ints_inv tdcs
      rw [ec]
      have s9 : Same H8 (upd H8 p2 (.lst ((sortI h.cradles).map V.int))) := Same.new np2
      refine ⟨p2, _, rfl, .inl ⟨SqL.of upd_same, fun t3 nt3 => ?_⟩⟩
      have s10 := s9.trans (Same.new nt3 (o := .tup ((sortI h.cradles).map V.int)))
      have ht10 : upd (upd H8 p2 (.lst ((sortI h.cradles).map V.int))) t3 (.tup ((sortI h.cradles).map V.int)) t3 = some (.tup ((sortI h.cradles).map V.int)) := upd_same
      generalize upd (upd H8 p2 (.lst ((sortI h.cradles).map V.int))) t3 (.tup ((sortI h.cradles).map V.int)) = H9 at s10 ht10 ⊢
      have hx10 := s10 _ _ hx8
      refine ⟨_, rfl, x, _, dx, _, rfl, hx10, T.cls_House, T.a_cradles, by show 3 < 1000; decide, ?_⟩
      have kx9 : KX x H8 (upd H9 x (.ins (He.ga K "House") dx (putF "cradles" (.ref t3) [("rooms", .int h.rooms), ("doors", .ref t), ("floors", .ref t2)]))) := (Hb.Same.kx s10).trans KX.put
      have tk9 := kx9.tk hx8
      refine k _ (kx8.trans kx9) ⟨dx, t, t2, t3, xs, zs.map (·.1), upd_same, ?_, TDs.keep ((kx8.trans kx9).tk hx) tdd, SqT.keep tk9 ht8, TDs.keep tk9 td8, SqT.keep (KX.tk KX.put hx10) (SqT.of ht10)⟩
      exact SqT.keep tk9 (SqT.keep (kx58.tk hx5) ht)
    · have hx' := hx4
      rcases hd with hd | hd
      · refine ⟨_, rfl, a, xs, rfl, .inl ⟨kx4.seq hx hd, fun t nt => ?_⟩⟩
        have s5 : Same H4 (upd H4 t (.tup xs)) := Same.new nt
        have hx5 := s5 _ _ hx4
        refine ⟨_, rfl, x, _, dx, _, rfl, hx5, T.cls_House, T.a_doors, by show 1 < 1000; decide, rest _ _ ⟨rfl, t, (kx4.trans (Hb.Same.kx s5)).trans KX.put, upd_same, SqT.keep (KX.tk KX.put hx5) (SqT.of upd_same)⟩⟩
      · refine ⟨_, rfl, a, xs, rfl, .inr ⟨SqT.keep (kx4.tk hx) hd, ?_⟩⟩
        exact ⟨_, rfl, x, _, dx, _, rfl, hx4, T.cls_House, T.a_doors, by show 1 < 1000; decide, rest _ _ ⟨rfl, a, kx4.trans KX.put, upd_same, SqT.keep (KX.tk KX.put hx4) (SqT.keep (kx4.tk hx) hd)⟩⟩
end
end Lw
set_option Elab.async false
set_option linter.all false
set_option maxRecDepth 100000
set_option maxHeartbeats 4000000
namespace Lw
open PySem PySem.Spec PyProof.Rows L2 Hb
section
variable {P : Program} {w : World} {K : PySem.W.Frag} {mg : Str → Option Value} {base : Heap}
def spSortedName (K : PySem.W.Frag) : Sp := fun vs H Q _ => ∃ (a : Addr) (x y : Str), vs = [.ref a] ∧ SqT K H a [.str x, .str y] ∧ x.length ≤ 1000 ∧ ∀ H', Same H H' → Q (.bl (nameB x && decide (y ∈ fourS))) H'
theorem c_is_sorted_name (D : Df K mg "is_sorted_name" s_is_sorted_name) (T : Tx K mg) (c_is_tuple_of : C8.Cal P w K mg base 1 "is_tuple_of" (spTupOf K) []) (c_is_name : C8.Cal P w K mg base 1 "is_name" spName []) :
    C8.Cal P w K mg base 2 "is_sorted_name" (spSortedName K) [] := by
  refine cal_mk D sc_is_sorted_name bd_is_sorted_name (fun vs H Q E h => ?_) fun f cdv A outer s H vs Q E hr h => ?_
  · obtain ⟨a, x, y, rfl, _⟩ := h
    rfl
  · obtain ⟨a, x, y, rfl, hq, few, k⟩ := h
    refine ⟨_, (pss_one (ps_ret (pe_and (C8.pe_c c_is_tuple_of hr (by decide) rfl (pa_cons (pv 0) (pa_cons pe_int pa_nil))) (pe_and (C8.pe_c c_is_name hr (by decide) rfl (pa_cons (pe_ix ix_tup (pv 0) pe_int (fun _ _ => rfl)) pa_nil)) (pe_one (pe_cmpR op_in_seq (pe_ix ix_tup (pv 0) pe_int (fun _ _ => rfl)) (pe_glob (v := .ref _) rfl T.g_SORTS rfl) (by first | exact nomark _ | rfl))))))), ?_⟩
    refine ⟨_, rfl, a, _, 2, rfl, hq, _, rfl, iteT ?_⟩
    refine ⟨_, rfl, a, _, 0, .str x, rfl, rfl, hq, rfl, x, rfl, few, fun H1 s1 => ⟨_, rfl, ?_⟩⟩
    cases e : nameB x with
    | false =>
      have k2 := k H1 s1
      rw [e] at k2
      exact iteF k2
    | true =>
      have k2 := k H1 s1
      rw [e] at k2
      refine iteT ⟨_, rfl, a, _, 1, .str y, rfl, rfl, SqT.keep (Same.tk s1) hq, rfl, _, _, rfl, .inr (T.t_SORTS _), rfl, rfl, ?_⟩
      rw [if_neg Bool.false_ne_true]
      have q := inV_strs y fourS
      show Q (V.bl (inV (V.str y) (fourS.map V.str))) H1
      rw [q]
      exact k2
def spSorts (K : PySem.W.Frag) : Sp := fun vs H Q _ => ∃ (a : Addr) (xs : List V) (prs : List (Str × Str)), vs = [.ref a] ∧ (SqL K H a xs ∨ SqT K H a xs) ∧ TDs K H xs (prs.map encP) ∧
  (∀ p ∈ prs, nameB p.1 = true ∧ p.2 ∈ fourS) ∧ (prs.map Prod.fst).Nodup ∧ prs.length ≤ 100 ∧ ∀ H', Same H H' → Q (.bl true) H'
theorem pair_at {K : PySem.W.Frag} {H : Hp} {xs : List V} {prs : List (Str × Str)} {i : Nat} {x : V} (td : TDs K H xs (prs.map encP)) (h : xs[i]? = some x) : ∃ t p, x = .ref t ∧ prs[i]? = some p ∧ SqT K H t [.str p.1, .str p.2] := by
  obtain ⟨d, h1, h2⟩ := TDs.at td h
  rw [List.getElem?_map] at h1
  obtain ⟨p, h3, h4⟩ := Option.map_eq_some_iff.mp h1
  subst h4
  obtain ⟨t, ys, e, h5, h6⟩ := TD.tup_inv h2
  obtain rfl := TDs.strs_inv (xs := [p.1, p.2]) h6
  exact ⟨t, p, e, h3, h5⟩
theorem c_are_sorts (D : Df K mg "are_sorts" s_are_sorts) (T : Tx K mg) (c_is_row : C8.Cal P w K mg base 1 "is_row" (spRow K) []) (c_is_sorted_name : C8.Cal P w K mg base 2 "is_sorted_name" (spSortedName K) [])
    (c_are_unlike : C8.Cal P w K mg base 1 "are_unlike" (spUnlike K) []) : C8.Cal P w K mg base 3 "are_sorts" (spSorts K) [] := by
  refine cal_mk D sc_are_sorts bd_are_sorts (fun vs H Q E h => ?_) fun f cdv A outer s H vs Q E hr h => ?_
  · obtain ⟨a, xs, prs, rfl, _⟩ := h
    rfl
  · obtain ⟨a, xs, prs, rfl, hq, td, ok, nd, few, k⟩ := h
    have line := sizeLine_eq
    have len : xs.length = prs.length := by rw [td.length, List.length_map]
    refine ⟨_, (pss_cons (ps_if (PW.pt (pw_or (pt_not (pt_val (C8.pe_c c_is_row hr (by decide) rfl (pa_cons (pv 0) pa_nil)))) (pw_or1 (pt_not (pt_val (pe_callB (cr_all rfl) (by rfl) T.n_all (by decide +kernel) (pa_cons (pe_lc (own := [("pair", 1)]) (by rfl) sc_are_sorts.nd (pi_seq (pv 0)) (blkOk_by (N := N_are_sorts) (sc := defScope s_are_sorts) (by decide +kernel)) (fun _ _ _ _ _ => (pg_name (i := 1) sc_are_sorts.nd rfl (Or.inl rfl))) (fun _ _ _ _ _ => pts_nil) (fun _ _ _ _ _ => (C8.pe_c c_is_sorted_name hr (by decide) rfl (pa_cons (pv 1) pa_nil)))) pa_nil)))))))
 (pss_one (ps_ret pe_bl))
 pss_nil)
 (pss_one (ps_ret (C8.pe_c c_are_unlike hr (by decide) rfl (pa_cons (pe_lc (own := [("pair", 1)]) (by rfl) sc_are_sorts.nd (pi_seq (pv 0)) (blkOk_by (N := N_are_sorts) (sc := defScope s_are_sorts) (by decide +kernel)) (fun _ _ _ _ _ => (pg_name (i := 1) sc_are_sorts.nd rfl (Or.inl rfl))) (fun _ _ _ _ _ => pts_nil) (fun _ _ _ _ _ => (pe_ix (show IxR _ (rIxT K) from ix_tup) (pv 1) pe_int (fun _ _ => rfl)))) pa_nil))))), ?_⟩
    refine ⟨_, rfl, a, xs, rfl, hq, fun H1 s1 => ⟨_, rfl, iteF ?_⟩⟩
    have hq1 : SqL K H1 a xs ∨ SqT K H1 a xs := hq.imp (Same.seq s1) (SqT.keep (Same.tk s1))
    refine ⟨_, rfl, a, xs, rfl, hq1, fun J G hG wk D nD => lc_it wk (fun i H' => Same H1 H' ∧ H' D = some (.lst (List.replicate i (.bl true)))) ⟨Same.new nD, upd_same⟩ (fun i H' _ p => hG _ p.1) ?_ ?_⟩
    · rintro i x H' H2 hi ⟨s2, hD⟩ ⟨rfl, hx⟩
      obtain ⟨t, p, rfl, hp, ht⟩ := pair_at (TDs.keep (Same.tk (s1.trans s2)) td) hx
      have okp := ok p (List.mem_of_getElem? hp)
      refine ⟨rfl, yes_ ⟨_, rfl, t, p.1, p.2, rfl, ht, Nat.le_trans (name_short okp.1) (by decide), fun H3 s3 => ?_⟩⟩
      rw [okp.1, decide_eq_true okp.2]
      refine ⟨_, s3 _ _ hD, by rw [List.length_replicate]; omega, Hb.Same.acc (s2.trans s3) nD, ?_⟩
      rw [upd_same, List.replicate_succ']
      rfl
    · rintro H2 ⟨s2, hD⟩
      refine ⟨D, List.replicate xs.length true, rfl, SqL.of (by rw [hD, List.map_replicate]), _, rfl, ?_⟩
      rw [show (List.replicate xs.length true).all id = true by simp]
      refine iteF ?_
      have hq2 : SqL K H2 a xs ∨ SqT K H2 a xs := hq1.imp (Same.seq s2) (SqT.keep (Same.tk s2))
      have s12 := s1.trans s2
      refine ⟨_, rfl, a, xs, rfl, hq2, fun J G hG wk D2 nD2 => lc_it wk (fun i H' => H' = upd H2 D2 (.lst (((prs.take i).map Prod.fst).map V.str))) (by simp) (fun i H' _ p => by rw [p]; exact hG _ (Same.new nD2)) ?_ ?_⟩
      · rintro i x H' H3 hi rfl ⟨e, hx⟩
        subst e
        have s3 : Same H2 (upd H2 D2 (.lst (((prs.take i).map Prod.fst).map V.str))) := Same.new nD2
        obtain ⟨t, p, rfl, hp, ht⟩ := pair_at (TDs.keep (Same.tk (s12.trans s3)) td) hx
        refine ⟨rfl, yes_ ⟨_, rfl, t, _, 0, .str p.1, rfl, rfl, ht, rfl, _, upd_same, ?_, ?_⟩⟩
        · rw [List.length_map, List.length_map, List.length_take]
          omega
        · rw [upd_upd]
          show upd H2 D2 _ = upd H2 D2 _
          rw [List.take_add_one, hp]
          simp
      · rintro H3 rfl
        rw [len, List.take_length]
        exact ⟨D2, rfl, .inl ⟨prs.map Prod.fst, SqL.of upd_same, nd, by rw [List.length_map]; omega⟩, k _ (s12.trans (Same.new nD2))⟩
end
end Lw
set_option Elab.async false
set_option linter.all false
set_option maxRecDepth 100000
set_option maxHeartbeats 4000000
namespace Lw
open PySem PySem.Spec PyProof.Rows L2 Hb
theorem notin_no {A B : Prop} {y : V} {xs : List V} (h : inV y xs = true) (k : B) : if (if true = true then !inV y xs else inV y xs) = true then A else B := by
  rw [h]
  simpa using k
/-- what may be handed to Sleeper -/
structure Zin (z : Zz) : Prop where
  nd : (z.sorts.map Prod.fst).Nodup
  ok : ∀ p ∈ z.sorts, nameB p.1 = true ∧ p.2 ∈ fourS
  few : z.sorts.length ≤ 100
  s1 : 1 ≤ z.stir
  d1 : 1 ≤ z.doze
  n1 : 1 ≤ z.near
  lo : z.loud ∈ threeS
def spInit (K : PySem.W.Frag) (C : Addr) : Sp := fun vs H Q _ => ∃ (x dx a : Addr) (xs : List V) (z : Zz), vs = [.ref x, .ref a, .int z.stir, .int z.doze, .int z.near, .str z.loud] ∧ H x = some (.ins C dx []) ∧
  (SqL K H a xs ∨ SqT K H a xs) ∧ TDs K H xs (z.sorts.map encP) ∧ Zin z ∧ ∀ H', (∀ b o, b ≠ x → H b = some o → H' b = some o) → SlpAt K C H' x z → Q .non H'
section
variable {P : Program} {w : World} {K : PySem.W.Frag} {mg : Str → Option Value} {base : Heap}
theorem m_Sleeper_mk (D : Df1 K mg "Sleeper" "Sleeper.__init__" s_Sleeper_init) (T : Tx K mg) (c_are_sorts : C8.Cal P w K mg base 3 "are_sorts" (spSorts K) []) (c_is_positive : C8.Cal P w K mg base 2 "is_positive" spPos []) :
    C8.Mak P w K mg base 4 "Sleeper" (He.ga K "Sleeper") (spInit K (He.ga K "Sleeper")) [] := by
  refine mak_mk D sc_Sleeper_init bd_Sleeper_init (fun vs H Q E h => ?_) fun f cdv A outer s H vs Q E hr h => ?_
  · obtain ⟨x, dx, a, xs, z, rfl, _⟩ := h
    rfl
  · obtain ⟨x, dx, a, xs, z, rfl, hx, hq, td, zi, k⟩ := h
    refine ⟨_, (pss_cons (ps_if (pt_not (pt_val (C8.pe_c c_are_sorts hr (by decide) rfl (pa_cons (pv 1) pa_nil))))
 (pss_one ps_never)
 pss_nil)
 (pss_cons (ps_if (pt_not (pt_val (C8.pe_c c_is_positive hr (by decide) rfl (pa_cons (pv 2) pa_nil))))
 (pss_one ps_never)
 pss_nil)
 (pss_cons (ps_if (pt_not (pt_val (C8.pe_c c_is_positive hr (by decide) rfl (pa_cons (pv 3) pa_nil))))
 (pss_one ps_never)
 pss_nil)
 (pss_cons (ps_if (pt_not (pt_val (C8.pe_c c_is_positive hr (by decide) rfl (pa_cons (pv 4) pa_nil))))
 (pss_one ps_never)
 pss_nil)
 (pss_cons (ps_if (pt_cmpR op_notIn_seq (pv 5) (pe_glob (v := .ref _) rfl T.g_LOUD_RULES rfl) (by first | exact nomark _ | rfl))
 (pss_one ps_never)
 pss_nil)
 (pss_cons (ps_fld (pv 0) (pe_callTy call_tuple_of (by rfl) T.n_tuple (by decide +kernel) (pa_cons (pe_callB (cr_sortedAny encP hr.units) (by rfl) T.n_sorted (by decide +kernel) (pa_cons (pv 1) pa_nil)) pa_nil)) rfl)
 (pss_cons (ps_fld (pv 0) (pv 2) rfl)
 (pss_cons (ps_fld (pv 0) (pv 3) rfl)
 (pss_cons (ps_fld (pv 0) (pv 4) rfl)
 (pss_one (ps_fld (pv 0) (pv 5) rfl))))))))))), ?_⟩
    refine ⟨_, rfl, a, xs, z.sorts, rfl, hq, td, zi.ok, zi.nd, zi.few, fun H1 s1 => ⟨_, rfl, iteF ?_⟩⟩
    refine ⟨_, rfl, z.stir, rfl, _, rfl, ?_⟩
    rw [decide_eq_true zi.s1]
    refine iteF ⟨_, rfl, z.doze, rfl, _, rfl, ?_⟩
    rw [decide_eq_true zi.d1]
    refine iteF ⟨_, rfl, z.near, rfl, _, rfl, ?_⟩
    rw [decide_eq_true zi.n1]
    refine iteF ⟨_, rfl, _, _, rfl, .inr (T.t_LOUD_RULES _), rfl, rfl, _, rfl, ?_⟩
    refine notin_no (xs := threeS.map V.str) (by rw [inV_strs]; exact decide_eq_true zi.lo) ?_
    have hq1 : SqL K H1 a xs ∨ SqT K H1 a xs := hq.imp (Same.seq s1) (SqT.keep (Same.tk s1))
    have td1 := TDs.keep (Same.tk s1) td
    have len : xs.length = z.sorts.length := by rw [td.length, List.length_map]
    have ztd := zip_td td1
    refine ⟨_, rfl, a, xs.zip z.sorts, rfl, by rw [zip_fst len]; exact hq1, fun y hy => TD.dp (ztd y hy), PySem.W.AllAlike.of (fun b b' => alike_P b.2 b'.2), PySem.W.Sortable.tuples (fun b => ⟨_, _, rfl⟩), fun y _ => depth_P y.2, fun p np => ?_⟩
    generalize hzs : (xs.zip z.sorts).mergeSort (PySem.W.dataLe false fun y => encP y.2) = zs
    have pz : zs.Perm (xs.zip z.sorts) := by rw [← hzs]; exact List.mergeSort_perm _ _
    have snd : zs.map (·.2) = sortP z.sorts := by rw [← hzs, sort_zip, zip_snd len]
    have tds : TDs K H1 (zs.map (·.1)) ((sortP z.sorts).map encP) := by
      rw [← snd]
      exact td_zip fun y hy => ztd y (pz.mem_iff.mp hy)
    have s2 : Same H1 (upd H1 p (.lst (zs.map (·.1)))) := Same.new np
    refine ⟨p, _, rfl, .inl ⟨SqL.of upd_same, fun t nt => ?_⟩⟩
    have s3 : Same H1 (upd (upd H1 p (.lst (zs.map (·.1)))) t (.tup (zs.map (·.1)))) := s2.trans (Same.new nt)
    have s4 := s1.trans s3
    have xt : x ≠ t := ne_of_none (s2 _ _ (s1 _ _ hx)) nt
    refine ⟨_, rfl, x, _, dx, [], rfl, s4 _ _ hx, T.cls_Sleeper, T.a_sorts, by decide, ?_⟩
    refine ⟨_, rfl, _, rfl, x, _, dx, _, rfl, upd_same, T.cls_Sleeper, T.a_stir, by show 1 < 1000; decide, ?_⟩
    refine ⟨_, rfl, _, rfl, x, _, dx, _, rfl, upd_same, T.cls_Sleeper, T.a_doze, by show 2 < 1000; decide, ?_⟩
    refine ⟨_, rfl, _, rfl, x, _, dx, _, rfl, upd_same, T.cls_Sleeper, T.a_near, by show 3 < 1000; decide, ?_⟩
    refine ⟨_, rfl, _, rfl, x, _, dx, _, rfl, upd_same, T.cls_Sleeper, T.a_loud, by show 4 < 1000; decide, ?_⟩
    rw [upd_upd, upd_upd, upd_upd, upd_upd]
    have tk : TK (upd (upd H1 p (.lst (zs.map (·.1)))) t (.tup (zs.map (·.1)))) (upd (upd (upd H1 p (.lst (zs.map (·.1)))) t (.tup (zs.map (·.1)))) x (.ins (He.ga K "Sleeper") dx (slpFs t z))) := TK.put (s4 _ _ hx) (by intro xs e; cases e) (by intro q u e; cases e)
    refine k _ (fun b o n e => by rw [upd_ne n]; exact s4 b o e) ⟨dx, t, _, Eq.trans upd_same (congrArg (fun q => some (HO.ins (He.ga K "Sleeper") dx q)) rfl), SqT.keep tk (SqT.of upd_same), TDs.keep tk (TDs.keep (Same.tk s3) tds)⟩
end
end Lw
set_option Elab.async false
set_option linter.all false
set_option maxRecDepth 100000
set_option maxHeartbeats 4000000
namespace Lw
open PySem PySem.Spec PyProof.Rows L2 Hb
def spSortOf (K : PySem.W.Frag) (C : Addr) : Sp := fun vs H Q _ => ∃ (p : Addr) (z : Zz) (n : Str), vs = [.ref p, .str n] ∧ SlpAt K C H p z ∧ Q (soV (sortOf z n)) H
section
variable {P : Program} {w : World} {K : PySem.W.Frag} {mg : Str → Option Value} {base : Heap}
theorem c_sort_of (D : Df K mg "sort_of" s_sort_of) (T : Tx K mg) : C8.Cal P w K mg base 1 "sort_of" (spSortOf K (He.ga K "Sleeper")) [] := by
  refine cal_mk D sc_sort_of bd_sort_of (fun vs H Q E h => ?_) fun f cdv A outer s H vs Q E hr h => ?_
  · obtain ⟨p, z, n, rfl, _⟩ := h
    rfl
  · obtain ⟨p, z, n, rfl, ⟨dx, t, xs, hp, ht, td⟩, k⟩ := h
    refine ⟨_, (pss_cons (ps_for PassesOwn.never rfl (pi_tup (pe_fld (pv 0) rfl)) (pg_tup (by rfl) (pgs_cons (pg_name (i := 2) sc_sort_of.nd rfl (Or.inl rfl)) (pgs_cons (pg_name (i := 3) sc_sort_of.nd rfl (Or.inl rfl)) pgs_nil)))
 (pss_one (ps_if (pt_cmpR op_eq (pv 2) (pv 1) (by first | exact nomark _ | rfl))
 (pss_one (ps_ret (pv 3)))
 pss_nil)))
 (pss_one (ps_ret pe_non))), ?_⟩
    have len : xs.length = (sortP z.sorts).length := by rw [td.length, List.length_map]
    refine ⟨_, rfl, p, _, dx, _, _, rfl, hp, T.cls_Sleeper, T.a_sorts, rfl, t, rfl, ⟨_, ht⟩, for_tup (K := K) (a := t) (xs := xs) (fun i σ H' => H' = H ∧ (∃ v2 v3, σ = [some (.ref p), some (.str n), v2, v3]) ∧ sortOf z n = ((sortP z.sorts).drop i).lookup n)
      ⟨rfl, ⟨_, _, rfl⟩, rfl⟩ (fun i σ H' _ q => by rw [q.1]; exact ht) ?_ ?_⟩
    · rintro i x σ H' hx ⟨rfl, ⟨v2, v3, rfl⟩, e⟩
      obtain ⟨q, pr, rfl, hpr, hq⟩ := pair_at td hx
      obtain ⟨hlt, hget⟩ := List.getElem?_eq_some_iff.mp hpr
      rw [List.drop_eq_getElem_cons hlt, hget] at e
      refine ⟨q, _, rfl, hq, rfl, _, _, rfl, _, _, rfl, rfl, ?_⟩
      refine ⟨_, rfl, _, rfl, rfl, _, rfl, ?_⟩
      refine ite2 (fun h => ?_) (fun h => ?_)
      · have h2 : pr.1 = n := by have h3 := of_decide_eq_true h; injection h3
        have e2 : sortOf z n = some pr.2 := by rw [e, ← h2]; simp [List.lookup]
        rw [e2] at k
        exact ⟨_, rfl, k⟩
      · have h2 : ¬ pr.1 = n := fun q => h (decide_eq_true (by rw [q]))
        have h3 : (n == pr.1) = false := beq_eq_false_iff_ne.mpr fun q => h2 q.symm
        exact ⟨rfl, ⟨_, _, rfl⟩, by rw [e]; simp [List.lookup, h3]⟩
    · rintro σ H' ⟨rfl, ⟨v2, v3, rfl⟩, e⟩
      rw [List.drop_eq_nil_of_le (by omega)] at e
      rw [show soV (sortOf z n) = V.non by rw [e]; rfl] at k
      exact k
def spSt (K : PySem.W.Frag) (C : Addr) (f : Zz → S0 → S0) : Sp := fun vs H Q _ => ∃ (p : Addr) (v : V) (z : Zz) (s : S0), vs = [.ref p, v] ∧ SlpAt K C H p z ∧ StAt K H v s ∧ ∀ H' v', Same H H' → StAt K H' v' (f z s) → Q v' H'
/-- dozing anew -/
def spAnew (K : PySem.W.Frag) (C : Addr) : Sp := fun vs H Q _ => ∃ (p : Addr) (z : Zz), vs = [.ref p] ∧ SlpAt K C H p z ∧ ∀ H' v', Same H H' → StAt K H' v' (.doz z.doze) → Q v' H'
theorem c_dozing_anew (D : Df K mg "dozing_anew" s_dozing_anew) (T : Tx K mg) : C8.Cal P w K mg base 1 "dozing_anew" (spAnew K (He.ga K "Sleeper")) [] := by
  refine cal_mk D sc_dozing_anew bd_dozing_anew (fun vs H Q E h => ?_) fun f cdv A outer s H vs Q E hr h => ?_
  · obtain ⟨p, z, rfl, _⟩ := h
    rfl
  · obtain ⟨p, z, rfl, ⟨dx, t, xs, hp, ht, td⟩, k⟩ := h
    refine ⟨_, (pss_one (ps_ret (pe_tup (pa_cons pe_str (pa_cons (pe_fld (pv 0) rfl) pa_nil))))), ?_⟩
    exact ⟨_, rfl, p, _, dx, _, _, rfl, hp, T.cls_Sleeper, T.a_doze, rfl, by show 2 ≤ sizeLine; decide, fun q nq => k _ _ (Same.new nq) ⟨q, rfl, SqT.of upd_same⟩⟩
def loudDoz (z : Zz) (s : S0) : S0 := if z.loud = "wake" then .wok else if z.loud = "again" then .doz z.doze else s
theorem c_heard_loud_dozing (D : Df K mg "heard_loud_dozing" s_heard_loud_dozing) (T : Tx K mg) (c_dozing_anew : C8.Cal P w K mg base 1 "dozing_anew" (spAnew K (He.ga K "Sleeper")) []) :
    C8.Cal P w K mg base 2 "heard_loud_dozing" (spSt K (He.ga K "Sleeper") loudDoz) [] := by
  refine cal_mk D sc_heard_loud_dozing bd_heard_loud_dozing (fun vs H Q E h => ?_) fun f cdv A outer s H vs Q E hr h => ?_
  · obtain ⟨p, v, z, s, rfl, _⟩ := h
    rfl
  · obtain ⟨p, v, z, s, rfl, hz, hs, k⟩ := h
    obtain ⟨dx, t, xs, hp, ht, td⟩ := id hz
    refine ⟨_, (pss_cons (ps_if (pt_cmpR op_eq (pe_fld (pv 0) rfl) pe_str (by first | exact nomark _ | rfl))
 (pss_one (ps_ret (pe_glob (v := .ref _) rfl T.g_WOKEN rfl)))
 pss_nil)
 (pss_one (ps_ret (pe_ifExp (pt_cmpR op_eq (pe_fld (pv 0) rfl) pe_str (by first | exact nomark _ | rfl)) (C8.pe_c c_dozing_anew hr (by decide) rfl (pa_cons (pv 0) pa_nil)) (pv 1))))), ?_⟩
    refine ⟨_, rfl, p, _, dx, _, _, rfl, hp, T.cls_Sleeper, T.a_loud, rfl, rfl, _, rfl, ?_⟩
    by_cases h1 : z.loud = "wake"
    · rw [decide_eq_true (show V.str z.loud = V.str "wake" by rw [h1])]
      exact iteT (k _ _ (Same.refl H) ⟨_, rfl, by rw [show loudDoz z s = S0.wok from if_pos h1]; exact T.t_WOKEN _⟩)
    · rw [decide_eq_false (show ¬ V.str z.loud = V.str "wake" from fun q => h1 (by injection q))]
      refine iteF ⟨_, rfl, p, _, dx, _, _, rfl, hp, T.cls_Sleeper, T.a_loud, rfl, rfl, _, rfl, ?_⟩
      by_cases h2 : z.loud = "again"
      · rw [decide_eq_true (show V.str z.loud = V.str "again" by rw [h2])]
        have e : loudDoz z s = S0.doz z.doze := (if_neg h1).trans (if_pos h2)
        rw [e] at k
        exact iteT ⟨_, rfl, p, z, rfl, hz, k⟩
      · rw [decide_eq_false (show ¬ V.str z.loud = V.str "again" from fun q => h2 (by injection q))]
        have e : loudDoz z s = s := (if_neg h1).trans (if_neg h2)
        rw [e] at k
        exact iteF ⟨_, rfl, k _ _ (Same.refl H) hs⟩
end
end Lw
set_option Elab.async false
set_option linter.all false
set_option maxRecDepth 100000
set_option maxHeartbeats 4000000
namespace Lw
open PySem PySem.Spec PyProof.Rows L2 Hb
/-- behind a noise of a sort, asleep -/
def spAslp (K : PySem.W.Frag) (C : Addr) : Sp := fun vs H Q _ => ∃ (p : Addr) (v : V) (z : Zz) (s : S0) (n : Str) (so : Option Str), vs = [.ref p, v, .str n, soV so] ∧ SlpAt K C H p z ∧ StAt K H v s ∧ s.word = "asleep" ∧ ∀ H' v', Same H H' → StAt K H' v' (hear z so n s) → Q v' H'
def spHeard (K : PySem.W.Frag) (C : Addr) : Sp := fun vs H Q _ => ∃ (p : Addr) (v : V) (z : Zz) (s : S0) (n : Str), vs = [.ref p, v, .str n] ∧ SlpAt K C H p z ∧ StAt K H v s ∧ ∀ H' v', Same H H' → StAt K H' v' (hear z (sortOf z n) n s) → Q v' H'
section
variable {P : Program} {w : World} {K : PySem.W.Frag} {mg : Str → Option Value} {base : Heap}
theorem c_heard_asleep (D : Df K mg "heard_asleep" s_heard_asleep) (T : Tx K mg) : C8.Cal P w K mg base 1 "heard_asleep" (spAslp K (He.ga K "Sleeper")) [] := by
  refine cal_mk D sc_heard_asleep bd_heard_asleep (fun vs H Q E h => ?_) fun f cdv A outer s H vs Q E hr h => ?_
  · obtain ⟨p, v, z, s, n, so, rfl, _⟩ := h
    rfl
  · obtain ⟨p, v, z, s, n, so, rfl, ⟨dx, t, xs, hp, ht, td⟩, hs, hw, k⟩ := h
    have sl : s = .asl ∨ ∃ m a, s = .kept m a := by
      obtain ⟨h1, h2, h3, h4, h5, h6, h7, h8, h9, h10⟩ := words_ne
      cases s
      case up => exact absurd hw.symm h1
      case doz => exact absurd hw h5.symm
      case asl => exact .inl rfl
      case kept => exact .inr ⟨_, _, rfl⟩
      case stir => exact absurd hw h8
      case wok => exact absurd hw h9
    obtain ⟨a, rfl, hs⟩ := hs
    refine ⟨_, (pss_cons (ps_if (pt_cmpR op_eq (pv 3) pe_str (by first | exact nomark _ | rfl))
 (pss_one (ps_ret (pe_tup (pa_cons pe_str (pa_cons (pe_fld (pv 0) rfl) pa_nil)))))
 pss_nil)
 (pss_cons (ps_if (PW.pt (pw_or (pt_cmpR op_eq (pv 3) pe_str (by first | exact nomark _ | rfl)) (pw_or1 (pt_cmpR op_eq (pv 3) pe_str (by first | exact nomark _ | rfl)))))
 (pss_one (ps_ret (pe_glob (v := .ref _) rfl T.g_WOKEN rfl)))
 pss_nil)
 (pss_cons (ps_if (pt_cmpR op_eq (pv 3) pe_str (by first | exact nomark _ | rfl))
 (pss_one (ps_ret (pe_ifExp (PW.pt (pw_and (pt_cmpR op_eq (pe_callB call_len (by rfl) T.n_len (by decide +kernel) (pa_cons (pv 1) pa_nil)) pe_int (by first | exact nomark _ | rfl)) (pw_and1 (pt_cmpR op_ne (pe_ix ix_tup (pv 1) pe_int (fun _ _ => rfl)) (pv 2) (by first | exact nomark _ | rfl))))) (pe_glob (v := .ref _) rfl T.g_WOKEN rfl) (pe_tup (pa_cons pe_str (pa_cons (pv 2) (pa_cons pe_int pa_nil)))))))
 pss_nil)
 (pss_one (ps_ret (pv 1)))))), ?_⟩
    refine ⟨_, rfl, soV_scal so _, _, rfl, ?_⟩
    rw [soV_eq]
    by_cases h1 : so = some ("soft" : Str)
    · rw [decide_eq_true h1]
      refine iteT ⟨_, rfl, p, _, dx, _, _, rfl, hp, T.cls_Sleeper, T.a_stir, rfl, by show 2 ≤ sizeLine; decide, fun q nq => k _ _ (Same.new nq) ⟨q, rfl, ?_⟩⟩
      have e : hear z so n s = .stir z.stir := by rcases sl with rfl | ⟨m, a, rfl⟩ <;> (show ite _ _ _ = _; rw [if_pos h1])
      rw [e]
      exact SqT.of upd_same
    · rw [decide_eq_false h1]
      refine iteF ⟨_, rfl, soV_scal so _, _, rfl, ?_⟩
      rw [soV_eq]
      by_cases h2 : so = some ("loud" : Str)
      · rw [decide_eq_true h2]
        have e : hear z so n s = .wok := by rcases sl with rfl | ⟨m, a, rfl⟩ <;> (show ite _ _ _ = _; rw [if_neg h1, if_pos (Or.inl h2)])
        rw [e] at k
        exact iteT (k _ _ (Same.refl H) ⟨_, rfl, T.t_WOKEN _⟩)
      · rw [decide_eq_false h2]
        refine iteF ⟨_, rfl, soV_scal so _, _, rfl, ?_⟩
        rw [soV_eq]
        by_cases h3 : so = some ("sudden" : Str)
        · rw [decide_eq_true h3]
          have e : hear z so n s = .wok := by rcases sl with rfl | ⟨m, a, rfl⟩ <;> (show ite _ _ _ = _; rw [if_neg h1, if_pos (Or.inr h3)])
          rw [e] at k
          exact iteT (k _ _ (Same.refl H) ⟨_, rfl, T.t_WOKEN _⟩)
        · rw [decide_eq_false h3]
          refine iteF ⟨_, rfl, soV_scal so _, _, rfl, ?_⟩
          rw [soV_eq]
          by_cases h4 : so = some ("faint" : Str)
          · rw [decide_eq_true h4]
            refine iteT ?_
            rcases sl with rfl | ⟨m, ago, rfl⟩
            · refine ⟨_, rfl, .ref a, 1, rfl, .inr ⟨_, hs, rfl⟩, rfl, _, rfl, iteF (iteF ⟨_, rfl, by show 3 ≤ sizeLine; decide, fun q nq => ?_⟩)⟩
              have e : hear z so n .asl = .kept n 0 := by show ite _ _ _ = _; rw [if_neg h1, if_neg (fun q => q.elim h2 h3), if_pos h4]
              rw [e] at k
              exact k _ _ (Same.new nq) ⟨q, rfl, SqT.of upd_same⟩
            · refine ⟨_, rfl, .ref a, 3, rfl, .inr ⟨_, hs, rfl⟩, rfl, _, rfl, iteT ⟨_, rfl, a, _, 1, .str m, rfl, rfl, hs, rfl, _, rfl, rfl, _, rfl, ?_⟩⟩
              by_cases h5 : m = n
              · rw [decide_eq_true (show V.str m = V.str n by rw [h5])]
                refine iteF ⟨_, rfl, by show 3 ≤ sizeLine; decide, fun q nq => ?_⟩
                have e : hear z so n (.kept m ago) = .kept n 0 := by show ite _ _ _ = _; rw [if_neg h1, if_neg (fun q => q.elim h2 h3), if_pos h4, if_pos h5]
                rw [e] at k
                exact k _ _ (Same.new nq) ⟨q, rfl, SqT.of upd_same⟩
              · rw [decide_eq_false (show ¬ V.str m = V.str n from fun q => h5 (by injection q))]
                have e : hear z so n (.kept m ago) = .wok := by show ite _ _ _ = _; rw [if_neg h1, if_neg (fun q => q.elim h2 h3), if_pos h4, if_neg h5]
                rw [e] at k
                exact iteT (k _ _ (Same.refl H) ⟨_, rfl, T.t_WOKEN _⟩)
          · rw [decide_eq_false h4]
            refine iteF ⟨_, rfl, ?_⟩
            have e : hear z so n s = s := by rcases sl with rfl | ⟨m, a, rfl⟩ <;> (show ite _ _ _ = _; rw [if_neg h1, if_neg (fun q => q.elim h2 h3), if_neg h4])
            rw [e] at k
            exact k _ _ (Same.refl H) ⟨a, rfl, hs⟩
theorem word_eq (s : S0) (x : Str) : decide (V.str s.word = V.str x) = decide (s.word = x) := by
  by_cases h : s.word = x
  · rw [decide_eq_true h, decide_eq_true (show V.str s.word = V.str x by rw [h])]
  · rw [decide_eq_false h, decide_eq_false (show ¬ V.str s.word = V.str x from fun q => h (by injection q))]
theorem hear_doz {z : Zz} {so : Option Str} {n : Str} {t : Int} (h : so = some ("loud" : Str)) : hear z so n (.doz t) = loudDoz z (.doz t) := by
  show ite _ _ _ = _
  rw [if_pos h]
  rfl
theorem c_heard (D : Df K mg "heard" s_heard) (T : Tx K mg) (c_sort_of : C8.Cal P w K mg base 1 "sort_of" (spSortOf K (He.ga K "Sleeper")) []) (c_heard_asleep : C8.Cal P w K mg base 1 "heard_asleep" (spAslp K (He.ga K "Sleeper")) [])
    (c_heard_loud_dozing : C8.Cal P w K mg base 2 "heard_loud_dozing" (spSt K (He.ga K "Sleeper") loudDoz) []) : C8.Cal P w K mg base 3 "heard" (spHeard K (He.ga K "Sleeper")) [] := by
  refine cal_mk D sc_heard bd_heard (fun vs H Q E h => ?_) fun f cdv A outer s H vs Q E hr h => ?_
  · obtain ⟨p, v, z, s, n, rfl, _⟩ := h
    rfl
  · obtain ⟨p, v, z, s, n, rfl, hz, hs, k⟩ := h
    obtain ⟨a, rfl, ha⟩ := id hs
    obtain ⟨q1, q2, q3, q4, q5, q6, q7, q8, q9, q10⟩ := words_ne
    refine ⟨_, (pss_cons (ps_set (i := 3) sc_heard.nd rfl (Or.inl rfl) (C8.pe_c c_sort_of hr (by decide) rfl (pa_cons (pv 0) (pa_cons (pv 2) pa_nil))))
 (pss_cons (ps_if (pt_cmpR op_eq (pe_ix ix_tup (pv 1) pe_int (fun _ _ => rfl)) pe_str (by first | exact nomark _ | rfl))
 (pss_one (ps_ret (C8.pe_c c_heard_asleep hr (by decide) rfl (pa_cons (pv 0) (pa_cons (pv 1) (pa_cons (pv 2) (pa_cons (pv 3) pa_nil)))))))
 pss_nil)
 (pss_cons (ps_if (PW.pt (pw_and (pt_cmpR op_eq (pe_ix ix_tup (pv 1) pe_int (fun _ _ => rfl)) pe_str (by first | exact nomark _ | rfl)) (pw_and1 (pt_cmpR op_eq (pv 3) pe_str (by first | exact nomark _ | rfl)))))
 (pss_one (ps_ret (C8.pe_c c_heard_loud_dozing hr (by decide) rfl (pa_cons (pv 0) (pa_cons (pv 1) pa_nil)))))
 pss_nil)
 (pss_cons (ps_if (PW.pt (pw_and (pt_cmpR op_eq (pe_ix ix_tup (pv 1) pe_int (fun _ _ => rfl)) pe_str (by first | exact nomark _ | rfl)) (pw_and1 (pt_cmpR op_eq (pv 3) pe_str (by first | exact nomark _ | rfl)))))
 (pss_one (ps_ret (pe_glob (v := .ref _) rfl T.g_WOKEN rfl)))
 pss_nil)
 (pss_one (ps_ret (pv 1))))))), ?_⟩
    refine ⟨_, rfl, _, rfl, p, z, n, rfl, hz, ?_⟩
    refine ⟨_, rfl, a, _, 0, _, rfl, rfl, ha, s.head, rfl, _, rfl, ?_⟩
    rw [word_eq]
    by_cases h1 : s.word = "asleep"
    · rw [decide_eq_true h1]
      exact iteT ⟨_, rfl, _, rfl, _, rfl, _, rfl, p, _, z, s, n, sortOf z n, rfl, hz, hs, h1, k⟩
    · rw [decide_eq_false h1]
      refine iteF ⟨_, rfl, a, _, 0, _, rfl, rfl, ha, s.head, rfl, _, rfl, ?_⟩
      rw [word_eq]
      by_cases h2 : s.word = "dozing"
      · rw [decide_eq_true h2]
        obtain ⟨t, rfl⟩ : ∃ t, s = .doz t := by
          cases s
          case up => exact absurd h2.symm q2
          case doz t => exact ⟨t, rfl⟩
          case asl => exact absurd rfl h1
          case kept => exact absurd rfl h1
          case stir => exact absurd h2 q6
          case wok => exact absurd h2 q7
        refine iteT ⟨_, rfl, soV_scal _ _, _, rfl, ?_⟩
        rw [soV_eq]
        by_cases h3 : sortOf z n = some ("loud" : Str)
        · rw [decide_eq_true h3]
          rw [hear_doz h3] at k
          exact iteT ⟨_, rfl, _, rfl, p, _, z, _, rfl, hz, hs, k⟩
        · rw [decide_eq_false h3]
          refine iteF ⟨_, rfl, a, _, 0, _, rfl, rfl, ha, rfl, rfl, _, rfl, iteF (iteF ⟨_, rfl, ?_⟩)⟩
          have e : hear z (sortOf z n) n (.doz t) = .doz t := by show ite _ _ _ = _; rw [if_neg h3]
          rw [e] at k
          exact k _ _ (Same.refl H) hs
      · rw [decide_eq_false h2]
        refine iteF (iteF ⟨_, rfl, a, _, 0, _, rfl, rfl, ha, s.head, rfl, _, rfl, ?_⟩)
        rw [word_eq]
        by_cases h4 : s.word = "stirring"
        · rw [decide_eq_true h4]
          obtain ⟨t, rfl⟩ : ∃ t, s = .stir t := by
            cases s
            case up => exact absurd h4.symm q3
            case doz t => exact absurd rfl h2
            case asl => exact absurd rfl h1
            case kept => exact absurd rfl h1
            case stir t => exact ⟨t, rfl⟩
            case wok => exact absurd h4 q10
          refine iteT ⟨_, rfl, soV_scal _ _, _, rfl, ?_⟩
          rw [soV_eq]
          by_cases h3 : sortOf z n = some ("loud" : Str)
          · rw [decide_eq_true h3]
            have e : hear z (sortOf z n) n (.stir t) = .wok := by show ite _ _ _ = _; rw [if_pos h3]
            rw [e] at k
            exact iteT (k _ _ (Same.refl H) ⟨_, rfl, T.t_WOKEN _⟩)
          · rw [decide_eq_false h3]
            have e : hear z (sortOf z n) n (.stir t) = .stir t := by show ite _ _ _ = _; rw [if_neg h3]
            rw [e] at k
            exact iteF ⟨_, rfl, k _ _ (Same.refl H) hs⟩
        · rw [decide_eq_false h4]
          have e : hear z (sortOf z n) n s = s := by
            cases s
            case up => rfl
            case doz t => exact absurd rfl h2
            case asl => exact absurd rfl h1
            case kept => exact absurd rfl h1
            case stir t => exact absurd rfl h4
            case wok => rfl
          rw [e] at k
          exact iteF (iteF ⟨_, rfl, k _ _ (Same.refl H) hs⟩)
theorem c_ticked (D : Df K mg "ticked" s_ticked) (T : Tx K mg) : C8.Cal P w K mg base 1 "ticked" (spSt K (He.ga K "Sleeper") tick) [] := by
  refine cal_mk D sc_ticked bd_ticked (fun vs H Q E h => ?_) fun f cdv A outer s H vs Q E hr h => ?_
  · obtain ⟨p, v, z, s, rfl, _⟩ := h
    rfl
  · obtain ⟨p, v, z, s, rfl, hz, hs, k⟩ := h
    obtain ⟨dx, t0, xs, hp, ht, td⟩ := id hz
    obtain ⟨a, rfl, ha⟩ := id hs
    refine ⟨_, (pss_cons (ps_if (pt_cmpR op_eq (pe_ix ix_tup (pv 1) pe_int (fun _ _ => rfl)) pe_str (by first | exact nomark _ | rfl))
 (pss_one (ps_ret (pe_ifExp (pt_cmpR op_gt (pe_ix ix_tup (pv 1) pe_int (fun _ _ => rfl)) pe_int (by first | exact nomark _ | rfl)) (pe_tup (pa_cons pe_str (pa_cons (pe_op op_sub (pe_ix ix_tup (pv 1) pe_int (fun _ _ => rfl)) pe_int) pa_nil))) (pe_glob (v := .ref _) rfl T.g_ASLEEP rfl))))
 pss_nil)
 (pss_cons (ps_if (pt_cmpR op_eq (pe_ix ix_tup (pv 1) pe_int (fun _ _ => rfl)) pe_str (by first | exact nomark _ | rfl))
 (pss_one (ps_ret (pe_ifExp (pt_cmpR op_gt (pe_ix ix_tup (pv 1) pe_int (fun _ _ => rfl)) pe_int (by first | exact nomark _ | rfl)) (pe_tup (pa_cons pe_str (pa_cons (pe_op op_sub (pe_ix ix_tup (pv 1) pe_int (fun _ _ => rfl)) pe_int) pa_nil))) (pe_glob (v := .ref _) rfl T.g_WOKEN rfl))))
 pss_nil)
 (pss_cons (ps_if (PW.pt (pw_and (pt_cmpR op_eq (pe_ix ix_tup (pv 1) pe_int (fun _ _ => rfl)) pe_str (by first | exact nomark _ | rfl)) (pw_and1 (pt_cmpR op_eq (pe_callB call_len (by rfl) T.n_len (by decide +kernel) (pa_cons (pv 1) pa_nil)) pe_int (by first | exact nomark _ | rfl)))))
 (pss_one (ps_ret (pe_ifExp (pt_cmpR op_lt (pe_ix ix_tup (pv 1) pe_int (fun _ _ => rfl)) (pe_fld (pv 0) rfl) (by first | exact nomark _ | rfl)) (pe_tup (pa_cons pe_str (pa_cons (pe_ix ix_tup (pv 1) pe_int (fun _ _ => rfl)) (pa_cons (pe_op op_add (pe_ix ix_tup (pv 1) pe_int (fun _ _ => rfl)) pe_int) pa_nil)))) (pe_glob (v := .ref _) rfl T.g_ASLEEP rfl))))
 pss_nil)
 (pss_one (ps_ret (pv 1)))))), ?_⟩
    cases s with
    | doz t =>
      refine ⟨_, rfl, a, _, 0, _, rfl, rfl, ha, rfl, rfl, _, rfl, iteT ⟨_, rfl, a, _, 1, .int t, rfl, rfl, ha, rfl, _, _, rfl, rfl, _, rfl, ite2 (fun h => ?_) (fun h => ?_)⟩⟩
      · have h1 : 1 < t := of_decide_eq_true h
        refine ⟨_, rfl, a, _, 1, .int t, rfl, rfl, ha, rfl, _, _, rfl, rfl, by show 2 ≤ sizeLine; decide, fun q nq => k _ _ (Same.new nq) ⟨q, rfl, ?_⟩⟩
        rw [show tick z (.doz t) = .doz (t - 1) from if_pos h1]
        exact SqT.of upd_same
      · have h1 : ¬ 1 < t := fun q => h (decide_eq_true q)
        rw [show tick z (.doz t) = .asl from if_neg h1] at k
        exact k _ _ (Same.refl H) ⟨_, rfl, T.t_ASLEEP _⟩
    | stir t =>
      refine ⟨_, rfl, a, _, 0, _, rfl, rfl, ha, rfl, rfl, _, rfl, iteF ⟨_, rfl, a, _, 0, _, rfl, rfl, ha, rfl, rfl, _, rfl, iteT ⟨_, rfl, a, _, 1, .int t, rfl, rfl, ha, rfl, _, _, rfl, rfl, _, rfl, ite2 (fun h => ?_) (fun h => ?_)⟩⟩⟩
      · have h1 : 1 < t := of_decide_eq_true h
        refine ⟨_, rfl, a, _, 1, .int t, rfl, rfl, ha, rfl, _, _, rfl, rfl, by show 2 ≤ sizeLine; decide, fun q nq => k _ _ (Same.new nq) ⟨q, rfl, ?_⟩⟩
        rw [show tick z (.stir t) = .stir (t - 1) from if_pos h1]
        exact SqT.of upd_same
      · have h1 : ¬ 1 < t := fun q => h (decide_eq_true q)
        rw [show tick z (.stir t) = .wok from if_neg h1] at k
        exact k _ _ (Same.refl H) ⟨_, rfl, T.t_WOKEN _⟩
    | kept m ago =>
      refine ⟨_, rfl, a, _, 0, _, rfl, rfl, ha, rfl, rfl, _, rfl, iteF ⟨_, rfl, a, _, 0, _, rfl, rfl, ha, rfl, rfl, _, rfl, iteF ⟨_, rfl, a, _, 0, _, rfl, rfl, ha, rfl, rfl, _, rfl, iteT ⟨_, rfl, .ref a, 3, rfl, .inr ⟨_, ha, rfl⟩, rfl, _, rfl, iteT ?_⟩⟩⟩⟩
      refine ⟨_, rfl, a, _, 2, .int ago, rfl, rfl, ha, rfl, _, rfl, p, _, dx, _, _, rfl, hp, T.cls_Sleeper, T.a_near, rfl, _, _, rfl, rfl, _, rfl, ite2 (fun h => ?_) (fun h => ?_)⟩
      · have h1 : ago < z.near := of_decide_eq_true h
        refine ⟨_, rfl, a, _, 1, .str m, rfl, rfl, ha, rfl, _, rfl, a, _, 2, .int ago, rfl, rfl, ha, rfl, _, _, rfl, rfl, by show 3 ≤ sizeLine; decide, fun q nq => k _ _ (Same.new nq) ⟨q, rfl, ?_⟩⟩
        rw [show tick z (.kept m ago) = .kept m (ago + 1) from if_pos h1]
        exact SqT.of upd_same
      · have h1 : ¬ ago < z.near := fun q => h (decide_eq_true q)
        rw [show tick z (.kept m ago) = .asl from if_neg h1] at k
        exact k _ _ (Same.refl H) ⟨_, rfl, T.t_ASLEEP _⟩
    | asl =>
      refine ⟨_, rfl, a, _, 0, _, rfl, rfl, ha, rfl, rfl, _, rfl, iteF ⟨_, rfl, a, _, 0, _, rfl, rfl, ha, rfl, rfl, _, rfl, iteF ⟨_, rfl, a, _, 0, _, rfl, rfl, ha, rfl, rfl, _, rfl, iteT ⟨_, rfl, .ref a, 1, rfl, .inr ⟨_, ha, rfl⟩, rfl, _, rfl, iteF ⟨_, rfl, k _ _ (Same.refl H) hs⟩⟩⟩⟩⟩
    | up =>
      refine ⟨_, rfl, a, _, 0, _, rfl, rfl, ha, rfl, rfl, _, rfl, iteF ⟨_, rfl, a, _, 0, _, rfl, rfl, ha, rfl, rfl, _, rfl, iteF ⟨_, rfl, a, _, 0, _, rfl, rfl, ha, rfl, rfl, _, rfl, iteF (iteF ⟨_, rfl, k _ _ (Same.refl H) hs⟩)⟩⟩⟩
    | wok =>
      refine ⟨_, rfl, a, _, 0, _, rfl, rfl, ha, rfl, rfl, _, rfl, iteF ⟨_, rfl, a, _, 0, _, rfl, rfl, ha, rfl, rfl, _, rfl, iteF ⟨_, rfl, a, _, 0, _, rfl, rfl, ha, rfl, rfl, _, rfl, iteF (iteF ⟨_, rfl, k _ _ (Same.refl H) hs⟩)⟩⟩⟩
def spHum (K : PySem.W.Frag) (C : Addr) : Sp := fun vs H Q _ => ∃ (p : Addr) (v : V) (z : Zz) (s : S0) (x : Str), vs = [.ref p, v, .str x] ∧ SlpAt K C H p z ∧ StAt K H v s ∧ s.ok ∧ ∀ H' v', Same H H' → StAt K H' v' (hum z x s) → Q v' H'
theorem c_hummed (D : Df K mg "hummed" s_hummed) (T : Tx K mg) (c_dozing_anew : C8.Cal P w K mg base 1 "dozing_anew" (spAnew K (He.ga K "Sleeper")) []) : C8.Cal P w K mg base 2 "hummed" (spHum K (He.ga K "Sleeper")) [] := by
  refine cal_mk D sc_hummed bd_hummed (fun vs H Q E h => ?_) fun f cdv A outer s H vs Q E hr h => ?_
  · obtain ⟨p, v, z, s, x, rfl, _⟩ := h
    rfl
  · obtain ⟨p, v, z, s, x, rfl, hz, hs, ok, k⟩ := h
    have hw : StAt K H (.ref (He.ga K "WOKEN")) .wok := ⟨_, rfl, T.t_WOKEN _⟩
    refine ⟨_, (pss_cons (ps_if (pt_cmpR (op_eqD hr.units) (pv 1) (pe_glob (v := .ref _) rfl T.g_WOKEN rfl) (by first | exact nomark _ | rfl))
 (pss_one (ps_ret (pv 1)))
 pss_nil)
 (pss_one (ps_ret (pe_ifExp (pt_cmpR op_eq (pv 2) pe_str (by first | exact nomark _ | rfl)) (pe_glob (v := .ref _) rfl T.g_UP rfl) (C8.pe_c c_dozing_anew hr (by decide) rfl (pa_cons (pv 0) pa_nil)))))), ?_⟩
    refine ⟨_, rfl, _, _, TD.dp hs.td, TD.dp hw.td, (S0.shp ok).shaped, (S0.shp (s := .wok) trivial).shaped, _, rfl, ?_⟩
    rw [eqv_st]
    by_cases h1 : s = .wok
    · subst h1
      exact iteT ⟨_, rfl, k _ _ (Same.refl H) hs⟩
    · rw [decide_eq_false h1]
      refine iteF ⟨_, rfl, rfl, _, rfl, ?_⟩
      by_cases h2 : x = "up"
      · rw [decide_eq_true (show V.str x = V.str "up" by rw [h2])]
        have e : hum z x s = .up := by cases s <;> first | exact absurd rfl h1 | exact if_pos h2
        rw [e] at k
        exact iteT (k _ _ (Same.refl H) ⟨_, rfl, T.t_UP _⟩)
      · rw [decide_eq_false (show ¬ V.str x = V.str "up" from fun q => h2 (by injection q))]
        have e : hum z x s = .doz z.doze := by cases s <;> first | exact absurd rfl h1 | exact if_neg h2
        rw [e] at k
        exact iteF ⟨_, rfl, p, z, rfl, hz, k⟩
end
end Lw
set_option Elab.async false
set_option linter.all false
set_option maxRecDepth 100000
set_option maxHeartbeats 4000000
namespace Lw
open PySem PySem.Spec PyProof.Rows L2 Hb
section
variable {P : Program} {w : World} {K : PySem.W.Frag} {mg : Str → Option Value} {base : Heap}
def firstS (z : Zz) (how : Str) : S0 := if how = "dozing" then .doz z.doze else if how = "asleep" then .asl else .up
def spFirst (K : PySem.W.Frag) (C : Addr) : Sp := fun vs H Q _ => ∃ (p : Addr) (z : Zz) (x : Str), vs = [.ref p, .str x] ∧ SlpAt K C H p z ∧ ∀ H' v', Same H H' → StAt K H' v' (firstS z x) → Q v' H'
theorem c_first_state (D : Df K mg "first_state" s_first_state) (T : Tx K mg) (c_dozing_anew : C8.Cal P w K mg base 1 "dozing_anew" (spAnew K (He.ga K "Sleeper")) []) : C8.Cal P w K mg base 2 "first_state" (spFirst K (He.ga K "Sleeper")) [] := by
  refine cal_mk D sc_first_state bd_first_state (fun vs H Q E h => ?_) fun f cdv A outer s H vs Q E hr h => ?_
  · obtain ⟨p, z, x, rfl, _⟩ := h
    rfl
  · obtain ⟨p, z, x, rfl, hz, k⟩ := h
    refine ⟨_, (pss_cons (ps_if (pt_cmpR op_eq (pv 1) pe_str (by first | exact nomark _ | rfl))
 (pss_one (ps_ret (C8.pe_c c_dozing_anew hr (by decide) rfl (pa_cons (pv 0) pa_nil))))
 pss_nil)
 (pss_one (ps_ret (pe_ifExp (pt_cmpR op_eq (pv 1) pe_str (by first | exact nomark _ | rfl)) (pe_glob (v := .ref _) rfl T.g_ASLEEP rfl) (pe_glob (v := .ref _) rfl T.g_UP rfl))))), ?_⟩
    refine ⟨_, rfl, rfl, _, rfl, ?_⟩
    by_cases h1 : x = "dozing"
    · rw [decide_eq_true (show V.str x = V.str "dozing" by rw [h1])]
      have e : firstS z x = .doz z.doze := if_pos h1
      rw [e] at k
      exact iteT ⟨_, rfl, p, z, rfl, hz, k⟩
    · rw [decide_eq_false (show ¬ V.str x = V.str "dozing" from fun q => h1 (by injection q))]
      refine iteF ⟨_, rfl, rfl, _, rfl, ?_⟩
      by_cases h2 : x = "asleep"
      · rw [decide_eq_true (show V.str x = V.str "asleep" by rw [h2])]
        have e : firstS z x = .asl := (if_neg h1).trans (if_pos h2)
        rw [e] at k
        exact iteT (k _ _ (Same.refl H) ⟨_, rfl, T.t_ASLEEP _⟩)
      · rw [decide_eq_false (show ¬ V.str x = V.str "asleep" from fun q => h2 (by injection q))]
        have e : firstS z x = .up := (if_neg h1).trans (if_neg h2)
        rw [e] at k
        exact iteF (k _ _ (Same.refl H) ⟨_, rfl, T.t_UP _⟩)
end
theorem InS.first {z : Zz} {ws : List Str} (zk : Zok z ws) (x : Str) : InS z (firstS z x) := by
  unfold firstS
  split
  · exact ⟨zk.d1, Int.le_refl _⟩
  · split <;> trivial
end Lw
set_option Elab.async false
set_option linter.all false
set_option maxRecDepth 100000
set_option maxHeartbeats 8000000
namespace Lw
open PySem PySem.Spec PyProof.Rows L2 Hb
/-- the noises of a step through a door into a room -/
def nzStep (h : Hz) (d : Dr) (r : Int) : List Str := d.2.2.toList ++ ((sortF h.floors).lookup r).toList
theorem nzStep_le (h : Hz) (d : Dr) (r : Int) : (nzStep h d r).length ≤ 2 := by
  unfold nzStep
  cases d.2.2 <;> cases (sortF h.floors).lookup r <;> simp
def spFloorN (K : PySem.W.Frag) (C : Addr) : Sp := fun vs H Q _ => ∃ (p : Addr) (h : Hz) (r : Int), vs = [.ref p, .int r] ∧ HAt K C H p h ∧ Q (soV ((sortF h.floors).lookup r)) H
def spNoises (K : PySem.W.Frag) (C : Addr) : Sp := fun vs H Q _ => ∃ (p : Addr) (h : Hz) (n r : Int) (d : Dr), vs = [.ref p, .int n, .int r] ∧ HAt K C H p h ∧ 0 ≤ n ∧ h.doors[n.toNat]? = some d ∧
  ∀ H' t, Same H H' → H t = none → SqT K H' t ((nzStep h d r).map V.str) → Q (.ref t) H'
theorem nzV_soV (n : Option Str) : nzV n = soV n := by cases n <;> rfl
section
variable {P : Program} {w : World} {K : PySem.W.Frag} {mg : Str → Option Value} {base : Heap}
theorem c_floor_noise (D : Df K mg "floor_noise" s_floor_noise) (T : Tx K mg) : C8.Cal P w K mg base 1 "floor_noise" (spFloorN K (He.ga K "House")) [] := by
  refine cal_mk D sc_floor_noise bd_floor_noise (fun vs H Q E h => ?_) fun f cdv A outer s H vs Q E hr h => ?_
  · obtain ⟨p, h, r, rfl, _⟩ := h
    rfl
  · obtain ⟨p, h, r, rfl, ⟨dx, a, b, c, xs, ys, hp, _, _, hb, td, _⟩, k⟩ := h
    refine ⟨_, (pss_cons (ps_for PassesOwn.never rfl (pi_tup (pe_fld (pv 0) rfl)) (pg_tup (by rfl) (pgs_cons (pg_name (i := 2) sc_floor_noise.nd rfl (Or.inl rfl)) (pgs_cons (pg_name (i := 3) sc_floor_noise.nd rfl (Or.inl rfl)) pgs_nil)))
 (pss_one (ps_if (pt_cmpR op_eq (pv 2) (pv 1) (by first | exact nomark _ | rfl))
 (pss_one (ps_ret (pv 3)))
 pss_nil)))
 (pss_one (ps_ret pe_non))), ?_⟩
    have len : ys.length = (sortF h.floors).length := by rw [td.length, List.length_map]
    refine ⟨_, rfl, p, _, dx, _, _, rfl, hp, T.cls_House, T.a_floors, rfl, b, rfl, ⟨_, hb⟩, for_tup (K := K) (a := b) (xs := ys) (fun i σ H' => H' = H ∧ (∃ v2 v3, σ = [some (.ref p), some (.int r), v2, v3]) ∧ (sortF h.floors).lookup r = ((sortF h.floors).drop i).lookup r)
      ⟨rfl, ⟨_, _, rfl⟩, rfl⟩ (fun i σ H' _ q => by rw [q.1]; exact hb) ?_ ?_⟩
    · rintro i x σ H' hx ⟨rfl, ⟨v2, v3, rfl⟩, e⟩
      obtain ⟨fl, hfl, tdf⟩ := TDs.at_map td hx
      obtain ⟨t, rfl, ht⟩ := TD.floor_inv tdf
      obtain ⟨hlt, hget⟩ := List.getElem?_eq_some_iff.mp hfl
      rw [List.drop_eq_getElem_cons hlt, hget] at e
      refine ⟨t, _, rfl, ht, rfl, _, _, rfl, _, _, rfl, rfl, ?_⟩
      refine ⟨_, rfl, _, rfl, rfl, _, rfl, ?_⟩
      refine ite2 (fun h => ?_) (fun h => ?_)
      · have h2 : fl.1 = r := by have h3 := of_decide_eq_true h; injection h3
        rw [e] at k
        rw [show ((fl :: List.drop (i + 1) _ : List Fl).lookup r) = some fl.2 by rw [← h2]; simp [List.lookup]] at k
        exact ⟨_, rfl, k⟩
      · have h2 : ¬ fl.1 = r := fun q => h (decide_eq_true (by rw [q]))
        have h3 : (r == fl.1) = false := beq_eq_false_iff_ne.mpr fun q => h2 q.symm
        exact ⟨rfl, ⟨_, _, rfl⟩, by rw [e]; simp [List.lookup, h3]⟩
    · rintro σ H' ⟨rfl, ⟨v2, v3, rfl⟩, e⟩
      rw [List.drop_eq_nil_of_le (by omega)] at e
      rw [e] at k
      exact k
theorem c_noises_of_step (D : Df K mg "noises_of_step" s_noises_of_step) (T : Tx K mg) (c_floor_noise : C8.Cal P w K mg base 1 "floor_noise" (spFloorN K (He.ga K "House")) []) : C8.Cal P w K mg base 2 "noises_of_step" (spNoises K (He.ga K "House")) [] := by
  refine cal_mk D sc_noises_of_step bd_noises_of_step (fun vs H Q E h => ?_) fun f cdv A outer s H vs Q E hr h => ?_
  · obtain ⟨p, h, n, r, d, rfl, _⟩ := h
    rfl
  · obtain ⟨p, h, n, r, d, rfl, hh, n0, hd, k⟩ := h
    obtain ⟨dx, a, b, c, xs, ys, hp, ha, td, _⟩ := id hh
    have line := sizeLine_eq
    have len : xs.length = h.doors.length := by rw [td.length, List.length_map]
    obtain ⟨hl, hg⟩ := List.getElem?_eq_some_iff.mp hd
    have hlt : n.toNat < xs.length := by omega
    obtain ⟨d', hd', tdd⟩ := TDs.at_map td (List.getElem?_eq_getElem hlt)
    rw [hd] at hd'
    cases hd'
    obtain ⟨t, et, ht⟩ := TD.door_inv tdd
    have at_ : atI xs n = some (.ref t) := by
      have q := atI_nat (xs := xs) (j := n.toNat) (v := .ref t) (by rw [List.getElem?_eq_getElem hlt, et])
      rw [show ((n.toNat : Nat) : Int) = n by omega] at q
      exact q
    refine ⟨_, (pss_cons (ps_asg (pe_ix ix_tup (pe_fld (pv 0) rfl) (pv 1) (fun _ _ => rfl)) (pg_tup (by rfl) (pgs_cons (pg_name (i := 3) sc_noises_of_step.nd rfl (Or.inl rfl)) (pgs_cons (pg_name (i := 4) sc_noises_of_step.nd rfl (Or.inl rfl)) (pgs_cons (pg_name (i := 5) sc_noises_of_step.nd rfl (Or.inl rfl)) pgs_nil)))))
 (pss_one (ps_ret (pe_callTy call_tuple_of (by rfl) T.n_tuple (by decide +kernel) (pa_cons (pe_lc (own := [("made", 6)]) (by rfl) sc_noises_of_step.nd (pi_tup (pe_tup (pa_cons (pv 5) (pa_cons (C8.pe_c c_floor_noise hr (by decide) rfl (pa_cons (pv 0) (pa_cons (pv 2) pa_nil))) pa_nil)))) (blkOk_by (N := N_noises_of_step) (sc := defScope s_noises_of_step) (by decide +kernel)) (fun _ _ _ _ _ => (pg_name (i := 6) sc_noises_of_step.nd rfl (Or.inl rfl))) (fun _ _ _ _ _ => (pts_one (pt_cmpR op_notN (pv 6) pe_non (by first | exact nomark _ | rfl)))) (fun _ _ _ _ _ => (pv 6))) pa_nil))))), ?_⟩
    refine ⟨_, rfl, p, _, dx, _, _, rfl, hp, T.cls_House, T.a_doors, rfl, _, rfl, a, _, n, _, rfl, rfl, ha, at_, t, _, rfl, ht, rfl, _, _, rfl, _, _, rfl, _, _, rfl, rfl, ?_⟩
    refine ⟨_, rfl, _, rfl, _, rfl, p, h, r, rfl, hh, by show 2 ≤ sizeLine; decide, fun u nu => ?_⟩
    have s1 : Same H (upd H u (.tup [nzV d.2.2, soV ((sortF h.floors).lookup r)])) := Same.new nu
    have hu1 : SqT K (upd H u (.tup [nzV d.2.2, soV ((sortF h.floors).lookup r)])) u [nzV d.2.2, soV ((sortF h.floors).lookup r)] := SqT.of upd_same
    generalize upd H u (.tup [nzV d.2.2, soV ((sortF h.floors).lookup r)]) = H1 at s1 hu1 ⊢
    refine ⟨u, rfl, ⟨_, hu1⟩, fun D nD => lc_tup (K := K) (a := u) (xs := [nzV d.2.2, soV ((sortF h.floors).lookup r)]) (fun i H' => H' = upd H1 D (.lst (([d.2.2, (sortF h.floors).lookup r].take i).filterMap id |>.map V.str))) rfl (fun i H' _ q => by rw [q]; exact SqT.keep (Same.tk (Same.new nD)) hu1) ?_ ?_⟩
    · rintro i x H' hx rfl
      obtain ⟨y, hy, rfl⟩ : ∃ y, [d.2.2, (sortF h.floors).lookup r][i]? = some y ∧ x = soV y := by
        match i, hx with
        | 0, hx => exact ⟨d.2.2, rfl, by rw [← nzV_soV]; simpa using hx.symm⟩
        | 1, hx => exact ⟨_, rfl, by simpa using hx.symm⟩
        | (i + 2), hx => simp at hx
      refine ⟨rfl, _, rfl, rfl, _, rfl, ?_⟩
      have nx : ([d.2.2, (sortF h.floors).lookup r].take (i + 1)).filterMap id = ([d.2.2, (sortF h.floors).lookup r].take i).filterMap id ++ y.toList := by
        rw [List.take_add_one, hy, List.filterMap_append]
        cases y <;> simp
      cases y with
      | none =>
        refine iteF ?_
        show upd H1 D _ = upd H1 D _
        rw [nx]
        simp
      | some y =>
        refine iteT ⟨_, rfl, _, upd_same, ?_, ?_⟩
        · rw [List.length_map]
          refine Nat.lt_of_le_of_lt (List.length_filterMap_le _ _) ?_
          rw [List.length_take]
          show min i 2 < sizeLine
          omega
        · rw [upd_upd]
          show upd H1 D _ = upd H1 D _
          rw [nx, List.map_append]
          rfl
    · rintro H' rfl
      have e : ([d.2.2, (sortF h.floors).lookup r].take [nzV d.2.2, soV ((sortF h.floors).lookup r)].length).filterMap id = nzStep h d r := by
        show ([d.2.2, (sortF h.floors).lookup r].take 2).filterMap id = _
        unfold nzStep
        cases d.2.2 <;> cases (sortF h.floors).lookup r <;> rfl
      rw [e]
      have s2 : Same H1 (upd H1 D (.lst ((nzStep h d r).map V.str))) := Same.new nD
      exact ⟨D, _, rfl, .inl ⟨SqL.of upd_same, fun v nv => k _ v ((s1.trans s2).trans (Same.new nv)) ((s1.trans s2).free nv) (SqT.of upd_same)⟩⟩
def spHeardAll (K : PySem.W.Frag) (C : Addr) : Sp := fun vs H Q _ => ∃ (p : Addr) (v : V) (t : Addr) (z : Zz) (s : S0) (ns : List Str), vs = [.ref p, v, .ref t] ∧ SlpAt K C H p z ∧ StAt K H v s ∧ SqT K H t (ns.map V.str) ∧ ∀ H' v', Same H H' → StAt K H' v' (rowS z s ns) → Q v' H'
theorem c_heard_all (D : Df K mg "heard_all" s_heard_all) (T : Tx K mg) (c_heard : C8.Cal P w K mg base 3 "heard" (spHeard K (He.ga K "Sleeper")) []) : C8.Cal P w K mg base 4 "heard_all" (spHeardAll K (He.ga K "Sleeper")) [] := by
  refine cal_mk D sc_heard_all bd_heard_all (fun vs H Q E h => ?_) fun f cdv A outer s H vs Q E hr h => ?_
  · obtain ⟨p, v, t, z, s, ns, rfl, _⟩ := h
    rfl
  · obtain ⟨p, v, t, z, s, ns, rfl, hz, hs, ht, k⟩ := h
    refine ⟨_, (pss_cons (ps_set (i := 3) sc_heard_all.nd rfl (Or.inl rfl) (pv 1))
 (pss_cons (ps_for PassesOwn.never rfl (pi_tup (pv 2)) (pg_name (i := 4) sc_heard_all.nd rfl (Or.inl rfl))
 (pss_one (ps_set (i := 3) sc_heard_all.nd rfl (Or.inl rfl) (C8.pe_c c_heard hr (by decide) rfl (pa_cons (pv 0) (pa_cons (pv 3) (pa_cons (pv 4) pa_nil)))))))
 (pss_one (ps_ret (pv 3))))), ?_⟩
    refine ⟨_, rfl, _, rfl, t, rfl, ⟨_, ht⟩, for_tup (K := K) (a := t) (xs := ns.map V.str) (fun i σ H' => Same H H' ∧ ∃ v' v4, σ = [some (.ref p), some v, some (.ref t), some v', v4] ∧ StAt K H' v' (rowS z s (ns.take i)))
      ⟨Same.refl _, v, _, rfl, hs⟩ (fun i σ H' _ q => SqT.keep (Same.tk q.1) ht) ?_ ?_⟩
    · rintro i x σ H' hx ⟨s1, v', v4, rfl, hv⟩
      rw [List.getElem?_map] at hx
      obtain ⟨n, hn, rfl⟩ := Option.map_eq_some_iff.mp hx
      refine ⟨_, rfl, _, rfl, _, rfl, p, v', z, _, n, rfl, hz.same s1, hv, fun H2 v2 s2 hv2 => ⟨s1.trans s2, v2, _, rfl, ?_⟩⟩
      rw [List.take_add_one, hn]
      have e : rowS z s (ns.take i ++ (some n).toList) = hear z (sortOf z n) n (rowS z s (ns.take i)) := by simp [rowS]
      rw [e]
      exact hv2
    · rintro σ H' ⟨s1, v', v4, rfl, hv⟩
      rw [List.length_map, List.take_length] at hv
      exact ⟨_, rfl, k H' v' s1 hv⟩
end
end Lw
set_option Elab.async false
set_option linter.all false
set_option maxRecDepth 100000
set_option maxHeartbeats 8000000
namespace Lw
open PySem PySem.Spec PyProof.Rows L2 Hb
/-! ### steps and standings -/
theorem flat_ints (ns : List Int) : (ns.map V.int).all flatV = true := by
  induction ns with
  | nil => rfl
  | cons n ns ih => rw [List.map_cons, List.all_cons, ih]; rfl
theorem inV_ints (y : Int) : ∀ xs : List Int, inV (.int y) (xs.map V.int) = decide (y ∈ xs)
  | [] => by simp [inV]
  | x :: xs => by
    have ih := inV_ints y xs
    unfold inV at ih ⊢
    rw [List.map_cons, List.any_cons, ih]
    by_cases e : x = y
    · subst e
      simp [eqV]
    · have e2 : ¬ y = x := fun z => e z.symm
      simp [eqV, e, e2]
structure Stp where
  n : Int
  le : Int
  ri : Int
  ns : List Str
def encT (s : Stp) : PyData := .tuple [.int s.n, .int s.le, .int s.ri, .tuple (s.ns.map PyData.str)]
def stepsAt (h : Hz) (n : Nat) (d : Dr) : List Stp := [⟨n, d.1, d.2.1, nzStep h d d.2.1⟩, ⟨n, d.2.1, d.1, nzStep h d d.1⟩]
def stepsTo (h : Hz) (m : Nat) : List Stp := ((h.doors.take m).zipIdx.map fun p => stepsAt h p.2 p.1).flatten
def allSteps (h : Hz) : List Stp := stepsTo h h.doors.length
theorem steps_next {h : Hz} {i : Nat} {d : Dr} (e : h.doors[i]? = some d) : stepsTo h (i + 1) = stepsTo h i ++ stepsAt h i d := by
  unfold stepsTo
  rw [List.take_add_one, e]
  have l : (h.doors.take i).length = i := by
    obtain ⟨q, _⟩ := List.getElem?_eq_some_iff.mp e
    rw [List.length_take]
    omega
  rw [show (some d).toList = [d] from rfl, List.zipIdx_append, List.map_append, List.flatten_append, l]
  simp [List.zipIdx]
structure Sg where
  st : S0
  be : List Int
  no : List Int
  deriving DecidableEq
def encG (g : Sg) : PyData := .tuple [.tuple g.st.ds, .tuple (g.be.map PyData.int), .tuple (g.no.map PyData.int)]
def withR (lot : List Int) (r : Int) : List Int := if r ∈ lot then lot else sortI (lot ++ [r])
def bStep (z : Zz) (g : Sg) (s : Stp) : Option Sg := if s.le ∈ g.be then (if rowS z g.st s.ns = .wok then none else some ⟨rowS z g.st s.ns, g.be, withR g.no s.ri⟩) else none
def bTick (z : Zz) (g : Sg) : Option Sg := if tick z g.st = .wok then none else some ⟨tick z g.st, g.no, g.no⟩
def spAllSteps (K : PySem.W.Frag) (C : Addr) : Sp := fun vs H Q _ => ∃ (p : Addr) (h : Hz), vs = [.ref p] ∧ HAt K C H p h ∧ h.doors.length ≤ 1000 ∧ ∀ H' q xs, Same H H' → H q = none → H' q = some (.lst xs) → TDs K H' xs ((allSteps h).map encT) → Q (.ref q) H'
def spBegin (K : PySem.W.Frag) (C : Addr) : Sp := fun vs H Q _ => ∃ (p : Addr) (z : Zz) (f : Str), vs = [.ref p, .str f] ∧ SlpAt K C H p z ∧ ∀ H' q, Same H H' → TD K H' (.ref q) (encG ⟨firstS z f, [0], [0]⟩) → Q (.ref q) H'
def spWithRoom (K : PySem.W.Frag) : Sp := fun vs H Q _ => ∃ (p : Addr) (lot : List Int) (r : Int), vs = [.ref p, .int r] ∧ SqT K H p (lot.map V.int) ∧ lot.length ≤ 1000 ∧ ∀ H' q, Same H H' → SqT K H' q ((withR lot r).map V.int) → Q (.ref q) H'
def optG (K : PySem.W.Frag) (H : Hp) (v : V) : Option Sg → Prop
  | none => v = .non
  | some g => ∃ a, v = .ref a ∧ TD K H (.ref a) (encG g)
def spBStep (K : PySem.W.Frag) (C : Addr) : Sp := fun vs H Q _ => ∃ (p gp sp : Addr) (z : Zz) (g : Sg) (s : Stp), vs = [.ref p, .ref gp, .ref sp] ∧ SlpAt K C H p z ∧ TD K H (.ref gp) (encG g) ∧ TD K H (.ref sp) (encT s) ∧ g.no.length ≤ 1000 ∧ g.be.length ≤ 1000 ∧ (rowS z g.st s.ns).ok ∧
  ∀ H' v, Same H H' → optG K H' v (bStep z g s) → Q v H'
def spBTick (K : PySem.W.Frag) (C : Addr) : Sp := fun vs H Q _ => ∃ (p gp : Addr) (z : Zz) (g : Sg), vs = [.ref p, .ref gp] ∧ SlpAt K C H p z ∧ TD K H (.ref gp) (encG g) ∧ (tick z g.st).ok ∧ ∀ H' v, Same H H' → optG K H' v (bTick z g) → Q v H'
theorem TD.sg_inv {K : PySem.W.Frag} {H : Hp} {v : V} {g : Sg} (h : TD K H v (encG g)) : ∃ a sv b n, v = .ref a ∧ SqT K H a [sv, .ref b, .ref n] ∧ StAt K H sv g.st ∧ SqT K H b (g.be.map V.int) ∧ SqT K H n (g.no.map V.int) := by
  obtain ⟨a, xs, rfl, h1, h2⟩ := TD.tup_inv h
  obtain ⟨v1, w1, rfl, a1, h3⟩ := TDs.cons_inv h2
  obtain ⟨v2, w2, rfl, a2, h4⟩ := TDs.cons_inv h3
  obtain ⟨v3, w3, rfl, a3, h5⟩ := TDs.cons_inv h4
  obtain rfl := TDs.nil_inv h5
  obtain ⟨p1, x1, rfl, s1, t1⟩ := TD.tup_inv a1
  obtain ⟨p2, x2, rfl, s2, t2⟩ := TD.tup_inv a2
  obtain ⟨p3, x3, rfl, s3, t3⟩ := TD.tup_inv a3
  obtain rfl := TDs.ints_inv t2
  obtain rfl := TDs.ints_inv t3
  refine ⟨a, .ref p1, p2, p3, rfl, h1, ⟨p1, rfl, ?_⟩, s2, s3⟩
  have e : x1 = g.st.vals := by
    revert t1
    cases g.st <;> (intro t1; simp only [S0.ds] at t1)
    · obtain ⟨u, w, rfl, q, t⟩ := TDs.cons_inv t1; rw [TD.str_inv q, TDs.nil_inv t]; rfl
    · obtain ⟨u, w, rfl, q, t⟩ := TDs.cons_inv t1; obtain ⟨u2, w2, rfl, q2, t⟩ := TDs.cons_inv t; rw [TD.str_inv q, TD.int_inv q2, TDs.nil_inv t]; rfl
    · obtain ⟨u, w, rfl, q, t⟩ := TDs.cons_inv t1; rw [TD.str_inv q, TDs.nil_inv t]; rfl
    · obtain ⟨u, w, rfl, q, t⟩ := TDs.cons_inv t1; obtain ⟨u2, w2, rfl, q2, t⟩ := TDs.cons_inv t; obtain ⟨u3, w3, rfl, q3, t⟩ := TDs.cons_inv t; rw [TD.str_inv q, TD.str_inv q2, TD.int_inv q3, TDs.nil_inv t]; rfl
    · obtain ⟨u, w, rfl, q, t⟩ := TDs.cons_inv t1; obtain ⟨u2, w2, rfl, q2, t⟩ := TDs.cons_inv t; rw [TD.str_inv q, TD.int_inv q2, TDs.nil_inv t]; rfl
    · obtain ⟨u, w, rfl, q, t⟩ := TDs.cons_inv t1; rw [TD.str_inv q, TDs.nil_inv t]; rfl
  rw [← e]
  exact s1
theorem TD.sg {K : PySem.W.Frag} {H : Hp} {a b n : Addr} {sv : V} {g : Sg} (h : SqT K H a [sv, .ref b, .ref n]) (hs : StAt K H sv g.st) (hb : SqT K H b (g.be.map V.int)) (hn : SqT K H n (g.no.map V.int)) : TD K H (.ref a) (encG g) :=
  .tup h (.cons hs.td (.cons (.tup hb (tds_ints _)) (.cons (.tup hn (tds_ints _)) .nil)))
theorem TD.stp_inv {K : PySem.W.Frag} {H : Hp} {v : V} {s : Stp} (h : TD K H v (encT s)) : ∃ a t, v = .ref a ∧ SqT K H a [.int s.n, .int s.le, .int s.ri, .ref t] ∧ SqT K H t (s.ns.map V.str) := by
  obtain ⟨a, xs, rfl, h1, h2⟩ := TD.tup_inv h
  obtain ⟨v1, w1, rfl, a1, h3⟩ := TDs.cons_inv h2
  obtain ⟨v2, w2, rfl, a2, h4⟩ := TDs.cons_inv h3
  obtain ⟨v3, w3, rfl, a3, h5⟩ := TDs.cons_inv h4
  obtain ⟨v4, w4, rfl, a4, h6⟩ := TDs.cons_inv h5
  obtain rfl := TDs.nil_inv h6
  obtain rfl := TD.int_inv a1
  obtain rfl := TD.int_inv a2
  obtain rfl := TD.int_inv a3
  obtain ⟨t, ys, rfl, s1, t1⟩ := TD.tup_inv a4
  obtain rfl := TDs.strs_inv t1
  exact ⟨a, t, rfl, h1, s1⟩
section
variable {P : Program} {w : World} {K : PySem.W.Frag} {mg : Str → Option Value} {base : Heap}
theorem c_begin (D : Df K mg "begin" s_begin) (T : Tx K mg) (c_first_state : C8.Cal P w K mg base 2 "first_state" (spFirst K (He.ga K "Sleeper")) []) : C8.Cal P w K mg base 3 "begin" (spBegin K (He.ga K "Sleeper")) [] := by
  refine cal_mk D sc_begin bd_begin (fun vs H Q E h => ?_) fun f cdv A outer s H vs Q E hr h => ?_
  · obtain ⟨p, z, f, rfl, _⟩ := h
    rfl
  · obtain ⟨p, z, fi, rfl, hz, k⟩ := h
    refine ⟨_, (pss_one (ps_ret (pe_tup (pa_cons (C8.pe_c c_first_state hr (by decide) rfl (pa_cons (pv 0) (pa_cons (pv 1) pa_nil))) (pa_cons (pe_tup (pa_cons pe_int pa_nil)) (pa_cons (pe_tup (pa_cons pe_int pa_nil)) pa_nil)))))), ?_⟩
    refine ⟨_, rfl, _, rfl, p, z, fi, rfl, hz, fun H1 v s1 hv => ⟨by show 1 ≤ sizeLine; decide, fun a na => ⟨by show 1 ≤ sizeLine; decide, fun b nb => ⟨by show 3 ≤ sizeLine; decide, fun c nc => ?_⟩⟩⟩⟩
    have s2 : Same H1 (upd H1 a (.tup [.int 0])) := Same.new na
    have s3 := Same.new nb (o := .tup [.int 0])
    have s4 := Same.new nc (o := .tup [v, .ref a, .ref b])
    have ha : SqT K (upd H1 a (.tup [.int 0])) a (([0] : List Int).map V.int) := SqT.of upd_same
    have hb : SqT K (upd (upd H1 a (.tup [.int 0])) b (.tup [.int 0])) b (([0] : List Int).map V.int) := SqT.of upd_same
    exact k _ c (((s1.trans s2).trans s3).trans s4) (TD.sg (g := ⟨firstS z fi, [0], [0]⟩) (SqT.of upd_same) (hv.keep (Same.tk ((s2.trans s3).trans s4))) (SqT.keep (Same.tk (s3.trans s4)) ha) (SqT.keep (Same.tk s4) hb))
theorem c_with_room (D : Df K mg "with_room" s_with_room) (T : Tx K mg) : C8.Cal P w K mg base 1 "with_room" (spWithRoom K) [] := by
  refine cal_mk D sc_with_room bd_with_room (fun vs H Q E h => ?_) fun f cdv A outer s H vs Q E hr h => ?_
  · obtain ⟨p, lot, r, rfl, _⟩ := h
    rfl
  · obtain ⟨p, lot, r, rfl, hp, few, k⟩ := h
    have line := sizeLine_eq
    refine ⟨_, (pss_one (ps_ret (pe_ifExp (pt_cmpR op_in_seq (pv 1) (pv 0) (by first | exact nomark _ | rfl)) (pv 0) (pe_callTy call_tuple_of (by rfl) T.n_tuple (by decide +kernel) (pa_cons (pe_callB (cr_sortedAny PyData.int hr.units) (by rfl) T.n_sorted (by decide +kernel) (pa_cons (pe_op op_catA (pv 0) (pe_tup (pa_cons (pv 1) pa_nil))) pa_nil)) pa_nil))))), ?_⟩
    have fin : ∀ (H1 : Hp) (q : Addr), Same H H1 → SqT K H1 q ((lot ++ [r]).map V.int) → r ∉ lot → rSortedAny K PyData.int [.ref q] H1 fun v H2 => ∃ a xs, v = .ref a ∧ (SqL K H2 a xs ∨ SqT K H2 a xs) ∧ xs = (sortI (lot ++ [r])).map V.int ∧ Same H H2 := by
      intro H1 q s1 hq nr
      have tdc : TDs K H1 ((lot ++ [r]).map V.int) ((lot ++ [r]).map PyData.int) := tds_ints _
      have zc := zip_tdE tdc
      have lenc : ((lot ++ [r]).map V.int).length = (lot ++ [r]).length := List.length_map _
      refine ⟨q, ((lot ++ [r]).map V.int).zip (lot ++ [r]), rfl, by rw [zip_fst lenc]; exact .inr hq, fun y hy => TD.dp (zc y hy), PySem.W.AllAlike.of (fun b b' => alike_I b.2 b'.2), PySem.W.Sortable.others (fun b => ⟨(by intro e; cases e), (by intro xs e; cases e)⟩), fun y _ => depth_I y.2, fun p2 np2 => ?_⟩
      generalize hzc : (((lot ++ [r]).map V.int).zip (lot ++ [r])).mergeSort (PySem.W.dataLe false fun y => PyData.int y.2) = cs
      have pc : cs.Perm (((lot ++ [r]).map V.int).zip (lot ++ [r])) := by rw [← hzc]; exact List.mergeSort_perm _ _
      have sndc : cs.map (·.2) = sortI (lot ++ [r]) := by rw [← hzc, sort_zipE, zip_snd lenc]; rfl
      have tdcs : TDs K H1 (cs.map (·.1)) ((sortI (lot ++ [r])).map PyData.int) := by
        rw [← sndc]
        exact tdE_zip fun y hy => zc y (pc.mem_iff.mp hy)
      have ec := TDs.ints_inv tdcs
      rw [ec]
      exact ⟨p2, _, rfl, .inl (SqL.of upd_same), rfl, s1.trans (Same.new np2)⟩
    refine ⟨_, rfl, _, rfl, p, _, rfl, .inr hp, rfl, flat_ints _, _, rfl, ?_⟩
    dsimp only
    rw [inV_ints]
    by_cases e1 : r ∈ lot
    · rw [decide_eq_true e1]
      refine iteT ⟨_, rfl, k H p (Same.refl _) ?_⟩
      unfold withR
      rw [if_pos e1]
      exact hp
    · rw [decide_eq_false e1]
      refine iteF ?_
      refine ⟨_, rfl, _, rfl, by show 1 ≤ sizeLine; decide, fun u nu => ?_⟩
      have su : Same H (upd H u (.tup [.int r])) := Same.new nu
      have hu1 : SqT K (upd H u (.tup [.int r])) u [.int r] := SqT.of upd_same
      have hp1 := SqT.keep (Same.tk su) hp
      generalize upd H u (.tup [.int r]) = H1 at su hu1 hp1 ⊢
      have last : ∀ (H2 : Hp) (q : Addr), Same H H2 → SqT K H2 q ((lot ++ [r]).map V.int) → rSortedAny K PyData.int [.ref q] H2 fun v H3 => ∃ p ys, [v] = [V.ref p] ∧ ((SqL K H3 p ys ∧ ∀ l, H3 l = none → Q (.ref l) (upd H3 l (.tup ys))) ∨ SqT K H3 p ys ∧ Q (.ref p) H3) := by
        intro H2 q s2 hq
        obtain ⟨a, zs, x1, x2, x3, x4, x5, x6, x7⟩ := fin H2 q s2 hq e1
        refine ⟨a, zs, x1, x2, x3, x4, x5, x6, fun p np => ?_⟩
        obtain ⟨a', xs, y1, y2, y3, y4⟩ := x7 p np
        cases y1
        refine ⟨p, xs, rfl, ?_⟩
        rcases y2 with y2 | y2
        · refine .inl ⟨y2, fun l nl => ?_⟩
          refine k _ l (y4.trans (Same.new nl)) ?_
          unfold withR
          rw [if_neg e1, ← y3]
          exact SqT.of upd_same
        · refine .inr ⟨y2, k _ p y4 ?_⟩
          unfold withR
          rw [if_neg e1, ← y3]
          exact y2
      refine ⟨p, u, _, _, rfl, rfl, hp1, hu1, by show (lot.map V.int).length + 1 ≤ sizeLine; rw [List.length_map]; omega, fun e0 => ?_, fun _ e1 => (nomatch e1), fun _ _ q nq => ?_⟩
      · refine last H1 u su ?_
        rw [List.map_eq_nil_iff.mp e0]
        exact hu1
      · refine last _ q (su.trans (Same.new nq)) ?_
        rw [List.map_append]
        exact SqT.of upd_same
theorem c_behind_tick (D : Df K mg "behind_tick" s_behind_tick) (T : Tx K mg) (c_ticked : C8.Cal P w K mg base 1 "ticked" (spSt K (He.ga K "Sleeper") tick) []) : C8.Cal P w K mg base 2 "behind_tick" (spBTick K (He.ga K "Sleeper")) [] := by
  refine cal_mk D sc_behind_tick bd_behind_tick (fun vs H Q E h => ?_) fun f cdv A outer s H vs Q E hr h => ?_
  · obtain ⟨p, gp, z, g, rfl, _⟩ := h
    rfl
  · obtain ⟨p, gp, z, g, rfl, hz, hg, sok, k⟩ := h
    obtain ⟨a, sv, b, n, e, h1, h2, h3, h4⟩ := TD.sg_inv hg
    cases e
    refine ⟨_, (pss_cons (ps_asg (pv 1) (pg_tup (by rfl) (pgs_cons (pg_name (i := 2) sc_behind_tick.nd rfl (Or.inl rfl)) (pgs_cons (pg_name (i := 3) sc_behind_tick.nd rfl (Or.inl rfl)) (pgs_cons (pg_name (i := 4) sc_behind_tick.nd rfl (Or.inl rfl)) pgs_nil)))))
 (pss_cons (ps_set (i := 5) sc_behind_tick.nd rfl (Or.inl rfl) (C8.pe_c c_ticked hr (by decide) rfl (pa_cons (pv 0) (pa_cons (pv 2) pa_nil))))
 (pss_one (ps_ret (pe_ifExp (pt_cmpR (op_eqD hr.units) (pv 5) (pe_glob (v := .ref _) rfl T.g_WOKEN rfl) (by first | exact nomark _ | rfl)) pe_non (pe_tup (pa_cons (pv 5) (pa_cons (pv 4) (pa_cons (pv 4) pa_nil))))))))), ?_⟩
    refine ⟨_, rfl, gp, _, rfl, h1, rfl, _, _, rfl, _, _, rfl, _, _, rfl, rfl, ?_⟩
    refine ⟨_, rfl, _, rfl, p, sv, z, g.st, rfl, hz, h2, fun H1 v s1 hv => ?_⟩
    have hw : StAt K H1 (.ref (He.ga K "WOKEN")) .wok := ⟨_, rfl, T.t_WOKEN _⟩
    refine ⟨_, rfl, _, _, TD.dp hv.td, TD.dp hw.td, (S0.shp sok).shaped, (S0.shp (s := .wok) trivial).shaped, _, rfl, ?_⟩
    rw [eqv_st]
    by_cases e : tick z g.st = .wok
    · rw [decide_eq_true e]
      refine iteT (k H1 _ s1 ?_)
      unfold bTick
      rw [if_pos e]
      rfl
    · rw [decide_eq_false e]
      refine iteF ⟨_, rfl, _, rfl, _, rfl, by show 3 ≤ sizeLine; decide, fun t nt => ?_⟩
      have s2 : Same H1 (upd H1 t (.tup [v, .ref n, .ref n])) := Same.new nt
      refine k _ _ (s1.trans s2) ?_
      unfold bTick
      rw [if_neg e]
      have h5 := SqT.keep (Same.tk (s1.trans s2)) h4
      exact ⟨t, rfl, TD.sg (g := ⟨tick z g.st, g.no, g.no⟩) (SqT.of upd_same) (hv.keep (Same.tk s2)) h5 h5⟩
theorem c_behind_step (D : Df K mg "behind_step" s_behind_step) (T : Tx K mg) (c_heard_all : C8.Cal P w K mg base 4 "heard_all" (spHeardAll K (He.ga K "Sleeper")) []) (c_with_room : C8.Cal P w K mg base 1 "with_room" (spWithRoom K) []) : C8.Cal P w K mg base 5 "behind_step" (spBStep K (He.ga K "Sleeper")) [] := by
  refine cal_mk D sc_behind_step bd_behind_step (fun vs H Q E h => ?_) fun f cdv A outer s H vs Q E hr h => ?_
  · obtain ⟨p, gp, sp, z, g, s, rfl, _⟩ := h
    rfl
  · obtain ⟨p, gp, sp, z, g, st, rfl, hz, hg, hs, few, fewb, sok, k⟩ := h
    obtain ⟨a, sv, b, n, e, h1, h2, h3, h4⟩ := TD.sg_inv hg
    cases e
    obtain ⟨a, t, e, g1, g2⟩ := TD.stp_inv hs
    cases e
    refine ⟨_, (pss_cons (ps_asg (pv 1) (pg_tup (by rfl) (pgs_cons (pg_name (i := 3) sc_behind_step.nd rfl (Or.inl rfl)) (pgs_cons (pg_name (i := 4) sc_behind_step.nd rfl (Or.inl rfl)) (pgs_cons (pg_name (i := 5) sc_behind_step.nd rfl (Or.inl rfl)) pgs_nil)))))
 (pss_cons (ps_asg (pv 2) (pg_tup (by rfl) (pgs_cons (pg_name (i := 6) sc_behind_step.nd rfl (Or.inl rfl)) (pgs_cons (pg_name (i := 7) sc_behind_step.nd rfl (Or.inl rfl)) (pgs_cons (pg_name (i := 8) sc_behind_step.nd rfl (Or.inl rfl)) (pgs_cons (pg_name (i := 9) sc_behind_step.nd rfl (Or.inl rfl)) pgs_nil))))))
 (pss_cons (ps_if (pt_cmpR op_notIn_seq (pv 7) (pv 4) (by first | exact nomark _ | rfl))
 (pss_one (ps_ret pe_non))
 pss_nil)
 (pss_cons (ps_set (i := 10) sc_behind_step.nd rfl (Or.inl rfl) (C8.pe_c c_heard_all hr (by decide) rfl (pa_cons (pv 0) (pa_cons (pv 3) (pa_cons (pv 9) pa_nil)))))
 (pss_one (ps_ret (pe_ifExp (pt_cmpR (op_eqD hr.units) (pv 10) (pe_glob (v := .ref _) rfl T.g_WOKEN rfl) (by first | exact nomark _ | rfl)) pe_non (pe_tup (pa_cons (pv 10) (pa_cons (pv 4) (pa_cons (C8.pe_c c_with_room hr (by decide) rfl (pa_cons (pv 5) (pa_cons (pv 8) pa_nil))) pa_nil))))))))))), ?_⟩
    refine ⟨_, rfl, gp, _, rfl, h1, rfl, _, _, rfl, _, _, rfl, _, _, rfl, rfl, ?_⟩
    refine ⟨_, rfl, sp, _, rfl, g1, rfl, _, _, rfl, _, _, rfl, _, _, rfl, _, _, rfl, rfl, ?_⟩
    refine ⟨_, rfl, _, rfl, b, _, rfl, .inr h3, rfl, flat_ints _, _, rfl, ?_⟩
    rw [if_pos rfl, inV_ints]
    by_cases e1 : st.le ∈ g.be
    · rw [decide_eq_true e1]
      refine iteF ⟨_, rfl, _, rfl, _, rfl, p, sv, t, z, g.st, st.ns, rfl, hz, h2, g2, fun H1 v s1 hv => ?_⟩
      have hw : StAt K H1 (.ref (He.ga K "WOKEN")) .wok := ⟨_, rfl, T.t_WOKEN _⟩
      refine ⟨_, rfl, _, _, TD.dp hv.td, TD.dp hw.td, (S0.shp sok).shaped, (S0.shp (s := .wok) trivial).shaped, _, rfl, ?_⟩
      rw [eqv_st]
      by_cases e2 : rowS z g.st st.ns = .wok
      · rw [decide_eq_true e2]
        refine iteT (k H1 _ s1 ?_)
        unfold bStep
        rw [if_pos e1, if_pos e2]
        rfl
      · rw [decide_eq_false e2]
        refine iteF ⟨_, rfl, _, rfl, _, rfl, _, rfl, n, g.no, st.ri, rfl, SqT.keep (Same.tk s1) h4, few, fun H2 q s2 hq => ⟨by show 3 ≤ sizeLine; decide, fun u nu => ?_⟩⟩
        have s3 : Same H2 (upd H2 u (.tup [v, .ref b, .ref q])) := Same.new nu
        refine k _ _ ((s1.trans s2).trans s3) ?_
        unfold bStep
        rw [if_pos e1, if_neg e2]
        exact ⟨u, rfl, TD.sg (g := ⟨rowS z g.st st.ns, g.be, withR g.no st.ri⟩) (SqT.of upd_same) (hv.keep (Same.tk (s2.trans s3))) (SqT.keep (Same.tk ((s1.trans s2).trans s3)) h3) (SqT.keep (Same.tk s3) hq)⟩
    · rw [decide_eq_false e1]
      refine iteT (k H _ (Same.refl _) ?_)
      unfold bStep
      rw [if_neg e1]
      rfl
theorem c_all_steps (D : Df K mg "all_steps" s_all_steps) (T : Tx K mg) (c_noises_of_step : C8.Cal P w K mg base 2 "noises_of_step" (spNoises K (He.ga K "House")) []) : C8.Cal P w K mg base 3 "all_steps" (spAllSteps K (He.ga K "House")) [] := by
  refine cal_mk D sc_all_steps bd_all_steps (fun vs H Q E h => ?_) fun f cdv A outer s H vs Q E hr h => ?_
  · obtain ⟨p, h, rfl, _⟩ := h
    rfl
  · obtain ⟨p, h, rfl, hh, few, k⟩ := h
    obtain ⟨dx, a, b, c, xs, ys, hp, ha, td, hrest⟩ := id hh
    have line := sizeLine_eq
    have len : xs.length = h.doors.length := by rw [td.length, List.length_map]
    have cat : ∀ {H' : Hp} {q : Addr} {o : HO}, Same H H' → H q = none → Same H (upd H' q o) := fun {H' q o} s n b o' e => by rw [upd_ne (ne_of_none e n)]; exact s _ _ e
    have push : ∀ {H1 : Hp} {q u t : Addr} {zs : List V} {ss : List Stp} {s : Stp}, Same H H1 → H q = none → H1 q = some (.lst zs) → TDs K H1 zs (ss.map encT) → H1 u = none → SqT K H1 t (s.ns.map V.str) →
        let H2 := upd (upd H1 u (.tup [.int s.n, .int s.le, .int s.ri, .ref t])) q (.lst (zs ++ [.ref u]))
        Same H H2 ∧ H2 q = some (.lst (zs ++ [.ref u])) ∧ TDs K H2 (zs ++ [.ref u]) ((ss ++ [s]).map encT) := by
      intro H1 q u t zs ss s s1 nq hq tz nu ht
      have su : Same H1 (upd H1 u (.tup [.int s.n, .int s.le, .int s.ri, .ref t])) := Same.new nu
      have tk := tk_acc (su _ _ hq) (ys := zs ++ [.ref u])
      refine ⟨cat (s1.trans su) nq, upd_same, ?_⟩
      rw [List.map_append]
      refine TDs.keep tk (TDs.app (TDs.keep (Same.tk su) tz) (.cons (.tup (SqT.of upd_same) (.cons (.int _) (.cons (.int _) (.cons (.int _) (.cons (.tup (SqT.keep (Same.tk su) ht) (tds_strs _)) .nil))))) .nil))
    refine ⟨_, (pss_cons (ps_set (i := 1) sc_all_steps.nd rfl (Or.inl rfl) (pe_lst pa_nil))
 (pss_cons (ps_for PassesOwn.never rfl (pi_enumT (by rfl) T.n_enumerate (pa_cons (pe_fld (pv 0) rfl) pa_nil)) (pg_tup (by rfl) (pgs_cons (pg_name (i := 2) sc_all_steps.nd rfl (Or.inl rfl)) (pgs_cons (pg_tup (by rfl) (pgs_cons (pg_name (i := 3) sc_all_steps.nd rfl (Or.inl rfl)) (pgs_cons (pg_name (i := 4) sc_all_steps.nd rfl (Or.inl rfl)) (pgs_cons (pg_name (i := 5) sc_all_steps.nd rfl (Or.inl rfl)) pgs_nil)))) pgs_nil)))
 (pss_cons (ps_expr (pe_bm PySem.F.plainAttrs_list PySem.F.slot_list_append PySem.F.type_list_append mt_append (pv 1) (pa_cons (pe_tup (pa_cons (pv 2) (pa_cons (pv 3) (pa_cons (pv 4) (pa_cons (C8.pe_c c_noises_of_step hr (by decide) rfl (pa_cons (pv 0) (pa_cons (pv 2) (pa_cons (pv 4) pa_nil)))) pa_nil))))) pa_nil)))
 (pss_one (ps_expr (pe_bm PySem.F.plainAttrs_list PySem.F.slot_list_append PySem.F.type_list_append mt_append (pv 1) (pa_cons (pe_tup (pa_cons (pv 2) (pa_cons (pv 4) (pa_cons (pv 3) (pa_cons (C8.pe_c c_noises_of_step hr (by decide) rfl (pa_cons (pv 0) (pa_cons (pv 2) (pa_cons (pv 3) pa_nil)))) pa_nil))))) pa_nil))))))
 (pss_one (ps_ret (pv 1))))), ?_⟩
    refine ⟨by show 0 ≤ sizeLine; decide, fun q nq => ?_⟩
    have s0 : Same H (upd H q (.lst [])) := Same.new nq
    refine ⟨_, rfl, p, _, dx, _, _, rfl, s0 _ _ hp, T.cls_House, T.a_doors, rfl, a, _, rfl, SqT.keep (Same.tk s0) ha, for_it walk_enumT (fun i σ H' => (∃ v2 v3 v4 v5, σ = [some (.ref p), some (.ref q), v2, v3, v4, v5]) ∧ Same H H' ∧ ∃ zs, H' q = some (.lst zs) ∧ TDs K H' zs ((stepsTo h i).map encT) ∧ zs.length = 2 * i)
      ⟨⟨_, _, _, _, rfl⟩, s0, [], upd_same, .nil, rfl⟩ (fun i σ H' _ q => SqT.keep (Same.tk q.2.1) ha) ?_ ?_⟩
    · rintro i v σ H2 H3 hi ⟨⟨v2, v3, v4, v5, rfl⟩, s2, zs, hq, tz, zl⟩ ⟨Tp, u1, u2, rfl, nT, rfl, e1, e2⟩
      injection e1 with e1
      subst e1
      replace e2 : xs[i]? = some u2 := e2
      obtain ⟨d, hd, tdd⟩ := TDs.at_map (TDs.keep (Same.tk s2) td) e2
      obtain ⟨dt, rfl, hdt⟩ := TD.door_inv tdd
      have s3 : Same H2 (upd H2 Tp (.tup [.int (i : Nat), .ref dt])) := Same.new nT
      refine ⟨Tp, _, rfl, SqT.of upd_same, rfl, _, _, rfl, ?_⟩
      have hq3 := s3 _ _ hq
      have tz3 := TDs.keep (Same.tk s3) tz
      have hdt3 := SqT.keep (Same.tk s3) hdt
      have s23 := s2.trans s3
      generalize upd H2 Tp (.tup [.int (i : Nat), .ref dt]) = H3 at hq3 tz3 hdt3 s23 ⊢
      refine ⟨_, _, rfl, dt, _, rfl, hdt3, rfl, _, _, rfl, _, _, rfl, _, _, rfl, rfl, rfl, ?_⟩
      have hd0 : h.doors[((i : Nat) : Int).toNat]? = some d := by rw [Int.toNat_natCast]; exact hd
      refine ⟨_, rfl, .inl ⟨rfl, _, SqL.of hq3⟩, _, rfl, _, rfl, _, rfl, _, rfl, _, rfl, _, rfl, p, h, (i : Nat), d.2.1, d, rfl, hh.same s23, by omega, hd0, fun H4 t4 s4 n4 ht4 => ⟨by show 4 ≤ sizeLine; decide, fun u4 nu4 => ?_⟩⟩
      obtain ⟨s5, hq5, tz5⟩ := push (s := ⟨(i : Nat), d.1, d.2.1, nzStep h d d.2.1⟩) (s23.trans s4) nq (s4 _ _ hq3) (TDs.keep (Same.tk s4) tz3) nu4 ht4
      refine ⟨q, _, _, rfl, rfl, Same.new nu4 _ _ (s4 _ _ hq3), by omega, ?_⟩
      generalize upd (upd H4 u4 (.tup [.int (i : Nat), .int d.1, .int d.2.1, .ref t4])) q (.lst (zs ++ [.ref u4])) = H5 at s5 hq5 tz5 ⊢
      refine ⟨_, rfl, .inl ⟨rfl, _, SqL.of hq5⟩, _, rfl, _, rfl, _, rfl, _, rfl, _, rfl, _, rfl, p, h, (i : Nat), d.1, d, rfl, hh.same s5, by omega, hd0, fun H6 t6 s6 n6 ht6 => ⟨by show 4 ≤ sizeLine; decide, fun u6 nu6 => ?_⟩⟩
      obtain ⟨s7, hq7, tz7⟩ := push (s := ⟨(i : Nat), d.2.1, d.1, nzStep h d d.1⟩) (s5.trans s6) nq (s6 _ _ hq5) (TDs.keep (Same.tk s6) tz5) nu6 ht6
      refine ⟨q, _, _, rfl, rfl, Same.new nu6 _ _ (s6 _ _ hq5), by rw [List.length_append]; show zs.length + 1 < sizeLine; omega, ?_⟩
      refine ⟨⟨_, _, _, _, rfl⟩, s7, _, hq7, ?_, by simp only [List.length_append, List.length_cons, List.length_nil]; omega⟩
      rw [steps_next hd, show stepsTo h i ++ stepsAt h i d = (stepsTo h i ++ [⟨(i : Nat), d.1, d.2.1, nzStep h d d.2.1⟩]) ++ [⟨(i : Nat), d.2.1, d.1, nzStep h d d.1⟩] by rw [List.append_assoc]; rfl]
      exact tz7
    · rintro σ H2 ⟨⟨v2, v3, v4, v5, rfl⟩, s2, zs, hq, tz, zl⟩
      refine ⟨_, rfl, k H2 q zs s2 nq hq ?_⟩
      rw [len] at tz
      exact tz
end
end Lw
set_option Elab.async false
set_option linter.all false
set_option maxRecDepth 100000
set_option maxHeartbeats 8000000
namespace Lw
open PySem PySem.Spec PyProof.Rows L2 Hb
/-! ### what is found -/
structure En where
  g : Sg
  t : Int
  ah : Option Sg
  sp : Option Stp
def oG : Option Sg → PyData
  | none => .none
  | some g => encG g
def oT : Option Stp → PyData
  | none => .none
  | some s => encT s
def encE (e : En) : PyData := .tuple [.int e.t, oG e.ah, oT e.sp]
theorem nks_map (ds : List PyData) : nks ds = ds.map nk := by
  induction ds with
  | nil => simp [nks]
  | cons d ds ih => simp [nks, ih]
theorem nks_ints {xs ys : List Int} (e : nks (xs.map PyData.int) = nks (ys.map PyData.int)) : xs = ys := by
  induction xs generalizing ys with
  | nil => cases ys with
    | nil => rfl
    | cons y ys => simp [nks] at e
  | cons x xs ih => cases ys with
    | nil => simp [nks] at e
    | cons y ys =>
      simp only [List.map_cons, nks, List.cons.injEq, nk, NestedKey.num.injEq] at e
      rw [e.1, ih e.2]
theorem nks_S0 {a b : S0} (e : nks a.ds = nks b.ds) : a = b := by
  cases a <;> cases b <;> simp only [S0.ds, nks, nk, List.cons.injEq, NestedKey.text.injEq, NestedKey.num.injEq, and_true, reduceCtorEq, and_false] at e <;> first | rfl | (exact absurd e (by decide +kernel)) | (exact absurd e.1 (by decide +kernel)) | (obtain ⟨e1, e2⟩ := e; subst e2; rfl) | (obtain ⟨e1, e2, e3⟩ := e; subst e2 e3; rfl) | (subst e; rfl)
theorem nk_encG {a b : Sg} (e : nk (encG a) = nk (encG b)) : a = b := by
  obtain ⟨s, p, q⟩ := a
  obtain ⟨s', p', q'⟩ := b
  simp only [encG, nk, nks, NestedKey.tup.injEq, List.cons.injEq, and_true] at e
  obtain ⟨e1, e2, e3⟩ := e
  rw [nks_S0 e1, nks_ints e2, nks_ints e3]
theorem depth_ints (xs : List Int) : NestedKey.depthAll (nks (xs.map PyData.int)) ≤ 1 := by
  induction xs with
  | nil => simp [nks, NestedKey.depthAll]
  | cons x xs ih =>
    simp only [List.map_cons, nks, nk, NestedKey.depthAll]
    have : (NestedKey.num x).depth ≤ 1 := by simp [NestedKey.depth]
    omega
theorem depth_ds (s : S0) : NestedKey.depthAll (nks s.ds) ≤ 1 := by
  cases s <;> simp [S0.ds, nks, nk, NestedKey.depthAll, NestedKey.depth]
theorem depth_encG (g : Sg) : (nk (encG g)).depth ≤ 8 := by
  have h1 := depth_ds g.st
  have h2 := depth_ints g.be
  have h3 := depth_ints g.no
  simp only [encG, nk, nks, NestedKey.depth, NestedKey.depthAll]
  omega
def FdAt (P : Program) (w : World) (K : PySem.W.Frag) (H : Hp) (a : Addr) (fd : List En) : Prop := ∃ kvs, DN P w K H a kvs ∧ kvs.map (·.1) = fd.map (fun e => encG e.g) ∧ TDs K H (kvs.map (·.2)) (fd.map encE)
theorem FdAt.keep {P : Program} {w : World} {K : PySem.W.Frag} {H H' : Hp} {a : Addr} {fd : List En} (y : FdAt P w K H a fd) (t : TK H H') (e : ∀ u, H a = some u → H' a = some u) : FdAt P w K H' a fd := by
  obtain ⟨kvs, h1, h2, h3⟩ := y
  exact ⟨kvs, h1.keep t e, h2, TDs.keep t h3⟩
theorem valN_some {kvs : List (PyData × V)} {fd : List En} (g : Sg) (e : kvs.map (·.1) = fd.map (fun e => encG e.g)) : (valN kvs (encG g)).isSome = decide (g ∈ fd.map En.g) := by
  unfold valN
  induction kvs generalizing fd with
  | nil => cases fd with
    | nil => rfl
    | cons x fd => simp at e
  | cons p kvs ih => cases fd with
    | nil => simp at e
    | cons x fd =>
      simp only [List.map_cons, List.cons.injEq] at e
      rw [List.map_cons]
      by_cases q : nk p.1 = nk (encG g)
      · rw [valV_pos q]
        rw [e.1] at q
        rw [← nk_encG q]
        simp
      · rw [valV_neg q, ih e.2, List.map_cons]
        have q2 : ¬ g = x.g := fun z => q (by rw [e.1, z])
        exact decide_eq_decide.mpr ⟨fun z => List.mem_cons_of_mem _ z, fun z => (List.mem_cons.mp z).resolve_left q2⟩
theorem FdAt.o {P : Program} {w : World} {K : PySem.W.Frag} {H : Hp} {a : Addr} {fd : List En} (y : FdAt P w K H a fd) : ∃ o, H a = some (DNO a o) := by
  obtain ⟨kvs, ⟨o, es, ep, xs, h⟩, _⟩ := y
  exact ⟨o, h.h⟩
theorem FdAt.tk {P : Program} {w : World} {K : PySem.W.Frag} {H : Hp} {a : Addr} {fd : List En} {o : HO} (y : FdAt P w K H a fd) : TK H (upd H a o) := by
  obtain ⟨o, e⟩ := y.o
  exact TK.put e (by intro xs e; cases e) (by intro q u e; cases e)
/-- one more is found -/
theorem FdAt.put {P : Program} {w : World} {K : PySem.W.Frag} {H : Hp} {a : Addr} {fd : List En} {kvs : List (PyData × V)} {e : En} {v : V} {o : Obj} (tk : TK H (upd H a (DNO a o))) (h2 : kvs.map (·.1) = fd.map (fun e => encG e.g)) (h3 : TDs K H (kvs.map (·.2)) (fd.map encE)) (hv : TD K H v (encE e)) (new : e.g ∉ fd.map En.g)
    (h : DN P w K (upd H a (DNO a o)) a (putN kvs (encG e.g) v)) : FdAt P w K (upd H a (DNO a o)) a (fd ++ [e]) := by
  have nv : valN kvs (encG e.g) = none := by
    have := valN_some e.g h2
    rw [decide_eq_false new] at this
    exact Option.not_isSome_iff_eq_none.mp (by rw [this]; decide)
  rw [putN_new nv] at h
  refine ⟨_, h, by rw [List.map_append, h2, List.map_append]; rfl, ?_⟩
  rw [List.map_append, List.map_append]
  exact TDs.app (TDs.keep tk h3) (.cons (TD.keep tk hv) .nil)
structure Uni (h : Hz) (z : Zz) (U : List Sg) : Prop where
  few : U.length ≤ 1000000
  st : ∀ g ∈ U, ∀ s ∈ allSteps h, ∀ b, bStep z g s = some b → b ∈ U
  tk : ∀ g ∈ U, ∀ b, bTick z g = some b → b ∈ U
  ok : ∀ g ∈ U, g.be.length ≤ 1000 ∧ g.no.length ≤ 1000 ∧ (tick z g.st).ok ∧ ∀ s ∈ allSteps h, (rowS z g.st s.ns).ok
def visit (t : Int) (g : Sg) (s : Option Stp) (st : List En × List Sg) : Option Sg → List En × List Sg
  | none => st
  | some b => if b ∈ st.1.map En.g then st else (st.1 ++ [⟨b, t, some g, s⟩], st.2 ++ [b])
def visitAll (z : Zz) (t : Int) (g : Sg) (ss : List Stp) (st : List En × List Sg) : List En × List Sg := ss.foldl (fun st s => visit t g (some s) st (bStep z g s)) st
/-- the standings from the i-th on are gone through -/
inductive Spr (z : Zz) (ss : List Stp) (t : Int) : Nat → List En × List Sg → List En × List Sg → Prop
  | done {i : Nat} {st : List En × List Sg} : st.2.length ≤ i → Spr z ss t i st st
  | more {i : Nat} {st r : List En × List Sg} {g : Sg} : st.2[i]? = some g → Spr z ss t (i + 1) (visitAll z t g ss st) r → Spr z ss t i st r
structure StOk (U : List Sg) (st : List En × List Sg) : Prop where
  nd : (st.1.map En.g).Nodup
  fu : ∀ g ∈ st.1.map En.g, g ∈ U
  lu : ∀ g ∈ st.2, g ∈ U
  ll : st.2.length ≤ st.1.length
theorem nodup_le {α : Type} [DecidableEq α] {xs ys : List α} (n : xs.Nodup) (s : ∀ x ∈ xs, x ∈ ys) : xs.length ≤ ys.length := by
  induction xs generalizing ys with
  | nil => exact Nat.zero_le _
  | cons x xs ih =>
    obtain ⟨n1, n2⟩ := List.nodup_cons.mp n
    have h1 := ih (ys := ys.erase x) n2 fun y hy => (List.mem_erase_of_ne (fun e => n1 (by rw [← e]; exact hy))).mpr (s y (List.mem_cons_of_mem _ hy))
    have h2 := List.length_erase_of_mem (s x (List.mem_cons_self ..))
    have h3 := List.length_pos_of_mem (s x (List.mem_cons_self ..))
    rw [List.length_cons]
    omega
theorem StOk.few {U : List Sg} {st : List En × List Sg} (y : StOk U st) : st.1.length ≤ U.length := by
  have := nodup_le y.nd y.fu
  rw [List.length_map] at this
  exact this
theorem StOk.visit {U : List Sg} {st : List En × List Sg} (y : StOk U st) {t : Int} {g : Sg} {s : Option Stp} {b : Option Sg} (hb : ∀ x, b = some x → x ∈ U) : StOk U (Lw.visit t g s st b) := by
  cases b with
  | none => exact y
  | some b =>
    show StOk U (if b ∈ st.1.map En.g then st else (st.1 ++ [⟨b, t, some g, s⟩], st.2 ++ [b]))
    by_cases e : b ∈ st.1.map En.g
    · rw [if_pos e]; exact y
    · rw [if_neg e]
      obtain ⟨a1, a2, a3, a4⟩ := y
      refine ⟨?_, ?_, ?_, by simp only [List.length_append, List.length_cons, List.length_nil]; omega⟩
      · show ((st.1 ++ [_]).map En.g).Nodup
        rw [List.map_append]
        exact List.nodup_append.mpr ⟨a1, by simp, by simpa using fun x hx => fun q => e (by rw [← q]; exact List.mem_map_of_mem hx)⟩
      · intro x hx
        rw [List.map_append] at hx
        rcases List.mem_append.mp hx with q | q
        · exact a2 x q
        · rw [List.mem_singleton.mp q]; exact hb _ rfl
      · intro x hx
        rcases List.mem_append.mp hx with q | q
        · exact a3 x q
        · rw [List.mem_singleton.mp q]; exact hb _ rfl
theorem visitAll_next {z : Zz} {t : Int} {g : Sg} {ss : List Stp} {st : List En × List Sg} {i : Nat} {s : Stp} (e : ss[i]? = some s) : visitAll z t g (ss.take (i + 1)) st = Lw.visit t g (some s) (visitAll z t g (ss.take i) st) (bStep z g s) := by
  unfold visitAll
  rw [List.take_add_one, e]
  simp [List.foldl_append]
theorem StOk.all {h : Hz} {z : Zz} {U : List Sg} (u : Uni h z U) {t : Int} {g : Sg} (hg : g ∈ U) {ss : List Stp} (hs : ∀ s ∈ ss, s ∈ allSteps h) {st : List En × List Sg} (y : StOk U st) : StOk U (visitAll z t g ss st) := by
  unfold visitAll
  induction ss generalizing st with
  | nil => exact y
  | cons s ss ih => exact ih (fun x hx => hs x (List.mem_cons_of_mem _ hx)) (y.visit fun x e => u.st g hg s (hs s (List.mem_cons_self ..)) x e)
theorem StOk.spr {h : Hz} {z : Zz} {U : List Sg} (u : Uni h z U) {t : Int} {i : Nat} {st r : List En × List Sg} (p : Spr z (allSteps h) t i st r) (y : StOk U st) : StOk U r := by
  induction p with
  | done _ => exact y
  | more e _ ih => exact ih (y.all u (y.lu _ (List.mem_of_getElem? e)) fun _ h => h)
def srFs (zm sl fa : Addr) : List (Str × V) := [("own_sleeper", .ref zm), ("steps", .ref sl), ("found", .ref fa)]
structure SrAt (P : Program) (w : World) (K : PySem.W.Frag) (H : Hp) (x dx zm sl fa : Addr) (h : Hz) (z : Zz) (xs : List V) : Prop where
  o : H x = some (.ins (He.ga K "Search") dx (srFs zm sl fa))
  hz : SlpAt K (He.ga K "Sleeper") H zm z
  hs : H sl = some (.lst xs)
  td : TDs K H xs ((allSteps h).map encT)
/-- all but the dict and one list stay -/
def Ko (fa l : Addr) (H H' : Hp) : Prop := ∀ b o, b ≠ fa → b ≠ l → H b = some o → H' b = some o
theorem Ko.tk {P : Program} {w : World} {K : PySem.W.Frag} {H H' : Hp} {fa l : Addr} {fd : List En} {ls : List V} (k : Ko fa l H H') (y : FdAt P w K H fa fd) (hl : H l = some (.lst ls)) : TK H H' := by
  obtain ⟨o, e⟩ := y.o
  refine ⟨fun b xs h => k b _ (fun q => ?_) (fun q => ?_) h, fun b o2 u h => k b _ (fun q => ?_) (fun q => ?_) h⟩
  · rw [q, e] at h; cases h
  · rw [q, hl] at h; cases h
  · rw [q, e] at h; cases h
  · rw [q, hl] at h; cases h
def spSpread (P : Program) (w : World) (K : PySem.W.Frag) : Sp := fun vs H Q _ => ∃ (x dx zm sl fa l : Addr) (h : Hz) (z : Zz) (xs ls : List V) (U : List Sg) (fd : List En) (lay : List Sg) (t : Int), vs = [.ref x, .ref l, .int t] ∧ SrAt P w K H x dx zm sl fa h z xs ∧ FdAt P w K H fa fd ∧ H l = some (.lst ls) ∧ TDs K H ls (lay.map encG) ∧ l ≠ sl ∧ Uni h z U ∧ StOk U (fd, lay) ∧
  ∀ H' fd' lay' ls', Ko fa l H H' → FdAt P w K H' fa fd' → H' l = some (.lst ls') → TDs K H' ls' (lay'.map encG) → Spr z (allSteps h) t 0 (fd, lay) (fd', lay') → Q .non H'
section
variable {P : Program} {w : World} {K : PySem.W.Frag} {mg : Str → Option Value} {base : Heap}
theorem SrAt.ko {H H' : Hp} {x dx zm sl fa l : Addr} {h : Hz} {z : Zz} {xs ls : List V} {fd : List En} (y : SrAt P w K H x dx zm sl fa h z xs) (hf : FdAt P w K H fa fd) (hl : H l = some (.lst ls)) (ne : l ≠ sl) (k : Ko fa l H H') : SrAt P w K H' x dx zm sl fa h z xs := by
  have tk := k.tk hf hl
  obtain ⟨o, e⟩ := hf.o
  have ins : ∀ {b C d : Addr} {fs : List (Str × V)}, H b = some (.ins C d fs) → H' b = some (.ins C d fs) := fun q => k _ _ (fun r => by rw [r, e] at q; cases q) (fun r => by rw [r, hl] at q; cases q) q
  obtain ⟨y1, y2, y3, y4⟩ := y
  refine ⟨ins y1, ?_, k _ _ (fun r => by rw [r, e] at y3; cases y3) (Ne.symm ne) y3, TDs.keep tk y4⟩
  obtain ⟨d1, t1, x1, h1, _⟩ := id y2
  exact y2.keep tk fun o q => by rw [h1] at q; cases q; exact ins h1
theorem Ko.trans {fa l : Addr} {H H1 H2 : Hp} (a : Ko fa l H H1) (b : Ko fa l H1 H2) : Ko fa l H H2 := fun c o n1 n2 e => b c o n1 n2 (a c o n1 n2 e)
theorem Ko.same {fa l : Addr} {H H1 : Hp} (a : Same H H1) : Ko fa l H H1 := fun c o _ _ e => a c o e
theorem Ko.fa {fa l : Addr} {H : Hp} {o : HO} : Ko fa l H (upd H fa o) := fun c o n1 _ e => by rw [upd_ne n1]; exact e
theorem Ko.l {fa l : Addr} {H : Hp} {o : HO} : Ko fa l H (upd H l o) := fun c o _ n2 e => by rw [upd_ne n2]; exact e
theorem FdAt.same {H H' : Hp} {fa : Addr} {fd : List En} (y : FdAt P w K H fa fd) (s : Same H H') : FdAt P w K H' fa fd := y.keep (Same.tk s) fun _ e => s _ _ e
/-- the turns of spread -/
def SpW (P : Program) (w : World) (K : PySem.W.Frag) (x l fa : Addr) (h : Hz) (z : Zz) (U : List Sg) (t : Int) (H : Hp) (fd : List En) (lay : List Sg) (m : Nat) (σ : L2.St) (H' : Hp) : Prop := ∃ (i : Nat) (v4 v5 : Option V) (fd1 : List En) (lay1 : List Sg) (ls1 : List V), σ = [some (.ref x), some (.ref l), some (.int t), some (.int i), v4, v5] ∧ Ko fa l H H' ∧ FdAt P w K H' fa fd1 ∧ H' l = some (.lst ls1) ∧ TDs K H' ls1 (lay1.map encG) ∧ StOk U (fd1, lay1) ∧ i ≤ lay1.length ∧
      (∀ r, Spr z (allSteps h) t i (fd1, lay1) r → Spr z (allSteps h) t 0 (fd, lay) r) ∧ m = (lay1.length - i) + (U.length - fd1.length)
/-- the turns over the steps -/
def SpI (P : Program) (w : World) (K : PySem.W.Frag) (x l fa : Addr) (h : Hz) (z : Zz) (t : Int) (H : Hp) (fd1 : List En) (lay1 : List Sg) (i : Nat) (g : Sg) (j : Nat) (σ : L2.St) (H' : Hp) : Prop := ∃ (v4 v5 : Option V) (fd2 : List En) (lay2 tl : List Sg) (ls2 : List V), σ = [some (.ref x), some (.ref l), some (.int t), some (.int i), v4, v5] ∧ Ko fa l H H' ∧ FdAt P w K H' fa fd2 ∧ H' l = some (.lst ls2) ∧ TDs K H' ls2 (lay2.map encG) ∧
      (fd2, lay2) = visitAll z t g ((allSteps h).take j) (fd1, lay1) ∧ lay2 = lay1 ++ tl ∧ lay2.length + fd1.length = lay1.length + fd2.length
theorem ok_spread {f : Addr} {fd : FuncData} (F : FunD K "spread" "Search.spread" (defArgs s_Search_spread) (defBody s_Search_spread) (defScope s_Search_spread) [] [] f fd) (T : Tx K mg) (c_behind_step : C8.Cal P w K mg base 5 "behind_step" (spBStep K (He.ga K "Sleeper")) []) : FnOk P w K mg base CX0 6 f fd ["self", "layer", "ticks"] (spSpread P w K) := by
  refine F.ok sc_Search_spread (fun vs H Q E h => ?_) fun cdv A outer s H vs Q E hr h => ?_
  · obtain ⟨x, dx, zm, sl, fa, l, h, z, xs, ls, U, fd, lay, t, rfl, _⟩ := h
    rfl
  · obtain ⟨x, dx, zm, sl, fa, l, h, z, xs, ls, U, fd, lay, t, rfl, y, hf, hl, tl, nls, u, ok, k⟩ := h
    have line := sizeLine_eq
    have hu9 : (cxOf CX0 P w K mg base N_Search_spread "Search.spread" (defScope s_Search_spread) f cdv A outer s H E).nox.A.units + 9 < cLine := Nat.lt_of_le_of_lt (Nat.add_le_add_left (by decide) _) hr.units
    suffices go : ∃ t', PSs (cxOf CX0 P w K mg base N_Search_spread "Search.spread" (defScope s_Search_spread) f cdv A outer s H E).nox (defBody s_Search_spread) t' ∧ t' { nx := fun _ H' => Q .non H', rt := Q } (start N_Search_spread [.ref x, .ref l, .int t]) H by
      obtain ⟨t', h1, h2⟩ := go
      exact ⟨t', h1.nox, h2⟩
    refine ⟨_, (pss_cons (ps_set (i := 3) sc_Search_spread.nd rfl (Or.inl rfl) pe_int)
 (pss_one (ps_while PassesOwn.never (pt_cmpR op_lt (pv 3) (pe_callB call_len (by rfl) T.n_len (by decide +kernel) (pa_cons (pv 1) pa_nil)) (by first | exact nomark _ | rfl))
 (pss_cons (ps_for PassesOwn.never rfl (pi_list (pe_fld (pv 0) rfl)) (pg_name (i := 4) sc_Search_spread.nd rfl (Or.inl rfl))
 (pss_cons (ps_set (i := 5) sc_Search_spread.nd rfl (Or.inl rfl) (C8.pe_c c_behind_step hr (by decide) rfl (pa_cons (pe_fld (pv 0) rfl) (pa_cons (pe_ix ix_list (pv 1) (pv 3) (fun _ _ => rfl)) (pa_cons (pv 4) pa_nil)))))
 (pss_one (ps_if (PW.pt (pw_and (pt_cmpR op_notN (pv 5) pe_non (by first | exact nomark _ | rfl)) (pw_and1 (pt_cmp (pc_nnotin hu9 (pv 5) (pe_fld (pv 0) rfl))))))
 (pss_cons (ps_nput hu9 (pe_fld (pv 0) rfl) (pv 5) (pe_tup (pa_cons (pv 2) (pa_cons (pe_ix ix_list (pv 1) (pv 3) (fun _ _ => rfl)) (pa_cons (pv 4) pa_nil)))) rfl)
 (pss_one (ps_expr (pe_bm PySem.F.plainAttrs_list PySem.F.slot_list_append PySem.F.type_list_append mt_append (pv 1) (pa_cons (pv 5) pa_nil)))))
 pss_nil))))
 (pss_one (ps_aug (i := 3) sc_Search_spread.nd rfl (Or.inl rfl) pe_int ip_add)))))), ?_⟩
    refine ⟨SpW P w K x l fa h z U t H fd lay, ⟨_, 0, _, _, fd, lay, ls, rfl, Ko.same (Same.refl H), hf, hl, tl, ok, Nat.zero_le _, fun _ q => q, rfl⟩, ?_⟩
    rintro m σ H1 ⟨i, v4, v5, fd1, lay1, ls1, rfl, ko1, hf1, hl1, tl1, ok1, il, sp1, rfl⟩
    have y1 := y.ko hf hl nls ko1
    have len1 : ls1.length = lay1.length := by rw [tl1.length, List.length_map]
    refine ⟨_, rfl, _, rfl, _, _, rfl, .inl ⟨_, SqL.of hl1, rfl⟩, _, _, rfl, rfl, _, rfl, ?_⟩
    by_cases il2 : i < lay1.length
    · rw [decide_eq_true (show ((i : Nat) : Int) < ((ls1.length : Nat) : Int) by omega)]
      refine iteT ⟨fun σ' H' => ∃ m', m' < (lay1.length - i) + (U.length - fd1.length) ∧ SpW P w K x l fa h z U t H fd lay m' σ' H', fun _ _ q => q, ?_⟩
      obtain ⟨g, hg⟩ : ∃ g, lay1[i]? = some g := ⟨_, List.getElem?_eq_getElem il2⟩
      have gU : g ∈ U := ok1.lu _ (List.mem_of_getElem? hg)
      have lenx : xs.length = (allSteps h).length := by rw [y1.td.length, List.length_map]
      refine ⟨_, rfl, x, _, dx, _, _, rfl, y1.o, T.cls_Search, T.q_steps, rfl, sl, rfl, ⟨_, SqL.of y1.hs⟩, for_list (K := K) (a := sl) (xs := xs) (SpI P w K x l fa h z t H fd1 lay1 i g) ⟨_, _, fd1, lay1, [], ls1, rfl, ko1, hf1, hl1, tl1, rfl, (List.append_nil _).symm, rfl⟩ (fun j σ H' _ q => ?_) ?_ ?_⟩
      · obtain ⟨_, _, _, _, _, _, _, ko2, _⟩ := q
        exact SqL.of (y.ko hf hl nls ko2).hs
      · rintro j v σ H2 hj ⟨v4, v5, fd2, lay2, tl2, ls2, rfl, ko2, hf2, hl2, tl2d, e2, e3, e4⟩
        have y2 := y.ko hf hl nls ko2
        obtain ⟨st, hst, tds⟩ := TDs.at_map y2.td hj
        obtain ⟨sa, _, rfl, _, _⟩ := TD.stp_inv tds
        have len2 : ls2.length = lay2.length := by rw [tl2d.length, List.length_map]
        have l23 : lay2.length = lay1.length + tl2.length := by rw [e3, List.length_append]
        have hg2 : lay2[i]? = some g := by rw [e3, List.getElem?_append_left il2]; exact hg
        have il3 : i < ls2.length := by omega
        obtain ⟨g', hg', tdg⟩ := TDs.at_map tl2d (List.getElem?_eq_getElem il3)
        rw [hg2] at hg'
        cases hg'
        obtain ⟨ga, _, _, _, eg, _⟩ := TD.sg_inv tdg
        have at_ : atI ls2 ((i : Nat) : Int) = some (.ref ga) := atI_nat (by rw [List.getElem?_eq_getElem il3, eg])
        rw [eg] at tdg
        obtain ⟨u1, u2, u3, u4⟩ := u.ok g gU
        have sIn : st ∈ allSteps h := List.mem_of_getElem? hst
        refine ⟨_, rfl, x, _, dx, _, _, rfl, y2.o, T.cls_Search, T.q_own_sleeper, rfl, _, rfl, _, rfl, l, ls2, (i : Nat), .ref ga, rfl, rfl, SqL.of hl2, at_, _, rfl, zm, ga, sa, z, g, st, rfl, y2.hz, tdg, tds, u2, u1, u4 st sIn, fun H3 v s3 hv => ?_⟩
        have nx := visitAll_next (z := z) (t := t) (g := g) (st := (fd1, lay1)) hst
        rw [← e2] at nx
        cases hb : bStep z g st with
        | none =>
          rw [hb] at hv nx
          cases hv
          refine ⟨_, rfl, rfl, _, rfl, iteF ?_⟩
          refine ⟨_, _, fd2, lay2, tl2, ls2, rfl, ko2.trans (Ko.same s3), hf2.same s3, s3 _ _ hl2, TDs.keep (Same.tk s3) tl2d, nx.symm, e3, e4⟩
        | some b =>
          rw [hb] at hv nx
          obtain ⟨q, rfl, tq⟩ := hv
          have o3 := s3 _ _ y2.o
          obtain ⟨kvs, d1, d2, d3⟩ := hf2.same s3
          have hl3 := s3 _ _ hl2
          have tl3 := TDs.keep (Same.tk s3) tl2d
          have ko3 : Ko fa l H H3 := ko2.trans (Ko.same s3)
          have tdg3 := TD.keep (Same.tk s3) tdg
          have tds3 := TD.keep (Same.tk s3) tds
          refine ⟨_, rfl, rfl, _, rfl, iteT ?_⟩
          refine ⟨_, rfl, _, rfl, x, _, dx, _, _, rfl, o3, T.cls_Search, T.q_found, rfl, fa, kvs, q, encG b, rfl, rfl, d1, tq, depth_encG b, _, rfl, ?_⟩
          rw [valN_some b d2]
          by_cases new : b ∈ fd2.map En.g
          · rw [decide_eq_true new]
            refine iteF ?_
            refine ⟨_, _, fd2, lay2, tl2, ls2, rfl, ko3, ⟨kvs, d1, d2, d3⟩, hl3, tl3, ?_, e3, e4⟩
            rw [nx]
            exact (if_pos new).symm
          · rw [decide_eq_false new]
            have fewd : fd2.length < sizeLine := by
              have a := ok1.all (t := t) u gU (ss := (allSteps h).take j) fun s q => List.mem_of_mem_take q
              rw [← e2] at a
              have b1 := a.few
              have b2 := u.few
              show fd2.length < sizeLine
              have b3 : fd2.length ≤ U.length := b1
              omega
            have fewk : kvs.length = fd2.length := by
              have := congrArg List.length d2
              rw [List.length_map, List.length_map] at this
              exact this
            refine iteT ⟨_, rfl, _, rfl, _, rfl, l, ls2, (i : Nat), .ref ga, rfl, rfl, SqL.of hl3, at_, _, rfl, by show 3 ≤ sizeLine; omega, fun v nv => ?_⟩
            have s4 : Same H3 (upd H3 v (.tup [.int t, .ref ga, .ref sa])) := Same.new nv
            have tv : TD K (upd H3 v (.tup [.int t, .ref ga, .ref sa])) (.ref v) (encE ⟨b, t, some g, some st⟩) := .tup (SqT.of upd_same) (.cons (.int _) (.cons (TD.keep (Same.tk s4) tdg3) (.cons (TD.keep (Same.tk s4) tds3) .nil)))
            have d14 := d1.same s4
            have d34 := TDs.keep (Same.tk s4) d3
            have hl4 := s4 _ _ hl3
            have tl4 := TDs.keep (Same.tk s4) tl3
            have tq4 := TD.keep (Same.tk s4) tq
            have o4 := s4 _ _ o3
            have ko4 := ko3.trans (Ko.same s4)
            generalize upd H3 v (.tup [.int t, .ref ga, .ref sa]) = H4 at tv d14 d34 hl4 tl4 tq4 o4 ko4 ⊢
            refine ⟨_, rfl, x, _, dx, _, _, rfl, o4, T.cls_Search, T.q_found, rfl, _, rfl, fa, kvs, q, encG b, rfl, rfl, d14, tq4, depth_encG b, by rw [fewk]; exact fewd, fun ob dn => ?_⟩
            have tk5 : TK H4 (upd H4 fa (DNO fa ob)) := FdAt.tk (fd := fd2) ⟨kvs, d14, d2, d34⟩
            have nlf : l ≠ fa := by
              obtain ⟨o, e⟩ := FdAt.o (fd := fd2) ⟨kvs, d14, d2, d34⟩
              intro z
              rw [z, e] at hl4
              cases hl4
            have f5 := FdAt.put (e := ⟨b, t, some g, some st⟩) tk5 d2 d34 tv new dn
            have hl5 : upd H4 fa (DNO fa ob) l = some (.lst ls2) := by rw [upd_ne nlf]; exact hl4
            have tl5 := TDs.keep tk5 tl4
            have tq5 := TD.keep tk5 tq4
            have ko5 : Ko fa l H (upd H4 fa (DNO fa ob)) := ko4.trans Ko.fa
            generalize upd H4 fa (DNO fa ob) = H5 at f5 hl5 tl5 tq5 ko5 ⊢
            refine ⟨_, rfl, .inl ⟨rfl, _, SqL.of hl5⟩, _, rfl, l, _, _, rfl, rfl, hl5, by have l1 : lay1.length ≤ fd1.length := ok1.ll; omega, ?_⟩
            have tk6 := tk_acc hl5 (ys := ls2 ++ [.ref q])
            have f6 := f5.keep tk6 fun u e => by rw [upd_ne nlf.symm]; exact e
            refine ⟨_, _, _, lay2 ++ [b], tl2 ++ [b], ls2 ++ [.ref q], rfl, ko5.trans Ko.l, f6, upd_same, ?_, ?_, by rw [e3, List.append_assoc], by simp only [List.length_append, List.length_cons, List.length_nil]; omega⟩
            · rw [List.map_append]
              exact TDs.app (TDs.keep tk6 tl5) (.cons (TD.keep tk6 tq5) .nil)
            · rw [nx]
              exact (if_neg new).symm
      · rintro σ H2 ⟨v4, v5, fd2, lay2, tl2, ls2, rfl, ko2, hf2, hl2, tl2d, e2, e3, e4⟩
        rw [lenx, List.take_length] at e2
        have ok2 : StOk U (fd2, lay2) := by rw [e2]; exact ok1.all u gU fun _ q => q
        have few2 := ok2.few
        have l23 : lay2.length = lay1.length + tl2.length := by rw [e3, List.length_append]
        refine ⟨_, rfl, _, _, rfl, rfl, ?_⟩
        refine ⟨_, ?_, i + 1, v4, v5, fd2, lay2, ls2, rfl, ko2, hf2, hl2, tl2d, ok2, by omega, fun r q => sp1 r (.more hg (by rw [← e2]; exact q)), rfl⟩
        have few3 : fd2.length ≤ U.length := few2
        omega
    · rw [decide_eq_false (show ¬ ((i : Nat) : Int) < ((ls1.length : Nat) : Int) by omega)]
      exact iteF (k H1 fd1 lay1 ls1 ko1 hf1 hl1 tl1 (sp1 _ (.done (by show lay1.length ≤ i; omega))))
end
end Lw
set_option Elab.async false
set_option linter.all false
set_option maxRecDepth 100000
set_option maxHeartbeats 8000000
namespace Lw
open PySem PySem.Spec PyProof.Rows L2 Hb
def follow (z : Zz) (t : Int) (lay : List Sg) (st : List En × List Sg) : List En × List Sg := lay.foldl (fun st g => visit t g none st (bTick z g)) st
theorem follow_next {z : Zz} {t : Int} {lay : List Sg} {st : List En × List Sg} {i : Nat} {g : Sg} (e : lay[i]? = some g) : follow z t (lay.take (i + 1)) st = Lw.visit t g none (follow z t (lay.take i) st) (bTick z g) := by
  unfold follow
  rw [List.take_add_one, e]
  simp [List.foldl_append]
theorem StOk.follow {h : Hz} {z : Zz} {U : List Sg} (u : Uni h z U) {t : Int} {lay : List Sg} (hl : ∀ g ∈ lay, g ∈ U) {st : List En × List Sg} (y : StOk U st) : StOk U (Lw.follow z t lay st) := by
  unfold Lw.follow
  induction lay generalizing st with
  | nil => exact y
  | cons g lay ih => exact ih (fun x hx => hl x (List.mem_cons_of_mem _ hx)) (y.visit fun x e => u.tk g (hl g (List.mem_cons_self ..)) x e)
/-- all but the dict stays -/
def Kd (fa : Addr) (H H' : Hp) : Prop := ∀ b o, b ≠ fa → H b = some o → H' b = some o
def spFollow (P : Program) (w : World) (K : PySem.W.Frag) : Sp := fun vs H Q _ => ∃ (x dx zm sl fa l : Addr) (h : Hz) (z : Zz) (xs ls : List V) (U : List Sg) (fd : List En) (lay : List Sg) (t : Int), vs = [.ref x, .ref l, .int t] ∧ SrAt P w K H x dx zm sl fa h z xs ∧ FdAt P w K H fa fd ∧ H l = some (.lst ls) ∧ TDs K H ls (lay.map encG) ∧ Uni h z U ∧ StOk U (fd, []) ∧ (∀ g ∈ lay, g ∈ U) ∧
  ∀ H' q fd' lay' ls', Kd fa H H' → H q = none → FdAt P w K H' fa fd' → H' q = some (.lst ls') → TDs K H' ls' (lay'.map encG) → (fd', lay') = follow z t lay (fd, []) → Q (.ref q) H'
section
variable {P : Program} {w : World} {K : PySem.W.Frag} {mg : Str → Option Value} {base : Heap}
theorem Kd.trans {fa : Addr} {H H1 H2 : Hp} (a : Kd fa H H1) (b : Kd fa H1 H2) : Kd fa H H2 := fun c o n1 e => b c o n1 (a c o n1 e)
theorem Kd.same {fa : Addr} {H H1 : Hp} (a : Same H H1) : Kd fa H H1 := fun c o _ e => a c o e
theorem Kd.fa {fa : Addr} {H : Hp} {o : HO} : Kd fa H (upd H fa o) := fun c o n1 e => by rw [upd_ne n1]; exact e
theorem Kd.ko {fa l : Addr} {H H' : Hp} (a : Kd fa H H') : Ko fa l H H' := fun c o n1 _ e => a c o n1 e
theorem Kd.tk {H H' : Hp} {fa : Addr} {fd : List En} (k : Kd fa H H') (y : FdAt P w K H fa fd) : TK H H' := by
  obtain ⟨o, e⟩ := y.o
  refine ⟨fun b xs h => k b _ (fun q => ?_) h, fun b o2 u h => k b _ (fun q => ?_) h⟩
  · rw [q, e] at h; cases h
  · rw [q, e] at h; cases h
theorem SrAt.kd {H H' : Hp} {x dx zm sl fa : Addr} {h : Hz} {z : Zz} {xs : List V} {fd : List En} (y : SrAt P w K H x dx zm sl fa h z xs) (hf : FdAt P w K H fa fd) (k : Kd fa H H') : SrAt P w K H' x dx zm sl fa h z xs := by
  have tk := k.tk hf
  obtain ⟨o, e⟩ := hf.o
  have ins : ∀ {b C d : Addr} {fs : List (Str × V)}, H b = some (.ins C d fs) → H' b = some (.ins C d fs) := fun q => k _ _ (fun r => by rw [r, e] at q; cases q) q
  obtain ⟨y1, y2, y3, y4⟩ := y
  refine ⟨ins y1, ?_, k _ _ (fun r => by rw [r, e] at y3; cases y3) y3, TDs.keep tk y4⟩
  obtain ⟨d1, t1, x1, h1, _⟩ := id y2
  exact y2.keep tk fun o q => by rw [h1] at q; cases q; exact ins h1
/-- the turns of following -/
def FoI (P : Program) (w : World) (K : PySem.W.Frag) (x l fa q : Addr) (z : Zz) (t : Int) (H : Hp) (fd : List En) (lay : List Sg) (i : Nat) (σ : L2.St) (H' : Hp) : Prop := ∃ (v4 v5 : Option V) (fd2 : List En) (lay2 : List Sg) (ls2 : List V), σ = [some (.ref x), some (.ref l), some (.int t), some (.ref q), v4, v5] ∧ Kd fa H H' ∧ FdAt P w K H' fa fd2 ∧ H' q = some (.lst ls2) ∧ TDs K H' ls2 (lay2.map encG) ∧
      (fd2, lay2) = follow z t (lay.take i) (fd, [])
theorem ok_following {f : Addr} {fd : FuncData} (F : FunD K "following" "Search.following" (defArgs s_Search_following) (defBody s_Search_following) (defScope s_Search_following) [] [] f fd) (T : Tx K mg) (c_behind_tick : C8.Cal P w K mg base 2 "behind_tick" (spBTick K (He.ga K "Sleeper")) []) : FnOk P w K mg base CX0 3 f fd ["self", "layer", "ticks"] (spFollow P w K) := by
  refine F.ok sc_Search_following (fun vs H Q E h => ?_) fun cdv A outer s H vs Q E hr h => ?_
  · obtain ⟨x, dx, zm, sl, fa, l, h, z, xs, ls, U, fd, lay, t, rfl, _⟩ := h
    rfl
  · obtain ⟨x, dx, zm, sl, fa, l, h, z, xs, ls, U, fd, lay, t, rfl, y, hf, hl, tl, u, ok, layU, k⟩ := h
    have line := sizeLine_eq
    have hu9 : (cxOf CX0 P w K mg base N_Search_following "Search.following" (defScope s_Search_following) f cdv A outer s H E).nox.A.units + 9 < cLine := Nat.lt_of_le_of_lt (Nat.add_le_add_left (by decide) _) hr.units
    suffices go : ∃ t', PSs (cxOf CX0 P w K mg base N_Search_following "Search.following" (defScope s_Search_following) f cdv A outer s H E).nox (defBody s_Search_following) t' ∧ t' { nx := fun _ H' => Q .non H', rt := Q } (start N_Search_following [.ref x, .ref l, .int t]) H by
      obtain ⟨t', h1, h2⟩ := go
      exact ⟨t', h1.nox, h2⟩
    refine ⟨_, (pss_cons (ps_set (i := 3) sc_Search_following.nd rfl (Or.inl rfl) (pe_lst pa_nil))
 (pss_cons (ps_for PassesOwn.never rfl (pi_list (pv 1)) (pg_name (i := 4) sc_Search_following.nd rfl (Or.inl rfl))
 (pss_cons (ps_set (i := 5) sc_Search_following.nd rfl (Or.inl rfl) (C8.pe_c c_behind_tick hr (by decide) rfl (pa_cons (pe_fld (pv 0) rfl) (pa_cons (pv 4) pa_nil))))
 (pss_one (ps_if (PW.pt (pw_and (pt_cmpR op_notN (pv 5) pe_non (by first | exact nomark _ | rfl)) (pw_and1 (pt_cmp (pc_nnotin hu9 (pv 5) (pe_fld (pv 0) rfl))))))
 (pss_cons (ps_nput hu9 (pe_fld (pv 0) rfl) (pv 5) (pe_tup (pa_cons (pv 2) (pa_cons (pv 4) (pa_cons pe_non pa_nil)))) rfl)
 (pss_one (ps_expr (pe_bm PySem.F.plainAttrs_list PySem.F.slot_list_append PySem.F.type_list_append mt_append (pv 3) (pa_cons (pv 5) pa_nil)))))
 pss_nil))))
 (pss_one (ps_ret (pv 3))))), ?_⟩
    refine ⟨by show 0 ≤ sizeLine; decide, fun q nq => ?_⟩
    have s0 : Same H (upd H q (.lst [])) := Same.new nq
    have len : ls.length = lay.length := by rw [tl.length, List.length_map]
    obtain ⟨o0, eo⟩ := hf.o
    have nqf : q ≠ fa := fun e => by rw [e, eo] at nq; cases nq
    have nlf : l ≠ fa := fun e => by rw [e, eo] at hl; cases hl
    refine ⟨_, rfl, l, rfl, ⟨_, SqL.of (s0 _ _ hl)⟩, for_list (K := K) (a := l) (xs := ls) (FoI P w K x l fa q z t H fd lay) ⟨_, _, fd, [], [], rfl, Kd.same s0, hf.same s0, upd_same, .nil, rfl⟩ (fun j σ H' _ q => ?_) ?_ ?_⟩
    · obtain ⟨_, _, _, _, _, _, ko2, _⟩ := q
      exact SqL.of (ko2 _ _ nlf hl)
    · rintro j v σ H2 hj ⟨v4, v5, fd2, lay2, ls2, rfl, ko2, hf2, hq2, tl2d, e2⟩
      have y2 := y.kd hf ko2
      obtain ⟨g, hg, tdg⟩ := TDs.at_map (TDs.keep (ko2.tk hf) tl) hj
      have gU := layU g (List.mem_of_getElem? hg)
      obtain ⟨ga, _, _, _, rfl, _⟩ := TD.sg_inv tdg
      obtain ⟨u1, u2, u3, u4⟩ := u.ok g gU
      refine ⟨_, rfl, x, _, dx, _, _, rfl, y2.o, T.cls_Search, T.q_own_sleeper, rfl, _, rfl, zm, ga, z, g, rfl, y2.hz, tdg, u3, fun H3 v s3 hv => ?_⟩
      have nx := follow_next (z := z) (t := t) (st := (fd, [])) hg
      rw [← e2] at nx
      cases hb : bTick z g with
      | none =>
        rw [hb] at hv nx
        cases hv
        refine ⟨_, rfl, rfl, _, rfl, iteF ?_⟩
        exact ⟨_, _, fd2, lay2, ls2, rfl, ko2.trans (Kd.same s3), hf2.same s3, s3 _ _ hq2, TDs.keep (Same.tk s3) tl2d, nx.symm⟩
      | some b =>
        rw [hb] at hv nx
        obtain ⟨q1, rfl, tq⟩ := hv
        have o3 := s3 _ _ y2.o
        obtain ⟨kvs, d1, d2, d3⟩ := hf2.same s3
        have hl3 := s3 _ _ hq2
        have tl3 := TDs.keep (Same.tk s3) tl2d
        have ko3 : Kd fa H H3 := ko2.trans (Kd.same s3)
        have tdg3 := TD.keep (Same.tk s3) tdg
        refine ⟨_, rfl, rfl, _, rfl, iteT ?_⟩
        refine ⟨_, rfl, _, rfl, x, _, dx, _, _, rfl, o3, T.cls_Search, T.q_found, rfl, fa, kvs, q1, encG b, rfl, rfl, d1, tq, depth_encG b, _, rfl, ?_⟩
        rw [valN_some b d2]
        by_cases new : b ∈ fd2.map En.g
        · rw [decide_eq_true new]
          refine iteF ?_
          refine ⟨_, _, fd2, lay2, ls2, rfl, ko3, ⟨kvs, d1, d2, d3⟩, hl3, tl3, ?_⟩
          rw [nx]
          exact (if_pos new).symm
        · rw [decide_eq_false new]
          have ok2 : StOk U (fd2, lay2) := by
            rw [e2]
            exact ok.follow u fun g q => layU g (List.mem_of_mem_take q)
          have fewd : fd2.length < sizeLine := by
            have b1 := ok2.few
            have b2 := u.few
            have b3 : fd2.length ≤ U.length := b1
            omega
          have few2 : ls2.length < sizeLine := by
            rw [tl2d.length, List.length_map]
            exact Nat.lt_of_le_of_lt ok2.ll fewd
          have fewk : kvs.length = fd2.length := by
            have := congrArg List.length d2
            rw [List.length_map, List.length_map] at this
            exact this
          refine iteT ⟨_, rfl, _, rfl, by show 3 ≤ sizeLine; omega, fun v nv => ?_⟩
          have s4 : Same H3 (upd H3 v (.tup [.int t, .ref ga, .non])) := Same.new nv
          have tv : TD K (upd H3 v (.tup [.int t, .ref ga, .non])) (.ref v) (encE ⟨b, t, some g, none⟩) := .tup (SqT.of upd_same) (.cons (.int _) (.cons (TD.keep (Same.tk s4) tdg3) (.cons .non .nil)))
          have d14 := d1.same s4
          have d34 := TDs.keep (Same.tk s4) d3
          have hl4 := s4 _ _ hl3
          have tl4 := TDs.keep (Same.tk s4) tl3
          have tq4 := TD.keep (Same.tk s4) tq
          have o4 := s4 _ _ o3
          have ko4 := ko3.trans (Kd.same s4)
          generalize upd H3 v (.tup [.int t, .ref ga, .non]) = H4 at tv d14 d34 hl4 tl4 tq4 o4 ko4 ⊢
          refine ⟨_, rfl, x, _, dx, _, _, rfl, o4, T.cls_Search, T.q_found, rfl, _, rfl, fa, kvs, q1, encG b, rfl, rfl, d14, tq4, depth_encG b, by rw [fewk]; exact fewd, fun ob dn => ?_⟩
          have tk5 : TK H4 (upd H4 fa (DNO fa ob)) := FdAt.tk (fd := fd2) ⟨kvs, d14, d2, d34⟩
          have f5 := FdAt.put (e := ⟨b, t, some g, none⟩) tk5 d2 d34 tv new dn
          have hl5 : upd H4 fa (DNO fa ob) q = some (.lst ls2) := by rw [upd_ne nqf]; exact hl4
          have tl5 := TDs.keep tk5 tl4
          have tq5 := TD.keep tk5 tq4
          have ko5 : Kd fa H (upd H4 fa (DNO fa ob)) := ko4.trans Kd.fa
          generalize upd H4 fa (DNO fa ob) = H5 at f5 hl5 tl5 tq5 ko5 ⊢
          refine ⟨_, rfl, .inl ⟨rfl, _, SqL.of hl5⟩, _, rfl, q, _, _, rfl, rfl, hl5, few2, ?_⟩
          have tk6 := tk_acc hl5 (ys := ls2 ++ [.ref q1])
          have f6 := f5.keep tk6 fun u e => by rw [upd_ne nqf.symm]; exact e
          refine ⟨_, _, _, lay2 ++ [b], ls2 ++ [.ref q1], rfl, fun c o n e => by rw [upd_ne (ne_of_none e nq)]; exact ko5 c o n e, f6, upd_same, ?_, ?_⟩
          · rw [List.map_append]
            exact TDs.app (TDs.keep tk6 tl5) (.cons (TD.keep tk6 tq5) .nil)
          · rw [nx]
            exact (if_neg new).symm
    · rintro σ H2 ⟨v4, v5, fd2, lay2, ls2, rfl, ko2, hf2, hq2, tl2d, e2⟩
      rw [len, List.take_length] at e2
      exact ⟨_, rfl, k H2 q fd2 lay2 ls2 ko2 nq hf2 hq2 tl2d e2⟩
end
end Lw
set_option Elab.async false
set_option linter.all false
set_option maxRecDepth 100000
set_option maxHeartbeats 8000000
namespace Lw
open PySem PySem.Spec PyProof.Rows L2 Hb
inductive Sch (z : Zz) (ss : List Stp) : Int → List En → List Sg → List En → Prop
  | done {t : Int} {fd : List En} : Sch z ss t fd [] fd
  | more {t : Int} {fd fd1 fd2 r : List En} {lay lay1 lay2 : List Sg} : lay ≠ [] → Spr z ss t 0 (fd, lay) (fd1, lay1) → (fd2, lay2) = follow z (t + 1) lay1 (fd1, []) → Sch z ss (t + 1) fd2 lay2 r → Sch z ss t fd lay r
theorem visit_len (t : Int) (g : Sg) (s : Option Stp) (st : List En × List Sg) (b : Option Sg) : (Lw.visit t g s st b).1.length + st.2.length = st.1.length + (Lw.visit t g s st b).2.length := by
  cases b with
  | none => rfl
  | some b =>
    by_cases e : b ∈ st.1.map En.g
    · rw [show Lw.visit t g s st (some b) = st from if_pos e]
    · rw [show Lw.visit t g s st (some b) = (st.1 ++ [⟨b, t, some g, s⟩], st.2 ++ [b]) from if_neg e]
      simp only [List.length_append, List.length_cons, List.length_nil]
      omega
theorem visit_le (t : Int) (g : Sg) (s : Option Stp) (st : List En × List Sg) (b : Option Sg) : st.1.length ≤ (Lw.visit t g s st b).1.length := by
  cases b with
  | none => exact Nat.le_refl _
  | some b =>
    by_cases e : b ∈ st.1.map En.g
    · rw [show Lw.visit t g s st (some b) = st from if_pos e]; exact Nat.le_refl _
    · rw [show Lw.visit t g s st (some b) = (st.1 ++ [⟨b, t, some g, s⟩], st.2 ++ [b]) from if_neg e]
      simp
theorem follow_len (z : Zz) (t : Int) (lay : List Sg) (st : List En × List Sg) : (follow z t lay st).1.length + st.2.length = st.1.length + (follow z t lay st).2.length := by
  unfold follow
  induction lay generalizing st with
  | nil => rfl
  | cons g lay ih =>
    have h1 := ih (Lw.visit t g none st (bTick z g))
    have h2 := visit_len t g none st (bTick z g)
    rw [List.foldl_cons]
    omega
theorem visitAll_le (z : Zz) (t : Int) (g : Sg) (ss : List Stp) (st : List En × List Sg) : st.1.length ≤ (visitAll z t g ss st).1.length := by
  unfold visitAll
  induction ss generalizing st with
  | nil => exact Nat.le_refl _
  | cons s ss ih => exact Nat.le_trans (visit_le t g (some s) st _) (ih _)
theorem spr_le {z : Zz} {ss : List Stp} {t : Int} {i : Nat} {st r : List En × List Sg} (p : Spr z ss t i st r) : st.1.length ≤ r.1.length := by
  induction p with
  | done _ => exact Nat.le_refl _
  | more _ _ ih => exact Nat.le_trans (visitAll_le z t _ ss _) ih
def spSrInit (P : Program) (w : World) (K : PySem.W.Frag) : Sp := fun vs H Q _ => ∃ (x dx hm zm : Addr) (h : Hz) (z : Zz) (f : Str) (U : List Sg), vs = [.ref x, .ref hm, .ref zm, .str f] ∧ H x = some (.ins (He.ga K "Search") dx []) ∧ HAt K (He.ga K "House") H hm h ∧ SlpAt K (He.ga K "Sleeper") H zm z ∧ h.doors.length ≤ 1000 ∧ Uni h z U ∧ (⟨firstS z f, [0], [0]⟩ : Sg) ∈ U ∧
  ∀ H' sl fa xs fd, KX x H H' → SrAt P w K H' x dx zm sl fa h z xs → FdAt P w K H' fa fd → StOk U (fd, []) → Sch z (allSteps h) 0 [⟨⟨firstS z f, [0], [0]⟩, 0, none, none⟩] [⟨firstS z f, [0], [0]⟩] fd → Q .non H'
section
variable {P : Program} {w : World} {K : PySem.W.Frag} {mg : Str → Option Value} {base : Heap}
theorem HAt.kx3 {C CL dx p x : Addr} {H H' : Hp} {h : Hz} {fs : List (Str × V)} (y : HAt K C H p h) (k : KX x H H') (hx : H x = some (.ins CL dx fs)) (le : fs.length ≤ 3) : HAt K C H' p h := by
  obtain ⟨dh, a, b, c, xs, ys, h1, _⟩ := id y
  refine y.keep (k.tk hx) fun o e => ?_
  rw [h1] at e
  cases e
  exact k _ _ (fun q => by rw [q, hx] at h1; injection h1 with h1; injection h1 with _ _ h1; rw [h1] at le; exact absurd le (by show ¬ (4 ≤ 3); decide)) h1
theorem SlpAt.kx3 {C CL dx p x : Addr} {H H' : Hp} {z : Zz} {fs : List (Str × V)} (y : SlpAt K C H p z) (k : KX x H H') (hx : H x = some (.ins CL dx fs)) (le : fs.length ≤ 3) : SlpAt K C H' p z := by
  obtain ⟨dh, t, xs, h1, _⟩ := id y
  refine y.keep (k.tk hx) fun o e => ?_
  rw [h1] at e
  cases e
  exact k _ _ (fun q => by rw [q, hx] at h1; injection h1 with h1; injection h1 with _ _ h1; rw [h1] at le; exact absurd le (by show ¬ (5 ≤ 3); decide)) h1
/-- the turns of the search -/
def SrW (P : Program) (w : World) (K : PySem.W.Frag) (x dx hm zm sl fa st : Addr) (h : Hz) (z : Zz) (fi : Str) (U : List Sg) (xs : List V) (H : Hp) (m : Nat) (σ : L2.St) (H' : Hp) : Prop := ∃ (t : Int) (l : Addr) (lay : List Sg) (ls : List V) (fd : List En), σ = [some (.ref x), some (.ref hm), some (.ref zm), some (.str fi), some (.ref st), some (.ref l), some (.int t)] ∧ KX x H H' ∧ SrAt P w K H' x dx zm sl fa h z xs ∧ FdAt P w K H' fa fd ∧ H' l = some (.lst ls) ∧ TDs K H' ls (lay.map encG) ∧ l ≠ sl ∧ H l = none ∧ StOk U (fd, lay) ∧
  (∀ r, Sch z (allSteps h) t fd lay r → Sch z (allSteps h) 0 [⟨⟨firstS z fi, [0], [0]⟩, 0, none, none⟩] [⟨firstS z fi, [0], [0]⟩] r) ∧ m = 2 * (U.length - fd.length) + lay.length
theorem m_Search_mk (D : Df1 K mg "Search" "Search.__init__" s_Search_init) (T : Tx K mg) (c_all_steps : C8.Cal P w K mg base 3 "all_steps" (spAllSteps K (He.ga K "House")) []) (c_begin : C8.Cal P w K mg base 3 "begin" (spBegin K (He.ga K "Sleeper")) [])
    (c_spread : C8.Met P w K mg base 6 (He.ga K "Search") "spread" (spSpread P w K) []) (c_following : C8.Met P w K mg base 3 (He.ga K "Search") "following" (spFollow P w K) []) :
    C8.Mak P w K mg base 7 "Search" (He.ga K "Search") (spSrInit P w K) [] := by
  refine mak_mk D sc_Search_init bd_Search_init (fun vs H Q E h => ?_) fun f cdv A outer s H vs Q E hr h => ?_
  · obtain ⟨x, dx, hm, zm, h, z, f, U, rfl, _⟩ := h
    rfl
  · obtain ⟨x, dx, hm, zm, h, z, fi, U, rfl, hx, hh, hz, few, u, sU, k⟩ := h
    have line := sizeLine_eq
    have hu9 : (cxOf CX0 P w K mg base N_Search_init "Search.__init__" (defScope s_Search_init) f cdv A outer s H E).nox.A.units + 9 < cLine := Nat.lt_of_le_of_lt (Nat.add_le_add_left (by decide) _) hr.units
    refine ⟨_, (pss_cons (ps_fld (pv 0) (pv 2) rfl)
 (pss_cons (ps_fld (pv 0) (C8.pe_c c_all_steps hr (by decide) rfl (pa_cons (pv 1) pa_nil)) rfl)
 (pss_cons (ps_set (i := 4) sc_Search_init.nd rfl (Or.inl rfl) (C8.pe_c c_begin hr (by decide) rfl (pa_cons (pv 2) (pa_cons (pv 3) pa_nil))))
 (pss_cons (ps_fld (pv 0) (pe_ndisp1 hu9 (pv 4) (pe_tup (pa_cons pe_int (pa_cons pe_non (pa_cons pe_non pa_nil))))) rfl)
 (pss_cons (ps_set (i := 5) sc_Search_init.nd rfl (Or.inl rfl) (pe_lst (pa_cons (pv 4) pa_nil)))
 (pss_cons (ps_set (i := 6) sc_Search_init.nd rfl (Or.inl rfl) pe_int)
 (pss_one (ps_while PassesOwn.never (pt_cmpR op_gt (pe_callB call_len (by rfl) T.n_len (by decide +kernel) (pa_cons (pv 5) pa_nil)) pe_int (by first | exact nomark _ | rfl))
 (pss_cons (ps_expr (C8.pe_mt c_spread hr (by decide) (pv 0) (pa_cons (pv 5) (pa_cons (pv 6) pa_nil))))
 (pss_cons (ps_aug (i := 6) sc_Search_init.nd rfl (Or.inl rfl) pe_int ip_add)
 (pss_one (ps_set (i := 5) sc_Search_init.nd rfl (Or.inl rfl) (C8.pe_mt c_following hr (by decide) (pv 0) (pa_cons (pv 5) (pa_cons (pv 6) pa_nil))))))))))))))), ?_⟩
    refine ⟨_, rfl, _, rfl, x, _, dx, [], rfl, hx, T.cls_Search, T.q_own_sleeper, by decide, ?_⟩
    have k1 : KX x H (upd H x (.ins (He.ga K "Search") dx (putF "own_sleeper" (.ref zm) []))) := KX.put
    have hx1 : upd H x (.ins (He.ga K "Search") dx (putF "own_sleeper" (.ref zm) [])) x = some (.ins (He.ga K "Search") dx [("own_sleeper", .ref zm)]) := upd_same
    have hh1 := HAt.kx3 hh k1 hx (Nat.zero_le _)
    have hz1 := SlpAt.kx3 hz k1 hx (Nat.zero_le _)
    generalize upd H x (.ins (He.ga K "Search") dx (putF "own_sleeper" (.ref zm) [])) = H1 at k1 hx1 hh1 hz1 ⊢
    refine ⟨_, rfl, hm, h, rfl, hh1, few, fun H2 sl xs s2 nsl hsl tds => ?_⟩
    refine ⟨_, rfl, x, _, dx, _, rfl, s2 _ _ hx1, T.cls_Search, T.q_steps, by show 1 < 1000; decide, ?_⟩
    have slx : sl ≠ x := fun e => by rw [e, hx1] at nsl; cases nsl
    have nslH : H sl = none := by
      cases e : H sl with
      | none => rfl
      | some o => rw [k1 _ _ slx e] at nsl; cases nsl
    have kx2 : KX x H2 (upd H2 x (.ins (He.ga K "Search") dx (putF "steps" (.ref sl) [("own_sleeper", .ref zm)]))) := KX.put
    have hx3 : upd H2 x (.ins (He.ga K "Search") dx (putF "steps" (.ref sl) [("own_sleeper", .ref zm)])) x = some (.ins (He.ga K "Search") dx [("own_sleeper", .ref zm), ("steps", .ref sl)]) := upd_same
    have hz3 := SlpAt.kx3 (hz1.same s2) kx2 (s2 _ _ hx1) (by show 1 ≤ 3; decide)
    have hsl3 := kx2 _ _ slx hsl
    have tds3 := TDs.keep (kx2.tk (s2 _ _ hx1)) tds
    have k3 := (k1.trans (Hb.Same.kx s2)).trans kx2
    generalize upd H2 x (.ins (He.ga K "Search") dx (putF "steps" (.ref sl) [("own_sleeper", .ref zm)])) = H3 at kx2 hx3 hz3 hsl3 tds3 k3 ⊢
    refine ⟨_, rfl, _, rfl, zm, z, fi, rfl, hz3, fun H4 st s4 tst => ?_⟩
    refine fun p np => ⟨_, rfl, by show 3 ≤ sizeLine; omega, fun v nv => ?_⟩
    have spv : Same H4 (upd (upd H4 p (.dT [])) v (.tup [.int 0, .non, .non])) := (Same.new np).trans (Same.new nv)
    have pv : p ≠ v := ne_of_none upd_same nv
    have hp5 : upd (upd H4 p (.dT [])) v (.tup [.int 0, .non, .non]) p = some (.dT []) := by rw [upd_ne pv, upd_same]
    have tv : TD K (upd (upd H4 p (.dT [])) v (.tup [.int 0, .non, .non])) (.ref v) (encE ⟨⟨firstS z fi, [0], [0]⟩, 0, none, none⟩) := .tup (SqT.of upd_same) (.cons (.int _) (.cons .non (.cons .non .nil)))
    generalize upd (upd H4 p (.dT [])) v (.tup [.int 0, .non, .non]) = H5 at spv hp5 tv ⊢
    refine ⟨hp5, st, encG ⟨firstS z fi, [0], [0]⟩, .ref v, rfl, TD.keep (Same.tk spv) tst, depth_encG _, fun ob dn => ?_⟩
    have tk6 : TK H5 (upd H5 p (DNO p ob)) := TK.put hp5 (by intro xs e; cases e) (by intro q u e; cases e)
    have s6 : Same H4 (upd H5 p (DNO p ob)) := fun b o e => by rw [upd_ne (ne_of_none e np)]; exact spv _ _ e
    have f6 : FdAt P w K (upd H5 p (DNO p ob)) p [⟨⟨firstS z fi, [0], [0]⟩, 0, none, none⟩] := ⟨_, dn, rfl, .cons (TD.keep tk6 tv) .nil⟩
    have hx6 := s6 _ _ (s4 _ _ hx3)
    have npH : H p = none := by
      cases e : H p with
      | none => rfl
      | some o =>
        have px : p ≠ x := fun q => by rw [q, s4 _ _ hx3] at np; cases np
        rw [s4 _ _ (k3 _ _ px e)] at np; cases np
    generalize upd H5 p (DNO p ob) = H6 at s6 f6 hx6 ⊢
    refine ⟨_, rfl, x, _, dx, _, rfl, hx6, T.cls_Search, T.q_found, by show 2 < 1000; decide, ?_⟩
    have kx6 : KX x H6 (upd H6 x (.ins (He.ga K "Search") dx (putF "found" (.ref p) [("own_sleeper", .ref zm), ("steps", .ref sl)]))) := KX.put
    have hx7 : upd H6 x (.ins (He.ga K "Search") dx (putF "found" (.ref p) [("own_sleeper", .ref zm), ("steps", .ref sl)])) x = some (.ins (He.ga K "Search") dx (srFs zm sl p)) := upd_same
    have px : p ≠ x := fun q => by
      obtain ⟨o, e⟩ := f6.o
      rw [q, hx6] at e
      cases e
    have tk7 := kx6.tk hx6
    have f7 := f6.keep tk7 fun u e => kx6 _ _ px e
    have y7 : SrAt P w K _ x dx zm sl p h z xs := ⟨hx7, SlpAt.kx3 (hz3.same (s4.trans s6)) kx6 hx6 (by show 2 ≤ 3; decide), kx6 _ _ slx ((s4.trans s6) _ _ hsl3), TDs.keep tk7 (TDs.keep (Same.tk (s4.trans s6)) tds3)⟩
    have k7 := (k3.trans (Hb.Same.kx (s4.trans s6))).trans kx6
    have tst7 := TD.keep tk7 (TD.keep (Same.tk s6) tst)
    generalize upd H6 x (.ins (He.ga K "Search") dx (putF "found" (.ref p) [("own_sleeper", .ref zm), ("steps", .ref sl)])) = H7 at y7 k7 f7 tst7 ⊢
    refine ⟨_, rfl, by show 1 ≤ sizeLine; omega, fun l nl => ?_⟩
    have s8 : Same H7 (upd H7 l (.lst [.ref st])) := Same.new nl
    have hl8 : upd H7 l (.lst [.ref st]) l = some (.lst [.ref st]) := upd_same
    have lx : l ≠ x := fun q => by rw [q, y7.o] at nl; cases nl
    have nlH : H l = none := by
      cases e : H l with
      | none => rfl
      | some o => rw [k7 _ _ lx e] at nl; cases nl
    have lsl : l ≠ sl := fun q => by rw [q, y7.hs] at nl; cases nl
    have u1 : 1 ≤ U.length := List.length_pos_of_mem sU
    refine ⟨SrW P w K x dx hm zm sl p st h z fi U xs H, ⟨_, 0, l, [⟨firstS z fi, [0], [0]⟩], _, _, rfl, k7.trans (Hb.Same.kx s8), y7.kd f7 (Kd.same s8), f7.same s8, hl8, .cons (TD.keep (Same.tk s8) tst7) .nil, lsl, nlH, ⟨by simp, by simpa using sU, by simpa using sU, Nat.le_refl _⟩, fun _ q => q, rfl⟩, ?_⟩
    rintro m σ H9 ⟨t, l, lay, ls, fd, rfl, k9, y9, f9, hl9, tl9, nls, nlH, ok9, sc9, rfl⟩
    have len9 : ls.length = lay.length := by rw [tl9.length, List.length_map]
    refine ⟨_, rfl, _, _, rfl, .inl ⟨_, SqL.of hl9, rfl⟩, _, _, rfl, rfl, _, rfl, ?_⟩
    by_cases e0 : lay = []
    · rw [decide_eq_false (show ¬ (0 : Int) < ((ls.length : Nat) : Int) by rw [len9, e0]; decide)]
      subst e0
      exact iteF (k H9 sl p xs fd k9 y9 f9 ok9 (sc9 _ .done))
    · have l1 := List.length_pos_iff.mpr e0
      rw [decide_eq_true (show (0 : Int) < ((ls.length : Nat) : Int) by omega)]
      refine iteT ⟨fun σ' H' => ∃ m', m' < 2 * (U.length - fd.length) + lay.length ∧ SrW P w K x dx hm zm sl p st h z fi U xs H m' σ' H', fun _ _ q => q, ?_⟩
      refine ⟨_, rfl, x, dx, _, rfl, y9.o, rfl, _, rfl, _, rfl, x, dx, zm, sl, p, l, h, z, xs, ls, U, fd, lay, t, rfl, y9, f9, hl9, tl9, nls, u, ok9, fun Ha fd1 lay1 ls1 ko fa1 hla tla sp => ?_⟩
      have ya := y9.ko f9 hl9 nls ko
      have oka : StOk U (fd1, lay1) := ok9.spr u sp
      have ka : KX x H Ha := fun b o n e => ko _ _ (ne_of_none e npH) (ne_of_none e nlH) (k9 _ _ n e)
      refine ⟨_, rfl, _, _, rfl, rfl, ?_⟩
      refine ⟨_, rfl, x, dx, _, rfl, ya.o, rfl, _, rfl, _, rfl, x, dx, zm, sl, p, l, h, z, xs, ls1, U, fd1, lay1, t + 1, rfl, ya, fa1, hla, tla, u, ⟨oka.nd, oka.fu, (fun _ q => nomatch q), Nat.zero_le _⟩, oka.lu, fun Hb2 q fd2 lay2 ls2 kd nq fb hqb tlb e2 => ?_⟩
      have yb := ya.kd fa1 kd
      have okb : StOk U (fd2, lay2) := by
        rw [e2]
        exact StOk.follow u oka.lu ⟨oka.nd, oka.fu, (fun _ q => nomatch q), Nat.zero_le _⟩
      have kb : KX x H Hb2 := fun b o n e => kd _ _ (ne_of_none e npH) (ka _ _ n e)
      have qx : q ≠ x := fun z => by rw [z, ya.o] at nq; cases nq
      have nqH : H q = none := by
        cases e : H q with
        | none => rfl
        | some o => rw [ka _ _ qx e] at nq; cases nq
      have qsl : q ≠ sl := fun z => by rw [z, ya.hs] at nq; cases nq
      have le1 : fd.length ≤ fd1.length := spr_le sp
      have le2 := follow_len z (t + 1) lay1 (fd1, [])
      rw [← e2] at le2
      have le3 : fd2.length + 0 = fd1.length + lay2.length := le2
      have le4 : fd2.length ≤ U.length := okb.few
      refine ⟨_, ?_, t + 1, q, lay2, ls2, fd2, rfl, kb, yb, fb, hqb, tlb, qsl, nqH, okb, fun r s => sc9 r (.more e0 sp e2 s), rfl⟩
      omega
end
end Lw
set_option Elab.async false
set_option linter.all false
set_option maxRecDepth 100000
set_option maxHeartbeats 4000000
namespace Lw
open PySem PySem.Spec PyProof.Rows L2 Hb
/-! ### what the search finds: all that is reached -/
inductive Rch (h : Hz) (z : Zz) (f : Str) : Sg → Prop
  | start : Rch h z f ⟨firstS z f, [0], [0]⟩
  | step {g b : Sg} {s : Stp} : Rch h z f g → s ∈ allSteps h → bStep z g s = some b → Rch h z f b
  | tick {g b : Sg} : Rch h z f g → bTick z g = some b → Rch h z f b
structure Gr (a b : List En × List Sg) : Prop where
  sub : ∀ g ∈ a.1.map En.g, g ∈ b.1.map En.g
  pre : ∀ (i : Nat) g, a.2[i]? = some g → b.2[i]? = some g
  new : ∀ g ∈ b.1.map En.g, g ∈ a.1.map En.g ∨ g ∈ b.2
theorem Gr.refl (a : List En × List Sg) : Gr a a := ⟨fun _ q => q, fun _ _ q => q, fun _ q => .inl q⟩
theorem Gr.lay {a b : List En × List Sg} (x : Gr a b) : ∀ g ∈ a.2, g ∈ b.2 := fun g q => by
  obtain ⟨i, e⟩ := List.mem_iff_getElem?.mp q
  exact List.mem_of_getElem? (x.pre i g e)
theorem Gr.trans {a b c : List En × List Sg} (x : Gr a b) (y : Gr b c) : Gr a c := ⟨fun g q => y.sub g (x.sub g q), fun i g q => y.pre i g (x.pre i g q), fun g q => by
  rcases y.new g q with r | r
  · rcases x.new g r with s | s
    · exact .inl s
    · exact .inr (y.lay g s)
  · exact .inr r⟩
theorem gr_visit (t : Int) (g : Sg) (s : Option Stp) (st : List En × List Sg) (b : Option Sg) : Gr st (Lw.visit t g s st b) ∧ ∀ x, b = some x → x ∈ (Lw.visit t g s st b).1.map En.g := by
  cases b with
  | none => exact ⟨Gr.refl _, fun x e => by cases e⟩
  | some b =>
    by_cases e : b ∈ st.1.map En.g
    · rw [show Lw.visit t g s st (some b) = st from if_pos e]
      exact ⟨Gr.refl _, fun x q => by cases q; exact e⟩
    · rw [show Lw.visit t g s st (some b) = (st.1 ++ [⟨b, t, some g, s⟩], st.2 ++ [b]) from if_neg e]
      refine ⟨⟨fun x q => ?_, fun i x q => ?_, fun x q => ?_⟩, fun x q => ?_⟩
      · rw [List.map_append]; exact List.mem_append_left _ q
      · obtain ⟨l, _⟩ := List.getElem?_eq_some_iff.mp q
        rw [List.getElem?_append_left l]; exact q
      · rw [List.map_append] at q
        rcases List.mem_append.mp q with r | r
        · exact .inl r
        · exact .inr (List.mem_append_right _ r)
      · cases q
        rw [List.map_append]
        exact List.mem_append_right _ (List.mem_singleton.mpr rfl)
theorem gr_all (z : Zz) (t : Int) (g : Sg) (ss : List Stp) (st : List En × List Sg) : Gr st (visitAll z t g ss st) ∧ ∀ s ∈ ss, ∀ b, bStep z g s = some b → b ∈ (visitAll z t g ss st).1.map En.g := by
  unfold visitAll
  induction ss generalizing st with
  | nil => exact ⟨Gr.refl _, fun s q => by cases q⟩
  | cons s ss ih =>
    obtain ⟨a1, a2⟩ := gr_visit t g (some s) st (bStep z g s)
    obtain ⟨b1, b2⟩ := ih (Lw.visit t g (some s) st (bStep z g s))
    refine ⟨a1.trans b1, fun s' q b e => ?_⟩
    rcases List.mem_cons.mp q with r | r
    · subst r; exact b1.sub b (a2 b e)
    · exact b2 s' r b e
theorem gr_follow (z : Zz) (t : Int) (lay : List Sg) (st : List En × List Sg) : Gr st (follow z t lay st) ∧ ∀ g ∈ lay, ∀ b, bTick z g = some b → b ∈ (follow z t lay st).1.map En.g := by
  unfold follow
  induction lay generalizing st with
  | nil => exact ⟨Gr.refl _, fun s q => by cases q⟩
  | cons g lay ih =>
    obtain ⟨a1, a2⟩ := gr_visit t g none st (bTick z g)
    obtain ⟨b1, b2⟩ := ih (Lw.visit t g none st (bTick z g))
    refine ⟨a1.trans b1, fun s' q b e => ?_⟩
    rcases List.mem_cons.mp q with r | r
    · subst r; exact b1.sub b (a2 b e)
    · exact b2 s' r b e
theorem gr_spr {z : Zz} {ss : List Stp} {t : Int} {i : Nat} {st r : List En × List Sg} (p : Spr z ss t i st r) : Gr st r ∧ ∀ j g, i ≤ j → r.2[j]? = some g → ∀ s ∈ ss, ∀ b, bStep z g s = some b → b ∈ r.1.map En.g := by
  induction p with
  | @done i st h => exact ⟨Gr.refl _, fun j g q e => by
      obtain ⟨l, _⟩ := List.getElem?_eq_some_iff.mp e
      exact absurd l (by omega)⟩
  | @more i st r g e _ ih =>
    obtain ⟨a1, a2⟩ := gr_all z t g ss st
    obtain ⟨b1, b2⟩ := ih
    refine ⟨a1.trans b1, fun j g' q e' s hs b hb => ?_⟩
    by_cases ij : j = i
    · subst ij
      rw [(a1.trans b1).pre _ _ e] at e'
      cases e'
      exact b1.sub b (a2 s hs b hb)
    · exact b2 j g' (by omega) e' s hs b hb
/-- closed but for the layer -/
def Cl (h : Hz) (z : Zz) (fd : List En) (lay : List Sg) : Prop := ∀ g ∈ fd.map En.g, g ∈ lay ∨ ((∀ s ∈ allSteps h, ∀ b, bStep z g s = some b → b ∈ fd.map En.g) ∧ ∀ b, bTick z g = some b → b ∈ fd.map En.g)
theorem sch_closed {h : Hz} {z : Zz} {t : Int} {fd r : List En} {lay : List Sg} (p : Sch z (allSteps h) t fd lay r) (c : Cl h z fd lay) : Cl h z r [] ∧ ∀ g ∈ fd.map En.g, g ∈ r.map En.g := by
  induction p with
  | done => exact ⟨c, fun _ q => q⟩
  | @more t fd fd1 fd2 r lay lay1 lay2 _ sp e _ ih =>
    obtain ⟨a1, a2⟩ := gr_spr sp
    obtain ⟨b1, b2⟩ := gr_follow z (t + 1) lay1 (fd1, [])
    rw [← e] at b1 b2
    have c2 : Cl h z fd2 lay2 := fun g hg => by
      rcases b1.new g hg with q | q
      · have up : g ∈ lay1 → g ∈ lay2 ∨ ((∀ s ∈ allSteps h, ∀ b, bStep z g s = some b → b ∈ fd2.map En.g) ∧ ∀ b, bTick z g = some b → b ∈ fd2.map En.g) := fun r => by
          obtain ⟨j, ej⟩ := List.mem_iff_getElem?.mp r
          exact .inr ⟨fun s hs b hb => b1.sub b (a2 j g (Nat.zero_le _) ej s hs b hb), fun b hb => b2 g r b hb⟩
        rcases a1.new g q with r | r
        · rcases c g r with s | s
          · exact up (a1.lay g s)
          · exact .inr ⟨fun s' hs b hb => b1.sub b (a1.sub b (s.1 s' hs b hb)), fun b hb => b1.sub b (a1.sub b (s.2 b hb))⟩
        · exact up r
      · exact .inl q
    obtain ⟨d1, d2⟩ := ih c2
    exact ⟨d1, fun g q => d2 g (b1.sub g (a1.sub g q))⟩
structure Al (R : Sg → Prop) (st : List En × List Sg) : Prop where
  f : ∀ g ∈ st.1.map En.g, R g
  l : ∀ g ∈ st.2, R g
theorem Al.visit {R : Sg → Prop} {st : List En × List Sg} (y : Al R st) {t : Int} {g : Sg} {s : Option Stp} {b : Option Sg} (hb : ∀ x, b = some x → R x) : Al R (Lw.visit t g s st b) := by
  cases b with
  | none => exact y
  | some b =>
    by_cases e : b ∈ st.1.map En.g
    · rw [show Lw.visit t g s st (some b) = st from if_pos e]; exact y
    · rw [show Lw.visit t g s st (some b) = (st.1 ++ [⟨b, t, some g, s⟩], st.2 ++ [b]) from if_neg e]
      refine ⟨fun x q => ?_, fun x q => ?_⟩
      · rw [List.map_append] at q
        rcases List.mem_append.mp q with r | r
        · exact y.f x r
        · rw [List.mem_singleton.mp r]; exact hb _ rfl
      · rcases List.mem_append.mp q with r | r
        · exact y.l x r
        · rw [List.mem_singleton.mp r]; exact hb _ rfl
theorem Al.all {h : Hz} {z : Zz} {f : Str} {t : Int} {g : Sg} (hg : Rch h z f g) {ss : List Stp} (hs : ∀ s ∈ ss, s ∈ allSteps h) {st : List En × List Sg} (y : Al (Rch h z f) st) : Al (Rch h z f) (visitAll z t g ss st) := by
  unfold visitAll
  induction ss generalizing st with
  | nil => exact y
  | cons s ss ih => exact ih (fun x hx => hs x (List.mem_cons_of_mem _ hx)) (y.visit fun x e => .step hg (hs s (List.mem_cons_self ..)) e)
theorem Al.spr {h : Hz} {z : Zz} {f : Str} {t : Int} {i : Nat} {st r : List En × List Sg} (p : Spr z (allSteps h) t i st r) (y : Al (Rch h z f) st) : Al (Rch h z f) r := by
  induction p with
  | done _ => exact y
  | more e _ ih => exact ih (y.all (y.l _ (List.mem_of_getElem? e)) fun _ q => q)
theorem Al.follow {h : Hz} {z : Zz} {f : Str} {t : Int} {lay : List Sg} (hl : ∀ g ∈ lay, Rch h z f g) {st : List En × List Sg} (y : Al (Rch h z f) st) : Al (Rch h z f) (Lw.follow z t lay st) := by
  unfold Lw.follow
  induction lay generalizing st with
  | nil => exact y
  | cons g lay ih => exact ih (fun x hx => hl x (List.mem_cons_of_mem _ hx)) (y.visit fun x e => .tick (hl g (List.mem_cons_self ..)) e)
theorem sch_reached {h : Hz} {z : Zz} {f : Str} {t : Int} {fd r : List En} {lay : List Sg} (p : Sch z (allSteps h) t fd lay r) (y : Al (Rch h z f) (fd, lay)) : ∀ g ∈ r.map En.g, Rch h z f g := by
  induction p with
  | done => exact y.f
  | @more t fd fd1 fd2 r lay lay1 lay2 _ sp e _ ih =>
    have a := Al.spr sp y
    have b := Al.follow (t := t + 1) a.l (st := (fd1, [])) ⟨a.f, fun _ q => nomatch q⟩
    rw [← e] at b
    exact ih b
/-- what the search finds is what is reached -/
theorem sch_iff {h : Hz} {z : Zz} {f : Str} {fd : List En} (p : Sch z (allSteps h) 0 [⟨⟨firstS z f, [0], [0]⟩, 0, none, none⟩] [⟨firstS z f, [0], [0]⟩] fd) (g : Sg) : g ∈ fd.map En.g ↔ Rch h z f g := by
  refine ⟨sch_reached p ⟨fun x q => ?_, fun x q => ?_⟩ g, fun q => ?_⟩
  · rw [List.mem_singleton.mp q]; exact .start
  · rw [List.mem_singleton.mp q]; exact .start
  · obtain ⟨c1, c2⟩ := sch_closed p (fun g q => .inl q)
    induction q with
    | start => exact c2 _ (List.mem_singleton.mpr rfl)
    | step _ hs hb ih => exact (c1 _ ih).elim (fun q => nomatch q) fun q => q.1 _ hs _ hb
    | tick _ hb ih => exact (c1 _ ih).elim (fun q => nomatch q) fun q => q.2 _ hb
end Lw
set_option Elab.async false
set_option linter.all false
set_option maxRecDepth 100000
set_option maxHeartbeats 4000000
namespace Lw
open PySem PySem.Spec PyProof.Rows L2 Hb
/-! ### what is reached within so many ticks; when the search finds it -/
inductive RchT (h : Hz) (z : Zz) (f : Str) : Nat → Sg → Prop
  | start : RchT h z f 0 ⟨firstS z f, [0], [0]⟩
  | step {t : Nat} {g b : Sg} {s : Stp} : RchT h z f t g → s ∈ allSteps h → bStep z g s = some b → RchT h z f t b
  | tick {t : Nat} {g b : Sg} : RchT h z f t g → bTick z g = some b → RchT h z f (t + 1) b
theorem RchT.rch {h : Hz} {z : Zz} {f : Str} {t : Nat} {g : Sg} (x : RchT h z f t g) : Rch h z f g := by
  induction x with
  | start => exact .start
  | step _ hs hb ih => exact .step ih hs hb
  | tick _ hb ih => exact .tick ih hb
theorem Rch.some_t {h : Hz} {z : Zz} {f : Str} {g : Sg} (x : Rch h z f g) : ∃ t, RchT h z f t g := by
  induction x with
  | start => exact ⟨0, .start⟩
  | step _ hs hb ih => obtain ⟨t, ih⟩ := ih; exact ⟨t, .step ih hs hb⟩
  | tick _ hb ih => obtain ⟨t, ih⟩ := ih; exact ⟨t + 1, .tick ih hb⟩
/-- entries only come -/
structure GrE (a b : List En × List Sg) : Prop where
  sub : ∀ e ∈ a.1, e ∈ b.1
  new : ∀ e ∈ b.1, e ∈ a.1 ∨ e.g ∈ b.2
  lay : ∀ g ∈ a.2, g ∈ b.2
theorem GrE.refl (a : List En × List Sg) : GrE a a := ⟨fun _ q => q, fun _ q => .inl q, fun _ q => q⟩
theorem GrE.trans {a b c : List En × List Sg} (x : GrE a b) (y : GrE b c) : GrE a c := ⟨fun e q => y.sub e (x.sub e q), fun e q => by
  rcases y.new e q with r | r
  · rcases x.new e r with s | s
    · exact .inl s
    · exact .inr (y.lay _ s)
  · exact .inr r, fun g q => y.lay g (x.lay g q)⟩
/-- what is promised of times -/
structure AT (h : Hz) (z : Zz) (f : Str) (t : Nat) (st : List En × List Sg) : Prop where
  ok : ∀ e ∈ st.1, ∃ n : Nat, e.t = (n : Int) ∧ n ≤ t ∧ RchT h z f n e.g
  la : ∀ g ∈ st.2, RchT h z f t g
  srt : st.1.Pairwise fun a b => a.t ≤ b.t
  lt : ∀ e ∈ st.1, e.g ∈ st.2 → e.t = (t : Int)
section
variable {h : Hz} {z : Zz} {f : Str} {t : Nat} {st : List En × List Sg}
theorem AT.visit (y : AT h z f t st) {g : Sg} {s : Option Stp} {b : Option Sg} (hb : ∀ x, b = some x → RchT h z f t x) : AT h z f t (Lw.visit (t : Int) g s st b) ∧ GrE st (Lw.visit (t : Int) g s st b) := by
  cases b with
  | none => exact ⟨y, GrE.refl _⟩
  | some b =>
    by_cases e : b ∈ st.1.map En.g
    · rw [show Lw.visit (t : Int) g s st (some b) = st from if_pos e]
      exact ⟨y, GrE.refl _⟩
    · rw [show Lw.visit (t : Int) g s st (some b) = (st.1 ++ [⟨b, (t : Int), some g, s⟩], st.2 ++ [b]) from if_neg e]
      refine ⟨⟨fun x q => ?_, fun x q => ?_, ?_, fun x q r => ?_⟩, fun x q => List.mem_append_left _ q, fun x q => ?_, fun x q => List.mem_append_left _ q⟩
      · rcases List.mem_append.mp q with r | r
        · exact y.ok x r
        · rw [List.mem_singleton.mp r]
          exact ⟨t, rfl, Nat.le_refl _, hb _ rfl⟩
      · rcases List.mem_append.mp q with r | r
        · exact y.la x r
        · rw [List.mem_singleton.mp r]; exact hb _ rfl
      · refine List.pairwise_append.mpr ⟨y.srt, List.pairwise_singleton _ _, fun a ha c hc => ?_⟩
        rw [List.mem_singleton.mp hc]
        obtain ⟨n, e1, e2, _⟩ := y.ok a ha
        show a.t ≤ (t : Int)
        omega
      · rcases List.mem_append.mp q with q | q
        · rcases List.mem_append.mp r with r | r
          · exact y.lt x q r
          · exact absurd (List.mem_map.mpr ⟨x, q, List.mem_singleton.mp r⟩) e
        · rw [List.mem_singleton.mp q]
      · rcases List.mem_append.mp q with q | q
        · exact .inl q
        · rw [List.mem_singleton.mp q]
          exact .inr (List.mem_append_right _ (List.mem_singleton.mpr rfl))
theorem AT.all (y : AT h z f t st) {g : Sg} (hg : RchT h z f t g) {ss : List Stp} (hs : ∀ s ∈ ss, s ∈ allSteps h) : AT h z f t (visitAll z (t : Int) g ss st) ∧ GrE st (visitAll z (t : Int) g ss st) := by
  unfold visitAll
  induction ss generalizing st with
  | nil => exact ⟨y, GrE.refl _⟩
  | cons s ss ih =>
    obtain ⟨a1, a2⟩ := y.visit (g := g) (s := some s) (b := bStep z g s) fun x e => .step hg (hs s List.mem_cons_self) e
    obtain ⟨b1, b2⟩ := ih a1 fun x hx => hs x (List.mem_cons_of_mem _ hx)
    exact ⟨b1, a2.trans b2⟩
theorem AT.follow {lay : List Sg} (hl : ∀ g ∈ lay, RchT h z f t g) (y : AT h z f (t + 1) st) : AT h z f (t + 1) (Lw.follow z ((t : Int) + 1) lay st) ∧ GrE st (Lw.follow z ((t : Int) + 1) lay st) := by
  unfold Lw.follow
  induction lay generalizing st with
  | nil => exact ⟨y, GrE.refl _⟩
  | cons g lay ih =>
    obtain ⟨a1, a2⟩ := y.visit (g := g) (s := none) (b := bTick z g) fun x e => .tick (hl g List.mem_cons_self) e
    obtain ⟨b1, b2⟩ := ih (fun x hx => hl x (List.mem_cons_of_mem _ hx)) a1
    exact ⟨b1, a2.trans b2⟩
theorem AT.spr {i : Nat} {r : List En × List Sg} (p : Spr z (allSteps h) (t : Int) i st r) (y : AT h z f t st) : AT h z f t r ∧ GrE st r := by
  induction p with
  | done _ => exact ⟨y, GrE.refl _⟩
  | more e _ ih =>
    obtain ⟨a1, a2⟩ := y.all (y.la _ (List.mem_of_getElem? e)) fun _ q => q
    obtain ⟨b1, b2⟩ := ih a1
    exact ⟨b1, a2.trans b2⟩
/-- what lies behind an entry is found, in time -/
def ClE (h : Hz) (z : Zz) (fd : List En) (e : En) : Prop := (∀ s ∈ allSteps h, ∀ b, bStep z e.g s = some b → ∃ e' ∈ fd, e'.g = b ∧ e'.t ≤ e.t) ∧ ∀ b, bTick z e.g = some b → ∃ e' ∈ fd, e'.g = b ∧ e'.t ≤ e.t + 1
theorem ClE.more {fd fd' : List En} {e : En} (x : ClE h z fd e) (s : ∀ e ∈ fd, e ∈ fd') : ClE h z fd' e := ⟨fun u hu b eb => by
  obtain ⟨e', a, b⟩ := x.1 u hu b eb
  exact ⟨e', s _ a, b⟩, fun b eb => by
  obtain ⟨e', a, b⟩ := x.2 b eb
  exact ⟨e', s _ a, b⟩⟩
theorem sch_times {T : Int} {fd r : List En} {lay : List Sg} (p : Sch z (allSteps h) T fd lay r) : ∀ (t : Nat), T = (t : Int) → AT h z f t (fd, lay) → (∀ e ∈ fd, e.g ∈ lay ∨ ClE h z fd e) →
    (∀ e ∈ r, ∃ n : Nat, e.t = (n : Int) ∧ RchT h z f n e.g) ∧ (r.Pairwise fun a b => a.t ≤ b.t) ∧ (∀ e ∈ r, ClE h z r e) ∧ ∀ e ∈ fd, e ∈ r := by
  induction p with
  | done =>
    rintro t rfl y c
    exact ⟨fun e he => by obtain ⟨n, a, _, b⟩ := y.ok e he; exact ⟨n, a, b⟩, y.srt, fun e he => (c e he).elim (fun q => nomatch q) id, fun _ q => q⟩
  | @more T fd fd1 fd2 r lay lay1 lay2 _ sp e _ ih =>
    rintro t rfl y c
    obtain ⟨y1, g1⟩ := y.spr sp
    obtain ⟨a1, a2⟩ := gr_spr sp
    have y1' : AT h z f (t + 1) (fd1, []) := ⟨fun x hx => by obtain ⟨n, p1, p2, p3⟩ := y1.ok x hx; exact ⟨n, p1, by omega, p3⟩, (fun _ q => nomatch q), y1.srt, fun _ _ q => nomatch q⟩
    obtain ⟨y2, g2⟩ := AT.follow y1.la y1'
    obtain ⟨b1, b2⟩ := gr_follow z ((t : Int) + 1) lay1 (fd1, [])
    rw [← e] at y2 g2 b1 b2
    obtain ⟨i1, i2, i3, i4⟩ := ih (t + 1) (by omega) y2 fun x hx => by
      rcases g2.new x hx with q | q
      · have up : x.g ∈ lay1 → x.t = (t : Int) → x.g ∈ lay2 ∨ ClE h z fd2 x := fun r et => by
          obtain ⟨j, ej⟩ := List.mem_iff_getElem?.mp r
          refine .inr ⟨fun s hs b hb => ?_, fun b hb => ?_⟩
          · obtain ⟨x', hx', e'⟩ := List.mem_map.mp (a2 j x.g (Nat.zero_le _) ej s hs b hb)
            obtain ⟨n, p1, p2, _⟩ := y1.ok x' hx'
            exact ⟨x', g2.sub _ hx', e', by omega⟩
          · obtain ⟨x', hx', e'⟩ := List.mem_map.mp (b2 x.g r b hb)
            obtain ⟨n, p1, p2, _⟩ := y2.ok x' hx'
            exact ⟨x', hx', e', by omega⟩
        rcases g1.new x q with r | r
        · rcases c x r with s | s
          · exact up (g1.lay _ s) (y.lt x r s)
          · exact .inr ((s.more g1.sub).more g2.sub)
        · exact up r (y1.lt x q r)
      · exact .inl q
    exact ⟨i1, i2, i3, fun x hx => i4 x (g2.sub _ (g1.sub _ hx))⟩
/-- when the search finds what is reached -/
structure FdT (h : Hz) (z : Zz) (f : Str) (r : List En) : Prop where
  ok : ∀ e ∈ r, ∃ n : Nat, e.t = (n : Int) ∧ RchT h z f n e.g
  srt : r.Pairwise fun a b => a.t ≤ b.t
  all : ∀ t g, RchT h z f t g → ∃ e ∈ r, e.g = g ∧ e.t ≤ (t : Int)
theorem sch_fdT {fd : List En} (p : Sch z (allSteps h) 0 [⟨⟨firstS z f, [0], [0]⟩, 0, none, none⟩] [⟨firstS z f, [0], [0]⟩] fd) : FdT h z f fd := by
  obtain ⟨a, b, c, d⟩ := sch_times (f := f) p 0 rfl ⟨fun e he => by rw [List.mem_singleton.mp he]; exact ⟨0, rfl, Nat.le_refl _, .start⟩, fun g hg => by rw [List.mem_singleton.mp hg]; exact .start, List.pairwise_singleton _ _, fun e he _ => by rw [List.mem_singleton.mp he]; rfl⟩ fun e he => .inl (by rw [List.mem_singleton.mp he]; exact List.mem_singleton.mpr rfl)
  refine ⟨a, b, fun t g x => ?_⟩
  induction x with
  | start => exact ⟨_, d _ (List.mem_singleton.mpr rfl), rfl, by show (0 : Int) ≤ ((0 : Nat) : Int); omega⟩
  | step _ hs hb ih =>
    obtain ⟨e, he, rfl, le⟩ := ih
    obtain ⟨e', he', q, le'⟩ := (c e he).1 _ hs _ hb
    exact ⟨e', he', q, by omega⟩
  | tick _ hb ih =>
    obtain ⟨e, he, rfl, le⟩ := ih
    obtain ⟨e', he', q, le'⟩ := (c e he).2 _ hb
    exact ⟨e', he', q, by omega⟩
/-! the law's layers -/
structure LyT (h : Hz) (z : Zz) (f : Str) (ls : List (List Sg)) (ly nl : List Sg) : Prop where
  r1 : ∀ (i : Nat) l, ls[i]? = some l → ∀ g ∈ l, RchT h z f i g
  r2 : ∀ g ∈ ly, RchT h z f ls.length g
  r3 : ∀ g ∈ nl, RchT h z f (ls.length + 1) g
  st : (∃ l, ls[0]? = some l ∧ (⟨firstS z f, [0], [0]⟩ : Sg) ∈ l) ∨ (ls = [] ∧ (⟨firstS z f, [0], [0]⟩ : Sg) ∈ ly)
  cl : ∀ (i : Nat) l, ls[i]? = some l → ∀ g ∈ l, (∀ s ∈ allSteps h, ∀ b, bStep z g s = some b → ∃ j m, j ≤ i ∧ ls[j]? = some m ∧ b ∈ m) ∧ ∀ b, bTick z g = some b → (∃ j m, j ≤ i + 1 ∧ ls[j]? = some m ∧ b ∈ m) ∨ (i + 1 = ls.length ∧ b ∈ ly)
/-- steps from the layer lead into it or ahead of it -/
def StepsT (h : Hz) (z : Zz) (dn ly : List Sg) : Prop := ∀ g ∈ ly, ∀ s ∈ allSteps h, ∀ b, bStep z g s = some b → b ∈ dn ∨ b ∈ ly
def TicksT (z : Zz) (dn ly nl : List Sg) : Prop := ∀ g ∈ ly, ∀ b, bTick z g = some b → b ∈ dn ∨ b ∈ ly ∨ b ∈ nl
theorem LyT.start : LyT h z f [] [⟨firstS z f, [0], [0]⟩] [] := ⟨fun i l e => (by cases e), fun g hg => (by rw [List.mem_singleton.mp hg]; exact .start), (fun g hg => nomatch hg), .inr ⟨rfl, List.mem_singleton.mpr rfl⟩, fun i l e => (by cases e)⟩
section
variable {ls : List (List Sg)} {ly nl : List Sg}
theorem LyT.addL (x : LyT h z f ls ly nl) {b : Sg} (r : RchT h z f ls.length b) : LyT h z f ls (ly ++ [b]) nl := ⟨x.r1, fun g hg => by
  rcases List.mem_append.mp hg with q | q
  · exact x.r2 g q
  · rw [List.mem_singleton.mp q]; exact r, x.r3, x.st.imp id fun q => ⟨q.1, List.mem_append_left _ q.2⟩, fun i l e g hg => ⟨(x.cl i l e g hg).1, fun b eb => ((x.cl i l e g hg).2 b eb).imp id fun q => ⟨q.1, List.mem_append_left _ q.2⟩⟩⟩
theorem LyT.addN (x : LyT h z f ls ly nl) {b : Sg} (r : RchT h z f (ls.length + 1) b) : LyT h z f ls ly (nl ++ [b]) := ⟨x.r1, x.r2, fun g hg => by
  rcases List.mem_append.mp hg with q | q
  · exact x.r3 g q
  · rw [List.mem_singleton.mp q]; exact r, x.st, x.cl⟩
theorem LyT.turn (x : LyT h z f ls ly nl) (a : StepsT h z ls.flatten ly) (b : TicksT z ls.flatten ly nl) : LyT h z f (ls ++ [ly]) nl [] := by
  have here : (ls ++ [ly])[ls.length]? = some ly := by rw [List.getElem?_append_right (Nat.le_refl _), Nat.sub_self]; rfl
  have old : ∀ {i : Nat} {l : List Sg}, ls[i]? = some l → (ls ++ [ly])[i]? = some l := fun {i l} e => by
    rw [List.getElem?_append_left (List.getElem?_eq_some_iff.mp e).1]
    exact e
  have len : (ls ++ [ly]).length = ls.length + 1 := by rw [List.length_append]; rfl
  have fl : ∀ {b}, b ∈ ls.flatten → ∃ (j : Nat) (m : List Sg), j < ls.length ∧ (ls ++ [ly])[j]? = some m ∧ b ∈ m := fun {b} q => by
    obtain ⟨m, hm, hb⟩ := List.mem_flatten.mp q
    obtain ⟨j, ej⟩ := List.mem_iff_getElem?.mp hm
    exact ⟨j, m, (List.getElem?_eq_some_iff.mp ej).1, old ej, hb⟩
  have cases_ : ∀ {i : Nat} {l : List Sg}, (ls ++ [ly])[i]? = some l → ls[i]? = some l ∨ (i = ls.length ∧ l = ly) := fun {i l} e => by
    by_cases c : i < ls.length
    · rw [List.getElem?_append_left c] at e
      exact .inl e
    · have ci := (List.getElem?_eq_some_iff.mp e).1
      rw [len] at ci
      obtain rfl : i = ls.length := by omega
      rw [here] at e
      exact .inr ⟨rfl, (Option.some.inj e).symm⟩
  refine ⟨fun i l e g hg => ?_, fun g hg => by rw [len]; exact x.r3 g hg, (fun g hg => nomatch hg), .inl ?_, fun i l e g hg => ?_⟩
  · rcases cases_ e with e | ⟨rfl, rfl⟩
    · exact x.r1 i l e g hg
    · exact x.r2 g hg
  · rcases x.st with ⟨l, e, m⟩ | ⟨rfl, m⟩
    · exact ⟨l, old e, m⟩
    · exact ⟨ly, rfl, m⟩
  · rcases cases_ e with e | ⟨rfl, rfl⟩
    · obtain ⟨c1, c2⟩ := x.cl i l e g hg
      refine ⟨fun s hs b eb => ?_, fun b eb => .inl ?_⟩
      · obtain ⟨j, m, p1, p2, p3⟩ := c1 s hs b eb
        exact ⟨j, m, p1, old p2, p3⟩
      · rcases c2 b eb with ⟨j, m, p1, p2, p3⟩ | ⟨p1, p2⟩
        · exact ⟨j, m, p1, old p2, p3⟩
        · exact ⟨ls.length, ly, by omega, here, p2⟩
    · refine ⟨fun s hs c ec => ?_, fun c ec => ?_⟩
      · rcases a g hg s hs c ec with q | q
        · obtain ⟨j, m, p1, p2, p3⟩ := fl q
          exact ⟨j, m, by omega, p2, p3⟩
        · exact ⟨_, _, Nat.le_refl _, here, q⟩
      · rcases b g hg c ec with q | q | q
        · obtain ⟨j, m, p1, p2, p3⟩ := fl q
          exact .inl ⟨j, m, by omega, p2, p3⟩
        · exact .inl ⟨_, _, Nat.le_succ _, here, q⟩
        · exact .inr ⟨len.symm, q⟩
end
/-- the layers told: by ticks -/
structure LysT (h : Hz) (z : Zz) (f : Str) (ls : List (List Sg)) : Prop where
  ok : ∀ (i : Nat) l, ls[i]? = some l → ∀ g ∈ l, RchT h z f i g
  all : ∀ t g, RchT h z f t g → ∃ j l, j ≤ t ∧ ls[j]? = some l ∧ g ∈ l
theorem LyT.done {ls : List (List Sg)} (x : LyT h z f ls [] []) : LysT h z f ls := ⟨x.r1, fun t g r => by
  induction r with
  | start =>
    rcases x.st with ⟨l, e, m⟩ | ⟨_, m⟩
    · exact ⟨0, l, Nat.le_refl _, e, m⟩
    · cases m
  | step _ hs hb ih =>
    obtain ⟨j, l, le, e, m⟩ := ih
    obtain ⟨j', l', le', e', m'⟩ := (x.cl j l e _ m).1 _ hs _ hb
    exact ⟨j', l', by omega, e', m'⟩
  | tick _ hb ih =>
    obtain ⟨j, l, le, e, m⟩ := ih
    rcases (x.cl j l e _ m).2 _ hb with ⟨j', l', le', e', m'⟩ | ⟨_, m'⟩
    · exact ⟨j', l', by omega, e', m'⟩
    · cases m'⟩
end
/-! the least number of ticks to a room -/
def LeastT (h : Hz) (z : Zz) (f : Str) (r : Int) : Option Nat → Prop
  | some t => (∃ g, RchT h z f t g ∧ r ∈ g.no) ∧ ∀ t' g, RchT h z f t' g → r ∈ g.no → t ≤ t'
  | none => ∀ t g, RchT h z f t g → r ∉ g.no
def onV : Option Nat → V
  | some t => .int (t : Nat)
  | none => .non
theorem LeastT.unique {h : Hz} {z : Zz} {f : Str} {r : Int} : ∀ {o o' : Option Nat}, LeastT h z f r o → LeastT h z f r o' → o = o'
  | none, none, _, _ => rfl
  | some t, some t', ⟨⟨g, a, b⟩, c⟩, ⟨⟨g', a', b'⟩, c'⟩ => by
    have := c t' g' a' b'
    have := c' t g a b
    rw [show t = t' by omega]
  | none, some _, x, ⟨⟨g, a, b⟩, _⟩ => absurd b (x _ g a)
  | some _, none, ⟨⟨g, a, b⟩, _⟩, x => absurd b (x _ g a)
theorem FdT.least {h : Hz} {z : Zz} {f : Str} {r : Int} {fd : List En} (x : FdT h z f fd) {i : Nat} {e : En} (he : fd[i]? = some e) (m : r ∈ e.g.no) (pre : ∀ e' ∈ fd.take i, r ∉ e'.g.no) : ∃ n : Nat, e.t = (n : Int) ∧ LeastT h z f r (some n) := by
  obtain ⟨n, en, rn⟩ := x.ok e (List.mem_of_getElem? he)
  refine ⟨n, en, ⟨e.g, rn, m⟩, fun t' g rg mg => ?_⟩
  obtain ⟨e', he', eg, le⟩ := x.all t' g rg
  obtain ⟨j, ej⟩ := List.mem_iff_getElem?.mp he'
  obtain ⟨jl, ejj⟩ := List.getElem?_eq_some_iff.mp ej
  obtain ⟨il, eii⟩ := List.getElem?_eq_some_iff.mp he
  rcases Nat.lt_trichotomy j i with c | c | c
  · exact absurd (by rw [eg]; exact mg) (pre e' (List.mem_iff_getElem?.mpr ⟨j, by rw [List.getElem?_take_of_lt c]; exact ej⟩))
  · subst c
    rw [he] at ej
    cases ej
    omega
  · have := List.pairwise_iff_getElem.mp x.srt i j il jl c
    rw [eii, ejj] at this
    omega
theorem FdT.least0 {h : Hz} {z : Zz} {f : Str} {r : Int} {fd : List En} (x : FdT h z f fd) (no : ∀ e ∈ fd, r ∉ e.g.no) : LeastT h z f r none := fun t g rg mg => by
  obtain ⟨e', he', eg, le⟩ := x.all t g rg
  exact no e' he' (by rw [eg]; exact mg)
theorem LysT.least {h : Hz} {z : Zz} {f : Str} {r : Int} {ls : List (List Sg)} (x : LysT h z f ls) {i : Nat} {l : List Sg} (hl : ls[i]? = some l) (m : ∃ g ∈ l, r ∈ g.no) (pre : ∀ l' ∈ ls.take i, ∀ g ∈ l', r ∉ g.no) : LeastT h z f r (some i) := by
  obtain ⟨g, hg, mg⟩ := m
  refine ⟨⟨g, x.ok i l hl g hg, mg⟩, fun t' g' rg mg' => ?_⟩
  obtain ⟨j, l', le, ej, m'⟩ := x.all t' g' rg
  by_cases c : j < i
  · exact absurd mg' (pre l' (List.mem_iff_getElem?.mpr ⟨j, by rw [List.getElem?_take_of_lt c]; exact ej⟩) g' m')
  · omega
theorem LysT.least0 {h : Hz} {z : Zz} {f : Str} {r : Int} {ls : List (List Sg)} (x : LysT h z f ls) (no : ∀ l' ∈ ls, ∀ g ∈ l', r ∉ g.no) : LeastT h z f r none := fun t g rg mg => by
  obtain ⟨j, l', le, ej, m'⟩ := x.all t g rg
  exact no l' (List.mem_of_getElem? ej) g m' mg
theorem LeastT.street {h : Hz} {z : Zz} {f : Str} : LeastT h z f 0 (some 0) := ⟨⟨_, .start, List.mem_singleton.mpr rfl⟩, fun _ _ _ _ => Nat.zero_le _⟩
end Lw
set_option Elab.async false
set_option linter.all false
set_option maxRecDepth 100000
set_option maxHeartbeats 4000000
namespace Lw
open PySem PySem.Spec PyProof.Rows L2 Hb
/-! ### all lots of rooms -/
def subs {α : Type} : List α → List (List α)
  | [] => [[]]
  | x :: xs => subs xs ++ (subs xs).map (x :: ·)
theorem subs_mem {α : Type} {l xs : List α} (s : l.Sublist xs) : l ∈ subs xs := by
  induction s with
  | slnil => exact List.mem_singleton.mpr rfl
  | cons a _ ih => exact List.mem_append_left _ ih
  | cons_cons a _ ih => exact List.mem_append_right _ (List.mem_map_of_mem ih)
theorem subs_sub {α : Type} {l xs : List α} (s : l ∈ subs xs) : l.Sublist xs := by
  induction xs generalizing l with
  | nil => rw [List.mem_singleton.mp s]; exact List.Sublist.refl _
  | cons x xs ih =>
    rcases List.mem_append.mp s with q | q
    · exact (ih q).cons _
    · obtain ⟨m, hm, rfl⟩ := List.mem_map.mp q
      exact (ih hm).cons_cons _
theorem subs_len {α : Type} (xs : List α) : (subs xs).length = 2 ^ xs.length := by
  induction xs with
  | nil => rfl
  | cons x xs ih =>
    show (subs xs ++ (subs xs).map (x :: ·)).length = _
    rw [List.length_append, List.length_map, ih, List.length_cons, Nat.pow_succ]
    omega
def upI (a : Int) : Nat → List Int
  | 0 => []
  | k + 1 => a :: upI (a + 1) k
theorem upI_len (a : Int) (k : Nat) : (upI a k).length = k := by
  induction k generalizing a with
  | zero => rfl
  | succ k ih => show (upI (a + 1) k).length + 1 = _; rw [ih]
theorem upI_mem {a r : Int} {k : Nat} : r ∈ upI a k ↔ a ≤ r ∧ r < a + (k : Nat) := by
  induction k generalizing a with
  | zero => simp only [upI, List.not_mem_nil, false_iff]; omega
  | succ k ih =>
    simp only [upI, List.mem_cons, ih]
    omega
theorem upI_asc (a : Int) (k : Nat) : (upI a k).Pairwise (· < ·) := by
  induction k generalizing a with
  | zero => exact List.Pairwise.nil
  | succ k ih => exact List.Pairwise.cons (fun r hr => by have := (upI_mem.mp hr).1; omega) (ih (a + 1))
theorem asc_sub {l : List Int} {a : Int} {k : Nat} (p : l.Pairwise (· < ·)) (h : ∀ x ∈ l, a ≤ x ∧ x < a + (k : Nat)) : l.Sublist (upI a k) := by
  induction k generalizing a l with
  | zero => cases l with
    | nil => exact List.Sublist.refl _
    | cons x l => have := h x (List.mem_cons_self ..); omega
  | succ k ih => cases l with
    | nil => exact List.nil_sublist _
    | cons x l =>
      obtain ⟨p1, p2⟩ := List.pairwise_cons.mp p
      have hx := h x (List.mem_cons_self ..)
      by_cases e : x = a
      · subst e
        exact (ih p2 fun y hy => by
          have h1 := p1 y hy
          have h2 := h y (List.mem_cons_of_mem _ hy)
          omega).cons_cons _
      · refine (ih (l := x :: l) p fun y hy => ?_).cons _
        have h2 := h y hy
        rcases List.mem_cons.mp hy with q | q
        · omega
        · have := p1 y q
          omega
def insI (r : Int) : List Int → List Int
  | [] => [r]
  | x :: xs => if r < x then r :: x :: xs else x :: insI r xs
theorem insI_perm (r : Int) (l : List Int) : (l ++ [r]).Perm (insI r l) := by
  induction l with
  | nil => exact List.Perm.refl _
  | cons x xs ih =>
    unfold insI
    by_cases e : r < x
    · rw [if_pos e]
      exact List.perm_append_comm (l₁ := x :: xs) (l₂ := [r])
    · rw [if_neg e]
      exact ih.cons x
theorem insI_asc {r : Int} {l : List Int} (p : l.Pairwise (· < ·)) (n : r ∉ l) : (insI r l).Pairwise (· < ·) := by
  induction l with
  | nil => exact List.pairwise_singleton _ _
  | cons x xs ih =>
    obtain ⟨p1, p2⟩ := List.pairwise_cons.mp p
    unfold insI
    by_cases e : r < x
    · rw [if_pos e]
      exact List.Pairwise.cons (fun y hy => by
        rcases List.mem_cons.mp hy with q | q
        · omega
        · have := p1 y q; omega) p
    · rw [if_neg e]
      refine List.Pairwise.cons (fun y hy => ?_) (ih p2 fun q => n (List.mem_cons_of_mem _ q))
      have := (insI_perm r xs).mem_iff.mpr hy
      rcases List.mem_append.mp this with q | q
      · exact p1 y q
      · rw [List.mem_singleton.mp q]
        have : r ≠ x := fun z => n (by rw [z]; exact List.mem_cons_self ..)
        omega
theorem sortI_ins {r : Int} {l : List Int} (p : l.Pairwise (· < ·)) (n : r ∉ l) : sortI (l ++ [r]) = insI r l := sortI_perm_eq (insI_perm r l) (insI_asc p n)
/-- the lots of the rooms below n -/
def lots (n : Nat) : List (List Int) := subs (upI 0 n)
theorem lots_asc {n : Nat} {l : List Int} (h : l ∈ lots n) : l.Pairwise (· < ·) ∧ ∀ r ∈ l, 0 ≤ r ∧ r < (n : Nat) := by
  have s := subs_sub h
  refine ⟨(upI_asc 0 n).sublist s, fun r hr => ?_⟩
  have := upI_mem.mp (s.subset hr)
  omega
theorem lots_of {n : Nat} {l : List Int} (p : l.Pairwise (· < ·)) (h : ∀ r ∈ l, 0 ≤ r ∧ r < (n : Nat)) : l ∈ lots n := subs_mem (asc_sub p fun x hx => by have := h x hx; omega)
theorem lots_withR {n : Nat} {l : List Int} (h : l ∈ lots n) {r : Int} (r0 : 0 ≤ r) (r1 : r < (n : Nat)) : withR l r ∈ lots n := by
  unfold withR
  by_cases e : r ∈ l
  · rw [if_pos e]; exact h
  · rw [if_neg e]
    obtain ⟨p, q⟩ := lots_asc h
    rw [sortI_ins p e]
    refine lots_of (insI_asc p e) fun x hx => ?_
    rcases List.mem_append.mp ((insI_perm r l).mem_iff.mpr hx) with z | z
    · exact q x z
    · rw [List.mem_singleton.mp z]; exact ⟨r0, r1⟩
theorem lots_zero {n : Nat} (h : 1 ≤ n) : [(0 : Int)] ∈ lots n := lots_of (List.pairwise_singleton _ _) fun r hr => by rw [List.mem_singleton.mp hr]; omega
theorem lots_few {n : Nat} {l : List Int} (h : l ∈ lots n) : l.length ≤ n := by
  have := (subs_sub h).length_le
  rw [upI_len] at this
  exact this
/-- all standings over some states and the rooms below n -/
def uni (ss : List S0) (n : Nat) : List Sg := ss.flatMap fun s => (lots n).flatMap fun b => (lots n).map fun c => ⟨s, b, c⟩
theorem uni_mem {ss : List S0} {n : Nat} {g : Sg} : g ∈ uni ss n ↔ g.st ∈ ss ∧ g.be ∈ lots n ∧ g.no ∈ lots n := by
  unfold uni
  simp only [List.mem_flatMap, List.mem_map]
  constructor
  · rintro ⟨s, hs, b, hb, c, hc, rfl⟩
    exact ⟨hs, hb, hc⟩
  · rintro ⟨h1, h2, h3⟩
    exact ⟨_, h1, _, h2, _, h3, rfl⟩
/-- a universe with rooms below n -/
structure Unr (h : Hz) (z : Zz) (U : List Sg) (f : Str) (n : Nat) : Prop where
  u : Uni h z U
  s : (⟨firstS z f, [0], [0]⟩ : Sg) ∈ U
  r : ∀ g ∈ U, ∀ r ∈ g.no, 0 ≤ r ∧ r < (n : Nat)
  few : n < 64
end Lw
set_option Elab.async false
set_option linter.all false
set_option maxRecDepth 100000
set_option maxHeartbeats 4000000
namespace Lw
open PySem PySem.Spec PyProof.Rows L2 Hb
/-! ### a universe for the search -/
theorem steps_ri {h : Hz} {n : Nat} (hd : ∀ d ∈ h.doors, (0 ≤ d.1 ∧ d.1 < (n : Nat)) ∧ 0 ≤ d.2.1 ∧ d.2.1 < (n : Nat)) {s : Stp} (hs : s ∈ allSteps h) : 0 ≤ s.ri ∧ s.ri < (n : Nat) := by
  unfold allSteps stepsTo at hs
  obtain ⟨l, hl, hs⟩ := List.mem_flatten.mp hs
  obtain ⟨p, hp, rfl⟩ := List.mem_map.mp hl
  have hm : p.1 ∈ h.doors := List.mem_of_mem_take (List.fst_mem_of_mem_zipIdx hp)
  obtain ⟨h1, h2⟩ := hd _ hm
  unfold stepsAt at hs
  rcases List.mem_cons.mp hs with q | q
  · rw [q]; exact h2
  · rw [List.mem_singleton.mp q]; exact h1
theorem sum_const {α : Type} (f : α → Nat) (c : Nat) (h : ∀ x, f x = c) (l : List α) : (l.map f).sum = l.length * c := by
  induction l with
  | nil => simp
  | cons x l ih => rw [List.map_cons, List.sum_cons, ih, h, List.length_cons, Nat.succ_mul, Nat.add_comm]
theorem uni_len (ss : List S0) (n : Nat) : (uni ss n).length = ss.length * (2 ^ n * 2 ^ n) := by
  have l : (lots n).length = 2 ^ n := by unfold lots; rw [subs_len, upI_len]
  unfold uni
  rw [List.length_flatMap]
  refine sum_const _ _ (fun s => ?_) ss
  rw [List.length_flatMap, sum_const _ (2 ^ n) (fun b => by rw [List.length_map, l]), l]
theorem unr_of {h : Hz} {z : Zz} {f : Str} {ss : List S0} {n : Nat} (n1 : 1 ≤ n) (n6 : n ≤ 6) (hd : ∀ d ∈ h.doors, (0 ≤ d.1 ∧ d.1 < (n : Nat)) ∧ 0 ≤ d.2.1 ∧ d.2.1 < (n : Nat)) (few : ss.length ≤ 200) (ok : ∀ s ∈ ss, s.ok) (hf : firstS z f ∈ ss) (ht : ∀ s ∈ ss, tick z s ∈ ss) (hr : ∀ s ∈ ss, ∀ p ∈ allSteps h, rowS z s p.ns ∈ ss) : Unr h z (uni ss n) f n := by
  refine ⟨⟨?_, fun g hg s hs b e => ?_, fun g hg b e => ?_, fun g hg => ?_⟩, ?_, fun g hg r r1 => ?_, by omega⟩
  · rw [uni_len]
    have p : 2 ^ n ≤ 2 ^ 6 := Nat.pow_le_pow_right (by decide) n6
    have q : 2 ^ n * 2 ^ n ≤ 64 * 64 := Nat.mul_le_mul p p
    exact Nat.le_trans (Nat.mul_le_mul few q) (by decide)
  · obtain ⟨g1, g2, g3⟩ := uni_mem.mp hg
    obtain ⟨r0, r1⟩ := steps_ri hd hs
    unfold bStep at e
    by_cases e1 : s.le ∈ g.be
    · rw [if_pos e1] at e
      by_cases e2 : rowS z g.st s.ns = .wok
      · rw [if_pos e2] at e; cases e
      · rw [if_neg e2] at e
        cases e
        exact uni_mem.mpr ⟨hr _ g1 s hs, g2, lots_withR g3 r0 r1⟩
    · rw [if_neg e1] at e; cases e
  · obtain ⟨g1, g2, g3⟩ := uni_mem.mp hg
    unfold bTick at e
    by_cases e2 : tick z g.st = .wok
    · rw [if_pos e2] at e; cases e
    · rw [if_neg e2] at e
      cases e
      exact uni_mem.mpr ⟨ht _ g1, g3, g3⟩
  · obtain ⟨g1, g2, g3⟩ := uni_mem.mp hg
    have a := lots_few g2
    have b := lots_few g3
    exact ⟨by omega, by omega, ok _ (ht _ g1), fun s hs => ok _ (hr _ g1 s hs)⟩
  · exact uni_mem.mpr ⟨hf, lots_zero n1, lots_zero n1⟩
  · exact (lots_asc (uni_mem.mp hg).2.2).2 r r1
end Lw
set_option Elab.async false
set_option linter.all false
set_option maxRecDepth 100000
set_option maxHeartbeats 4000000
namespace Lw
open PySem PySem.Spec PyProof.Rows L2 Hb
/-! ### the law's box: three whole numbers in a list -/
def Box (b : Addr) (H : Hp) : Prop := ∃ x y z : Int, H b = some (.lst [.int x, .int y, .int z]) ∧ 0 ≤ x
def Kb (b : Addr) (H H' : Hp) : Prop := ∀ c o, c ≠ b → H c = some o → H' c = some o
theorem Kb.refl (b : Addr) (H : Hp) : Kb b H H := fun _ _ _ e => e
theorem Kb.trans {b : Addr} {H H1 H2 : Hp} (x : Kb b H H1) (y : Kb b H1 H2) : Kb b H H2 := fun c o n e => y c o n (x c o n e)
theorem Kb.put {b : Addr} {H : Hp} {o : HO} : Kb b H (upd H b o) := fun c u n e => by rw [upd_ne n]; exact e
theorem Kb.same {b : Addr} {H H' : Hp} (s : Same H H') : Kb b H H' := fun c o _ e => s c o e
theorem Box.tk {b : Addr} {H H' : Hp} (x : Box b H) (k : Kb b H H') : TK H H' := by
  obtain ⟨_, _, _, x, _⟩ := x
  exact ⟨fun c xs e => k c _ (ne_of e x (by intro q; cases q)) e, fun c o u e => k c _ (ne_of e x (by intro q; cases q)) e⟩
theorem Box.same {b : Addr} {H H' : Hp} (x : Box b H) (s : Same H H') : Box b H' := by
  obtain ⟨x1, y, z, e, p⟩ := x
  exact ⟨x1, y, z, s _ _ e, p⟩
def spTake : Sp := fun vs H Q _ => ∃ (b : Addr) (many : Int), vs = [.ref b, .int many] ∧ Box b H ∧ 0 < many ∧ many < 1000000 ∧
  ∀ (H' : Hp) (r : Int), Box b H' → Kb b H H' → 0 ≤ r → r < many → Q (.int r) H'
section
variable {P : Program} {w : World} {K : PySem.W.Frag} {mg : Str → Option Value} {base : Heap}
theorem c_take (D : Df K mg "_law_take" s_take) (T : Tx K mg) : C8.Cal P w K mg base 1 "_law_take" spTake [] := by
  refine cal_mk D sc_take bd_take (fun vs H Q E h => ?_) fun f cdv A outer s H vs Q E hr h => ?_
  · obtain ⟨b, many, rfl, _⟩ := h
    rfl
  · obtain ⟨b, many, rfl, ⟨x, y, z, hb, x0⟩, m0, m1, k⟩ := h
    refine ⟨_, (pss_cons (ps_if (pt_cmpR op_gt (pe_ix ix_list (pv 0) pe_int (fun _ _ => rfl)) pe_int (by first | exact nomark _ | rfl))
 (pss_cons (ps_set (i := 2) sc_take.nd rfl (Or.inl rfl) (pe_op op_mod (pe_callTy call_int1 (by rfl) T.n_int (by decide +kernel) (pa_cons (pe_ix ix_list (pv 0) pe_int (fun _ _ => rfl)) pa_nil)) (pv 1)))
 (pss_cons (ps_asg (pe_op op_fdiv (pe_ix ix_list (pv 0) pe_int (fun _ _ => rfl)) (pv 1)) (pg_sub (pv 0) pe_int set_list))
 (pss_one (ps_ret (pv 2)))))
 pss_nil)
 (pss_cons (ps_asg (pe_op op_add (pe_ix ix_list (pv 0) pe_int (fun _ _ => rfl)) pe_int) (pg_sub (pv 0) pe_int set_list))
 (pss_cons (ps_set (i := 3) sc_take.nd rfl (Or.inl rfl) (pe_op op_mod (pe_callTy call_int1 (by rfl) T.n_int (by decide +kernel) (pa_cons (pe_op op_mul (pe_op op_add (pe_ix ix_list (pv 0) pe_int (fun _ _ => rfl)) (pe_op op_mul pe_int (pe_ix ix_list (pv 0) pe_int (fun _ _ => rfl)))) pe_int) pa_nil)) pe_int))
 (pss_cons (ps_asg (pe_op op_add (pe_op op_mod (pe_callTy call_int1 (by rfl) T.n_int (by decide +kernel) (pa_cons (pe_op op_add (pe_op op_mul (pv 3) pe_int) pe_int) pa_nil)) pe_int) pe_int) (pg_sub (pv 0) pe_int set_list))
 (pss_one (ps_ret (pe_op op_mod (pe_callTy call_int1 (by rfl) T.n_int (by decide +kernel) (pa_cons (pe_op op_fdiv (pe_op op_add (pe_op op_mul (pv 3) pe_int) (pe_ix ix_list (pv 0) pe_int (fun _ _ => rfl))) pe_int) pa_nil)) (pv 1)))))))), ?_⟩
    refine ⟨_, rfl, b, _, 0, .int x, rfl, rfl, SqL.of hb, rfl, _, _, rfl, rfl, _, rfl, ?_⟩
    refine ite2 (fun h0 => ?_) (fun h0 => ?_)
    · refine ⟨_, rfl, b, _, 0, .int x, rfl, rfl, SqL.of hb, rfl, .inl ⟨_, rfl, _, rfl, _, _, rfl, rfl, m0, ?_⟩⟩
      refine ⟨_, rfl, b, _, 0, .int x, rfl, rfl, SqL.of hb, rfl, _, rfl, _, _, rfl, rfl, ⟨m0, by omega⟩, ?_⟩
      refine ⟨_, rfl, b, _, 0, 0, rfl, rfl, hb, rfl, ?_⟩
      exact ⟨_, rfl, k _ _ ⟨x / many, y, z, upd_same, Int.ediv_nonneg x0 (Int.le_of_lt m0)⟩ Kb.put (Int.emod_nonneg _ (by omega)) (Int.emod_lt_of_pos _ m0)⟩
    · refine ⟨_, rfl, b, _, 2, .int z, rfl, rfl, SqL.of hb, rfl, _, _, rfl, rfl, ?_⟩
      refine ⟨_, rfl, b, _, 2, 2, rfl, rfl, hb, rfl, ?_⟩
      have hb1 : upd H b (.lst (([.int x, .int y, .int z] : List V).set 2 (.int (z + 1)))) b = some (.lst [.int x, .int y, .int (z + 1)]) := upd_same
      have k1 : Kb b H (upd H b (.lst (([.int x, .int y, .int z] : List V).set 2 (.int (z + 1))))) := Kb.put
      refine ⟨_, rfl, b, _, 1, .int y, rfl, rfl, SqL.of hb1, rfl, _, rfl, b, _, 2, .int (z + 1), rfl, rfl, SqL.of hb1, rfl, _, _, rfl, rfl, .inl (by decide), _, _, rfl, rfl, _, _, rfl, rfl, .inr (by decide), .inl ⟨_, rfl, _, _, rfl, rfl, (by show (0 : Int) < 2147483647; decide), ?_⟩⟩
      refine ⟨_, rfl, _, _, rfl, rfl, .inr (by decide), _, _, rfl, rfl, .inl ⟨_, rfl, _, _, rfl, rfl, (by show (0 : Int) < 2147483629; decide), _, _, rfl, rfl, ?_⟩⟩
      refine ⟨_, rfl, b, _, 1, 1, rfl, rfl, hb1, rfl, ?_⟩
      refine ⟨_, rfl, _, _, rfl, rfl, .inr (by decide), _, rfl, b, _, 1, _, rfl, rfl, SqL.of upd_same, rfl, _, _, rfl, rfl, _, _, rfl, rfl, ⟨by decide, by decide⟩, .inl ⟨_, rfl, _, rfl, _, _, rfl, rfl, m0, ?_⟩⟩
      exact k _ _ ⟨x, _, z + 1, upd_same, x0⟩ (k1.trans Kb.put) (Int.emod_nonneg _ (by omega)) (Int.emod_lt_of_pos _ m0)
end
end Lw
set_option Elab.async false
set_option linter.all false
set_option maxRecDepth 100000
set_option maxHeartbeats 4000000
namespace Lw
open PySem PySem.Spec PyProof.Rows L2 Hb
def spPickB (K : PySem.W.Frag) : Sp := fun vs H Q _ => ∃ (b l : Addr) (xs : List V), vs = [.ref b, .ref l] ∧ Box b H ∧ ((H l = some (.lst xs) ∧ l ≠ b) ∨ SqT K H l xs) ∧ xs ≠ [] ∧ xs.length < 1000000 ∧
  ∀ (H' : Hp) (v : V), v ∈ xs → Box b H' → Kb b H H' → Q v H'
section
variable {P : Program} {w : World} {K : PySem.W.Frag} {mg : Str → Option Value} {base : Heap}
theorem c_pickB (D : Df K mg "_law_pick" s_pick) (T : Tx K mg) (c_take : C8.Cal P w K mg base 1 "_law_take" spTake []) : C8.Cal P w K mg base 2 "_law_pick" (spPickB K) [] := by
  refine cal_mk D sc_pick bd_pick (fun vs H Q E h => ?_) fun f cdv A outer s H vs Q E hr h => ?_
  · obtain ⟨b, l, xs, rfl, _⟩ := h
    rfl
  · obtain ⟨b, l, xs, rfl, bx, hl, ne, few, k⟩ := h
    have n0 : 0 < xs.length := List.length_pos_iff.mpr ne
    refine ⟨_, (pss_one (ps_ret (pe_ix ix_seq (pv 1) (C8.pe_c c_take hr (by decide) rfl (pa_cons (pv 0) (pa_cons (pe_callB call_len (by rfl) T.n_len (by decide +kernel) (pa_cons (pv 1) pa_nil)) pa_nil))) (fun _ _ => rfl)))), ?_⟩
    refine ⟨_, rfl, _, rfl, _, rfl, .ref l, xs.length, rfl, ?_, b, xs.length, rfl, bx, by omega, by omega, fun H1 r b1 k1 r0 r1 => ?_⟩
    · rcases hl with ⟨h, _⟩ | h
      · exact .inl ⟨_, SqL.of h, rfl⟩
      · exact .inr ⟨_, h, rfl⟩
    · have hlt : r.toNat < xs.length := by omega
      have at_ : atI xs r = some xs[r.toNat] := by
        have q := atI_nat (xs := xs) (j := r.toNat) (List.getElem?_eq_getElem hlt)
        rw [show ((r.toNat : Nat) : Int) = r by omega] at q
        exact q
      have fin : Q xs[r.toNat] H1 := k _ _ (List.getElem_mem hlt) b1 k1
      rcases hl with ⟨h, n⟩ | h
      · exact .inl ⟨l, xs, r, _, rfl, rfl, SqL.of (k1 l _ n h), at_, fin⟩
      · exact .inr (.inl ⟨l, xs, r, _, rfl, rfl, SqT.keep (bx.tk k1) h, at_, fin⟩)
end
end Lw
set_option Elab.async false
set_option linter.all false
set_option maxRecDepth 100000
set_option maxHeartbeats 4000000
namespace Lw
open PySem PySem.Spec PyProof.Rows L2 Hb
/-! ### the box is made -/
def spBox (K : PySem.W.Frag) : Sp := fun vs H Q _ => ∃ (a : Addr) (k : Int) (ns : List Int), vs = [.ref a, .int k] ∧ SqL K H a (ns.map V.int) ∧ ns.length ≤ 63 ∧ 0 ≤ k ∧ k ≤ 63 ∧
  ∀ (H' : Hp) (b : Addr), Box b H' → Same H H' → H b = none → Q (.ref b) H'
section
variable {P : Program} {w : World} {K : PySem.W.Frag} {mg : Str → Option Value} {base : Heap}
theorem c_box (D : Df K mg "_law_box" s_box) (T : Tx K mg) : C8.Cal P w K mg base 1 "_law_box" (spBox K) [] := by
  refine cal_mk D sc_box bd_box (fun vs H Q E h => ?_) fun f cdv A outer s H vs Q E hr h => ?_
  · obtain ⟨a, k, ns, rfl, _⟩ := h
    rfl
  · obtain ⟨a, k, ns, rfl, hS, few, k0, k1, q⟩ := h
    have line := sizeLine_eq
    refine ⟨_, (pss_cons (ps_set (i := 2) sc_box.nd rfl (Or.inl rfl) (pe_op op_add (pe_op op_mul pe_int (pv 1)) pe_int))
 (pss_cons (ps_if (pt_cmpR op_lt (pv 1) (pe_callB call_len (by rfl) T.n_len (by decide +kernel) (pa_cons (pv 0) pa_nil)) (by first | exact nomark _ | rfl))
 (pss_one (ps_set (i := 2) sc_box.nd rfl (Or.inl rfl) (pe_callB call_abs (by rfl) T.n_abs (by decide +kernel) (pa_cons (pe_callTy call_int1 (by rfl) T.n_int (by decide +kernel) (pa_cons (pe_ix ix_list (pv 0) (pv 1) (fun _ _ => rfl)) pa_nil)) pa_nil))))
 (pss_one (ps_if (pt_cmpR op_gt (pe_callB call_len (by rfl) T.n_len (by decide +kernel) (pa_cons (pv 0) pa_nil)) pe_int (by first | exact nomark _ | rfl))
 (pss_one (ps_set (i := 2) sc_box.nd rfl (Or.inl rfl) (pe_op op_add (pv 2) (pe_op op_mul (pe_op op_mod (pe_callTy call_int1 (by rfl) T.n_int (by decide +kernel) (pa_cons (pe_ix ix_list (pv 0) (pe_op op_mod (pe_callTy call_int1 (by rfl) T.n_int (by decide +kernel) (pa_cons (pv 1) pa_nil)) (pe_callB call_len (by rfl) T.n_len (by decide +kernel) (pa_cons (pv 0) pa_nil))) (fun _ _ => rfl)) pa_nil)) pe_int) pe_int))))
 pss_nil)))
 (pss_cons (ps_set (i := 3) sc_box.nd rfl (Or.inl rfl) (pe_op op_add (pe_op op_mod (pe_callTy call_int1 (by rfl) T.n_int (by decide +kernel) (pa_cons (pe_op op_add (pe_op op_add (pe_op op_mul (pe_op op_mod (pe_callTy call_int1 (by rfl) T.n_int (by decide +kernel) (pa_cons (pv 2) pa_nil)) pe_int) pe_int) (pe_op op_mul pe_int (pv 1))) pe_int) pa_nil)) pe_int) pe_int))
 (pss_one (ps_ret (pe_lst (pa_cons (pe_ix ix_list (pe_lst (pa_cons pe_int (pa_cons (pv 2) pa_nil))) (pe_callTy call_int1 (by rfl) T.n_int (by decide +kernel) (pa_cons (pe_cmpR op_ge (pv 2) (pe_op op_pow pe_int pe_int) (by first | exact nomark _ | rfl)) pa_nil)) (fun _ _ => rfl)) (pa_cons (pv 3) (pa_cons pe_int pa_nil))))))))), ?_⟩
    have atk : ∀ i : Int, 0 ≤ i → i < (ns.length : Nat) → ∃ n : Int, atI (ns.map V.int) i = some (.int n) := fun i h0 h1 => by
      have hlt : i.toNat < ns.length := by omega
      refine ⟨ns[i.toNat], ?_⟩
      have q := atI_nat (xs := ns.map V.int) (j := i.toNat) (v := .int ns[i.toNat]) (by rw [List.getElem?_map, List.getElem?_eq_getElem hlt]; rfl)
      rw [show ((i.toNat : Nat) : Int) = i by omega] at q
      exact q
    have len : (ns.map V.int).length = ns.length := List.length_map ..
    refine ⟨_, rfl, _, _, rfl, rfl, .inl (by decide), _, _, rfl, rfl, ?_⟩
    dsimp only [gName]
    refine cut_seq (fun σ H' => H' = H ∧ ∃ G : Int, 0 ≤ G ∧ σ = [some (.ref a), some (.int k), some (.int G), none]) ?_ fun rest => ?_
    · rintro σ H' ⟨rfl, G, G0, rfl⟩
      refine ⟨_, rfl, .inl ⟨_, rfl, _, _, rfl, rfl, (by show (0 : Int) < 2147483629; decide), _, _, rfl, rfl, .inr (by decide), _, rfl, _, _, rfl, rfl, .inl (by decide), _, _, rfl, rfl, _, _, rfl, rfl, .inl ⟨_, rfl, _, _, rfl, rfl, (by show (0 : Int) < 2147483629; decide), _, _, rfl, rfl, ?_⟩⟩⟩
      refine ⟨_, rfl, by show 2 ≤ sizeLine; omega, fun l nl => ?_⟩
      refine ⟨_, rfl, _, _, rfl, rfl, ⟨by decide, by decide⟩, _, _, rfl, rfl, .inr ⟨decide ((10 : Int) ^ (18 : Int).toNat ≤ G), rfl, ?_⟩⟩
      have at2 : ∀ c : Bool, ∃ v : Int, 0 ≤ v ∧ atI [V.int 0, V.int G] (if c = true then 1 else 0) = some (.int v) := fun c => by
        cases c
        · exact ⟨0, Int.le_refl 0, rfl⟩
        · exact ⟨G, G0, rfl⟩
      obtain ⟨v, v0, hv⟩ := at2 (decide ((10 : Int) ^ (18 : Int).toNat ≤ G))
      refine ⟨l, _, _, .int v, rfl, rfl, SqL.of upd_same, hv, _, rfl, by show 3 ≤ sizeLine; omega, fun b nb => ?_⟩
      have s1 : Same H' (upd H' l (.lst [.int 0, .int G])) := Same.new nl
      exact q _ b ⟨v, _, 0, upd_same, v0⟩ (s1.trans (Same.new nb)) (s1.free nb)
    · refine ⟨_, rfl, _, rfl, .ref a, _, rfl, .inl ⟨_, hS, rfl⟩, _, _, rfl, rfl, _, rfl, ?_⟩
      refine ite2 (fun h1 => ?_) (fun h1 => ?_)
      · obtain ⟨n, hn⟩ := atk k k0 (by have := of_decide_eq_true h1; omega)
        refine ⟨_, rfl, _, rfl, a, _, k, .int n, rfl, rfl, hS, hn, .inl ⟨_, rfl, _, rfl, rest _ _ ⟨rfl, _, ?_, rfl⟩⟩⟩
        split <;> omega
      · refine ⟨_, rfl, .ref a, _, rfl, .inl ⟨_, hS, rfl⟩, _, _, rfl, rfl, _, rfl, ?_⟩
        refine ite2 (fun h2 => ?_) (fun h2 => rest _ _ ⟨rfl, _, by omega, rfl⟩)
        have h2 := of_decide_eq_true h2
        have h2 : (0 : Int) < (ns.length : Nat) := by omega
        obtain ⟨n, hn⟩ := atk (k % (ns.length : Nat)) (Int.emod_nonneg _ (by omega)) (Int.emod_lt_of_pos _ (by omega))
        refine ⟨_, rfl, _, rfl, _, rfl, .inl ⟨_, rfl, _, rfl, .ref a, _, rfl, .inl ⟨_, hS, rfl⟩, _, _, rfl, rfl, by omega, ?_⟩⟩
        rw [len]
        refine ⟨a, _, _, .int n, rfl, rfl, hS, hn, .inl ⟨_, rfl, _, _, rfl, rfl, (by show (0 : Int) < 2147483629; decide), _, _, rfl, rfl, .inr (by decide), _, _, rfl, rfl, rest _ _ ⟨rfl, _, ?_, rfl⟩⟩⟩
        have := Int.emod_nonneg n (b := 2147483629) (by decide)
        omega
end
end Lw
set_option Elab.async false
set_option linter.all false
set_option maxRecDepth 100000
set_option maxHeartbeats 4000000
namespace Lw
open PySem PySem.Spec PyProof.Rows L2 Hb
/-! ### all of them in some order -/
theorem Box.ne {b l : Addr} {H : Hp} (x : Box b H) (n : H l = none) : l ≠ b := by
  obtain ⟨_, _, _, e, _⟩ := x
  exact (ne_of_none e n).symm
def spShuf (K : PySem.W.Frag) : Sp := fun vs H Q _ => ∃ (b l : Addr) (xs : List V), vs = [.ref b, .ref l] ∧ Box b H ∧ (SqL K H l xs ∨ SqT K H l xs) ∧ xs.length < 1000000 ∧
  ∀ (H' : Hp) (p : Addr) (ys : List V), Box b H' → Kb b H H' → H p = none → H' p = some (.lst ys) → p ≠ b → ys.Perm xs → Q (.ref p) H'
section
variable {P : Program} {w : World} {K : PySem.W.Frag} {mg : Str → Option Value} {base : Heap}
theorem c_shuffled (D : Df K mg "_law_shuffled" s_shuffled) (T : Tx K mg) (c_take : C8.Cal P w K mg base 1 "_law_take" spTake []) : C8.Cal P w K mg base 2 "_law_shuffled" (spShuf K) [] := by
  refine cal_mk D sc_shuffled bd_shuffled (fun vs H Q E h => ?_) fun f cdv A outer s H vs Q E hr h => ?_
  · obtain ⟨b, l, xs, rfl, _⟩ := h
    rfl
  · obtain ⟨b, l0, xs, rfl, bx, hl, few, k⟩ := h
    have line := sizeLine_eq
    refine ⟨_, (pss_cons (ps_par (i := 2) (j := 3) (by rfl) sc_shuffled.nd rfl rfl (by decide) rfl rfl (pa_cons (pe_callTy call_list_of (by rfl) T.n_list (by decide +kernel) (pa_cons (pv 1) pa_nil)) (pa_cons (pe_lst pa_nil) pa_nil)) (by rfl))
 (pss_cons (ps_for PassesOwn.never rfl (pi_range1 (by rfl) T.n_range (pa_cons (pe_callB call_len (by rfl) T.n_len (by decide +kernel) (pa_cons (pv 2) pa_nil)) pa_nil)) (pg_name (i := 4) sc_shuffled.nd rfl (Or.inl rfl))
 (pss_one (ps_expr (pe_bm PySem.F.plainAttrs_list PySem.F.slot_list_append PySem.F.type_list_append mt_append (pv 3) (pa_cons (pe_bm PySem.F.plainAttrs_list PySem.F.slot_list_pop PySem.F.type_list_pop mt_popAt (pv 2) (pa_cons (C8.pe_c c_take hr (by decide) rfl (pa_cons (pv 0) (pa_cons (pe_callB call_len (by rfl) T.n_len (by decide +kernel) (pa_cons (pv 2) pa_nil)) pa_nil))) pa_nil)) pa_nil)))))
 (pss_one (ps_ret (pv 3))))), ?_⟩
    refine ⟨_, rfl, _, _, rfl, hl, fun l nl => ?_⟩
    refine ⟨Nat.zero_le _, fun q nq => ?_⟩
    have nlq : l ≠ q := ne_of_none upd_same nq
    have nlb := bx.ne nl
    have b1 : Box b (upd H l (.lst xs)) := bx.same (Same.new nl)
    have nqb := b1.ne nq
    have nq2 := nq
    rw [upd_ne nlq.symm] at nq2
    have k0 : Same H (upd (upd H l (.lst xs)) q (.lst [])) := (Same.new nl).trans (Same.new nq)
    refine ⟨_, _, rfl, ?_⟩
    have hL0 : upd (upd H l (.lst xs)) q (.lst []) l = some (.lst xs) := by rw [upd_ne nlq, upd_same]
    refine ⟨_, rfl, .ref l, xs.length, rfl, .inl ⟨_, SqL.of hL0, rfl⟩, (xs.length : Nat), rfl, by omega, by omega, for_range (lo := 0) (n := xs.length) (fun i σ H' => (∃ v, σ = [some (.ref b), some (.ref l0), some (.ref l), some (.ref q), v]) ∧ Box b H' ∧ Kb b H H' ∧ ∃ ls fs, H' l = some (.lst ls) ∧ H' q = some (.lst fs) ∧ fs.length = i ∧ (fs ++ ls).Perm xs)
      ⟨⟨_, rfl⟩, bx.same k0, Kb.same k0, xs, [], hL0, upd_same, rfl, List.Perm.refl _⟩ ?_ ?_⟩
    · rintro i σ H1 hi ⟨⟨v, rfl⟩, b2, k1, ls, fs, hL, hF, fl, pm⟩
      have pl := pm.length_eq
      rw [List.length_append] at pl
      refine ⟨_, rfl, .inl ⟨rfl, _, SqL.of hF⟩, _, rfl, .inl ⟨rfl, _, SqL.of hL⟩, _, rfl, _, rfl, .ref l, _, rfl, .inl ⟨_, SqL.of hL, rfl⟩, b, _, rfl, b2, by omega, by omega, fun H2 r b3 k3 r0 r1 => ?_⟩
      have hL2 := k3 l _ nlb hL
      have hF2 := k3 q _ nqb hF
      have hlt : r.toNat < ls.length := by omega
      refine ⟨l, _, r, r.toNat, _, rfl, rfl, hL2, by omega, by omega, seqIx r0 r1, List.getElem?_eq_getElem hlt, ?_⟩
      refine ⟨q, _, _, rfl, rfl, Eq.trans (upd_ne nlq.symm) hF2, by omega, ?_⟩
      have pe := perm_erase (xs := ls) (k := r.toNat) (y := ls[r.toNat]) (List.getElem?_eq_getElem hlt)
      obtain ⟨x1, y1, z1, hb3, p3⟩ := b3
      refine ⟨⟨_, rfl⟩, ⟨x1, y1, z1, by rw [upd_ne nqb.symm, upd_ne nlb.symm]; exact hb3, p3⟩, fun c o n e => ?_, _, _, Eq.trans (upd_ne nlq) upd_same, upd_same, by rw [List.length_append, fl]; rfl, ?_⟩
      · rw [upd_ne (ne_of_none e nq2), upd_ne (ne_of_none e nl)]
        exact k3 c o n (k1 c o n e)
      · rw [List.append_assoc]
        exact (List.Perm.append_left fs pe).trans pm
    · rintro σ H1 ⟨⟨v, rfl⟩, b2, k1, ls, fs, hL, hF, fl, pm⟩
      have pl := pm.length_eq
      rw [List.length_append] at pl
      obtain rfl : ls = [] := List.length_eq_zero_iff.mp (by omega)
      rw [List.append_nil] at pm
      exact ⟨_, rfl, k _ q fs b2 k1 nq2 hF nqb pm⟩
end
end Lw
set_option Elab.async false
set_option linter.all false
set_option maxRecDepth 100000
set_option maxHeartbeats 8000000
namespace Lw
open PySem PySem.Spec PyProof.Rows L2 Hb
/-! ### a house drawn from the box -/
/-- a house, in lists -/
structure BLs (K : PySem.W.Frag) (b : Addr) (H : Hp) (o : Addr) (h : Hz) (p q c : Addr) (xs ys : List V) : Prop where
  ho : SqT K H o [.int h.rooms, .ref p, .ref q, .ref c]
  ha : H p = some (.lst xs)
  tx : TDs K H xs (h.doors.map encD)
  hb : H q = some (.lst ys)
  ty : TDs K H ys (h.floors.map encF)
  hc : H c = some (.lst (h.cradles.map V.int))
  pb : p ≠ b
  qb : q ≠ b
  cb : c ≠ b
def BHo (K : PySem.W.Frag) (b : Addr) (H : Hp) (o : Addr) (h : Hz) : Prop := ∃ p q c xs ys, BLs K b H o h p q c xs ys
theorem BLs.kb {K : PySem.W.Frag} {b o : Addr} {H H' : Hp} {h : Hz} {p q c : Addr} {xs ys : List V} (x : BLs K b H o h p q c xs ys) (bx : Box b H) (k : Kb b H H') : BLs K b H' o h p q c xs ys := by
  have tk := bx.tk k
  exact ⟨SqT.keep tk x.ho, k _ _ x.pb x.ha, TDs.keep tk x.tx, k _ _ x.qb x.hb, TDs.keep tk x.ty, k _ _ x.cb x.hc, x.pb, x.qb, x.cb⟩
theorem BHo.kb {K : PySem.W.Frag} {b o : Addr} {H H' : Hp} {h : Hz} (x : BHo K b H o h) (bx : Box b H) (k : Kb b H H') : BHo K b H' o h := by
  obtain ⟨p, q, c, xs, ys, x⟩ := x
  exact ⟨p, q, c, xs, ys, x.kb bx k⟩
theorem BHo.same {K : PySem.W.Frag} {b o : Addr} {H H' : Hp} {h : Hz} (x : BHo K b H o h) (bx : Box b H) (s : Same H H') : BHo K b H' o h := x.kb bx (Kb.same s)
/-- what stands while a house is drawn -/
structure BI (K : PySem.W.Frag) (b F c : Addr) (W : List Str) (H0 H : Hp) (ds : List Dr) : Prop where
  bx : Box b H
  kp : Kb b H0 H
  hF : ∃ vs, H F = some (.lst vs) ∧ TDs K H vs (ds.map encD)
  hc : H c = some (.lst (W.map V.str))
  nF : H0 F = none
  Fb : F ≠ b
  cb : c ≠ b
  Fc : F ≠ c
section
variable {K : PySem.W.Frag} {b F c : Addr} {W : List Str} {H0 H H' : Hp} {ds : List Dr}
theorem BI.go (x : BI K b F c W H0 H ds) (k : Kb b H H') (bx : Box b H') : BI K b F c W H0 H' ds := by
  have tk := x.bx.tk k
  obtain ⟨vs, h1, h2⟩ := x.hF
  exact ⟨bx, x.kp.trans k, ⟨vs, k _ _ x.Fb h1, TDs.keep tk h2⟩, k _ _ x.cb x.hc, x.nF, x.Fb, x.cb, x.Fc⟩
theorem BI.same (x : BI K b F c W H0 H ds) (s : Same H H') : BI K b F c W H0 H' ds := x.go (Kb.same s) (x.bx.same s)
theorem Box.put {l : Addr} {o : HO} (x : Box b H) (n : l ≠ b) : Box b (upd H l o) := by
  obtain ⟨x1, y1, z1, e, p⟩ := x
  exact ⟨x1, y1, z1, by rw [upd_ne n.symm]; exact e, p⟩
theorem Kb.acc {l : Addr} {o : HO} (x : Kb b H0 H) (n : H0 l = none) : Kb b H0 (upd H l o) := fun a u na e => by
  rw [upd_ne (ne_of_none e n)]
  exact x a u na e
theorem BI.add (x : BI K b F c W H0 H ds) {vs : List V} {u : Addr} {e : Dr} (h1 : H F = some (.lst vs)) (h2 : TDs K H vs (ds.map encD)) (hu : SqT K H u [.int e.1, .int e.2.1, nzV e.2.2]) : BI K b F c W H0 (upd H F (.lst (vs ++ [.ref u]))) (ds ++ [e]) := by
  have tk := tk_acc (ys := vs ++ [.ref u]) h1
  refine ⟨x.bx.put x.Fb, x.kp.acc x.nF, ⟨_, upd_same, ?_⟩, by rw [upd_ne x.Fc.symm]; exact x.hc, x.nF, x.Fb, x.cb, x.Fc⟩
  rw [List.map_append]
  exact TDs.app (TDs.keep tk h2) (.cons (TD.keep tk (TD.door (x := e) hu)) .nil)
end
theorem noise_inB {ws : List Str} {xs : List V} (hx : ∀ v ∈ xs, v = V.non) {v : V} (h : v ∈ ws.map V.str ++ xs) : ∃ nz : Option Str, v = nzV nz ∧ ∀ n, nz = some n → n ∈ ws := by
  rcases List.mem_append.mp h with h | h
  · obtain ⟨x, hx, rfl⟩ := List.mem_map.mp h
    exact ⟨some x, rfl, fun n e => by cases e; exact hx⟩
  · exact ⟨none, hx v h, fun n e => by cases e⟩
theorem Box.free {b l : Addr} {H : Hp} (x : Box b H) (n : H l = none) : l ≠ b := x.ne n
theorem Box.nfree {b l : Addr} {H H' : Hp} (x : Box b H) (k : Kb b H H') (bx : Box b H') (n : H' l = none) : H l = none := by
  have := bx.ne n
  cases e : H l with
  | none => rfl
  | some o =>
    rw [k l o this e] at n
    cases n
def spBHouse (K : PySem.W.Frag) : Sp := fun vs H Q _ => ∃ (b c : Addr) (many extra : Int) (W : List Str), vs = [.ref b, .int many, .int extra, .ref c] ∧ Box b H ∧ H c = some (.lst (W.map V.str)) ∧ c ≠ b ∧ W ≠ [] ∧ W.length ≤ 8 ∧ 1 ≤ many ∧ many ≤ 6 ∧ 0 ≤ extra ∧ extra ≤ 6 ∧
  ∀ (H' : Hp) (o : Addr) (h : Hz), Box b H' → Kb b H H' → H o = none → BHo K b H' o h → Hok h many (many + extra) W → Q (.ref o) H'
section
variable {P : Program} {w : World} {K : PySem.W.Frag} {mg : Str → Option Value} {base : Heap}
theorem c_houseB (D : Df K mg "_law_house" s_house) (T : Tx K mg) (c_take : C8.Cal P w K mg base 1 "_law_take" spTake []) (c_pick : C8.Cal P w K mg base 2 "_law_pick" (spPickB K) []) (c_shuffled : C8.Cal P w K mg base 2 "_law_shuffled" (spShuf K) []) :
    C8.Cal P w K mg base 3 "_law_house" (spBHouse K) [] := by
  refine cal_mk D sc_house bd_house (fun vs H Q E h => ?_) fun f cdv A outer s H vs Q E hr h => ?_
  · obtain ⟨b, c, many, extra, W, rfl, _⟩ := h
    rfl
  · obtain ⟨b, c, many, extra, W, rfl, bx, hc, cb, wn, wl, m1, m6, e0, e6, k⟩ := h
    have line := sizeLine_eq
    refine ⟨_, (pss_cons (ps_par (i := 4) (j := 5) (by rfl) sc_house.nd rfl rfl (by decide) rfl rfl (pa_cons (pe_op op_add pe_int (C8.pe_c c_take hr (by decide) rfl (pa_cons (pv 0) (pa_cons (pv 1) pa_nil)))) (pa_cons (pe_lst pa_nil) pa_nil)) (by rfl))
 (pss_cons (ps_for PassesOwn.never rfl (pi_range2 (by rfl) T.n_range (pa_cons pe_int (pa_cons (pv 4) pa_nil))) (pg_name (i := 6) sc_house.nd rfl (Or.inl rfl))
 (pss_cons (ps_set (i := 7) sc_house.nd rfl (Or.inl rfl) (pe_tup (pa_cons (C8.pe_c c_take hr (by decide) rfl (pa_cons (pv 0) (pa_cons (pv 6) pa_nil))) (pa_cons (pv 6) pa_nil))))
 (pss_cons (ps_set (i := 7) sc_house.nd rfl (Or.inl rfl) (pe_ifExp (pt_cmpR op_gt (C8.pe_c c_take hr (by decide) rfl (pa_cons (pv 0) (pa_cons pe_int pa_nil))) pe_int (by first | exact nomark _ | rfl)) (pv 7) (pe_tup (pa_cons (pv 6) (pa_cons (pe_ix ix_tup (pv 7) pe_int (fun _ _ => rfl)) pa_nil)))))
 (pss_one (ps_expr (pe_bm PySem.F.plainAttrs_list PySem.F.slot_list_append PySem.F.type_list_append mt_append (pv 5) (pa_cons (pe_op op_catT (pv 7) (pe_tup (pa_cons (C8.pe_c c_pick hr (by decide) rfl (pa_cons (pv 0) (pa_cons (pe_op op_cat (pv 3) (pe_lst (pa_cons pe_non (pa_cons pe_non pa_nil)))) pa_nil))) pa_nil))) pa_nil)))))))
 (pss_cons (ps_for PassesOwn.never rfl (pi_range1 (by rfl) T.n_range (pa_cons (pe_ifExp (pt_cmpR op_gt (pv 4) pe_int (by first | exact nomark _ | rfl)) (C8.pe_c c_take hr (by decide) rfl (pa_cons (pv 0) (pa_cons (pe_op op_add (pv 2) pe_int) pa_nil))) pe_int) pa_nil)) (pg_name (i := 8) sc_house.nd rfl (Or.inl rfl))
 (pss_cons (ps_set (i := 9) sc_house.nd rfl (Or.inl rfl) (C8.pe_c c_take hr (by decide) rfl (pa_cons (pv 0) (pa_cons (pv 4) pa_nil))))
 (pss_cons (ps_set (i := 10) sc_house.nd rfl (Or.inl rfl) (pe_op op_mod (pe_callTy call_int1 (by rfl) T.n_int (by decide +kernel) (pa_cons (pe_op op_add (pe_op op_add (pv 9) pe_int) (C8.pe_c c_take hr (by decide) rfl (pa_cons (pv 0) (pa_cons (pe_op op_sub (pv 4) pe_int) pa_nil)))) pa_nil)) (pv 4)))
 (pss_one (ps_expr (pe_bm PySem.F.plainAttrs_list PySem.F.slot_list_append PySem.F.type_list_append mt_append (pv 5) (pa_cons (pe_tup (pa_cons (pv 9) (pa_cons (pv 10) (pa_cons (C8.pe_c c_pick hr (by decide) rfl (pa_cons (pv 0) (pa_cons (pe_op op_cat (pv 3) (pe_lst (pa_cons pe_non pa_nil))) pa_nil))) pa_nil)))) pa_nil)))))))
 (pss_cons (ps_setLc (i := 11) (own := [("_law_room", 6)]) (by rfl) sc_house.nd rfl rfl (sw_true rfl rfl rfl (by decide +kernel)) (pi_range1 (by rfl) T.n_range (pa_cons (pv 4) pa_nil)) (blkOk_by (N := N_house) (sc := defScope s_house) (by decide +kernel)) (fun _ _ _ _ _ => (pg_name (i := 6) sc_house.nd rfl (Or.inl rfl))) (fun _ _ _ _ _ => (pts_one (pt_cmpR op_eq (C8.pe_c c_take hr (by decide) rfl (pa_cons (pv 0) (pa_cons pe_int pa_nil))) pe_int (by first | exact nomark _ | rfl)))) (fun _ _ _ _ _ => (pe_tup (pa_cons (pv 6) (pa_cons (C8.pe_c c_pick hr (by decide) rfl (pa_cons (pv 0) (pa_cons (pv 3) pa_nil))) pa_nil)))))
 (pss_one (ps_ret (pe_tup (pa_cons (pv 4) (pa_cons (C8.pe_c c_shuffled hr (by decide) rfl (pa_cons (pv 0) (pa_cons (pv 5) pa_nil))) (pa_cons (pv 11) (pa_cons (pe_lc (own := [("_law_room", 6)]) (by rfl) sc_house.nd (pi_range1 (by rfl) T.n_range (pa_cons (pv 4) pa_nil)) (blkOk_by (N := N_house) (sc := defScope s_house) (by decide +kernel)) (fun _ _ _ _ _ => (pg_name (i := 6) sc_house.nd rfl (Or.inl rfl))) (fun _ _ _ _ _ => (pts_one (pt_cmpR op_eq (C8.pe_c c_take hr (by decide) rfl (pa_cons (pv 0) (pa_cons pe_int pa_nil))) pe_int (by first | exact nomark _ | rfl)))) (fun _ _ _ _ _ => (pv 6))) pa_nil))))))))))), ?_⟩
    refine ⟨_, rfl, _, rfl, b, many, rfl, bx, by omega, by omega, fun H1 r0 b1 k1 a0 a1 => ⟨_, _, rfl, rfl, ?_⟩⟩
    refine ⟨Nat.zero_le _, fun F nF => ?_⟩
    refine ⟨_, _, rfl, ?_⟩
    have Fb := b1.ne nF
    have x0 : BI K b F c W H (upd H1 F (.lst [])) [] := ⟨b1.put Fb, k1.trans (Kb.same (Same.new nF)), ⟨[], upd_same, .nil⟩, (Same.new nF) _ _ (k1 _ _ cb hc), bx.nfree k1 b1 nF, Fb, cb, (ne_of_none (k1 _ _ cb hc) nF).symm⟩
    generalize upd H1 F (.lst []) = H2 at x0 ⊢
    obtain ⟨M, hM⟩ : ∃ M : Int, 1 + r0 = M := ⟨_, rfl⟩
    dsimp only [L2.start]
    rw [hM]
    have wlen : (W.map V.str).length = W.length := List.length_map ..
    refine cut_seq (fun σ H' => (∃ v6 v7, σ = [some (.ref b), some (.int many), some (.int extra), some (.ref c), some (.int M), some (.ref F), v6, v7, none, none, none, none]) ∧ ∃ ds : List Dr, BI K b F c W H H' ds ∧ (∀ x ∈ ds, DrW M W x) ∧ (ds.length : Int) = M - 1) ?_ fun rest => ?_
    · clear x0 H2
      rintro σ H3 ⟨⟨v6, v7, rfl⟩, ds, x3, ok, len⟩
      refine cut_seq (fun σ H' => (∃ v6 v7 v8 v9 v10, σ = [some (.ref b), some (.int many), some (.int extra), some (.ref c), some (.int M), some (.ref F), v6, v7, v8, v9, v10, none]) ∧ ∃ ds : List Dr, BI K b F c W H H' ds ∧ (∀ x ∈ ds, DrW M W x) ∧ (ds.length : Int) ≤ many + extra) ?_ fun rest => ?_
      · clear x3 ok len ds H3 v6 v7
        rintro σ H3 ⟨⟨v6, v7, v8, v9, v10, rfl⟩, ds, x3, ok, dlen⟩
        refine ⟨_, rfl, M, rfl, by omega, by omega, fun D nD => lc_range (lo := 0) (n := M.toNat) (fun i H2 => Box b H2 ∧ Kb b H3 H2 ∧ ∃ (us : List V) (fs : List Fl), H2 D = some (.lst us) ∧ TDs K H2 us (fs.map encF) ∧ (∀ x ∈ fs, 0 ≤ x.1 ∧ x.1 < (i : Nat) ∧ x.2 ∈ W) ∧ (fs.map Prod.fst).Pairwise (· < ·) ∧ fs.length ≤ i)
          ⟨x3.bx.put (x3.bx.ne nD), Kb.same (Same.new nD), [], [], upd_same, .nil, (fun x h => nomatch h), .nil, Nat.le_refl _⟩ ?_ ?_⟩
        · rintro i H4 hi ⟨b4, k4, us, fs, hD, tf, okf, srt, fl⟩
          have Db := x3.bx.ne nD
          refine ⟨rfl, _, rfl, b, 3, rfl, b4, by decide, by decide, fun H5 e b5 k5 _ _ => ⟨rfl, _, rfl, ?_⟩⟩
          have k35 := k4.trans k5
          refine ite2 (fun _ => ?_) (fun _ => ⟨b5, k35, us, fs, k5 _ _ Db hD, TDs.keep (b4.tk k5) tf, fun x hx => ⟨(okf x hx).1, by have := (okf x hx).2.1; omega, (okf x hx).2.2⟩, srt, by omega⟩)
          refine ⟨_, rfl, _, rfl, _, rfl, b, c, _, rfl, b5, .inl ⟨k35 _ _ x3.cb x3.hc, x3.cb⟩, by simpa using wn, by rw [wlen]; omega, fun H6 v hv b6 k6 => ⟨by show 2 ≤ sizeLine; omega, fun t nt => ?_⟩⟩
          obtain ⟨nm, hnm, rfl⟩ := List.mem_map.mp hv
          have s7 : Same H6 (upd H6 t (.tup [.int (0 + (i : Nat)), .str nm])) := Same.new nt
          have ht : SqT K (upd H6 t (.tup [.int (0 + (i : Nat)), .str nm])) t [.int (0 + (i : Nat)), .str nm] := SqT.of upd_same
          have hD7 := s7 _ _ (k6 _ _ Db (k5 _ _ Db hD))
          have tf7 := TDs.keep (Same.tk s7) (TDs.keep (b5.tk k6) (TDs.keep (b4.tk k5) tf))
          have k37 := (k35.trans k6).trans (Kb.same s7)
          have b7 := b6.same s7
          generalize upd H6 t (.tup [.int (0 + (i : Nat)), .str nm]) = H7 at s7 ht hD7 tf7 k37 b7 ⊢
          have ul := tf.length
          rw [List.length_map] at ul
          have tk := tk_acc (ys := us ++ [V.ref t]) hD7
          refine ⟨us, hD7, by omega, b7.put Db, k37.acc nD, us ++ [.ref t], fs ++ [((0 + (i : Nat) : Int), nm)], upd_same, ?_, fun x hx => ?_, ?_, by rw [List.length_append]; show _ + 1 ≤ _; omega⟩
          · rw [List.map_append]
            exact TDs.app (TDs.keep tk tf7) (.cons (TD.keep tk (TD.floor (x := ((0 + (i : Nat) : Int), nm)) ht)) .nil)
          · rcases List.mem_append.mp hx with hx | hx
            · obtain ⟨p1, p2, p3⟩ := okf x hx
              exact ⟨p1, by omega, p3⟩
            · rw [List.mem_singleton.mp hx]
              exact ⟨by show (0 : Int) ≤ 0 + (i : Nat); omega, by show (0 : Int) + (i : Nat) < ((i + 1 : Nat) : Int); omega, hnm⟩
          · rw [List.map_append]
            refine List.pairwise_append.mpr ⟨srt, List.pairwise_singleton _ _, fun a ha b hb => ?_⟩
            obtain ⟨x, hx, rfl⟩ := List.mem_map.mp ha
            have hb2 : b = 0 + (i : Nat) := by simpa using hb
            have := (okf x hx).2.1
            omega
        · rintro H4 ⟨b4, k4, us, fs, hD, tf, okf, srt, fl⟩
          have Db := x3.bx.ne nD
          have x4 := x3.go k4 b4
          obtain ⟨vs, hF, td⟩ := x4.hF
          have tl := td.length
          rw [List.length_map] at tl
          refine ⟨_, rfl, _, rfl, _, rfl, b, F, vs, rfl, b4, .inl (SqL.of hF), by omega, fun H5 p ys b5 k5 np hp pb pm => ?_⟩
          obtain ⟨es, pe, tde⟩ := perm_td pm (TDs.keep (b4.tk k5) td)
          refine ⟨_, rfl, _, rfl, M, rfl, by omega, by omega, fun D2 nD2 => lc_range (lo := 0) (n := M.toNat) (fun i H2 => Box b H2 ∧ Kb b H5 H2 ∧ ∃ cs : List Int, H2 D2 = some (.lst (cs.map V.int)) ∧ (∀ x ∈ cs, 0 ≤ x ∧ x < (i : Nat)) ∧ cs.Pairwise (· < ·) ∧ cs.length ≤ i)
            ⟨b5.put (b5.ne nD2), Kb.same (Same.new nD2), [], upd_same, (fun x h => nomatch h), .nil, Nat.le_refl _⟩ ?_ ?_⟩
          · rintro i H6 hi ⟨b6, k6, cs, hC, okc, srtc, cl⟩
            have D2b := b5.ne nD2
            refine ⟨rfl, _, rfl, b, 2, rfl, b6, by decide, by decide, fun H7 e b7 k7 _ _ => ⟨rfl, _, rfl, ?_⟩⟩
            refine ite2 (fun _ => ?_) (fun _ => ⟨b7, k6.trans k7, cs, k7 _ _ D2b hC, fun x hx => ⟨(okc x hx).1, by have := (okc x hx).2; omega⟩, srtc, by omega⟩)
            refine ⟨_, rfl, _, k7 _ _ D2b hC, by rw [List.length_map]; omega, b7.put D2b, (k6.trans k7).acc nD2, cs ++ [(0 + (i : Nat) : Int)], ?_, ?_, ?_, ?_⟩
            · rw [upd_same, List.map_append]
              rfl
            · intro x hx
              rcases List.mem_append.mp hx with hx | hx
              · obtain ⟨p1, p2⟩ := okc x hx
                exact ⟨p1, by omega⟩
              · rw [List.mem_singleton.mp hx]
                exact ⟨by omega, by omega⟩
            · refine List.pairwise_append.mpr ⟨srtc, List.pairwise_singleton _ _, fun a ha b hb => ?_⟩
              have hb2 : b = 0 + (i : Nat) := by simpa using hb
              have := (okc a ha).2
              omega
            · rw [List.length_append]
              show _ + 1 ≤ _
              omega
          · rintro H6 ⟨b6, k6, cs, hC, okc, srtc, cl⟩
            have D2b := b5.ne nD2
            refine ⟨by show 4 ≤ sizeLine; omega, fun o no => ?_⟩
            have s9 : Same H6 (upd H6 o (.tup [.int M, .ref p, .ref D, .ref D2])) := Same.new no
            have k49 := (k5.trans k6).trans (Kb.same s9)
            have kH : Kb b H H6 := (x4.kp.trans k5).trans k6
            refine k _ o ⟨M, es, fs, cs⟩ (b6.same s9) (kH.trans (Kb.same s9)) (bx.nfree kH b6 no) ⟨p, D, D2, ys, us, ⟨SqT.of upd_same, s9 _ _ (k6 _ _ pb hp), TDs.keep (Same.tk s9) (TDs.keep (b5.tk k6) tde), k49 _ _ Db hD, TDs.keep (b4.tk k49) tf, s9 _ _ hC, pb, Db, D2b⟩⟩
              ⟨by show 1 ≤ M; omega, by show M ≤ many; omega, fun x hx => ok x (pe.mem_iff.mp hx), ?_, fun x hx => ⟨⟨(okf x hx).1, ?_⟩, (okf x hx).2.2⟩, srt, ?_, fun x hx => ⟨(okc x hx).1, ?_⟩, srtc, ?_⟩
            · show ((es.length : Nat) : Int) ≤ many + extra
              rw [pe.length_eq]
              omega
            · show x.1 < M
              have := (okf x hx).2.1
              omega
            · show ((fs.length : Nat) : Int) ≤ M
              omega
            · show x < M
              have := (okc x hx).2
              omega
            · show ((cs.length : Nat) : Int) ≤ M
              omega
      · refine ⟨_, rfl, _, _, rfl, rfl, _, rfl, ?_⟩
        refine ite2 (fun hM1 => ?_) (fun _ => ?_)
        · have hM1 := of_decide_eq_true hM1
          refine ⟨_, rfl, _, rfl, _, _, rfl, rfl, b, extra + 1, rfl, x3.bx, by omega, by omega, fun H4 n b4 k4 n0 n1 => ⟨n, rfl, by omega, by omega, for_range (lo := 0) (n := n.toNat) (fun i σ H' => (∃ v6 v7 v8 v9 v10, σ = [some (.ref b), some (.int many), some (.int extra), some (.ref c), some (.int M), some (.ref F), v6, v7, v8, v9, v10, none]) ∧ ∃ ds : List Dr, BI K b F c W H H' ds ∧ (∀ x ∈ ds, DrW M W x) ∧ (ds.length : Int) = M - 1 + i)
            ⟨⟨_, _, _, _, _, rfl⟩, ds, x3.go k4 b4, ok, by omega⟩ ?_ ?_⟩⟩
          · clear x3 ok len ds k4 b4 v6 v7 H4
            rintro i σ H5 hi ⟨⟨v6, v7, v8, v9, v10, rfl⟩, ds, x5, ok, len⟩
            refine ⟨_, rfl, _, rfl, b, M, rfl, x5.bx, by omega, by omega, fun H6 A b6 k6 A0 A1 => ?_⟩
            refine ⟨_, rfl, _, _, rfl, rfl, _, rfl, _, rfl, _, _, rfl, rfl, b, M - 1, rfl, b6, by omega, by omega, fun H7 B b7 k7 B0 B1 => ⟨_, _, rfl, rfl, .inl ⟨_, rfl, _, rfl, _, _, rfl, rfl, by omega, ?_⟩⟩⟩
            have x7 := (x5.go k6 b6).go k7 b7
            have rB := Int.emod_nonneg (A + 1 + B) (b := M) (by omega)
            have rB1 := Int.emod_lt_of_pos (A + 1 + B) (b := M) (by omega)
            have rAB : A ≠ (A + 1 + B) % M := by
              intro e
              by_cases c : A + 1 + B < M
              · rw [Int.emod_eq_of_lt (by omega) c] at e
                omega
              · have e2 : (A + 1 + B) % M = A + 1 + B - M := by
                  rw [← Int.sub_emod_right (A + 1 + B) M, Int.emod_eq_of_lt (by omega) (by omega)]
                omega
            clear x5
            obtain ⟨vs, hF, td⟩ := x7.hF
            refine ⟨_, rfl, .inl ⟨rfl, _, SqL.of hF⟩, _, rfl, _, rfl, _, rfl, _, rfl, by show 1 ≤ sizeLine; omega, fun l nl => ?_⟩
            have s8 : Same H7 (upd H7 l (.lst [.non])) := Same.new nl
            refine ⟨c, l, _, _, rfl, rfl, s8 _ _ x7.hc, upd_same, by show _ + 1 ≤ sizeLine; omega, fun p np => ?_⟩
            have x9 := (x7.same s8).same (Same.new np (o := .lst (W.map V.str ++ [.non])))
            have s9 := s8.trans (Same.new np (o := .lst (W.map V.str ++ [.non])))
            refine ⟨b, p, _, rfl, x9.bx, .inl ⟨upd_same, (x7.same s8).bx.ne np⟩, by simp, by rw [List.length_append, wlen]; show _ + 1 < _; omega, fun HA v hv bA kA => ⟨by show 3 ≤ sizeLine; omega, fun u nu => ?_⟩⟩
            obtain ⟨nz, rfl, hnz⟩ := noise_inB (xs := [.non]) (fun v hv => List.mem_singleton.mp hv) hv
            have xA := x9.go kA bA
            have sB : Same HA (upd HA u (.tup [.int A, .int ((A + 1 + B) % M), nzV nz])) := Same.new nu
            have hFA := sB _ _ (kA _ _ x7.Fb (s9 _ _ hF))
            have tdA := TDs.keep (Same.tk sB) (TDs.keep (x9.bx.tk kA) (TDs.keep (Same.tk s9) td))
            have tl := td.length
            rw [List.length_map] at tl
            refine ⟨F, vs, _, rfl, rfl, hFA, by omega, ⟨_, _, _, _, _, rfl⟩, ds ++ [(A, (A + 1 + B) % M, nz)], (xA.same sB).add hFA tdA (SqT.of upd_same), fun x hx => ?_, by rw [List.length_append]; show ((_ + 1 : Nat) : Int) = _; omega⟩
            rcases List.mem_append.mp hx with hx | hx
            · exact ok x hx
            · rw [List.mem_singleton.mp hx]
              exact ⟨⟨A0, A1⟩, ⟨rB, rB1⟩, rAB, hnz⟩
          · rintro σ H5 ⟨⟨v6, v7, v8, v9, v10, rfl⟩, ds, x5, ok, len⟩
            exact rest _ _ ⟨⟨_, _, _, _, _, rfl⟩, ds, x5, ok, by omega⟩
        · refine ⟨0, rfl, by decide, by decide, for_range (lo := 0) (n := 0) (fun i σ H' => σ = [some (.ref b), some (.int many), some (.int extra), some (.ref c), some (.int M), some (.ref F), v6, v7, none, none, none, none] ∧ H' = H3) ⟨rfl, rfl⟩ (fun i σ H' hi => absurd hi (by omega)) ?_⟩
          rintro σ H' ⟨rfl, rfl⟩
          exact rest _ _ ⟨⟨_, _, _, _, _, rfl⟩, ds, x3, ok, by omega⟩
    · refine ⟨_, rfl, 1, M, rfl, ⟨by decide, by decide, by omega, by omega⟩, for_range (lo := 1) (n := (M - 1).toNat) (fun i σ H' => (∃ v6 v7, σ = [some (.ref b), some (.int many), some (.int extra), some (.ref c), some (.int M), some (.ref F), v6, v7, none, none, none, none]) ∧ ∃ ds : List Dr, BI K b F c W H H' ds ∧ (∀ x ∈ ds, DrW M W x) ∧ ds.length = i)
        ⟨⟨_, _, rfl⟩, [], x0, (fun x h => nomatch h), rfl⟩ ?_ ?_⟩
      · clear x0 H2
        rintro i σ H3 hi ⟨⟨v6, v7, rfl⟩, ds, x3, ok, len⟩
        refine ⟨_, rfl, _, rfl, b, (1 + i), rfl, x3.bx, by omega, by omega, fun H4 r b4 k4 r0 r1 => ⟨_, rfl, by show 2 ≤ sizeLine; omega, fun t nt => ?_⟩⟩
        have s5 : Same H4 (upd H4 t (.tup [.int r, .int (1 + (i : Nat))])) := Same.new nt
        have ht : SqT K (upd H4 t (.tup [.int r, .int (1 + (i : Nat))])) t [.int r, .int (1 + (i : Nat))] := SqT.of upd_same
        have x5 := (x3.go k4 b4).same s5
        generalize upd H4 t (.tup [.int r, .int (1 + (i : Nat))]) = H5 at s5 ht x5 ⊢
        dsimp only [gName]
        refine cut_seq (fun σ H' => ∃ (u : Addr) (A B : Int), σ = [some (.ref b), some (.int many), some (.int extra), some (.ref c), some (.int M), some (.ref F), some (.int (1 + (i : Nat))), some (.ref u), none, none, none, none] ∧ BI K b F c W H H' ds ∧ SqT K H' u [.int A, .int B] ∧ inR M A ∧ inR M B ∧ A ≠ B) ?_ fun rest => ?_
        · clear x5 ht x3
          rintro σ H6 ⟨u, A, B, rfl, x6, hu, iA, iB, nAB⟩
          obtain ⟨vs, hF, td⟩ := x6.hF
          refine ⟨_, rfl, .inl ⟨rfl, _, SqL.of hF⟩, _, rfl, _, rfl, _, rfl, by show 2 ≤ sizeLine; omega, fun l nl => ?_⟩
          have s8 : Same H6 (upd H6 l (.lst [.non, .non])) := Same.new nl
          refine ⟨c, l, _, _, rfl, rfl, s8 _ _ x6.hc, upd_same, by show _ + 2 ≤ sizeLine; omega, fun p np => ?_⟩
          have x9 := (x6.same s8).same (Same.new np (o := .lst (W.map V.str ++ [.non, .non])))
          have s9 := s8.trans (Same.new np (o := .lst (W.map V.str ++ [.non, .non])))
          refine ⟨b, p, _, rfl, x9.bx, .inl ⟨upd_same, (x6.same s8).bx.ne np⟩, by simp, by rw [List.length_append, wlen]; show _ + 2 < _; omega, fun HA v hv bA kA => ⟨by show 1 ≤ sizeLine; omega, fun y ny => ?_⟩⟩
          obtain ⟨nz, rfl, hnz⟩ := noise_inB (xs := [.non, .non]) (fun v hv => by simpa using hv) hv
          have xA := x9.go kA bA
          have sB : Same HA (upd HA y (.tup [nzV nz])) := Same.new ny
          have kAB := (Kb.same s9 : Kb b H6 _).trans (kA.trans (Kb.same sB))
          refine ⟨u, y, [.int A, .int B], [nzV nz], rfl, rfl, SqT.keep (x6.bx.tk kAB) hu, SqT.of upd_same, by simp, by show 3 ≤ sizeLine; omega, (fun e => by cases e), fun _ d nd => ?_⟩
          have xB := xA.same sB
          have sC : Same (upd HA y (.tup [nzV nz])) (upd (upd HA y (.tup [nzV nz])) d (.tup ([.int A, .int B] ++ [nzV nz]))) := Same.new nd
          have hFC := sC _ _ (kAB _ _ x6.Fb hF)
          have tdC := TDs.keep (Same.tk sC) (TDs.keep (x6.bx.tk kAB) td)
          have tl := td.length
          rw [List.length_map] at tl
          refine ⟨F, vs, _, rfl, rfl, hFC, by omega, ⟨_, _, rfl⟩, ds ++ [(A, B, nz)], (xB.same sC).add hFC tdC (SqT.of upd_same), fun x hx => ?_, by rw [List.length_append, len]; rfl⟩
          rcases List.mem_append.mp hx with hx | hx
          · exact ok x hx
          · rw [List.mem_singleton.mp hx]
            exact ⟨iA, iB, nAB, hnz⟩
        · refine ⟨_, rfl, b, 3, rfl, x5.bx, by decide, by decide, fun H6 e b6 k6 _ _ => ⟨_, _, rfl, rfl, _, rfl, ?_⟩⟩
          have x6 := x5.go k6 b6
          have ht6 := SqT.keep (x5.bx.tk k6) ht
          refine ite2 (fun _ => ⟨_, rfl, rest _ _ ⟨t, r, 1 + (i : Nat), rfl, x6, ht6, ⟨by omega, by omega⟩, ⟨by omega, by omega⟩, by omega⟩⟩) (fun _ => ?_)
          refine ⟨_, rfl, _, rfl, t, _, 0, _, rfl, rfl, ht6, rfl, by show 2 ≤ sizeLine; omega, fun t2 nt2 => ?_⟩
          exact rest _ _ ⟨t2, 1 + (i : Nat), r, rfl, x6.same (Same.new nt2), SqT.of upd_same, ⟨by omega, by omega⟩, ⟨by omega, by omega⟩, by omega⟩
      · clear x0 H2
        rintro σ H3 ⟨⟨v6, v7, rfl⟩, ds, x3, ok, len⟩
        exact rest _ _ ⟨⟨_, _, rfl⟩, ds, x3, ok, by omega⟩
end
end Lw
set_option Elab.async false
set_option linter.all false
set_option maxRecDepth 100000
set_option maxHeartbeats 8000000
namespace Lw
open PySem PySem.Spec PyProof.Rows L2 Hb
/-! ### a sleeper drawn from the box: a dict -/
def skv (ps : List (Str × Str)) : List (Key × V) := ps.map fun p => (Sum.inr p.1, V.str p.2)
theorem putK_skv {ps : List (Str × Str)} {x y : Str} (n : x ∉ ps.map Prod.fst) : putK (skv ps) (Sum.inr x) (V.str y) = skv (ps ++ [(x, y)]) := by
  unfold putK
  rw [if_neg]
  · unfold skv
    rw [List.map_append]
    rfl
  · intro c
    obtain ⟨kv, hk, e⟩ := List.any_eq_true.mp c
    obtain ⟨p, hp, rfl⟩ := List.mem_map.mp hk
    have e2 := of_decide_eq_true e
    injection e2 with e3
    exact n (List.mem_map.mpr ⟨p, hp, e3⟩)
def zkv (dk : Addr) (z : Zz) : List (Key × V) := [(Sum.inr "sorts", .ref dk), (Sum.inr "stir", .int z.stir), (Sum.inr "doze", .int z.doze), (Sum.inr "near", .int z.near), (Sum.inr "loud", .str z.loud)]
def kv3 (dk : Addr) (x y : Int) : List (Key × V) := [(Sum.inr "sorts", .ref dk), (Sum.inr "stir", .int x), (Sum.inr "doze", .int y)]
def kv2 (n : Int) (lo : Str) : List (Key × V) := [(Sum.inr "near", .int n), (Sum.inr "loud", .str lo)]
structure BZ (H : Hp) (o dk : Addr) (z : Zz) : Prop where
  ho : H o = some (.dK (zkv dk z))
  hd : H dk = some (.dK (skv z.sorts))
theorem BZ.kb {b : Addr} {H H' : Hp} {o dk : Addr} {z : Zz} (x : BZ H o dk z) (bx : Box b H) (k : Kb b H H') : BZ H' o dk z := by
  obtain ⟨_, _, _, e, _⟩ := bx
  exact ⟨k _ _ (ne_of x.ho e (by intro q; cases q)) x.ho, k _ _ (ne_of x.hd e (by intro q; cases q)) x.hd⟩
theorem BZ.same {H H' : Hp} {o dk : Addr} {z : Zz} (x : BZ H o dk z) (s : Same H H') : BZ H' o dk z := ⟨s _ _ x.ho, s _ _ x.hd⟩
def spBSleeper (K : PySem.W.Frag) : Sp := fun vs H Q _ => ∃ (b c : Addr) (most : Int) (W : List Str), vs = [.ref b, .ref c, .int most] ∧ Box b H ∧ H c = some (.lst (W.map V.str)) ∧ c ≠ b ∧ W.Nodup ∧ (∀ w ∈ W, PyData.strOk w = true ∧ nameB w = true) ∧ W.length ≤ 8 ∧ 1 ≤ most ∧ most ≤ 5 ∧
  ∀ (H' : Hp) (o dk : Addr) (z : Zz), Box b H' → Kb b H H' → H o = none → H dk = none → BZ H' o dk z → Zok z W → z.stir ≤ most → z.doze ≤ most → Q (.ref o) H'
section
variable {P : Program} {w : World} {K : PySem.W.Frag} {mg : Str → Option Value} {base : Heap}
theorem c_sleeperB (D : Df K mg "_law_sleeper" s_sleeper) (T : Tx K mg) (c_take : C8.Cal P w K mg base 1 "_law_take" spTake []) (c_pick : C8.Cal P w K mg base 2 "_law_pick" (spPickB K) []) : C8.Cal P w K mg base 3 "_law_sleeper" (spBSleeper K) [] := by
  refine cal_mk D sc_sleeper bd_sleeper (fun vs H Q E h => ?_) fun f cdv A outer s H vs Q E hr h => ?_
  · obtain ⟨b, c, most, W, rfl, _⟩ := h
    rfl
  · obtain ⟨b, c, most, W, rfl, bx, hc, cb, nd, wok, wl, m1, m5, k⟩ := h
    have line := sizeLine_eq
    have hu := hu_of hr
    refine ⟨_, (pss_cons (ps_set (i := 3) sc_sleeper.nd rfl (Or.inl rfl) pe_dnewK)
 (pss_cons (ps_for PassesOwn.never rfl (pi_list (pv 1)) (pg_name (i := 4) sc_sleeper.nd rfl (Or.inl rfl))
 (pss_cons (ps_set (i := 5) sc_sleeper.nd rfl (Or.inl rfl) (C8.pe_c c_pick hr (by decide) rfl (pa_cons (pv 0) (pa_cons (pe_lst (pa_cons pe_str (pa_cons pe_str (pa_cons pe_str (pa_cons pe_str (pa_cons pe_str (pa_cons pe_str (pa_cons pe_str pa_nil)))))))) pa_nil))))
 (pss_one (ps_if (pt_cmpR op_ne (pv 5) pe_str (by first | exact nomark _ | rfl))
 (pss_one (ps_dput hu (pv 3) (pv 4) (pv 5) rfl))
 pss_nil))))
 (pss_cons (ps_set (i := 6) sc_sleeper.nd rfl (Or.inl rfl) (pe_disp (pps_cons pe_str (pv 3) (pps_cons pe_str (pe_op op_add pe_int (C8.pe_c c_take hr (by decide) rfl (pa_cons (pv 0) (pa_cons (pv 2) pa_nil)))) (pps_cons pe_str (pe_op op_add pe_int (C8.pe_c c_take hr (by decide) rfl (pa_cons (pv 0) (pa_cons (pv 2) pa_nil)))) pps_nil))) (by rfl) (by rfl) (fun z => by cases z) (by decide)))
 (pss_cons (ps_expr (pe_bm PySem.F.plainAttrs_dict PySem.F.slot_dict_update PySem.F.type_dict_update Hb.mtd_upd (pv 6) (pa_cons (pe_disp (pps_cons pe_str (pe_op op_add pe_int (C8.pe_c c_take hr (by decide) rfl (pa_cons (pv 0) (pa_cons pe_int pa_nil)))) (pps_cons pe_str (C8.pe_c c_pick hr (by decide) rfl (pa_cons (pv 0) (pa_cons (pe_lst (pa_cons pe_str (pa_cons pe_str (pa_cons pe_str pa_nil)))) pa_nil))) pps_nil)) (by rfl) (by rfl) (fun z => by cases z) (by decide)) pa_nil)))
 (pss_one (ps_ret (pv 6))))))), ?_⟩
    intro dk ndk
    have s1 : Same H (upd H dk (.dK [])) := Same.new ndk
    have hd1 : upd H dk (.dK []) dk = some (.dK (skv [])) := upd_same
    have dkb := bx.ne ndk
    have b1 := bx.same s1
    have kb1 : Kb b H (upd H dk (.dK [])) := Kb.same s1
    have hc1 := s1 _ _ hc
    have dkc : dk ≠ c := (ne_of_none hc ndk).symm
    generalize upd H dk (.dK []) = H1 at s1 hd1 b1 kb1 hc1 ⊢
    refine ⟨_, rfl, c, rfl, ⟨_, SqL.of hc1⟩, for_list (K := K) (a := c) (xs := W.map V.str) (fun i σ H' => Box b H' ∧ Kb b H H' ∧ (∃ v4 v5, σ = [some (.ref b), some (.ref c), some (.int most), some (.ref dk), v4, v5, none]) ∧ H' c = some (.lst (W.map V.str)) ∧ ∃ ps : List (Str × Str), H' dk = some (.dK (skv ps)) ∧ (ps.map Prod.fst).Sublist (W.take i) ∧ ∀ p ∈ ps, p.2 ∈ fourS)
      ⟨b1, kb1, ⟨_, _, rfl⟩, hc1, [], hd1, List.nil_sublist _, fun p hp => nomatch hp⟩ (fun i σ H' _ y => SqL.of y.2.2.2.1) ?_ ?_⟩
    · rintro i v σ H3 hv ⟨b3, k3, ⟨v4, v5, rfl⟩, hc3, ps, hd3, sub, srt⟩
      rw [List.getElem?_map] at hv
      obtain ⟨nm, hnm, rfl⟩ := Option.map_eq_some_iff.mp hv
      have nx : W.take (i + 1) = W.take i ++ [nm] := by rw [List.take_add_one, hnm]; rfl
      refine ⟨_, rfl, by show 7 ≤ sizeLine; omega, fun l nl => ?_⟩
      have s4 : Same H3 (upd H3 l (.lst [.str "faint", .str "soft", .str "sudden", .str "faint", .str "soft", .str "loud", .str "none"])) := Same.new nl
      refine ⟨b, l, _, rfl, b3.same s4, .inl ⟨upd_same, b3.ne nl⟩, by simp, by show 7 < 1000000; decide, fun H6 v hv b6 k6 => ?_⟩
      obtain ⟨so, hso, rfl⟩ : ∃ so : Str, (so = "none" ∨ so ∈ fourS) ∧ v = V.str so := by
        have hv2 : v ∈ (["faint", "soft", "sudden", "faint", "soft", "loud", "none"] : List Str).map V.str := hv
        obtain ⟨so, h1, h2⟩ := List.mem_map.mp hv2
        refine ⟨so, ?_, h2.symm⟩
        simp only [List.mem_cons, List.not_mem_nil, or_false] at h1
        rcases h1 with rfl | rfl | rfl | rfl | rfl | rfl | rfl
        all_goals first | exact .inl rfl | (right; decide +kernel)
      have k36 := (Kb.same s4 : Kb b H3 _).trans k6
      have hc6 := k36 _ _ cb hc3
      have hd6 := k36 _ _ dkb hd3
      have nm_new : nm ∉ ps.map Prod.fst := fun m => by
        have m2 := sub.subset m
        have : (W.take i ++ [nm]).Nodup := by rw [← nx]; exact nd.sublist (List.take_sublist _ _)
        exact (List.nodup_append.mp this).2.2 nm m2 nm (by simp) rfl
      have plen : ps.length ≤ 8 := by
        have a := sub.length_le
        rw [List.length_map, List.length_take] at a
        omega
      refine ⟨_, rfl, rfl, _, rfl, ?_⟩
      by_cases e : so = "none"
      · rw [decide_eq_true (by rw [e])]
        exact iteF ⟨b6, k3.trans k36, ⟨_, _, rfl⟩, hc6, ps, hd6, by rw [nx]; exact sub.trans (List.sublist_append_left _ _), srt⟩
      · rw [decide_eq_false (fun q => e (by injection q))]
        refine iteT ⟨_, rfl, _, rfl, _, rfl, dk, _, rfl, DPut.k (k := Sum.inr nm) hd6 (by show (ps.map _).length < _; rw [List.length_map]; omega), ?_⟩
        rw [putK_skv nm_new]
        refine ⟨b6.put dkb, (k3.trans k36).acc ndk, ⟨_, _, rfl⟩, by rw [upd_ne dkc.symm]; exact hc6, ps ++ [(nm, so)], upd_same, ?_, fun p hp => ?_⟩
        · rw [nx, List.map_append]
          exact sub.append (List.Sublist.refl _)
        · rcases List.mem_append.mp hp with hp | hp
          · exact srt p hp
          · rw [List.mem_singleton.mp hp]
            exact hso.resolve_left e
    · rintro σ H3 ⟨b3, k3, ⟨v4, v5, rfl⟩, hc3, ps, hd3, sub, srt⟩
      rw [List.length_map, List.take_length] at sub
      intro o no
      have s4 : Same H3 (upd H3 o (.dK [])) := Same.new no
      have ho4 : upd H3 o (.dK []) o = some (.dK []) := upd_same
      have ob := b3.ne no
      have odk : o ≠ dk := (ne_of_none hd3 no).symm
      have b4 := b3.same s4
      have kb4 : Kb b H3 (upd H3 o (.dK [])) := Kb.same s4
      generalize upd H3 o (.dK []) = H4 at s4 ho4 b4 kb4 ⊢
      refine ⟨_, rfl, _, rfl, _, rfl, b, most, rfl, b4, by omega, by omega, fun H5 x b5 k5 x0 x1 => ⟨_, _, rfl, rfl, ?_⟩⟩
      refine ⟨_, rfl, _, rfl, b, most, rfl, b5, by omega, by omega, fun H6 y b6 k6 y0 y1 => ⟨_, _, rfl, rfl, ?_⟩⟩
      have k46 := k5.trans k6
      have ho6 := k46 _ _ ob ho4
      have hd6 := (kb4.trans k46) _ _ dkb hd3
      refine ⟨ho6, kv3 dk (1 + x) (1 + y), rfl, by show 3 ≤ 15; decide, ?_⟩
      rw [show mergeK [] (kv3 dk (1 + x) (1 + y)) = kv3 dk (1 + x) (1 + y) from rfl]
      have h7 : upd H6 o (.dK (kv3 dk (1 + x) (1 + y))) o = some (.dK (kv3 dk (1 + x) (1 + y))) := upd_same
      have b7 : Box b (upd H6 o (.dK (kv3 dk (1 + x) (1 + y)))) := b6.put ob
      have k37 : Kb b H3 (upd H6 o (.dK (kv3 dk (1 + x) (1 + y)))) := (kb4.trans k46).acc no
      generalize upd H6 o (.dK (kv3 dk (1 + x) (1 + y))) = H7 at h7 b7 k37 ⊢
      refine ⟨_, rfl, .inr (.inr (.inl ⟨rfl, .inl ⟨_, h7⟩⟩)), ?_⟩
      intro p np
      have s8 : Same H7 (upd H7 p (.dK [])) := Same.new np
      have hp8 : upd H7 p (.dK []) p = some (.dK []) := upd_same
      have pb := b7.ne np
      have po : o ≠ p := ne_of_none h7 np
      have b8 := b7.same s8
      have k8 : Kb b H7 (upd H7 p (.dK [])) := Kb.same s8
      generalize upd H7 p (.dK []) = H8 at s8 hp8 b8 k8 ⊢
      refine ⟨_, rfl, b, 2, rfl, b8, by decide, by decide, fun H9 n b9 k9 n0 n1 => ⟨_, _, rfl, rfl, _, rfl, by show 3 ≤ sizeLine; omega, fun l nl => ?_⟩⟩
      have sA : Same H9 (upd H9 l (.lst [.str "again", .str "nothing", .str "wake"])) := Same.new nl
      refine ⟨b, l, _, rfl, b9.same sA, .inl ⟨upd_same, b9.ne nl⟩, by simp, by show 3 < 1000000; decide, fun HB v hv bB kB => ?_⟩
      obtain ⟨lo, hlo, rfl⟩ : ∃ lo ∈ threeS, v = V.str lo := by
        have hv2 : v ∈ (["again", "nothing", "wake"] : List Str).map V.str := hv
        obtain ⟨so, h1, h2⟩ := List.mem_map.mp hv2
        refine ⟨so, ?_, h2.symm⟩
        simp only [List.mem_cons, List.not_mem_nil, or_false] at h1
        rcases h1 with rfl | rfl | rfl <;> decide +kernel
      have k7B : Kb b H7 HB := ((k8.trans k9).trans (Kb.same sA)).trans kB
      have hpB := (k9.trans ((Kb.same sA : Kb b H9 _).trans kB)) _ _ pb hp8
      have hoB := k7B _ _ ob h7
      refine ⟨hpB, kv2 (1 + n) lo, rfl, by show 2 ≤ 15; decide, ?_⟩
      rw [show mergeK [] (kv2 (1 + n) lo) = kv2 (1 + n) lo from rfl]
      refine ⟨o, p, kv3 dk (1 + x) (1 + y), kv2 (1 + n) lo, rfl, rfl, po, by rw [upd_ne po]; exact hoB, upd_same, by show 3 + 2 ≤ sizeLine; omega, ?_⟩
      have hdB := (k37.trans k7B) _ _ dkb hd3
      have dkp : dk ≠ p := by
        have := k37 _ _ dkb hd3
        exact ne_of_none this np
      have inw : ∀ p ∈ ps, p.1 ∈ W := fun p hp => sub.subset (List.mem_map_of_mem hp)
      have no0 : H o = none := bx.nfree k3 b3 no
      have np0 : H p = none := bx.nfree (k3.trans k37) b7 np
      refine ⟨_, rfl, k _ o dk ⟨ps, 1 + x, 1 + y, 1 + n, lo⟩ ((bB.put pb).put ob) ((((k3.trans k37).trans k7B).acc np0).acc no0) no0 ndk ⟨by rw [upd_same]; rfl, by rw [upd_ne odk.symm, upd_ne dkp]; exact hdB⟩
        ⟨nd.sublist sub, inw, fun p hp => wok _ (inw p hp), srt, ?_, (by omega : (1 : Int) ≤ 1 + x), (by omega : 1 + x ≤ 5), (by omega : (1 : Int) ≤ 1 + y), (by omega : 1 + y ≤ 5), (by omega : (1 : Int) ≤ 1 + n), (by omega : 1 + n ≤ 2), hlo⟩ (by omega : 1 + x ≤ most) (by omega : 1 + y ≤ most)⟩
      have a := sub.length_le
      rw [List.length_map] at a
      show ps.length ≤ 8
      omega
end
end Lw
set_option Elab.async false
set_option linter.all false
set_option maxRecDepth 100000
set_option maxHeartbeats 8000000
namespace Lw
open PySem PySem.Spec PyProof.Rows L2 Hb
/-! ### a house and a sleeper made of what was drawn from the box -/
theorem valV_skv {ps : List (Str × Str)} (nd : (ps.map Prod.fst).Nodup) {i : Nat} {p : Str × Str} (e : ps[i]? = some p) : valV (skv ps) (Sum.inr p.1) = some (V.str p.2) := by
  induction ps generalizing i with
  | nil => cases e
  | cons q ps ih =>
    rw [List.map_cons, List.nodup_cons] at nd
    cases i with
    | zero =>
      obtain rfl := Option.some.inj e
      exact valV_pos rfl
    | succ i =>
      have ne : ¬ (Sum.inr q.1 : Key) = Sum.inr p.1 := fun z => by
        injection z with z
        exact nd.1 (List.mem_map.mpr ⟨p, List.mem_of_getElem? e, z.symm⟩)
      show valV ((Sum.inr q.1, V.str q.2) :: skv ps) _ = _
      rw [valV_neg ne]
      exact ih nd.2 e
theorem tds_pairs {K : PySem.W.Frag} {H : Hp} : ∀ {zs : List V} {ps : List (Str × Str)}, zs.length = ps.length → (∀ (j : Nat) (v : V), zs[j]? = some v → ∃ (t : Addr) (p : Str × Str), v = .ref t ∧ ps[j]? = some p ∧ H t = some (.tup [.str p.1, .str p.2])) → TDs K H zs (ps.map encP)
  | [], [], _, _ => .nil
  | [], _ :: _, e, _ => by cases e
  | _ :: _, [], e, _ => by cases e
  | x :: xs, p :: ps, e, h => by
    obtain ⟨t, p', rfl, e2, e3⟩ := h 0 x rfl
    obtain rfl := Option.some.inj e2
    exact .cons (.tup (SqT.of e3) (.cons (.str _) (.cons (.str _) .nil))) (tds_pairs (Nat.succ.inj e) fun i v q => h (i + 1) v q)
def spBHome (K : PySem.W.Frag) (C : Addr) : Sp := fun vs H Q _ => ∃ (b o : Addr) (h : Hz), vs = [.ref o] ∧ BHo K b H o h ∧ Hin h ∧ ∀ H' p, Same H H' → H p = none → HAt K C H' p h → Q (.ref p) H'
def spBSleeperOf (K : PySem.W.Frag) (C : Addr) : Sp := fun vs H Q _ => ∃ (o dk : Addr) (z : Zz), vs = [.ref o] ∧ BZ H o dk z ∧ Zin z ∧ (∀ p ∈ z.sorts, PyData.strOk p.1 = true) ∧ ∀ H' p, Same H H' → H p = none → SlpAt K C H' p z → Q (.ref p) H'
section
variable {P : Program} {w : World} {K : PySem.W.Frag} {mg : Str → Option Value} {base : Heap}
theorem c_house_ofB (D : Df K mg "_law_house_of" s_house_of) (T : Tx K mg) (m_House : C8.Mak P w K mg base 5 "House" (He.ga K "House") (spHInit K (He.ga K "House")) []) :
    C8.Cal P w K mg base 7 "_law_house_of" (spBHome K (He.ga K "House")) [] := by
  refine cal_mk D sc_house_of bd_house_of (fun vs H Q E h => ?_) fun f cdv A outer s H vs Q E hr h => ?_
  · obtain ⟨g, o, h, rfl, _⟩ := h
    rfl
  · obtain ⟨g, o, h, rfl, ⟨a, b, c, xs, ys, ho⟩, hi, k⟩ := h
    refine ⟨_, (pss_one (ps_ret (C8.pe_mk m_House hr (by decide) rfl (pa_cons (pe_ix ix_tup (pv 0) pe_int (fun _ _ => rfl)) (pa_cons (pe_ix ix_tup (pv 0) pe_int (fun _ _ => rfl)) (pa_cons (pe_ix ix_tup (pv 0) pe_int (fun _ _ => rfl)) (pa_cons (pe_ix ix_tup (pv 0) pe_int (fun _ _ => rfl)) pa_nil))))))), ?_⟩
    refine ⟨_, rfl, o, _, 0, _, rfl, rfl, ho.ho, rfl, _, rfl, o, _, 1, _, rfl, rfl, ho.ho, rfl, _, rfl, o, _, 2, _, rfl, rfl, ho.ho, rfl, _, rfl, o, _, 3, _, rfl, rfl, ho.ho, rfl, ?_⟩
    intro x dx nx ndx ne
    have s1 : Same H (upd (upd H dx (.own x)) x (.ins (He.ga K "House") dx [])) := fun b u e => by
      rw [upd_ne (ne_of_none e nx), upd_ne (ne_of_none e ndx)]
      exact e
    have tk := Same.tk s1
    exact ⟨x, dx, a, b, c, xs, ys, h, rfl, upd_same, .inl (SqL.of (s1 _ _ ho.ha)), TDs.keep tk ho.tx, .inl (SqL.of (s1 _ _ ho.hb)), TDs.keep tk ho.ty, .inl (SqL.of (s1 _ _ ho.hc)), hi, fun H' kp hz => ⟨rfl, k H' x (fun b u e => kp b u (ne_of_none e nx) (s1 b u e)) nx hz⟩⟩
theorem c_sleeper_ofB (D : Df K mg "_law_sleeper_of" s_sleeper_of) (T : Tx K mg) (m_Sleeper : C8.Mak P w K mg base 4 "Sleeper" (He.ga K "Sleeper") (spInit K (He.ga K "Sleeper")) []) : C8.Cal P w K mg base 6 "_law_sleeper_of" (spBSleeperOf K (He.ga K "Sleeper")) [] := by
  refine cal_mk D sc_sleeper_of bd_sleeper_of (fun vs H Q E h => ?_) fun f cdv A outer s H vs Q E hr h => ?_
  · obtain ⟨o, dk, z, rfl, _⟩ := h
    rfl
  · obtain ⟨o, dk, z, rfl, hz, zin, sok, k⟩ := h
    have line := sizeLine_eq
    have hu := hu_of hr
    have odk : o ≠ dk := fun e => by
      have a := hz.ho
      rw [e, hz.hd] at a
      have a2 : skv z.sorts = zkv dk z := by injection a with a; injection a
      have d : ((Sum.inr "sorts" : Key), V.ref dk) ∈ skv z.sorts := by rw [a2]; exact List.mem_cons_self
      obtain ⟨p, _, e2⟩ := List.mem_map.mp d
      injection e2 with _ e3
      cases e3
    refine ⟨_, (pss_cons (ps_lock (ps_setLc (i := 1) (own := [("_law_name", 2)]) (by rfl) sc_sleeper_of.nd rfl rfl (sw_true rfl rfl rfl (by decide +kernel)) (pi_keys (pe_dget hu (pv 0) pe_str (fun _ _ => rfl))) (blkOk_by (N := N_sleeper_of) (sc := defScope s_sleeper_of) (by decide +kernel)) (fun _ _ _ _ _ => (pg_name (i := 2) sc_sleeper_of.nd rfl (Or.inl rfl))) (fun _ _ _ _ _ => pts_nil) (fun _ _ _ _ _ => (pe_tup (pa_cons (pv 2) (pa_cons (pe_dget hu (pe_dget hu (pv 0) pe_str (fun _ _ => rfl)) (pv 2) (fun _ _ => rfl)) pa_nil))))))
 (pss_one (ps_ret (C8.pe_mk m_Sleeper hr (by decide) rfl (pa_cons (pv 1) (pa_cons (pe_dget hu (pv 0) pe_str (fun _ _ => rfl)) (pa_cons (pe_dget hu (pv 0) pe_str (fun _ _ => rfl)) (pa_cons (pe_dget hu (pv 0) pe_str (fun _ _ => rfl)) (pa_cons (pe_dget hu (pv 0) pe_str (fun _ _ => rfl)) pa_nil))))))))), ?_⟩
    refine ⟨dk, _, hz.hd, trivial, fun od => ?_⟩
    have back : ∀ b u, b ≠ dk → H b = some u → upd H dk (.frz od (.dK (skv z.sorts))) b = some u := fun b u n e => by rw [upd_ne n]; exact e
    have hdL : upd H dk (.frz od (.dK (skv z.sorts))) dk = some (.frz od (.dK (skv z.sorts))) := upd_same
    have hoL := back _ _ odk hz.ho
    generalize upd H dk (.frz od (.dK (skv z.sorts))) = HL at hoL back hdL ⊢
    have sl : (skv z.sorts).length = z.sorts.length := List.length_map _
    have few := zin.few
    refine ⟨_, rfl, o, .ref dk, rfl, .inl ⟨zkv dk z, Sum.inr "sorts", .inl hoL, rfl, rfl⟩, ?_⟩
    refine ⟨dk, od, rfl, .inl ⟨skv z.sorts, hdL, fun D nD => lc_it walk_keys (fun i H' => Same HL H' ∧ ∃ zs, H' D = some (.lst zs) ∧ zs.length = i ∧ ∀ (j : Nat) (v : V), zs[j]? = some v → ∃ (t : Addr) (p : Str × Str), v = .ref t ∧ z.sorts[j]? = some p ∧ H' t = some (.tup [.str p.1, .str p.2])) ⟨Same.new nD, [], upd_same, rfl, fun j v e => nomatch e⟩ (fun i H' _ y => y.1 _ _ hdL) ?_ ?_⟩⟩
    · rintro i v H1 H2 hi ⟨s1, zs, hD, zl, at_⟩ ⟨e0, kk, vv, hkv, rfl⟩
      unfold skv at hkv
      rw [List.getElem?_map] at hkv
      obtain ⟨p, hp, e⟩ := Option.map_eq_some_iff.mp hkv
      cases e
      have il := (List.getElem?_eq_some_iff.mp hp).1
      rw [e0]
      clear e0 H2
      refine ⟨rfl, yes_ ⟨_, rfl, _, rfl, o, .ref dk, rfl, .inl ⟨zkv dk z, Sum.inr "sorts", .inl (s1 _ _ hoL), rfl, rfl⟩, _, rfl, dk, V.str p.2, rfl, .inl ⟨skv z.sorts, Sum.inr p.1, .inr ⟨od, s1 _ _ hdL⟩, rfl, (valV_skv zin.nd hp).symm⟩, by show 2 ≤ sizeLine; omega, fun t nt => ?_⟩⟩
      have s2 : Same H1 (upd H1 t (.tup [.str p.1, .str p.2])) := Same.new nt
      have tD : t ≠ D := (ne_of_none hD nt).symm
      refine ⟨zs, s2 _ _ hD, by omega, Hb.Same.acc (s1.trans s2) nD, _, upd_same, by rw [List.length_append, zl]; rfl, fun j v e => ?_⟩
      by_cases c : j < zs.length
      · rw [List.getElem?_append_left c] at e
        obtain ⟨t', p', rfl, e2, e3⟩ := at_ j v e
        exact ⟨t', p', rfl, e2, by rw [upd_ne (ne_of e3 hD (by intro q; cases q))]; exact s2 _ _ e3⟩
      · have cj : j = i := by
          have := (List.getElem?_eq_some_iff.mp e).1
          rw [List.length_append] at this
          have : ([V.ref t] : List V).length = 1 := rfl
          omega
        subst cj
        rw [List.getElem?_append_right (by omega), zl, Nat.sub_self] at e
        obtain rfl := Option.some.inj e
        exact ⟨t, p, rfl, hp, by rw [upd_ne tD]; exact upd_same⟩
    · rintro H1 ⟨s1, zs, hD, zl, at_⟩
      rw [sl] at zl
      have hd1 := s1 _ _ hdL
      refine ⟨hd1, ?_⟩
      have nDk : D ≠ dk := fun e => by rw [e, hd1] at hD; cases hD
      have sF : Same H (upd H1 dk (.dK (skv z.sorts))) := fun b u e => by
        by_cases c : b = dk
        · rw [c, upd_same]
          rw [c, hz.hd] at e
          exact e
        · rw [upd_ne c]
          exact s1 _ _ (back b u c e)
      have hDF : upd H1 dk (.dK (skv z.sorts)) D = some (.lst zs) := by rw [upd_ne nDk]; exact hD
      have tdF : TDs K (upd H1 dk (.dK (skv z.sorts))) zs (z.sorts.map encP) := tds_pairs zl fun j v e => by
        obtain ⟨t, p, e1, e2, e3⟩ := at_ j v e
        exact ⟨t, p, e1, e2, by rw [upd_ne (ne_of e3 hd1 (by intro q; cases q))]; exact e3⟩
      generalize upd H1 dk (.dK (skv z.sorts)) = HF at sF hDF tdF ⊢
      have hoF := sF _ _ hz.ho
      refine ⟨_, rfl, _, rfl, o, .int z.stir, rfl, .inl ⟨zkv dk z, Sum.inr "stir", .inl hoF, rfl, rfl⟩, _, rfl, o, .int z.doze, rfl, .inl ⟨zkv dk z, Sum.inr "doze", .inl hoF, rfl, rfl⟩, _, rfl, o, .int z.near, rfl, .inl ⟨zkv dk z, Sum.inr "near", .inl hoF, rfl, rfl⟩, _, rfl, o, .str z.loud, rfl, .inl ⟨zkv dk z, Sum.inr "loud", .inl hoF, rfl, rfl⟩, ?_⟩
      intro x dx nx ndx ne
      have s2 : Same HF (upd (upd HF dx (.own x)) x (.ins (He.ga K "Sleeper") dx [])) := fun b u e => by
        rw [upd_ne (ne_of_none e nx), upd_ne (ne_of_none e ndx)]
        exact e
      exact ⟨x, dx, D, zs, z, rfl, upd_same, .inl (SqL.of (s2 _ _ hDF)), TDs.keep (Same.tk s2) tdF, zin, fun H' kp hs => ⟨rfl, k H' x (fun b u e => kp b u (ne_of_none (sF _ _ e) nx) (s2 _ _ (sF _ _ e))) (sF.free nx) hs⟩⟩
end
end Lw
set_option Elab.async false
set_option linter.all false
set_option maxRecDepth 100000
set_option maxHeartbeats 8000000
namespace Lw
open PySem PySem.Spec PyProof.Rows L2 Hb
/-! ### what the law's own rule makes of a state -/
def spLFirst (K : PySem.W.Frag) : Sp := fun vs H Q _ => ∃ (o dk : Addr) (z : Zz) (x : Str), vs = [.ref o, .str x] ∧ BZ H o dk z ∧ x ∈ (["asleep", "dozing", "up"] : List Str) ∧ ∀ H' v', Same H H' → StAt K H' v' (firstS z x) → Q v' H'
def spLTicked (K : PySem.W.Frag) : Sp := fun vs H Q _ => ∃ (o dk : Addr) (v : V) (z : Zz) (s : S0), vs = [.ref o, v] ∧ BZ H o dk z ∧ StAt K H v s ∧ ∀ H' v', Same H H' → StAt K H' v' (tick z s) → Q v' H'
section
variable {P : Program} {w : World} {K : PySem.W.Frag} {mg : Str → Option Value} {base : Heap}
theorem BZ.get {H : Hp} {o dk : Addr} {z : Zz} (x : BZ H o dk z) : H o = some (.dK (zkv dk z)) := x.ho
theorem c_lfirst (D : Df K mg "_law_first" s_first) (T : Tx K mg) : C8.Cal P w K mg base 1 "_law_first" (spLFirst K) [] := by
  refine cal_mk D sc_first bd_first (fun vs H Q E h => ?_) fun f cdv A outer s H vs Q E hr h => ?_
  · obtain ⟨o, dk, z, x, rfl, _⟩ := h
    rfl
  · obtain ⟨o, dk, z, x, rfl, hz, hx, k⟩ := h
    have hu := hu_of hr
    have line := sizeLine_eq
    refine ⟨_, (pss_one (ps_ret (pe_ifExp (pt_cmpR op_eq (pv 1) pe_str (by first | exact nomark _ | rfl)) (pe_tup (pa_cons (pv 1) (pa_cons (pe_dget hu (pv 0) pe_str (fun _ _ => rfl)) pa_nil))) (pe_tup (pa_cons (pv 1) pa_nil))))), ?_⟩
    refine ⟨_, rfl, rfl, _, rfl, ?_⟩
    simp only [List.mem_cons, List.not_mem_nil, or_false] at hx
    by_cases h1 : x = "dozing"
    · rw [decide_eq_true (show V.str x = V.str "dozing" by rw [h1])]
      have e : firstS z x = .doz z.doze := if_pos h1
      rw [e] at k
      subst h1
      exact iteT ⟨_, rfl, _, rfl, o, .int z.doze, rfl, .inl ⟨zkv dk z, Sum.inr "doze", .inl hz.ho, rfl, rfl⟩, by show 2 ≤ sizeLine; omega, fun q nq => k _ _ (Same.new nq) ⟨q, rfl, SqT.of upd_same⟩⟩
    · rw [decide_eq_false (show ¬ V.str x = V.str "dozing" from fun q => h1 (by injection q))]
      refine iteF ⟨_, rfl, by show 1 ≤ sizeLine; omega, fun q nq => k _ _ (Same.new nq) ⟨q, rfl, ?_⟩⟩
      rcases hx with rfl | rfl | rfl
      · exact SqT.of upd_same
      · exact absurd rfl h1
      · exact SqT.of upd_same
theorem c_lticked (D : Df K mg "_law_ticked" s_l_ticked) (T : Tx K mg) : C8.Cal P w K mg base 1 "_law_ticked" (spLTicked K) [] := by
  refine cal_mk D sc_l_ticked bd_l_ticked (fun vs H Q E h => ?_) fun f cdv A outer s H vs Q E hr h => ?_
  · obtain ⟨o, dk, v, z, s, rfl, _⟩ := h
    rfl
  · obtain ⟨o, dk, v, z, st, rfl, hz, ⟨a, rfl, ha⟩, k⟩ := h
    have hu := hu_of hr
    have line := sizeLine_eq
    refine ⟨_, (pss_cons (ps_if (pt_cmpR op_eq (pe_ix ix_tup (pv 1) pe_int (fun _ _ => rfl)) pe_str (by first | exact nomark _ | rfl))
 (pss_one (ps_ret (pe_ifExp (pt_cmpR op_gt (pe_ix ix_tup (pv 1) pe_int (fun _ _ => rfl)) pe_int (by first | exact nomark _ | rfl)) (pe_tup (pa_cons pe_str (pa_cons (pe_op op_sub (pe_ix ix_tup (pv 1) pe_int (fun _ _ => rfl)) pe_int) pa_nil))) (pe_tup (pa_cons pe_str pa_nil)))))
 pss_nil)
 (pss_cons (ps_if (pt_cmpR op_eq (pe_ix ix_tup (pv 1) pe_int (fun _ _ => rfl)) pe_str (by first | exact nomark _ | rfl))
 (pss_one (ps_ret (pe_ifExp (pt_cmpR op_gt (pe_ix ix_tup (pv 1) pe_int (fun _ _ => rfl)) pe_int (by first | exact nomark _ | rfl)) (pe_tup (pa_cons pe_str (pa_cons (pe_op op_sub (pe_ix ix_tup (pv 1) pe_int (fun _ _ => rfl)) pe_int) pa_nil))) (pe_tup (pa_cons pe_str pa_nil)))))
 pss_nil)
 (pss_cons (ps_if (pt_cmpR op_eq (pe_callB call_len (by rfl) T.n_len (by decide +kernel) (pa_cons (pv 1) pa_nil)) pe_int (by first | exact nomark _ | rfl))
 (pss_one (ps_ret (pe_ifExp (pt_cmpR op_lt (pe_ix ix_tup (pv 1) pe_int (fun _ _ => rfl)) (pe_dget hu (pv 0) pe_str (fun _ _ => rfl)) (by first | exact nomark _ | rfl)) (pe_tup (pa_cons (pe_ix ix_tup (pv 1) pe_int (fun _ _ => rfl)) (pa_cons (pe_ix ix_tup (pv 1) pe_int (fun _ _ => rfl)) (pa_cons (pe_op op_add (pe_ix ix_tup (pv 1) pe_int (fun _ _ => rfl)) pe_int) pa_nil)))) (pe_tup (pa_cons pe_str pa_nil)))))
 pss_nil)
 (pss_one (ps_ret (pv 1)))))), ?_⟩
    have stay : tick z st = st → Q (.ref a) H := fun e => k _ _ (Same.refl H) ⟨a, rfl, by rw [e]; exact ha⟩
    have new : ∀ (q : Addr) (u : S0), tick z st = u → H q = none → Q (.ref q) (upd H q (.tup u.vals)) := fun q u e nq => k _ _ (Same.new nq) ⟨q, rfl, by rw [e]; exact SqT.of upd_same⟩
    cases st with
    | doz t =>
      refine ⟨_, rfl, a, _, 0, _, rfl, rfl, ha, rfl, rfl, _, rfl, iteT ⟨_, rfl, a, _, 1, .int t, rfl, rfl, ha, rfl, _, _, rfl, rfl, _, rfl, ?_⟩⟩
      by_cases h : 1 < t
      · rw [decide_eq_true h]
        exact iteT ⟨_, rfl, a, _, 1, .int t, rfl, rfl, ha, rfl, _, _, rfl, rfl, by show 2 ≤ sizeLine; decide, fun q nq => new q (.doz (t - 1)) (if_pos h) nq⟩
      · rw [decide_eq_false h]
        exact iteF ⟨by show 1 ≤ sizeLine; decide, fun q nq => new q .asl (if_neg h) nq⟩
    | stir t =>
      refine ⟨_, rfl, a, _, 0, _, rfl, rfl, ha, rfl, rfl, _, rfl, iteF ⟨_, rfl, a, _, 0, _, rfl, rfl, ha, rfl, rfl, _, rfl, iteT ⟨_, rfl, a, _, 1, .int t, rfl, rfl, ha, rfl, _, _, rfl, rfl, _, rfl, ?_⟩⟩⟩
      by_cases h : 1 < t
      · rw [decide_eq_true h]
        exact iteT ⟨_, rfl, a, _, 1, .int t, rfl, rfl, ha, rfl, _, _, rfl, rfl, by show 2 ≤ sizeLine; decide, fun q nq => new q (.stir (t - 1)) (if_pos h) nq⟩
      · rw [decide_eq_false h]
        exact iteF ⟨by show 1 ≤ sizeLine; decide, fun q nq => new q .wok (if_neg h) nq⟩
    | kept m ago =>
      refine ⟨_, rfl, a, _, 0, _, rfl, rfl, ha, rfl, rfl, _, rfl, iteF ⟨_, rfl, a, _, 0, _, rfl, rfl, ha, rfl, rfl, _, rfl, iteF ⟨_, rfl, .ref a, 3, rfl, .inr ⟨_, ha, rfl⟩, rfl, _, rfl, iteT ⟨_, rfl, a, _, 2, .int ago, rfl, rfl, ha, rfl, _, rfl, o, .int z.near, rfl, .inl ⟨zkv dk z, Sum.inr "near", .inl hz.ho, rfl, rfl⟩, _, _, rfl, rfl, _, rfl, ?_⟩⟩⟩⟩
      by_cases h : ago < z.near
      · rw [decide_eq_true h]
        exact iteT ⟨_, rfl, a, _, 0, _, rfl, rfl, ha, rfl, _, rfl, a, _, 1, .str m, rfl, rfl, ha, rfl, _, rfl, a, _, 2, .int ago, rfl, rfl, ha, rfl, _, _, rfl, rfl, by show 3 ≤ sizeLine; decide, fun q nq => new q (.kept m (ago + 1)) (if_pos h) nq⟩
      · rw [decide_eq_false h]
        exact iteF ⟨by show 1 ≤ sizeLine; decide, fun q nq => new q .asl (if_neg h) nq⟩
    | asl =>
      exact ⟨_, rfl, a, _, 0, _, rfl, rfl, ha, rfl, rfl, _, rfl, iteF ⟨_, rfl, a, _, 0, _, rfl, rfl, ha, rfl, rfl, _, rfl, iteF ⟨_, rfl, .ref a, 1, rfl, .inr ⟨_, ha, rfl⟩, rfl, _, rfl, iteF ⟨_, rfl, stay rfl⟩⟩⟩⟩
    | up =>
      exact ⟨_, rfl, a, _, 0, _, rfl, rfl, ha, rfl, rfl, _, rfl, iteF ⟨_, rfl, a, _, 0, _, rfl, rfl, ha, rfl, rfl, _, rfl, iteF ⟨_, rfl, .ref a, 1, rfl, .inr ⟨_, ha, rfl⟩, rfl, _, rfl, iteF ⟨_, rfl, stay rfl⟩⟩⟩⟩
    | wok =>
      exact ⟨_, rfl, a, _, 0, _, rfl, rfl, ha, rfl, rfl, _, rfl, iteF ⟨_, rfl, a, _, 0, _, rfl, rfl, ha, rfl, rfl, _, rfl, iteF ⟨_, rfl, .ref a, 1, rfl, .inr ⟨_, ha, rfl⟩, rfl, _, rfl, iteF ⟨_, rfl, stay rfl⟩⟩⟩⟩
theorem val_skv : ∀ (ps : List (Str × Str)) (n : Str), valV (skv ps) (Sum.inr n) = (ps.lookup n).map V.str
  | [], n => rfl
  | p :: ps, n => by
    show valV ((Sum.inr p.1, V.str p.2) :: skv ps) (Sum.inr n) = _
    by_cases c : n = p.1
    · subst c
      rw [valV_pos rfl, List.lookup_cons, beq_self_eq_true]
      rfl
    · have ne : ¬ (Sum.inr p.1 : Key) = Sum.inr n := fun z => by
        injection z with z
        exact c z.symm
      rw [valV_neg ne, val_skv ps n, List.lookup_cons, show (n == p.1) = false from beq_false_of_ne c]
def spLHeard (K : PySem.W.Frag) : Sp := fun vs H Q _ => ∃ (o dk : Addr) (v : V) (z : Zz) (s : S0) (n : Str), vs = [.ref o, v, .str n] ∧ BZ H o dk z ∧ Zin z ∧ StAt K H v s ∧ ∀ H' v', Same H H' → StAt K H' v' (hear z (sortOf z n) n s) → Q v' H'
theorem c_lheard (D : Df K mg "_law_heard" s_l_heard) (T : Tx K mg) : C8.Cal P w K mg base 1 "_law_heard" (spLHeard K) [] := by
  refine cal_mk D sc_l_heard bd_l_heard (fun vs H Q E h => ?_) fun f cdv A outer s H vs Q E hr h => ?_
  · obtain ⟨o, dk, v, z, s, n, rfl, _⟩ := h
    rfl
  · obtain ⟨o, dk, v, z, st, n, rfl, hz, zi, ⟨a, rfl, ha⟩, k⟩ := h
    have hu := hu_of hr
    have line := sizeLine_eq
    refine ⟨_, (pss_cons (ps_set (i := 3) sc_l_heard.nd rfl (Or.inl rfl) (pe_dget2 hu (pe_dget hu (pv 0) pe_str (fun _ _ => rfl)) (pv 2) pe_str ⟨rfl, rfl, rfl, rfl⟩))
 (pss_cons (ps_if (PW.pt (pw_and (pt_cmpR op_eq (pe_ix ix_tup (pv 1) pe_int (fun _ _ => rfl)) pe_str (by first | exact nomark _ | rfl)) (pw_and1 (pt_cmpR op_eq (pv 3) pe_str (by first | exact nomark _ | rfl)))))
 (pss_cons (ps_if (pt_cmpR op_eq (pe_dget hu (pv 0) pe_str (fun _ _ => rfl)) pe_str (by first | exact nomark _ | rfl))
 (pss_one (ps_ret (pe_tup (pa_cons pe_str pa_nil))))
 pss_nil)
 (pss_one (ps_ret (pe_ifExp (pt_cmpR op_eq (pe_dget hu (pv 0) pe_str (fun _ _ => rfl)) pe_str (by first | exact nomark _ | rfl)) (pe_tup (pa_cons pe_str (pa_cons (pe_dget hu (pv 0) pe_str (fun _ _ => rfl)) pa_nil))) (pv 1)))))
 pss_nil)
 (pss_cons (ps_if (PW.pt (pw_and (pt_cmpR op_eq (pe_ix ix_tup (pv 1) pe_int (fun _ _ => rfl)) pe_str (by first | exact nomark _ | rfl)) (pw_and1 (pt_cmpR op_eq (pv 3) pe_str (by first | exact nomark _ | rfl)))))
 (pss_one (ps_ret (pe_tup (pa_cons pe_str pa_nil))))
 pss_nil)
 (pss_cons (ps_if (PW.pt (pw_or (pt_cmpR op_ne (pe_ix ix_tup (pv 1) pe_int (fun _ _ => rfl)) pe_str (by first | exact nomark _ | rfl)) (pw_or1 (pt_cmpR op_eq (pv 3) pe_str (by first | exact nomark _ | rfl)))))
 (pss_one (ps_ret (pv 1)))
 pss_nil)
 (pss_cons (ps_if (pt_cmpR op_eq (pv 3) pe_str (by first | exact nomark _ | rfl))
 (pss_one (ps_ret (pe_tup (pa_cons pe_str (pa_cons (pe_dget hu (pv 0) pe_str (fun _ _ => rfl)) pa_nil)))))
 pss_nil)
 (pss_cons (ps_if (PW.pt (pw_or (pt_cmpR op_ne (pv 3) pe_str (by first | exact nomark _ | rfl)) (pw_or1 (PW.pt (pw_and (pt_cmpR op_eq (pe_callB call_len (by rfl) T.n_len (by decide +kernel) (pa_cons (pv 1) pa_nil)) pe_int (by first | exact nomark _ | rfl)) (pw_and1 (pt_cmpR op_ne (pe_ix ix_tup (pv 1) pe_int (fun _ _ => rfl)) (pv 2) (by first | exact nomark _ | rfl))))))))
 (pss_one (ps_ret (pe_tup (pa_cons pe_str pa_nil))))
 pss_nil)
 (pss_one (ps_ret (pe_tup (pa_cons pe_str (pa_cons (pv 2) (pa_cons pe_int pa_nil)))))))))))), ?_⟩
    have gl : H o = some (.dK (zkv dk z)) := hz.ho
    refine ⟨_, rfl, o, .ref dk, rfl, .inl ⟨zkv dk z, Sum.inr "sorts", .inl gl, rfl, rfl⟩, ?_⟩
    refine ⟨dk, rfl, .inl ⟨_, .inl hz.hd⟩, _, rfl, _, DGet.k (k := Sum.inr n) hz.hd, ?_⟩
    rw [val_skv, ← sortOf_eq zi.nd n]
    have five : sortOf z n = none ∨ sortOf z n = some ("faint" : Str) ∨ sortOf z n = some ("loud" : Str) ∨ sortOf z n = some ("soft" : Str) ∨ sortOf z n = some ("sudden" : Str) := by
      cases e : sortOf z n with
      | none => exact .inl rfl
      | some y =>
        rw [sortOf_eq zi.nd] at e
        have m := (zi.ok _ (lookup_mem e)).2
        simp only [fourS, List.mem_cons, List.not_mem_nil, or_false] at m
        rcases m with rfl | rfl | rfl | rfl
        · exact .inr (.inl rfl)
        · exact .inr (.inr (.inl rfl))
        · exact .inr (.inr (.inr (.inl rfl)))
        · exact .inr (.inr (.inr (.inr rfl)))
    have hl := zi.lo
    simp only [threeS, List.mem_cons, List.not_mem_nil, or_false] at hl
    have wne : ("loud" : Str) ≠ "soft" ∧ ("sudden" : Str) ≠ "soft" ∧ ("faint" : Str) ≠ "soft" ∧ ("faint" : Str) ≠ "loud" ∧ ("faint" : Str) ≠ "sudden" ∧ ("soft" : Str) ≠ "loud" ∧ ("sudden" : Str) ≠ "loud" ∧ ("again" : Str) ≠ "wake" ∧ ("nothing" : Str) ≠ "wake" ∧ ("nothing" : Str) ≠ "again" := by decide +kernel
    generalize sortOf z n = so at five k ⊢
    have stay : hear z so n st = st → Q (.ref a) H := fun e => k _ _ (Same.refl H) ⟨a, rfl, by rw [e]; exact ha⟩
    have new : ∀ (q : Addr) (u : S0), hear z so n st = u → H q = none → Q (.ref q) (upd H q (.tup u.vals)) := fun q u e nq => k _ _ (Same.new nq) ⟨q, rfl, by rw [e]; exact SqT.of upd_same⟩
    clear k
    cases st with
    | up => rcases five with rfl | rfl | rfl | rfl | rfl <;> exact ⟨_, rfl, a, _, 0, _, rfl, rfl, ha, rfl, rfl, _, rfl, iteF (iteF ⟨_, rfl, a, _, 0, _, rfl, rfl, ha, rfl, rfl, _, rfl, iteF (iteF ⟨_, rfl, a, _, 0, _, rfl, rfl, ha, rfl, rfl, _, rfl, iteT (iteT ⟨_, rfl, stay rfl⟩)⟩)⟩)⟩
    | wok => rcases five with rfl | rfl | rfl | rfl | rfl <;> exact ⟨_, rfl, a, _, 0, _, rfl, rfl, ha, rfl, rfl, _, rfl, iteF (iteF ⟨_, rfl, a, _, 0, _, rfl, rfl, ha, rfl, rfl, _, rfl, iteF (iteF ⟨_, rfl, a, _, 0, _, rfl, rfl, ha, rfl, rfl, _, rfl, iteT (iteT ⟨_, rfl, stay rfl⟩)⟩)⟩)⟩
    | doz t =>
      rcases five with rfl | rfl | rfl | rfl | rfl
      · exact ⟨_, rfl, a, _, 0, _, rfl, rfl, ha, rfl, rfl, _, rfl, iteT ⟨_, rfl, rfl, _, rfl, iteF ⟨_, rfl, a, _, 0, _, rfl, rfl, ha, rfl, rfl, _, rfl, iteF (iteF ⟨_, rfl, a, _, 0, _, rfl, rfl, ha, rfl, rfl, _, rfl, iteT (iteT ⟨_, rfl, stay (by simp [hear, wne])⟩)⟩)⟩⟩⟩
      · exact ⟨_, rfl, a, _, 0, _, rfl, rfl, ha, rfl, rfl, _, rfl, iteT ⟨_, rfl, rfl, _, rfl, iteF ⟨_, rfl, a, _, 0, _, rfl, rfl, ha, rfl, rfl, _, rfl, iteF (iteF ⟨_, rfl, a, _, 0, _, rfl, rfl, ha, rfl, rfl, _, rfl, iteT (iteT ⟨_, rfl, stay (by simp [hear, wne])⟩)⟩)⟩⟩⟩
      · refine ⟨_, rfl, a, _, 0, _, rfl, rfl, ha, rfl, rfl, _, rfl, iteT ⟨_, rfl, rfl, _, rfl, iteT ⟨_, rfl, o, .str z.loud, rfl, .inl ⟨zkv dk z, Sum.inr "loud", .inl gl, rfl, rfl⟩, rfl, _, rfl, ?_⟩⟩⟩
        by_cases h1 : z.loud = "wake"
        · rw [decide_eq_true (show V.str z.loud = V.str "wake" by rw [h1])]
          exact iteT ⟨by show 1 ≤ sizeLine; decide, fun q nq => new q .wok (by simp [hear, h1]) nq⟩
        · rw [decide_eq_false (show ¬ V.str z.loud = V.str "wake" from fun q => h1 (by injection q))]
          refine iteF ⟨_, rfl, o, .str z.loud, rfl, .inl ⟨zkv dk z, Sum.inr "loud", .inl gl, rfl, rfl⟩, rfl, _, rfl, ?_⟩
          by_cases h2 : z.loud = "again"
          · rw [decide_eq_true (show V.str z.loud = V.str "again" by rw [h2])]
            exact iteT ⟨_, rfl, o, .int z.doze, rfl, .inl ⟨zkv dk z, Sum.inr "doze", .inl gl, rfl, rfl⟩, by show 2 ≤ sizeLine; decide, fun q nq => new q (.doz z.doze) (by simp [hear, h2, wne]) nq⟩
          · rw [decide_eq_false (show ¬ V.str z.loud = V.str "again" from fun q => h2 (by injection q))]
            exact iteF ⟨_, rfl, stay (by simp [hear, h1, h2])⟩
      · exact ⟨_, rfl, a, _, 0, _, rfl, rfl, ha, rfl, rfl, _, rfl, iteT ⟨_, rfl, rfl, _, rfl, iteF ⟨_, rfl, a, _, 0, _, rfl, rfl, ha, rfl, rfl, _, rfl, iteF (iteF ⟨_, rfl, a, _, 0, _, rfl, rfl, ha, rfl, rfl, _, rfl, iteT (iteT ⟨_, rfl, stay (by simp [hear, wne])⟩)⟩)⟩⟩⟩
      · exact ⟨_, rfl, a, _, 0, _, rfl, rfl, ha, rfl, rfl, _, rfl, iteT ⟨_, rfl, rfl, _, rfl, iteF ⟨_, rfl, a, _, 0, _, rfl, rfl, ha, rfl, rfl, _, rfl, iteF (iteF ⟨_, rfl, a, _, 0, _, rfl, rfl, ha, rfl, rfl, _, rfl, iteT (iteT ⟨_, rfl, stay (by simp [hear, wne])⟩)⟩)⟩⟩⟩
    | stir t =>
      rcases five with rfl | rfl | rfl | rfl | rfl
      · exact ⟨_, rfl, a, _, 0, _, rfl, rfl, ha, rfl, rfl, _, rfl, iteF (iteF ⟨_, rfl, a, _, 0, _, rfl, rfl, ha, rfl, rfl, _, rfl, iteT ⟨_, rfl, rfl, _, rfl, iteF ⟨_, rfl, a, _, 0, _, rfl, rfl, ha, rfl, rfl, _, rfl, iteT (iteT ⟨_, rfl, stay (by simp [hear, wne])⟩)⟩⟩⟩)⟩
      · exact ⟨_, rfl, a, _, 0, _, rfl, rfl, ha, rfl, rfl, _, rfl, iteF (iteF ⟨_, rfl, a, _, 0, _, rfl, rfl, ha, rfl, rfl, _, rfl, iteT ⟨_, rfl, rfl, _, rfl, iteF ⟨_, rfl, a, _, 0, _, rfl, rfl, ha, rfl, rfl, _, rfl, iteT (iteT ⟨_, rfl, stay (by simp [hear, wne])⟩)⟩⟩⟩)⟩
      · exact ⟨_, rfl, a, _, 0, _, rfl, rfl, ha, rfl, rfl, _, rfl, iteF (iteF ⟨_, rfl, a, _, 0, _, rfl, rfl, ha, rfl, rfl, _, rfl, iteT ⟨_, rfl, rfl, _, rfl, iteT ⟨by show 1 ≤ sizeLine; decide, fun q nq => new q .wok rfl nq⟩⟩⟩)⟩
      · exact ⟨_, rfl, a, _, 0, _, rfl, rfl, ha, rfl, rfl, _, rfl, iteF (iteF ⟨_, rfl, a, _, 0, _, rfl, rfl, ha, rfl, rfl, _, rfl, iteT ⟨_, rfl, rfl, _, rfl, iteF ⟨_, rfl, a, _, 0, _, rfl, rfl, ha, rfl, rfl, _, rfl, iteT (iteT ⟨_, rfl, stay (by simp [hear, wne])⟩)⟩⟩⟩)⟩
      · exact ⟨_, rfl, a, _, 0, _, rfl, rfl, ha, rfl, rfl, _, rfl, iteF (iteF ⟨_, rfl, a, _, 0, _, rfl, rfl, ha, rfl, rfl, _, rfl, iteT ⟨_, rfl, rfl, _, rfl, iteF ⟨_, rfl, a, _, 0, _, rfl, rfl, ha, rfl, rfl, _, rfl, iteT (iteT ⟨_, rfl, stay (by simp [hear, wne])⟩)⟩⟩⟩)⟩
    | asl =>
      rcases five with rfl | rfl | rfl | rfl | rfl
      · exact ⟨_, rfl, a, _, 0, _, rfl, rfl, ha, rfl, rfl, _, rfl, iteF (iteF ⟨_, rfl, a, _, 0, _, rfl, rfl, ha, rfl, rfl, _, rfl, iteF (iteF ⟨_, rfl, a, _, 0, _, rfl, rfl, ha, rfl, rfl, _, rfl, iteF ⟨_, rfl, rfl, _, rfl, iteT ⟨_, rfl, stay rfl⟩⟩⟩)⟩)⟩
      · refine ⟨_, rfl, a, _, 0, _, rfl, rfl, ha, rfl, rfl, _, rfl, iteF (iteF ⟨_, rfl, a, _, 0, _, rfl, rfl, ha, rfl, rfl, _, rfl, iteF (iteF ⟨_, rfl, a, _, 0, _, rfl, rfl, ha, rfl, rfl, _, rfl, iteF ⟨_, rfl, rfl, _, rfl, iteF ⟨_, rfl, rfl, _, rfl, iteF ⟨_, rfl, rfl, _, rfl, iteF ⟨_, rfl, .ref a, 1, rfl, .inr ⟨_, ha, rfl⟩, rfl, _, rfl, ?_⟩⟩⟩⟩⟩)⟩)⟩
        exact iteF (iteF ⟨_, rfl, by show 3 ≤ sizeLine; decide, fun q nq => new q (.kept n 0) (by simp [hear, wne]) nq⟩)
      · exact ⟨_, rfl, a, _, 0, _, rfl, rfl, ha, rfl, rfl, _, rfl, iteF (iteF ⟨_, rfl, a, _, 0, _, rfl, rfl, ha, rfl, rfl, _, rfl, iteF (iteF ⟨_, rfl, a, _, 0, _, rfl, rfl, ha, rfl, rfl, _, rfl, iteF ⟨_, rfl, rfl, _, rfl, iteF ⟨_, rfl, rfl, _, rfl, iteF ⟨_, rfl, rfl, _, rfl, iteT (iteT ⟨by show 1 ≤ sizeLine; decide, fun q nq => new q .wok (by simp [hear, wne]) nq⟩)⟩⟩⟩⟩)⟩)⟩
      · exact ⟨_, rfl, a, _, 0, _, rfl, rfl, ha, rfl, rfl, _, rfl, iteF (iteF ⟨_, rfl, a, _, 0, _, rfl, rfl, ha, rfl, rfl, _, rfl, iteF (iteF ⟨_, rfl, a, _, 0, _, rfl, rfl, ha, rfl, rfl, _, rfl, iteF ⟨_, rfl, rfl, _, rfl, iteF ⟨_, rfl, rfl, _, rfl, iteT ⟨_, rfl, o, .int z.stir, rfl, .inl ⟨zkv dk z, Sum.inr "stir", .inl gl, rfl, rfl⟩, by show 2 ≤ sizeLine; decide, fun q nq => new q (.stir z.stir) rfl nq⟩⟩⟩⟩)⟩)⟩
      · exact ⟨_, rfl, a, _, 0, _, rfl, rfl, ha, rfl, rfl, _, rfl, iteF (iteF ⟨_, rfl, a, _, 0, _, rfl, rfl, ha, rfl, rfl, _, rfl, iteF (iteF ⟨_, rfl, a, _, 0, _, rfl, rfl, ha, rfl, rfl, _, rfl, iteF ⟨_, rfl, rfl, _, rfl, iteF ⟨_, rfl, rfl, _, rfl, iteF ⟨_, rfl, rfl, _, rfl, iteT (iteT ⟨by show 1 ≤ sizeLine; decide, fun q nq => new q .wok (by simp [hear, wne]) nq⟩)⟩⟩⟩⟩)⟩)⟩
    | kept m ago =>
      rcases five with rfl | rfl | rfl | rfl | rfl
      · exact ⟨_, rfl, a, _, 0, _, rfl, rfl, ha, rfl, rfl, _, rfl, iteF (iteF ⟨_, rfl, a, _, 0, _, rfl, rfl, ha, rfl, rfl, _, rfl, iteF (iteF ⟨_, rfl, a, _, 0, _, rfl, rfl, ha, rfl, rfl, _, rfl, iteF ⟨_, rfl, rfl, _, rfl, iteT ⟨_, rfl, stay rfl⟩⟩⟩)⟩)⟩
      · refine ⟨_, rfl, a, _, 0, _, rfl, rfl, ha, rfl, rfl, _, rfl, iteF (iteF ⟨_, rfl, a, _, 0, _, rfl, rfl, ha, rfl, rfl, _, rfl, iteF (iteF ⟨_, rfl, a, _, 0, _, rfl, rfl, ha, rfl, rfl, _, rfl, iteF ⟨_, rfl, rfl, _, rfl, iteF ⟨_, rfl, rfl, _, rfl, iteF ⟨_, rfl, rfl, _, rfl, iteF ⟨_, rfl, .ref a, 3, rfl, .inr ⟨_, ha, rfl⟩, rfl, _, rfl, ?_⟩⟩⟩⟩⟩)⟩)⟩
        refine iteT ⟨_, rfl, a, _, 1, .str m, rfl, rfl, ha, rfl, _, rfl, rfl, _, rfl, ?_⟩
        by_cases h : m = n
        · rw [decide_eq_true (show V.str m = V.str n by rw [h])]
          exact iteF ⟨_, rfl, by show 3 ≤ sizeLine; decide, fun q nq => new q (.kept n 0) (by simp [hear, wne, h]) nq⟩
        · rw [decide_eq_false (show ¬ V.str m = V.str n from fun q => h (by injection q))]
          exact iteT ⟨by show 1 ≤ sizeLine; decide, fun q nq => new q .wok (by simp [hear, wne, h]) nq⟩
      · exact ⟨_, rfl, a, _, 0, _, rfl, rfl, ha, rfl, rfl, _, rfl, iteF (iteF ⟨_, rfl, a, _, 0, _, rfl, rfl, ha, rfl, rfl, _, rfl, iteF (iteF ⟨_, rfl, a, _, 0, _, rfl, rfl, ha, rfl, rfl, _, rfl, iteF ⟨_, rfl, rfl, _, rfl, iteF ⟨_, rfl, rfl, _, rfl, iteF ⟨_, rfl, rfl, _, rfl, iteT (iteT ⟨by show 1 ≤ sizeLine; decide, fun q nq => new q .wok (by simp [hear, wne]) nq⟩)⟩⟩⟩⟩)⟩)⟩
      · exact ⟨_, rfl, a, _, 0, _, rfl, rfl, ha, rfl, rfl, _, rfl, iteF (iteF ⟨_, rfl, a, _, 0, _, rfl, rfl, ha, rfl, rfl, _, rfl, iteF (iteF ⟨_, rfl, a, _, 0, _, rfl, rfl, ha, rfl, rfl, _, rfl, iteF ⟨_, rfl, rfl, _, rfl, iteF ⟨_, rfl, rfl, _, rfl, iteT ⟨_, rfl, o, .int z.stir, rfl, .inl ⟨zkv dk z, Sum.inr "stir", .inl gl, rfl, rfl⟩, by show 2 ≤ sizeLine; decide, fun q nq => new q (.stir z.stir) rfl nq⟩⟩⟩⟩)⟩)⟩
      · exact ⟨_, rfl, a, _, 0, _, rfl, rfl, ha, rfl, rfl, _, rfl, iteF (iteF ⟨_, rfl, a, _, 0, _, rfl, rfl, ha, rfl, rfl, _, rfl, iteF (iteF ⟨_, rfl, a, _, 0, _, rfl, rfl, ha, rfl, rfl, _, rfl, iteF ⟨_, rfl, rfl, _, rfl, iteF ⟨_, rfl, rfl, _, rfl, iteF ⟨_, rfl, rfl, _, rfl, iteT (iteT ⟨by show 1 ≤ sizeLine; decide, fun q nq => new q .wok (by simp [hear, wne]) nq⟩)⟩⟩⟩⟩)⟩)⟩
end
end Lw
set_option Elab.async false
set_option linter.all false
set_option maxRecDepth 100000
set_option maxHeartbeats 8000000
namespace Lw
open PySem PySem.Spec PyProof.Rows L2 Hb
/-! ### noises, by the law -/
def spLNoises (K : PySem.W.Frag) : Sp := fun vs H Q _ => ∃ (o dk l : Addr) (v : V) (z : Zz) (s : S0) (ns : List Str), vs = [.ref o, v, .ref l] ∧ BZ H o dk z ∧ Zin z ∧ StAt K H v s ∧ H l = some (.lst (ns.map V.str)) ∧ ∀ H' v', Same H H' → StAt K H' v' (rowS z s ns) → Q v' H'
def spLDoorN (K : PySem.W.Frag) : Sp := fun vs H Q _ => ∃ (b o : Addr) (h : Hz) (i : Int) (d : Dr), vs = [.ref o, .int i] ∧ BHo K b H o h ∧ 0 ≤ i ∧ h.doors[i.toNat]? = some d ∧ ∀ H' q, Same H H' → H q = none → H' q = some (.lst (d.2.2.toList.map V.str)) → Q (.ref q) H'
def spLFloorN (K : PySem.W.Frag) : Sp := fun vs H Q _ => ∃ (b o : Addr) (h : Hz) (r : Int), vs = [.ref o, .int r] ∧ BHo K b H o h ∧ h.floors.length ≤ 100 ∧ ∀ H' q, Same H H' → H q = none → H' q = some (.lst (((h.floors.filter fun p => decide (p.1 = r)).map Prod.snd).map V.str)) → Q (.ref q) H'
/-- the steps from a room, by the law: the door's number, the room behind it -/
def waysTo (h : Hz) (r : Int) (m : Nat) : List Stp := (stepsTo h m).filter fun s => decide (s.le = r)
theorem ways_next {h : Hz} {r : Int} {i : Nat} {d : Dr} (e : h.doors[i]? = some d) : waysTo h r (i + 1) = waysTo h r i ++ (stepsAt h i d).filter fun s => decide (s.le = r) := by
  unfold waysTo
  rw [steps_next e, List.filter_append]
def waysR (h : Hz) (r : Int) : List Stp := waysTo h r h.doors.length
theorem mem_waysR {h : Hz} {r : Int} {s : Stp} : s ∈ waysR h r ↔ s ∈ allSteps h ∧ s.le = r := by
  unfold waysR waysTo allSteps
  rw [List.mem_filter, decide_eq_true_iff]
def encNR (s : Stp) : PyData := .tuple [.int s.n, .int s.ri]
theorem none_upd {H : Hp} {p l : Addr} {o : HO} (e : upd H p o l = none) : H l = none := by
  by_cases z : l = p
  · rw [z, upd_same] at e
    cases e
  · rw [upd_ne z] at e
    exact e
def spLWays (K : PySem.W.Frag) : Sp := fun vs H Q _ => ∃ (b o : Addr) (h : Hz) (r : Int), vs = [.ref o, .int r] ∧ BHo K b H o h ∧ h.doors.length ≤ 100 ∧ (∀ x ∈ h.doors, x.1 ≠ x.2.1) ∧
  ∀ H' q xs, Same H H' → H q = none → H' q = some (.lst xs) → TDs K H' xs ((waysR h r).map encNR) → Q (.ref q) H'
theorem BLs.same {K : PySem.W.Frag} {b o : Addr} {H H' : Hp} {h : Hz} {p q c : Addr} {xs ys : List V} (x : BLs K b H o h p q c xs ys) (s : Same H H') : BLs K b H' o h p q c xs ys :=
  ⟨SqT.keep (Same.tk s) x.ho, s _ _ x.ha, TDs.keep (Same.tk s) x.tx, s _ _ x.hb, TDs.keep (Same.tk s) x.ty, s _ _ x.hc, x.pb, x.qb, x.cb⟩
section
variable {P : Program} {w : World} {K : PySem.W.Frag} {mg : Str → Option Value} {base : Heap}
theorem c_lnoises (D : Df K mg "_law_noises" s_noises) (T : Tx K mg) (c_l_heard : C8.Cal P w K mg base 1 "_law_heard" (spLHeard K) []) : C8.Cal P w K mg base 2 "_law_noises" (spLNoises K) [] := by
  refine cal_mk D sc_noises bd_noises (fun vs H Q E h => ?_) fun f cdv A outer s H vs Q E hr h => ?_
  · obtain ⟨o, dk, l, v, z, s, ns, rfl, _⟩ := h
    rfl
  · obtain ⟨o, dk, l, v, z, st, ns, rfl, hz, zi, hs, hl, k⟩ := h
    refine ⟨_, (pss_cons (ps_for PassesOwn.never rfl (pi_list (pv 2)) (pg_name (i := 3) sc_noises.nd rfl (Or.inl rfl))
 (pss_one (ps_set (i := 1) sc_noises.nd rfl (Or.inl rfl) (C8.pe_c c_l_heard hr (by decide) rfl (pa_cons (pv 0) (pa_cons (pv 1) (pa_cons (pv 3) pa_nil)))))))
 (pss_one (ps_ret (pv 1)))), ?_⟩
    refine ⟨_, rfl, l, rfl, ⟨_, SqL.of hl⟩, for_list (K := K) (a := l) (xs := ns.map V.str) (fun i σ H' => Same H H' ∧ ∃ v v3, σ = [some (.ref o), some v, some (.ref l), v3] ∧ StAt K H' v (rowS z st (ns.take i)))
      ⟨Same.refl H, v, _, rfl, hs⟩ (fun i σ H' _ y => SqL.of (y.1 _ _ hl)) ?_ ?_⟩
    · rintro i x σ H1 hx ⟨s1, v, v3, rfl, hs⟩
      rw [List.getElem?_map] at hx
      obtain ⟨n, hn, rfl⟩ := Option.map_eq_some_iff.mp hx
      refine ⟨_, rfl, _, rfl, _, rfl, o, dk, v, z, _, n, rfl, hz.same s1, zi, hs, fun H2 v' s2 hs2 => ⟨s1.trans s2, v', _, rfl, ?_⟩⟩
      rw [List.take_add_one, hn]
      show StAt K H2 v' (rowS z st (ns.take i ++ [n]))
      unfold rowS
      rw [List.foldl_append]
      exact hs2
    · rintro σ H1 ⟨s1, v, v3, rfl, hs⟩
      rw [List.length_map, List.take_length] at hs
      exact ⟨_, rfl, k _ _ s1 hs⟩
theorem c_ldoorN (D : Df K mg "_law_door_noise" s_door_noise) (T : Tx K mg) : C8.Cal P w K mg base 1 "_law_door_noise" (spLDoorN K) [] := by
  refine cal_mk D sc_door_noise bd_door_noise (fun vs H Q E h => ?_) fun f cdv A outer s H vs Q E hr h => ?_
  · obtain ⟨b, o, h, i, d, rfl, _⟩ := h
    rfl
  · obtain ⟨b, o, h, i, d, rfl, ⟨p, q, c, xs, ys, ho⟩, i0, hd, k⟩ := h
    have line := sizeLine_eq
    refine ⟨_, (pss_one (ps_ret (pe_ifExp (pt_cmpR op_notN (pe_ix ix_tup (pe_ix ix_list (pe_ix ix_tup (pv 0) pe_int (fun _ _ => rfl)) (pv 1) (fun _ _ => rfl)) pe_int (fun _ _ => rfl)) pe_non (by first | exact nomark _ | rfl)) (pe_lst (pa_cons (pe_ix ix_tup (pe_ix ix_list (pe_ix ix_tup (pv 0) pe_int (fun _ _ => rfl)) (pv 1) (fun _ _ => rfl)) pe_int (fun _ _ => rfl)) pa_nil)) (pe_lst pa_nil)))), ?_⟩
    have len : xs.length = h.doors.length := by rw [ho.tx.length, List.length_map]
    obtain ⟨hl, hg⟩ := List.getElem?_eq_some_iff.mp hd
    have hlt : i.toNat < xs.length := by omega
    obtain ⟨d', hd', tdd⟩ := TDs.at_map ho.tx (List.getElem?_eq_getElem hlt)
    rw [hd] at hd'
    cases hd'
    obtain ⟨dt, e, hdt⟩ := TD.door_inv tdd
    have at_ : atI xs i = some (.ref dt) := by
      have q := atI_nat (xs := xs) (j := i.toNat) (List.getElem?_eq_getElem hlt)
      rw [show ((i.toNat : Nat) : Int) = i by omega, e] at q
      exact q
    refine ⟨_, rfl, o, _, 1, _, rfl, rfl, ho.ho, rfl, _, rfl, p, _, i, _, rfl, rfl, SqL.of ho.ha, at_, dt, _, 2, _, rfl, rfl, hdt, rfl, ?_⟩
    obtain ⟨d1, d2, nz⟩ := d
    cases nz with
    | none => exact ⟨rfl, _, rfl, iteF ⟨Nat.zero_le _, fun q nq => k _ _ (Same.new nq) nq upd_same⟩⟩
    | some n => exact ⟨rfl, _, rfl, iteT ⟨_, rfl, o, _, 1, _, rfl, rfl, ho.ho, rfl, _, rfl, p, _, i, _, rfl, rfl, SqL.of ho.ha, at_, dt, _, 2, _, rfl, rfl, hdt, rfl, by show 1 ≤ sizeLine; decide, fun q nq => k _ _ (Same.new nq) nq upd_same⟩⟩
theorem c_lfloorN (D : Df K mg "_law_floor_noise" s_l_floor_noise) (T : Tx K mg) : C8.Cal P w K mg base 1 "_law_floor_noise" (spLFloorN K) [] := by
  refine cal_mk D sc_l_floor_noise bd_l_floor_noise (fun vs H Q E h => ?_) fun f cdv A outer s H vs Q E hr h => ?_
  · obtain ⟨b, o, h, r, rfl, _⟩ := h
    rfl
  · obtain ⟨b, o, h, oth, rfl, ⟨p, q, c, xs, ys, ho⟩, few, k⟩ := h
    have line := sizeLine_eq
    refine ⟨_, (pss_one (ps_ret (pe_lc (own := [("_law_spot", 2), ("_law_noise", 3)]) (g := (gTup K 2 (gCons (gName 2) (gCons (gName 3) gNil)))) (by rfl) sc_l_floor_noise.nd (pi_list (pe_ix ix_tup (pv 0) pe_int (fun _ _ => rfl))) (blkOk_by (N := N_l_floor_noise) (sc := defScope s_l_floor_noise) (by decide +kernel)) (fun _ _ _ _ _ => (pg_tup (by rfl) (pgs_cons (pg_name (i := 2) sc_l_floor_noise.nd rfl (Or.inl rfl)) (pgs_cons (pg_name (i := 3) sc_l_floor_noise.nd rfl (Or.inl rfl)) pgs_nil)))) (fun _ _ _ _ _ => (pts_one (pt_cmpR op_eq (pv 2) (pv 1) (by first | exact nomark _ | rfl)))) (fun _ _ _ _ _ => (pv 3))))), ?_⟩
    refine ⟨_, rfl, o, _, 2, _, rfl, rfl, ho.ho, rfl, q, rfl, ⟨_, SqL.of ho.hb⟩, fun DL nDL => lc_list (K := K) (a := q) (xs := ys) (fun j H' => Same H H' ∧ H' DL = some (.lst (((h.floors.take j).filter fun p => decide (p.1 = oth)).map fun p => V.str p.2))) ⟨Same.new nDL, by rw [upd_same]; rfl⟩ (fun j H' _ p => SqL.of (p.1 _ _ ho.hb)) ?_ ?_⟩
    · rintro j v H6 hv ⟨s6, hD⟩
      obtain ⟨fl, hfl, tdf⟩ := TDs.at_map (TDs.keep (Same.tk s6) ho.ty) hv
      obtain ⟨ft, rfl, hft⟩ := TD.floor_inv tdf
      have jl : j < h.floors.length := (List.getElem?_eq_some_iff.mp hfl).1
      have nx2 : (h.floors.take (j + 1)).filter (fun p => decide (p.1 = oth)) = (h.floors.take j).filter (fun p => decide (p.1 = oth)) ++ if fl.1 = oth then [fl] else [] := by
        rw [List.take_add_one, hfl, List.filter_append]
        by_cases z : fl.1 = oth <;> simp [z]
      refine ⟨ft, _, rfl, hft, rfl, _, _, rfl, _, _, rfl, rfl, rfl, _, rfl, _, rfl, rfl, _, rfl, ?_⟩
      rw [nx2]
      refine ite2 (fun z => ?_) (fun z => ?_)
      · have z2 : fl.1 = oth := by have := of_decide_eq_true z; injection this
        refine ⟨_, rfl, _, hD, ?_, Hb.Same.acc s6 nDL, ?_⟩
        · have q := List.length_filter_le (fun p : Fl => decide (p.1 = oth)) (h.floors.take j)
          rw [List.length_take] at q
          rw [List.length_map]
          omega
        · rw [upd_same, if_pos z2, List.map_append]
          rfl
      · have z2 : ¬ fl.1 = oth := fun e => z (decide_eq_true (by rw [e]))
        refine ⟨s6, ?_⟩
        rw [if_neg z2, List.append_nil]
        exact hD
    · rintro H6 ⟨s6, hD⟩
      rw [ho.ty.length, List.length_map, List.take_length] at hD
      exact k _ _ s6 nDL (by rw [hD, List.map_map]; rfl)
theorem c_lways (D : Df K mg "_law_ways" s_ways) (T : Tx K mg) : C8.Cal P w K mg base 1 "_law_ways" (spLWays K) [] := by
  refine cal_mk D sc_ways bd_ways (fun vs H Q E h => ?_) fun f cdv A outer s H vs Q E hr h => ?_
  · obtain ⟨b, o, h, r, rfl, _⟩ := h
    rfl
  · obtain ⟨bb, o, h, r, rfl, ⟨a, b, c, xs, ys, ho⟩, dfew, dne, k⟩ := h
    have line := sizeLine_eq
    refine ⟨_, (pss_cons (ps_set (i := 2) sc_ways.nd rfl (Or.inl rfl) (pe_lst pa_nil))
 (pss_cons (ps_for PassesOwn.never rfl (pi_enum (by rfl) T.n_enumerate (pa_cons (pe_ix ix_tup (pv 0) pe_int (fun _ _ => rfl)) pa_nil)) (pg_tup (by rfl) (pgs_cons (pg_name (i := 3) sc_ways.nd rfl (Or.inl rfl)) (pgs_cons (pg_tup (by rfl) (pgs_cons (pg_name (i := 4) sc_ways.nd rfl (Or.inl rfl)) (pgs_cons (pg_name (i := 5) sc_ways.nd rfl (Or.inl rfl)) (pgs_cons (pg_name (i := 6) sc_ways.nd rfl (Or.inl rfl)) pgs_nil)))) pgs_nil)))
 (pss_one (ps_if (pt_cmpR op_in_seq (pv 1) (pe_tup (pa_cons (pv 4) (pa_cons (pv 5) pa_nil))) (by first | exact nomark _ | rfl))
 (pss_one (ps_expr (pe_bm PySem.F.plainAttrs_list PySem.F.slot_list_append PySem.F.type_list_append mt_append (pv 2) (pa_cons (pe_tup (pa_cons (pv 3) (pa_cons (pe_ifExp (pt_cmpR op_eq (pv 1) (pv 4) (by first | exact nomark _ | rfl)) (pv 5) (pv 4)) pa_nil))) pa_nil))))
 pss_nil)))
 (pss_one (ps_ret (pv 2))))), ?_⟩
    refine ⟨Nat.zero_le _, fun q nq => ?_⟩
    have s1 : Same H (upd H q (.lst [])) := Same.new nq
    have hq1 : upd H q (.lst []) q = some (.lst []) := upd_same
    generalize upd H q (.lst []) = H1 at s1 hq1 ⊢
    have ho1 := ho.same s1
    refine ⟨_, rfl, o, _, 1, _, rfl, rfl, ho1.ho, rfl, a, _, rfl, SqL.of ho1.ha, for_it walk_enum (fun i σ H' => (∃ v3 v4 v5 v6, σ = [some (.ref o), some (.int r), some (.ref q), v3, v4, v5, v6]) ∧ Same H H' ∧ ∃ zs, H' q = some (.lst zs) ∧ TDs K H' zs ((waysTo h r i).map encNR) ∧ zs.length ≤ i)
      ⟨⟨_, _, _, _, rfl⟩, s1, [], hq1, .nil, Nat.le_refl _⟩ (fun i σ H' _ e => SqL.of (e.2.1 _ _ ho.ha)) ?_ ?_⟩
    · rintro i v σ H2 H3 hi ⟨⟨v3, v4, v5, v6, rfl⟩, s2, zs, hq, wa, zl⟩ ⟨Tp, u1, u2, rfl, nT, rfl, e1, e2⟩
      injection e1 with e1
      subst e1
      replace e2 : xs[i]? = some u2 := e2
      obtain ⟨d, hd, tdd⟩ := TDs.at_map (TDs.keep (Same.tk s2) ho.tx) e2
      obtain ⟨dt, rfl, hdt⟩ := TD.door_inv tdd
      have s3 : Same H2 (upd H2 Tp (.tup [.int (i : Nat), .ref dt])) := Same.new nT
      refine ⟨Tp, _, rfl, SqT.of upd_same, rfl, _, _, rfl, ?_⟩
      have hq3 := s3 _ _ hq
      have wa3 := TDs.keep (Same.tk s3) wa
      have hdt3 := SqT.keep (Same.tk s3) hdt
      have s23 := s2.trans s3
      generalize upd H2 Tp (.tup [.int (i : Nat), .ref dt]) = H3 at hq3 wa3 hdt3 s23 ⊢
      refine ⟨_, _, rfl, dt, _, rfl, hdt3, rfl, _, _, rfl, _, _, rfl, _, _, rfl, rfl, rfl, ?_⟩
      refine ⟨_, rfl, _, rfl, _, rfl, by show 2 ≤ sizeLine; omega, fun tp ntp => ⟨tp, _, rfl, .inr (SqT.of upd_same), rfl, rfl, _, rfl, ?_⟩⟩
      have s4 : Same H3 (upd H3 tp (.tup [.int d.1, .int d.2.1])) := Same.new ntp
      rw [if_neg Bool.false_ne_true, show inV (.int r) [V.int d.1, .int d.2.1] = decide (r ∈ [d.1, d.2.1]) from inV_ints r [d.1, d.2.1]]
      have hq4 := s4 _ _ hq3
      have wa4 := TDs.keep (Same.tk s4) wa3
      have s24 := s23.trans s4
      generalize upd H3 tp (.tup [.int d.1, .int d.2.1]) = H4 at hq4 wa4 s24 ⊢
      clear ntp hdt3 hq3 wa3 s23 s4 wa hq s2
      have dn := dne d (List.mem_of_getElem? hd)
      have il := (List.getElem?_eq_some_iff.mp hd).1
      have put : ∀ (oth : Int) (H5 : Hp) (u : Addr), Same H4 H5 → SqT K H5 u [.int (i : Nat), .int oth] → (stepsAt h i d).filter (fun s => decide (s.le = r)) = [⟨(i : Nat), r, oth, nzStep h d oth⟩] →
          Same H (upd H5 q (.lst (zs ++ [.ref u]))) ∧ ∃ zs', upd H5 q (.lst (zs ++ [.ref u])) q = some (.lst zs') ∧ TDs K (upd H5 q (.lst (zs ++ [.ref u]))) zs' ((waysTo h r (i + 1)).map encNR) ∧ zs'.length ≤ i + 1 := fun oth H5 u s5 hu nx => by
        have tk := tk_acc (ys := zs ++ [V.ref u]) (s5 _ _ hq4)
        refine ⟨Hb.Same.acc (s24.trans s5) nq, _, upd_same, ?_, by rw [List.length_append]; show _ + 1 ≤ _; omega⟩
        rw [ways_next hd, nx, List.map_append]
        exact TDs.app (TDs.keep tk (TDs.keep (Same.tk s5) wa4)) (.cons (.tup (SqT.keep tk hu) (.cons (.int _) (.cons (.int _) .nil))) .nil)
      refine ite2 (fun c => ?_) (fun c => ?_)
      · have c2 := of_decide_eq_true c
        simp only [List.mem_cons, List.not_mem_nil, or_false] at c2
        refine ⟨_, rfl, .inl ⟨rfl, _, SqL.of hq4⟩, _, rfl, _, rfl, _, rfl, rfl, _, rfl, ?_⟩
        by_cases e : r = d.1
        · rw [decide_eq_true (show V.int r = V.int d.1 by rw [e])]
          refine iteT ⟨_, rfl, by show 2 ≤ sizeLine; omega, fun u nu => ?_⟩
          have s5 : Same H4 (upd H4 u (.tup [.int (i : Nat), .int d.2.1])) := Same.new nu
          obtain ⟨p1, p2⟩ := put d.2.1 _ u s5 (SqT.of upd_same) (by
            unfold stepsAt
            rw [List.filter_cons, if_pos (decide_eq_true e.symm), List.filter_cons, if_neg (by rw [decide_eq_true_iff]; exact fun z => dn (e.symm.trans z.symm)), List.filter_nil, e])
          exact ⟨q, zs, _, rfl, rfl, s5 _ _ hq4, by omega, ⟨_, _, _, _, rfl⟩, p1, p2⟩
        · rw [decide_eq_false (show ¬ V.int r = V.int d.1 from fun q => e (by injection q))]
          refine iteF ⟨_, rfl, by show 2 ≤ sizeLine; omega, fun u nu => ?_⟩
          have e2 := c2.resolve_left e
          have s5 : Same H4 (upd H4 u (.tup [.int (i : Nat), .int d.1])) := Same.new nu
          obtain ⟨p1, p2⟩ := put d.1 _ u s5 (SqT.of upd_same) (by
            unfold stepsAt
            rw [List.filter_cons, if_neg (by rw [decide_eq_true_iff]; exact fun z => e z.symm), List.filter_cons, if_pos (decide_eq_true e2.symm), List.filter_nil, e2])
          exact ⟨q, zs, _, rfl, rfl, s5 _ _ hq4, by omega, ⟨_, _, _, _, rfl⟩, p1, p2⟩
      · have c2 : r ∉ [d.1, d.2.1] := fun m => c (decide_eq_true m)
        simp only [List.mem_cons, List.not_mem_nil, or_false, not_or] at c2
        have nx : (stepsAt h i d).filter (fun s => decide (s.le = r)) = [] := by
          unfold stepsAt
          rw [List.filter_cons, if_neg (by rw [decide_eq_true_iff]; exact fun z => c2.1 z.symm), List.filter_cons, if_neg (by rw [decide_eq_true_iff]; exact fun z => c2.2 z.symm), List.filter_nil]
        exact ⟨⟨_, _, _, _, rfl⟩, s24, zs, hq4, by rw [ways_next hd, nx, List.append_nil]; exact wa4, by omega⟩
    · rintro σ H2 ⟨⟨v3, v4, v5, v6, rfl⟩, s2, zs, hq, wa, zl⟩
      rw [ho.tx.length, List.length_map] at wa
      exact ⟨_, rfl, k _ _ _ s2 nq hq wa⟩
end
end Lw
set_option Elab.async false
set_option linter.all false
set_option maxRecDepth 100000
set_option maxHeartbeats 8000000
namespace Lw
open PySem PySem.Spec PyProof.Rows L2 Hb
/-! ### the steps from a standing, by the law -/
def outR (h : Hz) (z : Zz) (g : Sg) (r : Int) : List Sg := (waysR h r).filterMap fun s => bStep z g s
def stepsG (h : Hz) (z : Zz) (g : Sg) : List Sg := (g.be.map (outR h z g)).flatten
theorem mem_stepsG {h : Hz} {z : Zz} {g b : Sg} : b ∈ stepsG h z g ↔ ∃ s ∈ allSteps h, bStep z g s = some b := by
  unfold stepsG outR
  simp only [List.mem_flatten, List.mem_map, List.mem_filterMap]
  constructor
  · rintro ⟨_, ⟨r, _, rfl⟩, m⟩
    obtain ⟨s, hs, e⟩ := List.mem_filterMap.mp m
    exact ⟨s, (mem_waysR.mp hs).1, e⟩
  · rintro ⟨s, hs, e⟩
    have : s.le ∈ g.be := by
      by_cases c : s.le ∈ g.be
      · exact c
      · unfold bStep at e
        rw [if_neg c] at e
        cases e
    exact ⟨_, ⟨s.le, this, rfl⟩, List.mem_filterMap.mpr ⟨s, mem_waysR.mpr ⟨hs, rfl⟩, e⟩⟩
theorem lkF_mem : ∀ {fs : List Fl} {r : Int} {x : Str}, fs.lookup r = some x → (r, x) ∈ fs
  | [], _, _, e => by cases e
  | p :: fs, r, x, e => by
    rw [List.lookup_cons] at e
    by_cases q : r = p.1
    · rw [q, beq_self_eq_true] at e
      cases e
      rw [q]
      exact List.mem_cons_self
    · rw [beq_eq_false_iff_ne.mpr q] at e
      exact List.mem_cons_of_mem _ (lkF_mem e)
theorem lkF_of : ∀ {fs : List Fl} {r : Int} {x : Str}, (fs.map Prod.fst).Nodup → (r, x) ∈ fs → fs.lookup r = some x
  | p :: fs, r, x, nd, m => by
    rw [List.map_cons, List.nodup_cons] at nd
    rw [List.lookup_cons]
    rcases List.mem_cons.mp m with rfl | m
    · rw [beq_self_eq_true]
    · have q : ¬ r = p.1 := fun e => nd.1 (by rw [← e]; exact List.mem_map_of_mem (f := Prod.fst) m)
      rw [beq_eq_false_iff_ne.mpr q]
      exact lkF_of nd.2 m
theorem lkF_sort {fs : List Fl} (nd : (fs.map Prod.fst).Nodup) (r : Int) : (sortF fs).lookup r = fs.lookup r := by
  have pm := sortF_perm fs
  cases e : fs.lookup r with
  | some x => exact lkF_of ((pm.map Prod.fst).nodup_iff.mpr nd) (pm.mem_iff.mpr (lkF_mem e))
  | none => cases e2 : (sortF fs).lookup r with
    | none => rfl
    | some x =>
      have := lkF_of nd (pm.mem_iff.mp (lkF_mem e2))
      rw [e] at this
      cases this
theorem lkF_none : ∀ {fs : List Fl} {r : Int}, r ∉ fs.map Prod.fst → fs.filter (fun p => decide (p.1 = r)) = []
  | [], _, _ => rfl
  | p :: fs, r, h => by
    rw [List.map_cons, List.mem_cons, not_or] at h
    rw [List.filter_cons, if_neg (by rw [decide_eq_true_iff]; exact fun e => h.1 e.symm)]
    exact lkF_none h.2
theorem lkF_filter : ∀ {fs : List Fl} (_ : (fs.map Prod.fst).Nodup) (r : Int), (fs.filter fun p => decide (p.1 = r)).map Prod.snd = (fs.lookup r).toList
  | [], _, _ => rfl
  | p :: fs, nd, r => by
    rw [List.map_cons, List.nodup_cons] at nd
    rw [List.filter_cons, List.lookup_cons]
    by_cases q : r = p.1
    · subst q
      rw [if_pos (decide_eq_true rfl), beq_self_eq_true, lkF_none nd.1]
      rfl
    · rw [if_neg (by rw [decide_eq_true_iff]; exact fun e => q e.symm), beq_eq_false_iff_ne.mpr q]
      exact lkF_filter nd.2 r
theorem nz_told {h : Hz} (nd : (h.floors.map Prod.fst).Nodup) (d : Dr) (r : Int) : nzStep h d r = d.2.2.toList ++ (h.floors.filter fun p => decide (p.1 = r)).map Prod.snd := by
  unfold nzStep
  rw [lkF_sort nd, lkF_filter nd]
theorem mem_steps2 {h : Hz} {s : Stp} (m : s ∈ allSteps h) : ∃ (i : Nat) (d : Dr), h.doors[i]? = some d ∧ s.n = (i : Nat) ∧ ((s.ri = d.2.1 ∧ s.le = d.1 ∧ s.ns = nzStep h d d.2.1) ∨ (s.ri = d.1 ∧ s.le = d.2.1 ∧ s.ns = nzStep h d d.1)) := by
  have go : ∀ m, m ≤ h.doors.length → ∀ s ∈ stepsTo h m, ∃ (i : Nat) (d : Dr), h.doors[i]? = some d ∧ s.n = (i : Nat) ∧ ((s.ri = d.2.1 ∧ s.le = d.1 ∧ s.ns = nzStep h d d.2.1) ∨ (s.ri = d.1 ∧ s.le = d.2.1 ∧ s.ns = nzStep h d d.1)) := by
    intro m
    induction m with
    | zero => exact fun _ s hs => nomatch hs
    | succ m ih =>
      intro hm s hs
      have e := List.getElem?_eq_getElem (show m < h.doors.length by omega)
      rw [steps_next e] at hs
      rcases List.mem_append.mp hs with hs | hs
      · exact ih (by omega) s hs
      · simp only [stepsAt, List.mem_cons, List.not_mem_nil, or_false] at hs
        rcases hs with rfl | rfl
        · exact ⟨m, _, e, rfl, .inl ⟨rfl, rfl, rfl⟩⟩
        · exact ⟨m, _, e, rfl, .inr ⟨rfl, rfl, rfl⟩⟩
  exact go _ (Nat.le_refl _) s m
/-! the noises made, by ticks -/
theorem steps_len (h : Hz) : ∀ m, (stepsTo h m).length ≤ 2 * m
  | 0 => by simp [stepsTo]
  | m + 1 => by
    have := steps_len h m
    cases e : h.doors[m]? with
    | some d =>
      rw [steps_next e, List.length_append]
      show _ + 2 ≤ _
      omega
    | none =>
      have q : stepsTo h (m + 1) = stepsTo h m := by
        unfold stepsTo
        rw [List.take_add_one, e]
        simp
      rw [q]
      omega
theorem ways_len (h : Hz) (r : Int) : (waysR h r).length ≤ 2 * h.doors.length := Nat.le_trans (List.length_filter_le _ _) (steps_len h _)
theorem TD.nr_inv {K : PySem.W.Frag} {H : Hp} {v : V} {s : Stp} (h : TD K H v (encNR s)) : ∃ t, v = .ref t ∧ SqT K H t [.int s.n, .int s.ri] := by
  cases h with
  | tup a b => cases b with
    | cons x b => cases b with
      | cons y b => cases b; cases x; cases y; exact ⟨_, rfl, a⟩
def rowsI (n : Nat) : List Int := (List.range n).map Int.ofNat
theorem rowsI_filter (p : Int → Bool) (m : Nat) : (rowsI (m + 1)).filter p = (rowsI m).filter p ++ if p (m : Int) = true then [(m : Int)] else [] := by
  unfold rowsI
  rw [List.range_succ, List.map_append, List.filter_append]
  congr 1
  show List.filter p [(m : Int)] = _
  rw [List.filter_cons, List.filter_nil]
theorem rowsI_len (m : Nat) : (rowsI m).length = m := by unfold rowsI; rw [List.length_map, List.length_range]
theorem rowsI_asc (n : Nat) : (rowsI n).Pairwise (· < ·) := by
  unfold rowsI
  rw [List.pairwise_map]
  exact List.pairwise_lt_range.imp fun h => Int.ofNat_lt.mpr h
theorem mem_rowsI {n : Nat} {x : Int} : x ∈ rowsI n ↔ 0 ≤ x ∧ x < (n : Nat) := by
  unfold rowsI
  rw [List.mem_map]
  constructor
  · rintro ⟨k, hk, rfl⟩
    rw [List.mem_range] at hk
    exact ⟨Int.natCast_nonneg k, Int.ofNat_lt.mpr hk⟩
  · rintro ⟨h0, h1⟩
    exact ⟨x.toNat, List.mem_range.mpr (by omega), Int.toNat_of_nonneg h0⟩
theorem lot_eq {no : List Int} {r : Int} {n : Nat} (asc : no.Pairwise (· < ·)) (inn : ∀ x ∈ no, 0 ≤ x ∧ x < (n : Nat)) (r0 : 0 ≤ r) (r1 : r < (n : Nat)) : (rowsI n).filter (fun x => decide (x ∈ no ∨ x = r)) = withR no r := by
  have a : ((rowsI n).filter (fun x => decide (x ∈ no ∨ x = r))).Pairwise (· < ·) := (rowsI_asc n).filter _
  have b : (withR no r).Pairwise (· < ·) ∧ ∀ x, x ∈ withR no r ↔ x ∈ no ∨ x = r := by
    unfold withR
    by_cases c : r ∈ no
    · rw [if_pos c]
      exact ⟨asc, fun x => ⟨.inl, fun q => q.elim id fun e => e ▸ c⟩⟩
    · rw [if_neg c, sortI_ins asc c]
      refine ⟨insI_asc asc c, fun x => ?_⟩
      rw [← (insI_perm r no).mem_iff, List.mem_append, List.mem_singleton]
  refine pw_unique (r := fun x y : Int => x < y) (fun x y h1 h2 => absurd h1 (by omega)) a b.1 (nodup_of_lt a) (nodup_of_lt b.1) fun k => ?_
  rw [b.2, List.mem_filter, decide_eq_true_iff, mem_rowsI]
  exact ⟨fun q => q.2, fun q => ⟨q.elim (inn k) (fun e => e ▸ ⟨r0, r1⟩), q⟩⟩
/-- what stands: the house, a standing within it -/
structure GIn (h : Hz) (z : Zz) (g : Sg) : Prop where
  df : h.doors.length ≤ 100
  ff : h.floors.length ≤ 100
  fnd : (h.floors.map Prod.fst).Nodup
  dne : ∀ x ∈ h.doors, x.1 ≠ x.2.1
  r0 : 0 ≤ h.rooms
  r1 : h.rooms ≤ 100
  ri : ∀ s ∈ allSteps h, 0 ≤ s.ri ∧ s.ri < h.rooms
  no : g.no.Pairwise (· < ·)
  nor : ∀ r ∈ g.no, 0 ≤ r ∧ r < h.rooms
  be : g.be.length ≤ 100
  ok : ∀ s ∈ allSteps h, (rowS z g.st s.ns).ok
end Lw
set_option Elab.async false
set_option linter.all false
set_option maxRecDepth 100000
set_option maxHeartbeats 4000000
namespace Lw
open PySem PySem.Spec PyProof.Rows L2 Hb
/-! ### the states that a drawn sleeper can be in -/
def fiveI : List Int := [1, 2, 3, 4, 5]
def ssOf (W : List Str) : List S0 := [.up, .asl, .wok] ++ fiveI.map S0.doz ++ fiveI.map S0.stir ++ (W.map fun n => [S0.kept n 0, .kept n 1, .kept n 2]).flatten
theorem fiveI_of {t : Int} (h1 : 1 ≤ t) (h2 : t ≤ 5) : t ∈ fiveI := by
  simp only [fiveI, List.mem_cons, List.not_mem_nil, or_false]
  omega
theorem ss_all {z : Zz} {W : List Str} (zk : Zok z W) {s : S0} (h : InS z s) : s ∈ ssOf W := by
  unfold ssOf
  rw [List.mem_append, List.mem_append, List.mem_append]
  cases s with
  | up => exact .inl (.inl (.inl (by simp)))
  | asl => exact .inl (.inl (.inl (by simp)))
  | wok => exact .inl (.inl (.inl (by simp)))
  | doz t => exact .inl (.inl (.inr (List.mem_map.mpr ⟨t, fiveI_of h.1 (Int.le_trans h.2 zk.d5), rfl⟩)))
  | stir t => exact .inl (.inr (List.mem_map.mpr ⟨t, fiveI_of h.1 (Int.le_trans h.2 zk.s5), rfl⟩))
  | kept n a =>
    obtain ⟨m, a0, a1⟩ := h
    have a2 := zk.n2
    refine .inr (List.mem_flatten.mpr ⟨_, List.mem_map.mpr ⟨n, zk.inw _ m, rfl⟩, ?_⟩)
    have : a = 0 ∨ a = 1 ∨ a = 2 := by omega
    rcases this with rfl | rfl | rfl <;> simp
open Classical in
noncomputable def ssZ (z : Zz) (W : List Str) : List S0 := (ssOf W).filter fun s => decide (InS z s)
open Classical in
theorem mem_ssZ {z : Zz} {W : List Str} (zk : Zok z W) {s : S0} : s ∈ ssZ z W ↔ InS z s := by
  unfold ssZ
  rw [List.mem_filter, decide_eq_true_iff]
  exact ⟨fun q => q.2, fun q => ⟨ss_all zk q, q⟩⟩
theorem InS.rowW {z : Zz} {W : List Str} (zk : Zok z W) : ∀ (ns : List Str) {s : S0}, InS z s → InS z (rowS z s ns)
  | [], _, i => i
  | n :: ns, _, i => InS.rowW zk ns (InS.hear zk i)
theorem InS.okW {z : Zz} {W : List Str} (zk : Zok z W) {s : S0} (h : InS z s) : s.ok := by
  cases s with
  | kept n a => 
    obtain ⟨m, _⟩ := h
    exact (zk.ok _ m).1
  | up => trivial
  | asl => trivial
  | wok => trivial
  | doz t => trivial
  | stir t => trivial
theorem ssOf_len (W : List Str) : (ssOf W).length = 13 + 3 * W.length := by
  unfold ssOf
  rw [List.length_append, List.length_append, List.length_append, List.length_map, List.length_map]
  have e : ((W.map fun n => [S0.kept n 0, .kept n 1, .kept n 2]).flatten).length = 3 * W.length := by
    induction W with
    | nil => rfl
    | cons w W ih =>
      simp only [List.map_cons, List.flatten_cons, List.length_append, ih, List.length_cons, List.length_nil]
      omega
  rw [e]
  rfl
theorem unr_drawn {h : Hz} {z : Zz} {W : List Str} {n : Nat} (f : Str) (zk : Zok z W) (wl : W.length ≤ 8) (n1 : 1 ≤ n) (n6 : n ≤ 6) (hd : ∀ d ∈ h.doors, (0 ≤ d.1 ∧ d.1 < (n : Nat)) ∧ 0 ≤ d.2.1 ∧ d.2.1 < (n : Nat)) : Unr h z (uni (ssZ z W) n) f n := by
  refine unr_of n1 n6 hd ?_ (fun s hs => InS.okW zk ((mem_ssZ zk).mp hs)) ((mem_ssZ zk).mpr (InS.first zk f)) (fun s hs => (mem_ssZ zk).mpr (InS.tick zk ((mem_ssZ zk).mp hs))) fun s hs p _ => (mem_ssZ zk).mpr (InS.rowW zk p.ns ((mem_ssZ zk).mp hs))
  have a : (ssZ z W).length ≤ (ssOf W).length := List.length_filter_le _ _
  rw [ssOf_len] at a
  omega
end Lw
set_option Elab.async false
set_option linter.all false
set_option maxRecDepth 100000
set_option maxHeartbeats 4000000
namespace Lw
open PySem PySem.Spec PyProof.Rows L2 Hb
/-! ### what the law's search wants of a drawn house and sleeper; rooms shown -/
theorem gin_of {h : Hz} {z : Zz} {many m : Int} {W : List Str} {n : Nat} (hk : Hok h many m W) (m1 : many ≤ 100) (m2 : m ≤ 100) (zk : Zok z W) (hn : h.rooms = (n : Nat)) (n6 : n ≤ 6) {g : Sg} (hg : g ∈ uni (ssZ z W) n) : GIn h z g ∧ g.st.ok := by
  obtain ⟨g1, g2, g3⟩ := uni_mem.mp hg
  have i := (mem_ssZ zk).mp g1
  have r1 := hk.r1
  have r2 := hk.r2
  have dm := hk.dm
  have fm := hk.fm
  obtain ⟨a1, a2⟩ := lots_asc g3
  have hd : ∀ d ∈ h.doors, (0 ≤ d.1 ∧ d.1 < (n : Nat)) ∧ 0 ≤ d.2.1 ∧ d.2.1 < (n : Nat) := fun d hd => by
    obtain ⟨a, b, _⟩ := hk.d d hd
    rw [hn] at a b
    exact ⟨a, b⟩
  refine ⟨⟨by omega, by omega, nodup_of_lt hk.fs, fun x hx => (hk.d x hx).2.2.1, by omega, by omega, fun s hs => by rw [hn]; exact steps_ri hd hs, a1, fun r hr => by rw [hn]; exact a2 r hr, ?_, fun s _ => InS.okW zk (InS.rowW zk s.ns i)⟩, InS.okW zk i⟩
  have := lots_few g2
  omega
theorem Rch.inU {h : Hz} {z : Zz} {f : Str} {U : List Sg} {n : Nat} {g : Sg} (x : Rch h z f g) (u : Unr h z U f n) : g ∈ U := by
  induction x with
  | start => exact u.s
  | step _ hs hb ih => exact u.u.st _ ih _ hs _ hb
  | tick _ hb ih => exact u.u.tk _ ih _ hb
theorem hok_nat {h : Hz} {many m : Int} {W : List Str} (hk : Hok h many m W) (m1 : many ≤ 6) : ∃ n : Nat, h.rooms = (n : Nat) ∧ 1 ≤ n ∧ n ≤ 6 ∧ ∀ d ∈ h.doors, (0 ≤ d.1 ∧ d.1 < (n : Nat)) ∧ 0 ≤ d.2.1 ∧ d.2.1 < (n : Nat) := by
  have r1 := hk.r1
  have r2 := hk.r2
  refine ⟨h.rooms.toNat, by omega, by omega, by omega, fun d hd => ?_⟩
  obtain ⟨a, b, _⟩ := hk.d d hd
  have e : ((h.rooms.toNat : Nat) : Int) = h.rooms := by omega
  rw [e]
  exact ⟨a, b⟩
theorem few_shownB : ∀ i : Fin 256, (PyData.int (i.val : Int)).shown.length ≤ 8 ∧ (PyData.int (i.val : Int)).showable = true := by decide +kernel
theorem int_shownB {i : Int} (h0 : 0 ≤ i) (h1 : i < 256) : (PyData.int i).shown.length ≤ 8 ∧ (PyData.int i).showable = true := by
  obtain ⟨n, rfl⟩ := Int.eq_ofNat_of_zero_le h0
  exact few_shownB ⟨n, by omega⟩
structure ShB (n : Nat) (d : PyData) : Prop where
  le : d.shown.length ≤ n
  sh : d.showable = true
  nd : d.hasDict = false
theorem showableAllB : ∀ {ds : List PyData}, (∀ d ∈ ds, d.showable = true) → PyData.showableAll ds = true
  | [], _ => rfl
  | d :: ds, h => by simp only [PyData.showableAll, h d List.mem_cons_self, showableAllB fun e he => h e (List.mem_cons_of_mem _ he), Bool.and_self]
theorem hasDictAllB : ∀ {ds : List PyData}, (∀ d ∈ ds, d.hasDict = false) → PyData.hasDictAll ds = false
  | [], _ => rfl
  | d :: ds, h => by simp only [PyData.hasDictAll, h d List.mem_cons_self, hasDictAllB fun e he => h e (List.mem_cons_of_mem _ he), Bool.or_self]
theorem ShB.tup {n m k : Nat} {ds : List PyData} (h : ∀ d ∈ ds, ShB n d) (hm : ds.length ≤ m) (hk : (n + 2) * m + 3 ≤ k) : ShB k (.tuple ds) :=
  ⟨Nat.le_trans (tup_le (fun d hd => (h d hd).le) hm) hk, by simp only [PyData.showable]; exact showableAllB fun d hd => (h d hd).sh, by simp only [PyData.hasDict]; exact hasDictAllB fun d hd => (h d hd).nd⟩
theorem ShB.int {i : Int} (h0 : 0 ≤ i) (h1 : i < 256) : ShB 8 (.int i) := ⟨(int_shownB h0 h1).1, (int_shownB h0 h1).2, rfl⟩
theorem depthAllB : ∀ rs : List Int, PyData.depthAll (rs.map PyData.int) ≤ 1
  | [] => by simp [PyData.depthAll]
  | r :: rs => by
    have := depthAllB rs
    rw [List.map_cons]
    simp only [PyData.depthAll, PyData.depth]
    omega
/-- what repr wants of data -/
structure RpB (d : PyData) : Prop where
  sh : d.showable = true
  nd : d.hasDict = false
  de : d.depth ≤ 60
  le : d.shown.length ≤ sizeLine
  ni : ∀ i, d = .int i → i.natAbs.log2 < 1920
  nx : ∀ x, d ≠ .str x
theorem rpB_ints {rs : List Int} (few : rs.length ≤ 64) (ok : ∀ r ∈ rs, 0 ≤ r ∧ r < 256) : RpB (.tuple (rs.map PyData.int)) := by
  have line := sizeLine_eq
  have s : ShB 700 (.tuple (rs.map PyData.int)) := ShB.tup (n := 8) (m := 64) (fun d hd => by
    obtain ⟨x, hx, rfl⟩ := List.mem_map.mp hd
    exact ShB.int (ok x hx).1 (ok x hx).2) (by rw [List.length_map]; exact few) (by decide)
  exact ⟨s.sh, s.nd, (by simp only [PyData.depth]; have := depthAllB rs; omega), Nat.le_trans s.le (by omega), (fun i e => by cases e), (fun x e => by cases e)⟩
theorem shapedB_ints (ns : List Int) : SeqAt.shaped (.tuple (ns.map PyData.int)) = true := shaped_tup fun d hd => by
  obtain ⟨x, _, rfl⟩ := List.mem_map.mp hd
  exact ⟨by simp [PyData.canLay0], by simp [PyData.depth]⟩
/-- rooms told in any order, sorted, are the ascending ones with the same members -/
theorem sortI_eq {fs rs : List Int} (nd : fs.Nodup) (asc : rs.Pairwise (· < ·)) (e : ∀ r, r ∈ fs ↔ r ∈ rs) : sortI fs = rs := by
  exact sortI_perm_eq ((List.perm_ext_iff_of_nodup nd (nodup_of_lt asc)).mpr e) asc
/-- sorted ints -/
theorem sort_intsB {K : PySem.W.Frag} {H : Hp} {Q : VK} {a : Addr} {ns : List Int} (h : SqL K H a (ns.map V.int) ∨ SqT K H a (ns.map V.int)) (k : ∀ p, H p = none → Q (.ref p) (upd H p (.lst ((sortI ns).map V.int)))) : rSortedAny K PyData.int [.ref a] H Q := by
  have zc := zip_tdE (tds_ints (K := K) (H := H) ns)
  have lenc : (ns.map V.int).length = ns.length := List.length_map _
  refine ⟨a, (ns.map V.int).zip ns, rfl, by rw [zip_fst lenc]; exact h, fun y hy => TD.dp (zc y hy), PySem.W.AllAlike.of (fun b b' => alike_I b.2 b'.2), PySem.W.Sortable.others (fun b => ⟨(by intro e; cases e), (by intro xs e; cases e)⟩), fun y _ => depth_I y.2, fun p np => ?_⟩
  generalize hzc : ((ns.map V.int).zip ns).mergeSort (PySem.W.dataLe false fun y => PyData.int y.2) = cs
  have pc : cs.Perm ((ns.map V.int).zip ns) := by rw [← hzc]; exact List.mergeSort_perm _ _
  have sndc : cs.map (·.2) = sortI ns := by rw [← hzc, sort_zipE, zip_snd lenc]; rfl
  have tdcs : TDs K H (cs.map (·.1)) ((sortI ns).map PyData.int) := by
    rw [← sndc]
    exact tdE_zip fun y hy => zc y (pc.mem_iff.mp hy)
  rw [TDs.ints_inv tdcs]
  exact k p np
theorem few_of {fs : List Int} {n : Nat} (nd : fs.Nodup) (inn : ∀ r ∈ fs, 0 ≤ r ∧ r < (n : Nat)) : fs.length ≤ n := by
  have := nodup_le (ys := (List.range n).map Int.ofNat) nd fun r hr => by
    obtain ⟨a, b⟩ := inn r hr
    exact List.mem_map.mpr ⟨r.toNat, List.mem_range.mpr (by omega), by show ((r.toNat : Nat) : Int) = r; omega⟩
  rw [List.length_map, List.length_range] at this
  exact this
end Lw
set_option Elab.async false
set_option linter.all false
set_option maxRecDepth 100000
set_option maxHeartbeats 8000000
namespace Lw
open PySem PySem.Spec PyProof.Rows L2 Hb
/-! ### the law's own world of people -/
structure Wst where
  s : S0
  rs : List Int
  ts : List Bool
  t : Int
/-- its dict -/
def wkv (v : V) (ra ta : Addr) (t : Int) : List (Key × V) := [(Sum.inr "state", v), (Sum.inr "rooms", .ref ra), (Sum.inr "tired", .ref ta), (Sum.inr "ticks", .int t)]
/-- a world that stands at wp, made behind H0 -/
structure WoAt (K : PySem.W.Frag) (H0 H : Hp) (wp : Addr) (W : Wst) (v : V) (ra ta : Addr) : Prop where
  hw : H wp = some (.dK (wkv v ra ta W.t))
  hr : H ra = some (.lst (W.rs.map V.int))
  ht : H ta = some (.lst (W.ts.map V.bl))
  st : StAt K H v W.s
  nw : H0 wp = none
  nr : H0 ra = none
  nt : H0 ta = none
  rt : ra ≠ ta
  dm : ∀ c, H c = none → H0 c = none
def Wo (K : PySem.W.Frag) (H0 H : Hp) (wp : Addr) (W : Wst) : Prop := ∃ v ra ta, WoAt K H0 H wp W v ra ta
/-- what was there ahead of the world stays -/
def Fr (H0 H H' : Hp) : Prop := ∀ c o, H0 c ≠ none → H c = some o → H' c = some o
theorem Fr.refl (H0 H : Hp) : Fr H0 H H := fun _ _ _ e => e
theorem Fr.trans {H0 H H1 H2 : Hp} (x : Fr H0 H H1) (y : Fr H0 H1 H2) : Fr H0 H H2 := fun c o n e => y c o n (x c o n e)
theorem Fr.same {H0 H H' : Hp} (s : Same H H') : Fr H0 H H' := fun c o _ e => s c o e
theorem Fr.put {H0 H H' : Hp} {l : Addr} {o : HO} (x : Fr H0 H H') (n : H0 l = none) : Fr H0 H (upd H' l o) := fun c u m e => by
  rw [upd_ne fun z => m (by rw [z]; exact n)]
  exact x c u m e
section
variable {K : PySem.W.Frag} {H0 H H' : Hp} {wp ra ta : Addr} {W : Wst} {v : V}
theorem WoAt.same (x : WoAt K H0 H wp W v ra ta) (s : Same H H') : WoAt K H0 H' wp W v ra ta := ⟨s _ _ x.hw, s _ _ x.hr, s _ _ x.ht, x.st.keep (Same.tk s), x.nw, x.nr, x.nt, x.rt, fun c e => x.dm c (s.free e)⟩
theorem Wo.same (x : Wo K H0 H wp W) (s : Same H H') : Wo K H0 H' wp W := by
  obtain ⟨v, ra, ta, x⟩ := x
  exact ⟨v, ra, ta, x.same s⟩
theorem WoAt.ne (x : WoAt K H0 H wp W v ra ta) : wp ≠ ra ∧ wp ≠ ta := ⟨ne_of x.hw x.hr (by intro z; cases z), ne_of x.hw x.ht (by intro z; cases z)⟩
/-- the box is drawn from -/
theorem Wo.kb {b : Addr} (x : Wo K H0 H wp W) (hb : H0 b ≠ none) (bx : Box b H) (bx' : Box b H') (k : Kb b H H') : Wo K H0 H' wp W := by
  obtain ⟨v, ra, ta, x⟩ := x
  have n : ∀ {a : Addr}, H0 a = none → a ≠ b := fun {a} e z => hb (by rw [← z]; exact e)
  exact ⟨v, ra, ta, k _ _ (n x.nw) x.hw, k _ _ (n x.nr) x.hr, k _ _ (n x.nt) x.ht, x.st.keep (bx.tk k), x.nw, x.nr, x.nt, x.rt, fun c e => x.dm c (bx.nfree k bx' e)⟩
end
/-- an event: a tick, or a step of one of the people -/
inductive Wev where
  | tick
  | step (p : Nat) (s : Stp)
def goW (z : Zz) (W : Wst) : Wev → Wst
  | .tick => ⟨tick z W.s, W.rs, W.rs.map fun _ => false, W.t + 1⟩
  | .step p s => ⟨rowS z W.s s.ns, W.rs.set p s.ri, W.ts.set p true, W.t⟩
def evV : Wev → List V
  | .tick => [.str "tick"]
  | .step p s => [.str "step", .int (p : Nat), .int s.n]
def evOkW (h : Hz) (W : Wst) : Wev → Prop
  | .tick => True
  | .step p s => W.ts[p]? = some false ∧ ∃ r, W.rs[p]? = some r ∧ s ∈ waysR h r
theorem TK.tr {H H1 H2 : Hp} (a : TK H H1) (b : TK H1 H2) : TK H H2 := ⟨fun c ys e => b.1 c ys (a.1 c ys e), fun c o u e => b.2 c o u (a.2 c o u e)⟩
theorem put_state {v v' : V} {ra ta : Addr} {t : Int} : putK (wkv v ra ta t) (Sum.inr "state") v' = wkv v' ra ta t := rfl
theorem put_ticks {v : V} {ra ta : Addr} {t t' : Int} : putK (wkv v ra ta t) (Sum.inr "ticks") (.int t') = wkv v ra ta t' := rfl
theorem put_tired {v : V} {ra ta ta' : Addr} {t : Int} : putK (wkv v ra ta t) (Sum.inr "tired") (.ref ta') = wkv v ra ta' t := rfl
theorem ways_uniq {h : Hz} (dne : ∀ x ∈ h.doors, x.1 ≠ x.2.1) {r : Int} {s s' : Stp} (m : s ∈ waysR h r) (m' : s' ∈ waysR h r) (e : s.n = s'.n) : s.ri = s'.ri := by
  obtain ⟨a1, a2⟩ := mem_waysR.mp m
  obtain ⟨b1, b2⟩ := mem_waysR.mp m'
  obtain ⟨i, d, hd, hn, alt⟩ := mem_steps2 a1
  obtain ⟨i', d', hd', hn', alt'⟩ := mem_steps2 b1
  have : i = i' := by omega
  subst this
  rw [hd] at hd'
  cases hd'
  have dn := dne d (List.mem_of_getElem? hd)
  rcases alt with ⟨p1, p2, _⟩ | ⟨p1, p2, _⟩ <;> rcases alt' with ⟨q1, q2, _⟩ | ⟨q1, q2, _⟩
  · rw [p1, q1]
  · exact absurd (by rw [← p2, ← q2, a2, b2]) dn
  · exact absurd (by rw [← p2, ← q2, a2, b2]) dn
  · rw [p1, q1]
def spLHummed (K : PySem.W.Frag) : Sp := fun vs H Q _ => ∃ (o dk : Addr) (v : V) (z : Zz) (s : S0) (x : Str), vs = [.ref o, v, .str x] ∧ BZ H o dk z ∧ StAt K H v s ∧ ∀ H' v', Same H H' → StAt K H' v' (hum z x s) → Q v' H'
def spLBegin (K : PySem.W.Frag) : Sp := fun vs H Q _ => ∃ (o y dk : Addr) (z : Zz) (n : Int) (f : Str), vs = [.ref o, .ref y, .int n, .str f] ∧ BZ H y dk z ∧ f ∈ (["asleep", "dozing", "up"] : List Str) ∧ 0 ≤ n ∧ n ≤ 100 ∧
  ∀ H' wp, Same H H' → Wo K H H' wp ⟨firstS z f, List.replicate n.toNat 0, List.replicate n.toNat false, 0⟩ → Q (.ref wp) H'
def spLGo (K : PySem.W.Frag) : Sp := fun vs H Q _ => ∃ (bb o y dk wp ep : Addr) (h : Hz) (z : Zz) (W : Wst) (H0 : Hp) (ev : Wev), vs = [.ref o, .ref y, .ref wp, .ref ep] ∧ BHo K bb H o h ∧ BZ H y dk z ∧ Zin z ∧ Wo K H0 H wp W ∧ SqT K H ep (evV ev) ∧ evOkW h W ev ∧ W.rs.length ≤ 100 ∧
  h.doors.length ≤ 100 ∧ h.floors.length ≤ 100 ∧ (h.floors.map Prod.fst).Nodup ∧ (∀ x ∈ h.doors, x.1 ≠ x.2.1) ∧
  ∀ H', Fr H0 H H' → TK H H' → Wo K H0 H' wp (goW z W ev) → Q (.bl true) H'
section
variable {P : Program} {w : World} {K : PySem.W.Frag} {mg : Str → Option Value} {base : Heap}
theorem c_lhummed (D : Df K mg "_law_hummed" s_l_hummed) (T : Tx K mg) : C8.Cal P w K mg base 1 "_law_hummed" (spLHummed K) [] := by
  refine cal_mk D sc_l_hummed bd_l_hummed (fun vs H Q E h => ?_) fun f cdv A outer s H vs Q E hr h => ?_
  · obtain ⟨o, dk, v, z, s, x, rfl, _⟩ := h
    rfl
  · obtain ⟨o, dk, v, z, st, x, rfl, hz, ⟨a, rfl, ha⟩, k⟩ := h
    have hu := hu_of hr
    have line := sizeLine_eq
    refine ⟨_, (pss_cons (ps_if (pt_cmpR op_eq (pe_ix ix_tup (pv 1) pe_int (fun _ _ => rfl)) pe_str (by first | exact nomark _ | rfl))
 (pss_one (ps_ret (pv 1)))
 pss_nil)
 (pss_one (ps_ret (pe_ifExp (pt_cmpR op_eq (pv 2) pe_str (by first | exact nomark _ | rfl)) (pe_tup (pa_cons pe_str pa_nil)) (pe_tup (pa_cons pe_str (pa_cons (pe_dget hu (pv 0) pe_str (fun _ _ => rfl)) pa_nil))))))), ?_⟩
    cases st with
    | wok => exact ⟨_, rfl, a, _, 0, _, rfl, rfl, ha, rfl, rfl, _, rfl, iteT ⟨_, rfl, k _ _ (Same.refl H) ⟨a, rfl, ha⟩⟩⟩
    | _ =>
      refine ⟨_, rfl, a, _, 0, _, rfl, rfl, ha, rfl, rfl, _, rfl, iteF ⟨_, rfl, rfl, _, rfl, ?_⟩⟩
      by_cases e : x = "up"
      · rw [decide_eq_true (show V.str x = V.str "up" by rw [e])]
        refine iteT ⟨by show 1 ≤ sizeLine; omega, fun q nq => k _ _ (Same.new nq) ⟨q, rfl, ?_⟩⟩
        simp only [hum, if_pos e]
        exact SqT.of upd_same
      · rw [decide_eq_false (show ¬ V.str x = V.str "up" from fun q => e (by injection q))]
        refine iteF ⟨_, rfl, o, .int z.doze, rfl, .inl ⟨zkv dk z, Sum.inr "doze", .inl hz.ho, rfl, rfl⟩, by show 2 ≤ sizeLine; omega, fun q nq => k _ _ (Same.new nq) ⟨q, rfl, ?_⟩⟩
        simp only [hum, if_neg e]
        exact SqT.of upd_same
theorem c_lbegin (D : Df K mg "_law_begin" s_l_begin) (T : Tx K mg) (c_first : C8.Cal P w K mg base 1 "_law_first" (spLFirst K) []) : C8.Cal P w K mg base 2 "_law_begin" (spLBegin K) [] := by
  refine cal_mk D sc_l_begin bd_l_begin (fun vs H Q E h => ?_) fun f cdv A outer s H vs Q E hr h => ?_
  · obtain ⟨o, y, dk, z, n, f, rfl, _⟩ := h
    rfl
  · obtain ⟨o, y, dk, z, n, fi, rfl, hz, hf, n0, n1, k⟩ := h
    have hu := hu_of hr
    have line := sizeLine_eq
    refine ⟨_, (pss_cons (ps_par (i := 4) (j := 5) (by rfl) sc_l_begin.nd rfl rfl (by decide) rfl rfl (pa_cons (pe_lc (own := [("_law_person", 6)]) (by rfl) sc_l_begin.nd (pi_range1 (by rfl) T.n_range (pa_cons (pv 2) pa_nil)) (blkOk_by (N := N_l_begin) (sc := defScope s_l_begin) (by decide +kernel)) (fun _ _ _ _ _ => (pg_name (i := 6) sc_l_begin.nd rfl (Or.inl rfl))) (fun _ _ _ _ _ => pts_nil) (fun _ _ _ _ _ => pe_int)) (pa_cons (pe_lc (own := [("_law_person", 6)]) (by rfl) sc_l_begin.nd (pi_range1 (by rfl) T.n_range (pa_cons (pv 2) pa_nil)) (blkOk_by (N := N_l_begin) (sc := defScope s_l_begin) (by decide +kernel)) (fun _ _ _ _ _ => (pg_name (i := 6) sc_l_begin.nd rfl (Or.inl rfl))) (fun _ _ _ _ _ => pts_nil) (fun _ _ _ _ _ => pe_bl)) pa_nil)) (by rfl))
 (pss_one (ps_ret (pe_disp (pps_cons pe_str (C8.pe_c c_first hr (by decide) rfl (pa_cons (pv 1) (pa_cons (pv 3) pa_nil))) (pps_cons pe_str (pv 4) (pps_cons pe_str (pv 5) (pps_cons pe_str pe_int pps_nil)))) (by rfl) (by rfl) (fun z => by cases z) (by decide))))), ?_⟩
    refine ⟨_, rfl, n, rfl, by omega, by omega, fun D1 nD1 => lc_range (lo := 0) (n := n.toNat) (fun i H' => Same H H' ∧ H' D1 = some (.lst (List.replicate i (.int 0)))) ⟨Same.new nD1, upd_same⟩ ?_ ?_⟩
    · rintro i H1 hi ⟨s1, hD⟩
      exact ⟨rfl, yes_ ⟨_, hD, by rw [List.length_replicate]; omega, Hb.Same.acc s1 nD1, by rw [upd_same, List.replicate_succ']⟩⟩
    rintro H1 ⟨s1, h1⟩
    refine ⟨_, rfl, n, rfl, by omega, by omega, fun D2 nD2 => lc_range (lo := 0) (n := n.toNat) (fun i H' => Same H1 H' ∧ H' D2 = some (.lst (List.replicate i (.bl false)))) ⟨Same.new nD2, upd_same⟩ ?_ ?_⟩
    · rintro i H2 hi ⟨s2, hD⟩
      exact ⟨rfl, yes_ ⟨_, hD, by rw [List.length_replicate]; omega, Hb.Same.acc s2 nD2, by rw [upd_same, List.replicate_succ']⟩⟩
    rintro H2 ⟨s2, h2⟩
    have h12 := s2 _ _ h1
    have nD2H : H D2 = none := s1.free nD2
    have d12 : D1 ≠ D2 := ne_of_none h1 nD2
    refine ⟨_, _, rfl, ?_⟩
    intro p np
    have s3 : Same H2 (upd H2 p (.dK [])) := Same.new np
    have hp3 : upd H2 p (.dK []) p = some (.dK []) := upd_same
    have p1 : D1 ≠ p := ne_of_none h12 np
    have p2 : D2 ≠ p := ne_of_none h2 np
    have npH : H p = none := (s1.trans s2).free np
    have nD1H : H D1 = none := nD1
    generalize upd H2 p (.dK []) = H3 at s3 hp3 ⊢
    refine ⟨_, rfl, _, rfl, y, dk, z, fi, rfl, hz.same ((s1.trans s2).trans s3), hf, fun H4 sv s4 hs => ⟨_, rfl, _, rfl, s4 _ _ hp3, wkv sv D1 D2 0, rfl, by show 4 ≤ 15; decide, ?_⟩⟩
    rw [show mergeK [] (wkv sv D1 D2 0) = wkv sv D1 D2 0 from rfl]
    have s14 := (s1.trans s2).trans (s3.trans s4)
    have tk := TK.put (o := .dK (wkv sv D1 D2 0)) (s4 _ _ hp3) (by intro xs e; cases e) (by intro q u e; cases e)
    have sF : Same H (upd H4 p (.dK (wkv sv D1 D2 0))) := Hb.Same.acc s14 npH
    refine k _ p sF ⟨sv, D1, D2, upd_same, by rw [upd_ne p1, List.map_replicate]; exact (s3.trans s4) _ _ h12, by rw [upd_ne p2, List.map_replicate]; exact (s3.trans s4) _ _ h2, hs.keep tk, npH, nD1H, nD2H, d12, fun c e => sF.free e⟩
theorem c_lgo (D : Df K mg "_law_go" s_go) (T : Tx K mg) (c_l_ticked : C8.Cal P w K mg base 1 "_law_ticked" (spLTicked K) []) (c_l_hummed : C8.Cal P w K mg base 1 "_law_hummed" (spLHummed K) []) (c_ways : C8.Cal P w K mg base 1 "_law_ways" (spLWays K) []) (c_noises : C8.Cal P w K mg base 2 "_law_noises" (spLNoises K) [])
    (c_door_noise : C8.Cal P w K mg base 1 "_law_door_noise" (spLDoorN K) []) (c_l_floor_noise : C8.Cal P w K mg base 1 "_law_floor_noise" (spLFloorN K) []) : C8.Cal P w K mg base 3 "_law_go" (spLGo K) [] := by
  refine cal_mk D sc_go bd_go (fun vs H Q E h => ?_) fun f cdv A outer s H vs Q E hr h => ?_
  · obtain ⟨bb, o, y, dk, wp, ep, h, z, W, H0, ev, rfl, _⟩ := h
    rfl
  · obtain ⟨bb, o, y, dk, wp, ep, h, z, W, H0, ev, rfl, ho, hz, zi, ⟨v, ra, ta, wo⟩, he, eok, few, df, ff, fnd, dne, k⟩ := h
    have hu := hu_of hr
    have line := sizeLine_eq
    refine ⟨_, (pss_cons (ps_if (pt_cmpR op_eq (pe_ix ix_tup (pv 3) pe_int (fun _ _ => rfl)) pe_str (by first | exact nomark _ | rfl))
 (pss_cons (ps_asg (pe_tup (pa_cons (C8.pe_c c_l_ticked hr (by decide) rfl (pa_cons (pv 1) (pa_cons (pe_dget hu (pv 2) pe_str (fun _ _ => rfl)) pa_nil))) (pa_cons (pe_op op_add (pe_dget hu (pv 2) pe_str (fun _ _ => rfl)) pe_int) pa_nil))) (pg_tup (by rfl) (pgs_cons (pg_sub (pv 2) pe_str (Hb.set_dK hu)) (pgs_cons (pg_sub (pv 2) pe_str (Hb.set_dK hu)) pgs_nil))))
 (pss_cons (ps_dput hu (pv 2) pe_str (pe_lc (own := [("_law_room", 4)]) (by rfl) sc_go.nd (pi_list (pe_dget hu (pv 2) pe_str (fun _ _ => rfl))) (blkOk_by (N := N_go) (sc := defScope s_go) (by decide +kernel)) (fun _ _ _ _ _ => (pg_name (i := 4) sc_go.nd rfl (Or.inl rfl))) (fun _ _ _ _ _ => pts_nil) (fun _ _ _ _ _ => pe_bl)) rfl)
 (pss_one (ps_ret pe_bl))))
 pss_nil)
 (pss_cons (ps_set (i := 4) sc_go.nd rfl (Or.inl rfl) (pe_ix ix_list (pe_dget hu (pv 2) pe_str (fun _ _ => rfl)) (pe_ix ix_tup (pv 3) pe_int (fun _ _ => rfl)) (fun _ _ => rfl)))
 (pss_cons (ps_if (pt_cmpR op_eq (pe_ix ix_tup (pv 3) pe_int (fun _ _ => rfl)) pe_str (by first | exact nomark _ | rfl))
 (pss_cons (ps_dput hu (pv 2) pe_str (C8.pe_c c_l_hummed hr (by decide) rfl (pa_cons (pv 1) (pa_cons (pe_dget hu (pv 2) pe_str (fun _ _ => rfl)) (pa_cons (pe_ix ix_tup (pv 3) pe_int (fun _ _ => rfl)) pa_nil)))) rfl)
 (pss_one (ps_ret (pe_cmpR op_in_seq (pv 4) (pe_ix ix_tup (pv 0) pe_int (fun _ _ => rfl)) (by first | exact nomark _ | rfl)))))
 pss_nil)
 (pss_cons (ps_setLc (i := 5) (own := [("_law_door", 6), ("_law_other", 7)]) (g := (gTup K 2 (gCons (gName 6) (gCons (gName 7) gNil)))) (by rfl) sc_go.nd rfl rfl (sw_true rfl rfl rfl (by decide +kernel)) (pi_list (C8.pe_c c_ways hr (by decide) rfl (pa_cons (pv 0) (pa_cons (pv 4) pa_nil)))) (blkOk_by (N := N_go) (sc := defScope s_go) (by decide +kernel)) (fun _ _ _ _ _ => (pg_tup (by rfl) (pgs_cons (pg_name (i := 6) sc_go.nd rfl (Or.inl rfl)) (pgs_cons (pg_name (i := 7) sc_go.nd rfl (Or.inl rfl)) pgs_nil)))) (fun _ _ _ _ _ => (pts_one (pt_cmpR op_eq (pv 6) (pe_ix (show IxR _ (rIxT K) from ix_tup) (pv 3) pe_int (fun _ _ => rfl)) (by first | exact nomark _ | rfl)))) (fun _ _ _ _ _ => (pv 7)))
 (pss_cons (ps_if (PW.pt (pw_or (pt_cmpR (op_eqD hr.units) (pv 5) (pe_lst pa_nil) (by first | exact nomark _ | rfl)) (pw_or1 (pt_val (pe_ix ix_list (pe_dget hu (pv 2) pe_str (fun _ _ => rfl)) (pe_ix ix_tup (pv 3) pe_int (fun _ _ => rfl)) (fun _ _ => rfl))))))
 (pss_one (ps_ret pe_bl))
 pss_nil)
 (pss_cons (ps_set (i := 8) sc_go.nd rfl (Or.inl rfl) (pe_op op_cat (C8.pe_c c_door_noise hr (by decide) rfl (pa_cons (pv 0) (pa_cons (pe_ix ix_tup (pv 3) pe_int (fun _ _ => rfl)) pa_nil))) (C8.pe_c c_l_floor_noise hr (by decide) rfl (pa_cons (pv 0) (pa_cons (pe_ix ix_list (pv 5) pe_int (fun _ _ => rfl)) pa_nil)))))
 (pss_cons (ps_dput hu (pv 2) pe_str (C8.pe_c c_noises hr (by decide) rfl (pa_cons (pv 1) (pa_cons (pe_dget hu (pv 2) pe_str (fun _ _ => rfl)) (pa_cons (pv 8) pa_nil)))) rfl)
 (pss_cons (ps_asg (pe_tup (pa_cons (pe_ix ix_list (pv 5) pe_int (fun _ _ => rfl)) (pa_cons pe_bl pa_nil))) (pg_tup (by rfl) (pgs_cons (pg_sub (pe_dget hu (pv 2) pe_str (fun _ _ => rfl)) (pe_ix ix_tup (pv 3) pe_int (fun _ _ => rfl)) set_list) (pgs_cons (pg_sub (pe_dget hu (pv 2) pe_str (fun _ _ => rfl)) (pe_ix ix_tup (pv 3) pe_int (fun _ _ => rfl)) set_list) pgs_nil))))
 (pss_one (ps_ret pe_bl)))))))))), ?_⟩
    obtain ⟨n1, n2⟩ := wo.ne
    cases ev with
    | tick =>
      refine ⟨_, rfl, ep, _, 0, _, rfl, rfl, he, rfl, rfl, _, rfl, iteT ?_⟩
      refine ⟨_, rfl, _, rfl, wp, v, rfl, .inl ⟨wkv v ra ta W.t, Sum.inr "state", .inl wo.hw, rfl, rfl⟩, y, dk, v, z, W.s, rfl, hz, wo.st, fun H1 v' s1 hv' => ⟨_, rfl, wp, .int W.t, rfl, .inl ⟨wkv v ra ta W.t, Sum.inr "ticks", .inl (s1 _ _ wo.hw), rfl, rfl⟩, _, _, rfl, rfl, by show 2 ≤ sizeLine; omega, fun tp ntp => ?_⟩⟩
      have s2 : Same H1 (upd H1 tp (.tup [v', .int (W.t + 1)])) := Same.new ntp
      have htp : SqT K (upd H1 tp (.tup [v', .int (W.t + 1)])) tp [v', .int (W.t + 1)] := SqT.of upd_same
      have wo2 := wo.same (s1.trans s2)
      have hv2 := hv'.keep (Same.tk s2)
      have s12 := s1.trans s2
      generalize upd H1 tp (.tup [v', .int (W.t + 1)]) = H2 at s12 htp wo2 hv2 ⊢
      clear s2 hv' s1 ntp H1
      refine ⟨tp, _, rfl, htp, rfl, _, _, rfl, _, rfl, wp, _, rfl, DPut.k (k := Sum.inr "state") wo2.hw (by show 4 < sizeLine; omega), ?_⟩
      rw [put_state]
      refine ⟨_, _, rfl, _, rfl, wp, _, rfl, DPut.k (k := Sum.inr "ticks") upd_same (by show 4 < sizeLine; omega), ?_⟩
      rw [put_ticks]
      have tk3 : TK H2 (upd (upd H2 wp (.dK (wkv v' ra ta W.t))) wp (.dK (wkv v' ra ta (W.t + 1)))) := by
        rw [show upd (upd H2 wp (.dK (wkv v' ra ta W.t))) wp (.dK (wkv v' ra ta (W.t + 1))) = upd H2 wp (.dK (wkv v' ra ta (W.t + 1))) from upd_upd]
        exact TK.put wo2.hw (by intro xs e; cases e) (by intro q u e; cases e)
      have tk03 := TK.tr (Same.tk s12) tk3
      have f3 : Fr H0 H (upd (upd H2 wp (.dK (wkv v' ra ta W.t))) wp (.dK (wkv v' ra ta (W.t + 1)))) := ((Fr.same s12).put wo.nw).put wo.nw
      have w3 : WoAt K H0 (upd (upd H2 wp (.dK (wkv v' ra ta W.t))) wp (.dK (wkv v' ra ta (W.t + 1)))) wp ⟨tick z W.s, W.rs, W.ts, W.t + 1⟩ v' ra ta :=
        ⟨upd_same, by rw [upd_ne n1.symm, upd_ne n1.symm]; exact wo2.hr, by rw [upd_ne n2.symm, upd_ne n2.symm]; exact wo2.ht, hv2.keep tk3, wo.nw, wo.nr, wo.nt, wo.rt, fun c e => by
          by_cases q : c = wp
          · rw [q]; exact wo.nw
          · rw [upd_ne q, upd_ne q] at e; exact wo2.dm c e⟩
      refine ⟨rfl, ?_⟩
      generalize upd (upd H2 wp (.dK (wkv v' ra ta W.t))) wp (.dK (wkv v' ra ta (W.t + 1))) = H3 at f3 w3 tk03 ⊢
      have rl : (W.rs.map V.int).length = W.rs.length := List.length_map _
      refine ⟨_, rfl, wp, .ref ra, rfl, .inl ⟨wkv v' ra ta (W.t + 1), Sum.inr "rooms", .inl w3.hw, rfl, rfl⟩, ra, rfl, ⟨_, SqL.of w3.hr⟩, fun D nD => lc_list (K := K) (a := ra) (xs := W.rs.map V.int) (fun i H' => Same H3 H' ∧ H' D = some (.lst (List.replicate i (.bl false)))) ⟨Same.new nD, upd_same⟩ (fun i H' _ e => SqL.of (e.1 _ _ w3.hr)) ?_ ?_⟩
      · rintro i x H4 hx ⟨s4, hD⟩
        have il := (List.getElem?_eq_some_iff.mp hx).1
        exact ⟨rfl, yes_ ⟨_, hD, by rw [List.length_replicate]; omega, Hb.Same.acc s4 nD, by rw [upd_same, List.replicate_succ']⟩⟩
      · rintro H4 ⟨s4, hD⟩
        have w4 := w3.same s4
        have nD0 := w3.dm D nD
        refine ⟨_, rfl, wp, _, rfl, DPut.k (k := Sum.inr "tired") w4.hw (by show 4 < sizeLine; omega), ?_⟩
        rw [put_tired]
        have Dw : D ≠ wp := (ne_of_none w3.hw nD).symm
        have tk5 : TK H4 (upd H4 wp (.dK (wkv v' ra D (W.t + 1)))) := TK.put w4.hw (by intro xs e; cases e) (by intro q u e; cases e)
        refine k _ ((f3.trans (Fr.same s4)).put wo.nw) (TK.tr (TK.tr tk03 (Same.tk s4)) tk5) ⟨v', ra, D, upd_same, by rw [upd_ne n1.symm]; exact w4.hr, ?_, w4.st.keep tk5, wo.nw, wo.nr, nD0, ne_of_none w3.hr nD, fun c e => ?_⟩
        · rw [upd_ne Dw, hD, rl]
          show some (HO.lst (List.replicate W.rs.length (.bl false))) = some (.lst ((W.rs.map fun _ => false).map V.bl))
          rw [List.map_map, show (V.bl ∘ fun _ : Int => false) = fun _ => V.bl false from rfl, List.map_const']
        · by_cases q : c = wp
          · rw [q]; exact wo.nw
          · rw [upd_ne q] at e; exact w4.dm c e
    | step p st =>
      obtain ⟨tf, r, hr1, ms⟩ := eok
      have pl := (List.getElem?_eq_some_iff.mp hr1).1
      have pl2 := (List.getElem?_eq_some_iff.mp tf).1
      have atr : atI (W.rs.map V.int) ((p : Nat) : Int) = some (.int r) := atI_nat (by rw [List.getElem?_map, hr1]; rfl)
      have att : atI (W.ts.map V.bl) ((p : Nat) : Int) = some (.bl false) := atI_nat (by rw [List.getElem?_map, tf]; rfl)
      refine ⟨_, rfl, ep, _, 0, _, rfl, rfl, he, rfl, rfl, _, rfl, iteF ?_⟩
      refine ⟨_, rfl, wp, .ref ra, rfl, .inl ⟨wkv v ra ta W.t, Sum.inr "rooms", .inl wo.hw, rfl, rfl⟩, _, rfl, ep, _, 1, _, rfl, rfl, he, rfl, ra, _, (p : Nat), .int r, rfl, rfl, SqL.of wo.hr, atr, ?_⟩
      refine ⟨_, rfl, ep, _, 0, _, rfl, rfl, he, rfl, rfl, _, rfl, iteF ?_⟩
      refine ⟨_, rfl, _, rfl, bb, o, h, r, rfl, ho, df, dne, fun H1 wq ws s1 nwq hwq tws => ?_⟩
      have he1 := SqT.keep (Same.tk s1) he
      have wl := ways_len h r
      have wl2 : ws.length = (waysR h r).length := by rw [tws.length, List.length_map]
      refine ⟨wq, rfl, ⟨_, SqL.of hwq⟩, fun D nD => lc_list (K := K) (a := wq) (xs := ws) (fun i H' => Same H1 H' ∧ ∃ zs : List Int, H' D = some (.lst (zs.map V.int)) ∧ (∀ x ∈ zs, x = st.ri) ∧ (st ∈ (waysR h r).take i → zs ≠ []) ∧ zs.length ≤ i) ⟨Same.new nD, [], upd_same, by simp, by simp, Nat.le_refl _⟩ (fun i H' _ e => SqL.of (e.1 _ _ hwq)) ?_ ?_⟩
      · rintro i x H2 hx ⟨s2, zs, hD, al, ne, zl⟩
        obtain ⟨st', hst, tdn⟩ := TDs.at_map tws hx
        obtain ⟨t, rfl, ht⟩ := TD.nr_inv tdn
        have il := (List.getElem?_eq_some_iff.mp hx).1
        have nx : (waysR h r).take (i + 1) = (waysR h r).take i ++ [st'] := by rw [List.take_add_one, hst]; rfl
        refine ⟨t, _, rfl, SqT.keep (Same.tk s2) ht, rfl, _, _, rfl, _, _, rfl, rfl, rfl, _, rfl, _, rfl, ep, _, 2, _, rfl, rfl, SqT.keep (Same.tk s2) he1, rfl, rfl, _, rfl, ?_⟩
        by_cases c : st'.n = st.n
        · rw [decide_eq_true (show V.int st'.n = V.int st.n by rw [c])]
          have e := ways_uniq dne (List.mem_of_getElem? hst) ms c
          refine iteT ⟨_, rfl, _, hD, by rw [List.length_map]; omega, Hb.Same.acc s2 nD, zs ++ [st'.ri], by rw [upd_same, List.map_append]; rfl, fun x hx => ?_, fun _ => by simp, by rw [List.length_append]; show _ + 1 ≤ _; omega⟩
          rcases List.mem_append.mp hx with hx | hx
          · exact al x hx
          · rw [List.mem_singleton.mp hx, e]
        · rw [decide_eq_false (show ¬ V.int st'.n = V.int st.n from fun q => c (by injection q))]
          refine iteF ⟨s2, zs, hD, al, fun m => ne ?_, by omega⟩
          rw [nx] at m
          rcases List.mem_append.mp m with m | m
          · exact m
          · exact absurd (by rw [List.mem_singleton.mp m]) c
      · rintro H2 ⟨s2, zs, hD, al, ne, zl⟩
        rw [wl2, List.take_length] at ne
        have zne := ne ms
        have s02 := s1.trans s2
        have wo2 := wo.same s02
        have he2 := SqT.keep (Same.tk s02) he
        obtain ⟨x0, zs', rfl⟩ : ∃ x0 zs', zs = x0 :: zs' := List.exists_cons_of_ne_nil zne
        obtain rfl := al x0 List.mem_cons_self
        refine ⟨_, rfl, Nat.zero_le _, fun q0 nq0 => ?_⟩
        have s3 : Same H2 (upd H2 q0 (.lst [])) := Same.new nq0
        refine ⟨.list ((st.ri :: zs').map PyData.int), .list [], .lst (SqL.of (s3 _ _ hD)) (TDs.dp (tds_ints _)), .lst (SqL.of upd_same) .nil, shaped_list (fun d hd => by obtain ⟨x, _, rfl⟩ := List.mem_map.mp hd; exact ⟨by simp [PyData.canLay0], by simp [PyData.depth]⟩), shaped_list (fun d h => by cases h), _, rfl, ?_⟩
        have e0 : PyData.eqv (.list ((st.ri :: zs').map PyData.int)) (.list []) = false := by simp [PyData.eqv, PyData.eqvAll]
        rw [e0]
        have s03 := s02.trans s3
        have hD3 := s3 _ _ hD
        generalize upd H2 q0 (.lst []) = H3 at s03 hD3 ⊢
        clear nq0 hD wo2 he2 hwq tws he1 nwq
        have wo3 := wo.same s03
        have he3 := SqT.keep (Same.tk s03) he
        refine iteF ⟨_, rfl, wp, .ref ta, rfl, .inl ⟨wkv v ra ta W.t, Sum.inr "tired", .inl wo3.hw, rfl, rfl⟩, _, rfl, ep, _, 1, _, rfl, rfl, he3, rfl, ta, _, (p : Nat), .bl false, rfl, rfl, SqL.of wo3.ht, att, _, rfl, iteF ?_⟩
        obtain ⟨ms1, le⟩ := mem_waysR.mp ms
        obtain ⟨di, d, hd, hn, alt⟩ := mem_steps2 ms1
        have nsE : st.ns = d.2.2.toList ++ (h.floors.filter fun p => decide (p.1 = st.ri)).map Prod.snd := by
          rw [← nz_told fnd d st.ri]
          rcases alt with ⟨a1, a2, a3⟩ | ⟨a1, a2, a3⟩
          · rw [a3, a1]
          · rw [a3, a1]
        obtain ⟨p', q', c', xs', ys', hx⟩ := ho
        refine ⟨_, rfl, _, rfl, ep, _, 2, _, rfl, rfl, he3, rfl, bb, o, h, st.n, d, rfl, ⟨_, _, _, _, _, hx.same s03⟩, by omega, by rw [hn]; exact hd, fun H5 q1 s5 nq1 hq1 => ?_⟩
        have at0 : atI ((st.ri :: zs').map V.int) (0 : Int) = some (.int st.ri) := atI_nat (xs := (st.ri :: zs').map V.int) (j := 0) rfl
        refine ⟨_, rfl, _, rfl, D, _, 0, .int st.ri, rfl, rfl, SqL.of (s5 _ _ hD3), at0, bb, o, h, st.ri, rfl, ⟨_, _, _, _, _, hx.same (s03.trans s5)⟩, ff, fun H6 q2 s6 nq2 hq2 => ?_⟩
        refine ⟨q1, q2, _, _, rfl, rfl, s6 _ _ hq1, hq2, ?_, fun l nl => ?_⟩
        · have a1 : d.2.2.toList.length ≤ 1 := by cases d.2.2 <;> simp
          have a2 := List.length_filter_le (fun p : Fl => decide (p.1 = st.ri)) h.floors
          rw [List.length_map, List.length_map, List.length_map]
          omega
        have hl : upd H6 l (.lst (d.2.2.toList.map V.str ++ ((h.floors.filter fun p => decide (p.1 = st.ri)).map Prod.snd).map V.str)) l = some (.lst (st.ns.map V.str)) := by rw [upd_same, nsE, List.map_append]
        have s37 : Same H3 (upd H6 l (.lst (d.2.2.toList.map V.str ++ ((h.floors.filter fun p => decide (p.1 = st.ri)).map Prod.snd).map V.str))) := (s5.trans s6).trans (Same.new nl)
        generalize upd H6 l (.lst (d.2.2.toList.map V.str ++ ((h.floors.filter fun p => decide (p.1 = st.ri)).map Prod.snd).map V.str)) = H7 at hl s37 ⊢
        have s07 := s03.trans s37
        have wo7 := wo.same s07
        refine ⟨_, rfl, _, rfl, wp, v, rfl, .inl ⟨wkv v ra ta W.t, Sum.inr "state", .inl wo7.hw, rfl, rfl⟩, _, rfl, y, dk, l, v, z, W.s, st.ns, rfl, hz.same s07, zi, wo7.st, hl, fun H8 v' s8 hv' => ?_⟩
        have wo8 := wo7.same s8
        have s08 := s07.trans s8
        refine ⟨_, rfl, wp, _, rfl, DPut.k (k := Sum.inr "state") wo8.hw (by show 4 < sizeLine; omega), ?_⟩
        rw [put_state]
        have tk9 : TK H8 (upd H8 wp (.dK (wkv v' ra ta W.t))) := TK.put wo8.hw (by intro xs e; cases e) (by intro q u e; cases e)
        have w9 : WoAt K H0 (upd H8 wp (.dK (wkv v' ra ta W.t))) wp ⟨rowS z W.s st.ns, W.rs, W.ts, W.t⟩ v' ra ta :=
          ⟨upd_same, by rw [upd_ne n1.symm]; exact wo8.hr, by rw [upd_ne n2.symm]; exact wo8.ht, hv'.keep tk9, wo.nw, wo.nr, wo.nt, wo.rt, fun c e => by
            by_cases q : c = wp
            · rw [q]; exact wo.nw
            · rw [upd_ne q] at e; exact wo8.dm c e⟩
        have f9 : Fr H0 H (upd H8 wp (.dK (wkv v' ra ta W.t))) := (Fr.same s08).put wo.nw
        have Dwp : D ≠ wp := ne_of hD3 wo3.hw (by intro z; cases z)
        have hD9 : upd H8 wp (.dK (wkv v' ra ta W.t)) D = some (.lst ((st.ri :: zs').map V.int)) := by rw [upd_ne Dwp]; exact (s37.trans s8) _ _ hD3
        have he9 := SqT.keep tk9 (SqT.keep (Same.tk s08) he)
        have tk09 := TK.tr (Same.tk s08) tk9
        generalize upd H8 wp (.dK (wkv v' ra ta W.t)) = H9 at w9 f9 hD9 he9 tk09 ⊢
        clear tk9 hv' wo8 s08 hl wo7 s07 s37 he3 wo3 s03
        refine ⟨_, rfl, D, _, 0, .int st.ri, rfl, rfl, SqL.of hD9, at0, by show 2 ≤ sizeLine; omega, fun tp ntp => ?_⟩
        have sA : Same H9 (upd H9 tp (.tup [.int st.ri, .bl true])) := Same.new ntp
        have htp : SqT K (upd H9 tp (.tup [.int st.ri, .bl true])) tp [.int st.ri, .bl true] := SqT.of upd_same
        have wA := w9.same sA
        have heA := SqT.keep (Same.tk sA) he9
        have fA := f9.trans (Fr.same sA)
        have tk0A := TK.tr tk09 (Same.tk sA)
        generalize upd H9 tp (.tup [.int st.ri, .bl true]) = HA at htp wA heA fA tk0A ⊢
        have sx : ixN (W.rs.map V.int).length ((p : Nat) : Int) = some p := by
          unfold ixN
          rw [if_pos (by omega), if_pos (by rw [List.length_map]; omega), Int.toNat_natCast]
        have sy : ixN (W.ts.map V.bl).length ((p : Nat) : Int) = some p := by
          unfold ixN
          rw [if_pos (by omega), if_pos (by rw [List.length_map]; omega), Int.toNat_natCast]
        refine ⟨tp, _, rfl, htp, rfl, _, _, rfl, _, rfl, wp, .ref ra, rfl, .inl ⟨wkv v' ra ta W.t, Sum.inr "rooms", .inl wA.hw, rfl, rfl⟩, _, rfl, ep, _, 1, _, rfl, rfl, heA, rfl, ra, _, (p : Nat), p, rfl, rfl, wA.hr, sx, ?_⟩
        have tkB : TK HA (upd HA ra (.lst ((W.rs.map V.int).set p (.int st.ri)))) := tk_acc wA.hr
        have hwB : upd HA ra (.lst ((W.rs.map V.int).set p (.int st.ri))) wp = some (.dK (wkv v' ra ta W.t)) := by rw [upd_ne n1]; exact wA.hw
        have htB : upd HA ra (.lst ((W.rs.map V.int).set p (.int st.ri))) ta = some (.lst (W.ts.map V.bl)) := by rw [upd_ne wA.rt.symm]; exact wA.ht
        refine ⟨_, _, rfl, _, rfl, wp, .ref ta, rfl, .inl ⟨wkv v' ra ta W.t, Sum.inr "tired", .inl hwB, rfl, rfl⟩, _, rfl, ep, _, 1, _, rfl, rfl, SqT.keep tkB heA, rfl, ta, _, (p : Nat), p, rfl, rfl, htB, sy, rfl, ?_⟩
        have tkC : TK (upd HA ra (.lst ((W.rs.map V.int).set p (.int st.ri)))) (upd (upd HA ra (.lst ((W.rs.map V.int).set p (.int st.ri)))) ta (.lst ((W.ts.map V.bl).set p (.bl true)))) := tk_acc htB
        refine k _ ((fA.put wo.nr).put wo.nt) (TK.tr (TK.tr tk0A tkB) tkC) ⟨v', ra, ta, ?_, ?_, ?_, (wA.st.keep tkB).keep tkC, wo.nw, wo.nr, wo.nt, wo.rt, fun c e => ?_⟩
        · rw [upd_ne n2]; exact hwB
        · rw [upd_ne wo.rt, upd_same]
          show some (HO.lst _) = some (.lst ((W.rs.set p st.ri).map V.int))
          rw [List.map_set]
        · rw [upd_same]
          show some (HO.lst _) = some (.lst ((W.ts.set p true).map V.bl))
          rw [List.map_set]
        · by_cases q : c = ta
          · rw [q]; exact wo.nt
          · rw [upd_ne q] at e
            by_cases q2 : c = ra
            · rw [q2]; exact wo.nr
            · rw [upd_ne q2] at e; exact wA.dm c e
end
end Lw
set_option Elab.async false
set_option linter.all false
set_option maxRecDepth 100000
set_option maxHeartbeats 8000000
namespace Lw
open PySem PySem.Spec PyProof.Rows L2 Hb
/-! ### a table told -/
def spWithout (K : PySem.W.Frag) : Sp := fun vs H Q _ => ∃ (q : Addr) (xs : List V) (gs : List Sg) (r : Int), vs = [.ref q, .int r] ∧ SqT K H q xs ∧ TDs K H xs (gs.map encG) ∧ gs.length ≤ 1000000 ∧ ∀ H', Same H H' → Q (.bl (decide (∀ g ∈ gs, r ∉ g.no))) H'
/-- a table: the standings found -/
structure TbAt (K : PySem.W.Frag) (H : Hp) (q : Addr) (gs : List Sg) : Prop where
  t : ∃ bs : List Addr, SqT K H q (bs.map V.ref) ∧ TDs K H (bs.map V.ref) (gs.map encG)
theorem TbAt.same {K : PySem.W.Frag} {H H' : Hp} {q : Addr} {gs : List Sg} (x : TbAt K H q gs) (s : Same H H') : TbAt K H' q gs := by
  obtain ⟨bs, a, b⟩ := x.t
  exact ⟨bs, SqT.keep (Same.tk s) a, TDs.keep (Same.tk s) b⟩
def spTable (K : PySem.W.Frag) : Sp := fun vs H Q _ => ∃ (hm zm : Addr) (h : Hz) (z : Zz) (f : Str) (U : List Sg) (n : Nat) (r : Int), vs = [.ref hm, .ref zm, .str f, .int r] ∧ HAt K (He.ga K "House") H hm h ∧ SlpAt K (He.ga K "Sleeper") H zm z ∧ h.doors.length ≤ 1000 ∧ Unr h z U f n ∧
  (∀ H' q gs, Same H H' → LeastT h z f r none → TbAt K H' q gs → gs.Nodup → (∀ g, g ∈ gs ↔ Rch h z f g) → gs.length ≤ 1000000 → Q (.ref q) H') ∧ ∀ H' t, Same H H' → LeastT h z f r (some t) → Q .non H'
theorem tds_at {K : PySem.W.Frag} {H : Hp} : ∀ {vs : List V} {ds : List PyData}, vs.length = ds.length → (∀ (i : Nat) (v : V) (d : PyData), vs[i]? = some v → ds[i]? = some d → TD K H v d) → TDs K H vs ds
  | [], [], _, _ => .nil
  | [], _ :: _, e, _ => by cases e
  | _ :: _, [], e, _ => by cases e
  | v :: vs, d :: ds, e, h => .cons (h 0 v d rfl rfl) (tds_at (Nat.succ.inj e) fun i w c a b => h (i + 1) w c a b)
theorem first_has {r : Int} : ∀ {fd : List En}, ¬ (∀ e ∈ fd, r ∉ e.g.no) → ∃ (i : Nat) (e : En), fd[i]? = some e ∧ r ∈ e.g.no ∧ ∀ e' ∈ fd.take i, r ∉ e'.g.no
  | [], h => absurd (fun e he => nomatch he) h
  | e :: fd, h => by
    by_cases c : r ∈ e.g.no
    · exact ⟨0, e, rfl, c, fun e' he => nomatch he⟩
    · obtain ⟨i, e', a, b, d⟩ := first_has (fd := fd) (fun q => h fun x hx => by
        rcases List.mem_cons.mp hx with rfl | hx
        · exact c
        · exact q x hx)
      refine ⟨i + 1, e', a, b, fun x hx => ?_⟩
      rw [List.take_succ_cons] at hx
      rcases List.mem_cons.mp hx with rfl | hx
      · exact c
      · exact d x hx
section
variable {P : Program} {w : World} {K : PySem.W.Frag} {mg : Str → Option Value} {base : Heap}
theorem c_is_without (D : Df K mg "is_without" s_is_without) (T : Tx K mg) : C8.Cal P w K mg base 1 "is_without" (spWithout K) [] := by
  refine cal_mk D sc_is_without bd_is_without (fun vs H Q E h => ?_) fun f cdv A outer s H vs Q E hr h => ?_
  · obtain ⟨q, xs, gs, r, rfl, _⟩ := h
    rfl
  · obtain ⟨q, xs, gs, r, rfl, hq, tds, few, k⟩ := h
    have line := sizeLine_eq
    refine ⟨_, (pss_one (ps_ret (pe_not (pe_callB (cr_any rfl) (by rfl) T.n_any (by decide +kernel) (pa_cons (pe_lc (own := [("state", 2), ("begun", 3), ("now", 4)]) (g := (gTup K 3 (gCons (gName 2) (gCons (gName 3) (gCons (gName 4) gNil))))) (by rfl) sc_is_without.nd (pi_tup (pv 0)) (blkOk_by (N := N_is_without) (sc := defScope s_is_without) (by decide +kernel)) (fun _ _ _ _ _ => (pg_tup (by rfl) (pgs_cons (pg_name (i := 2) sc_is_without.nd rfl (Or.inl rfl)) (pgs_cons (pg_name (i := 3) sc_is_without.nd rfl (Or.inl rfl)) (pgs_cons (pg_name (i := 4) sc_is_without.nd rfl (Or.inl rfl)) pgs_nil))))) (fun _ _ _ _ _ => pts_nil) (fun _ _ _ _ _ => (pe_cmpR (show OpR _ _ (rIn K false) from op_in_seq) (pv 1) (pv 4) (by first | exact nomark _ | rfl)))) pa_nil))))), ?_⟩
    have xl : xs.length = gs.length := by rw [tds.length, List.length_map]
    refine ⟨_, rfl, q, rfl, ⟨_, hq⟩, fun D nD => lc_tup (K := K) (a := q) (xs := xs) (fun i H' => Same H H' ∧ H' D = some (.lst ((gs.take i).map fun g => V.bl (decide (r ∈ g.no))))) ⟨Same.new nD, upd_same⟩ (fun i H' _ e => SqT.keep (Same.tk e.1) hq) ?_ ?_⟩
    · rintro i v H1 hv ⟨s1, hD⟩
      obtain ⟨g, hg, tdg⟩ := TDs.at_map (TDs.keep (Same.tk s1) tds) hv
      obtain ⟨ga, sv, be, nn, eg, h1, h2, h3, h4⟩ := TD.sg_inv tdg
      subst eg
      have il := (List.getElem?_eq_some_iff.mp hg).1
      refine ⟨ga, _, rfl, h1, rfl, _, _, rfl, _, _, rfl, _, _, rfl, rfl, rfl, yes_ ⟨_, rfl, _, rfl, nn, _, rfl, .inr h4, rfl, flat_ints _, ?_⟩⟩
      rw [if_neg Bool.false_ne_true, inV_ints]
      refine ⟨_, hD, by rw [List.length_map, List.length_take]; omega, Hb.Same.acc s1 nD, ?_⟩
      rw [upd_same, List.take_add_one, hg, List.map_append]
      rfl
    · rintro H1 ⟨s1, hD⟩
      rw [xl, List.take_length] at hD
      refine ⟨D, gs.map fun g => decide (r ∈ g.no), rfl, SqL.of (by rw [hD, List.map_map]; rfl), _, rfl, ?_⟩
      have e : (!(gs.map fun g => decide (r ∈ g.no)).any id) = decide (∀ g ∈ gs, r ∉ g.no) := by
        by_cases c : ∀ g ∈ gs, r ∉ g.no
        · rw [decide_eq_true c, Bool.not_eq_true', List.any_eq_false]
          intro b hb
          obtain ⟨g, hg, rfl⟩ := List.mem_map.mp hb
          simpa using c g hg
        · rw [decide_eq_false c, Bool.not_eq_false', List.any_eq_true]
          refine Classical.byContradiction fun q => c fun g hg m => q ⟨_, List.mem_map_of_mem hg, ?_⟩
          simpa using m
      rw [e]
      exact k H1 s1
theorem c_table (D : Df K mg "table" s_table) (T : Tx K mg) (m_Search : C8.Mak P w K mg base 7 "Search" (He.ga K "Search") (spSrInit P w K) []) (c_is_without : C8.Cal P w K mg base 1 "is_without" (spWithout K) []) : C8.Cal P w K mg base 9 "table" (spTable K) [] := by
  refine cal_mk D sc_table bd_table (fun vs H Q E h => ?_) fun f cdv A outer s H vs Q E hr h => ?_
  · obtain ⟨hm, zm, h, z, f, U, n, r, rfl, _⟩ := h
    rfl
  · obtain ⟨hm, zm, h, z, fi, U, n, r, rfl, hh, hz, few, un, k1, k2⟩ := h
    have line := sizeLine_eq
    refine ⟨_, (pss_cons (ps_set (i := 4) sc_table.nd rfl (Or.inl rfl) (C8.pe_mk m_Search hr (by decide) rfl (pa_cons (pv 0) (pa_cons (pv 1) (pa_cons (pv 2) pa_nil)))))
 (pss_cons (ps_set (i := 5) sc_table.nd rfl (Or.inl rfl) (pe_callTy (call_tupleN rfl) (by rfl) T.n_tuple (by decide +kernel) (pa_cons (pe_fld (pv 4) rfl) pa_nil)))
 (pss_one (ps_ret (pe_ifExp (pt_val (C8.pe_c c_is_without hr (by decide) rfl (pa_cons (pv 5) (pa_cons (pv 3) pa_nil)))) (pv 5) pe_non))))), ?_⟩
    refine ⟨_, rfl, _, rfl, _, rfl, fun x dx nx ndx ne => ?_⟩
    have s1 : Same H (upd (upd H dx (.own x)) x (.ins (He.ga K "Search") dx [])) := fun b u e => by
      rw [upd_ne (ne_of_none e nx), upd_ne (ne_of_none e ndx)]
      exact e
    refine ⟨x, dx, hm, zm, h, z, fi, U, rfl, upd_same, hh.same s1, hz.same s1, few, un.u, un.s, fun H2 sl fa xs fd kx y ff ok sc => ⟨rfl, ?_⟩⟩
    have s2 : Same H H2 := fun b u e => kx b u (ne_of_none e nx) (s1 b u e)
    have ft := sch_fdT sc
    obtain ⟨kvs, dn, ek, td⟩ := ff
    have kl : kvs.length = fd.length := by
      have := congrArg List.length ek
      rw [List.length_map, List.length_map] at this
      exact this
    have fu : fd.length ≤ 1000000 := by
      have a : fd.length ≤ U.length := by
        have a := nodup_le ok.nd ok.fu
        rw [List.length_map] at a
        exact a
      have := un.u.few
      omega
    refine ⟨_, rfl, x, _, dx, _, _, rfl, y.o, T.cls_Search, T.q_found, rfl, fa, kvs, rfl, dn, by omega, fun q bs nq bl keys => ?_⟩
    have s3 : Same H2 (upd H2 q (.tup (bs.map V.ref))) := Same.new nq
    have hq : SqT K (upd H2 q (.tup (bs.map V.ref))) q (bs.map V.ref) := SqT.of upd_same
    have td2 : TDs K H2 (bs.map V.ref) ((fd.map En.g).map encG) := by
      refine tds_at (by rw [List.length_map, List.length_map, List.length_map]; omega) fun i v d hv hd => ?_
      rw [List.getElem?_map] at hv
      obtain ⟨b, hb, rfl⟩ := Option.map_eq_some_iff.mp hv
      obtain ⟨p, hp, tp⟩ := keys i b hb
      have := congrArg (fun l => l[i]?) ek
      simp only [List.getElem?_map, hp, Option.map_some] at this
      rw [List.map_map, List.getElem?_map] at hd
      obtain ⟨e, he, rfl⟩ := Option.map_eq_some_iff.mp hd
      rw [he] at this
      simp only [Option.map_some, Option.some.injEq] at this
      rw [this] at tp
      exact tp
    have tb : TbAt K (upd H2 q (.tup (bs.map V.ref))) q (fd.map En.g) := ⟨bs, hq, TDs.keep (Same.tk s3) td2⟩
    refine ⟨_, rfl, _, rfl, q, _, fd.map En.g, r, rfl, hq, TDs.keep (Same.tk s3) td2, by rw [List.length_map]; exact fu, fun H4 s4 => ⟨_, rfl, ?_⟩⟩
    have s24 := (s2.trans s3).trans s4
    by_cases c : ∀ g ∈ fd.map En.g, r ∉ g.no
    · rw [decide_eq_true c]
      exact iteT ⟨_, rfl, k1 H4 q _ s24 (ft.least0 fun e he => c e.g (List.mem_map_of_mem he)) (tb.same s4) ok.nd (sch_iff sc) (by rw [List.length_map]; exact fu)⟩
    · rw [decide_eq_false c]
      obtain ⟨i, e, he, m, pre⟩ : ∃ (i : Nat) (e : En), fd[i]? = some e ∧ r ∈ e.g.no ∧ ∀ e' ∈ fd.take i, r ∉ e'.g.no := first_has fun q => c fun g hg => by
        obtain ⟨e, he, rfl⟩ := List.mem_map.mp hg
        exact q e he
      obtain ⟨t, _, l⟩ := ft.least he m pre
      exact iteF (k2 H4 t s24 l)
end
end Lw
set_option Elab.async false
set_option linter.all false
set_option maxRecDepth 100000
set_option maxHeartbeats 8000000
namespace Lw
open PySem PySem.Spec PyProof.Rows L2 Hb
def isDigit (c : Nat) : Bool := decide (c ∈ ("0123456789" : Str).cps.toList)
/-- whether a word is a number -/
def numB (w : Str) : Bool := decide (1 ≤ w.length ∧ w.length ≤ 2) && (w.cps.toList.all isDigit && (decide (w.length = 1) || !decide (w.cps.toList[0]? = some 48)))
def spNumeral : Sp := fun vs H Q _ => ∃ x : Str, vs = [.str x] ∧ x.length ≤ 1000 ∧ ∀ H', Same H H' → Q (.bl (numB x)) H'
section
variable {P : Program} {w : World} {K : PySem.W.Frag} {mg : Str → Option Value} {base : Heap}
theorem c_is_numeral (D : Df K mg "is_numeral" s_is_numeral) (T : Tx K mg) : C8.Cal P w K mg base 1 "is_numeral" spNumeral [] := by
  refine cal_mk D sc_is_numeral bd_is_numeral (fun vs H Q E h => ?_) fun f cdv A outer s H vs Q E hr h => ?_
  · obtain ⟨i, rfl, _⟩ := h
    rfl
  · obtain ⟨x, rfl, few, k⟩ := h
    obtain ⟨tL, hDIGITS⟩ := T.s_DIGITS
    have line := sizeLine_eq
    refine ⟨_, (pss_cons (ps_if (pt_not (pt_chain op_le op_le pe_int (pe_callB call_len (by rfl) T.n_len (by decide +kernel) (pa_cons (pv 0) pa_nil)) pe_int))
 (pss_one (ps_ret pe_bl))
 pss_nil)
 (pss_cons (ps_if (pt_not (pt_val (pe_callB (cr_all rfl) (by rfl) T.n_all (by decide +kernel) (pa_cons (pe_lc (own := [("digit", 1)]) (by rfl) sc_is_numeral.nd (pi_str (pv 0)) (blkOk_by (N := N_is_numeral) (sc := defScope s_is_numeral) (by decide +kernel)) (fun _ _ _ _ _ => (pg_name (i := 1) sc_is_numeral.nd rfl (Or.inl rfl))) (fun _ _ _ _ _ => pts_nil) (fun _ _ _ _ _ => (pe_cmpR op_in_sign (pv 1) (pe_glob (v := .str "0123456789") rfl hDIGITS ⟨_, rfl⟩) (by first | exact nomark _ | rfl)))) pa_nil))))
 (pss_one (ps_ret pe_bl))
 pss_nil)
 (pss_one (ps_ret (pe_or (pe_cmpR op_eq (pe_callB call_len (by rfl) T.n_len (by decide +kernel) (pa_cons (pv 0) pa_nil)) pe_int (by first | exact nomark _ | rfl)) (pe_one (pe_cmpR op_ne (pe_ix ix_str (pv 0) pe_int (fun _ _ => rfl)) pe_str (by first | exact nomark _ | rfl)))))))), ?_⟩
    refine ⟨_, rfl, .str x, x.length, rfl, ⟨by omega, rfl⟩, _, _, rfl, rfl, _, rfl, ?_⟩
    by_cases h1 : (1 : Int) ≤ (x.length : Nat)
    · rw [decide_eq_true h1]
      refine iteT ⟨_, _, rfl, rfl, _, rfl, ?_⟩
      by_cases h2 : ((x.length : Nat) : Int) ≤ 2
      · rw [decide_eq_true h2]
        refine iteF ⟨_, rfl, x, rfl, fun D nD => lc_it (walk_str (z := x)) (fun i H' => H' = upd H D (.lst (((x.cps.toList.take i).map isDigit).map V.bl))) (by simp) (fun _ _ _ _ => trivial) ?_ ?_⟩
        · rintro i v H' H2 hi rfl ⟨e, c, hc, rfl⟩
          subst e
          refine ⟨rfl, yes_ ⟨_, rfl, c, _, rfl, rfl, _, upd_same, ?_, ?_⟩⟩
          · rw [List.length_map, List.length_map, List.length_take]
            have el : x.cps.toList.length = x.length := by simp [Str.length]
            omega
          · rw [upd_upd]
            have hc2 : x.cps.toList[i]? = some c := by rw [Array.getElem?_toList]; exact hc
            show upd H D _ = upd H D _
            rw [List.take_add_one, hc2]
            simp [isDigit]
        · rintro H' rfl
          have el : x.cps.size = x.cps.toList.length := by simp
          have el2 : x.cps.toList.length = x.length := by simp [Str.length]
          have q : decide (1 ≤ x.length ∧ x.length ≤ 2) = true := decide_eq_true ⟨by omega, by omega⟩
          refine ⟨D, x.cps.toList.map isDigit, rfl, SqL.of (by rw [el, List.take_length]; exact upd_same), _, rfl, ?_⟩
          have sD : Same H (upd H D (.lst (((x.cps.toList.take x.cps.size).map isDigit).map V.bl))) := Same.new nD
          have ea : (x.cps.toList.map isDigit).all id = x.cps.toList.all isDigit := by rw [List.all_map]; rfl
          rw [ea]
          cases hall : x.cps.toList.all isDigit with
          | false =>
            refine iteT ?_
            have k2 := k _ sD
            rw [numB, q, hall] at k2
            exact k2
          | true =>
            refine iteF ⟨_, rfl, .str x, x.length, rfl, ⟨by omega, rfl⟩, rfl, _, rfl, ?_⟩
            by_cases h3 : x.length = 1
            · rw [decide_eq_true (show V.int ((x.length : Nat) : Int) = V.int 1 by rw [h3]; rfl)]
              refine iteT ?_
              have k2 := k _ sD
              rw [numB, q, hall, decide_eq_true h3] at k2
              exact k2
            · rw [decide_eq_false (show ¬ V.int ((x.length : Nat) : Int) = V.int 1 from fun z => h3 (by injection z with z; omega))]
              obtain ⟨c, hc⟩ : ∃ c, x.cps.toList[0]? = some c := ⟨_, List.getElem?_eq_getElem (by omega)⟩
              refine iteF ⟨_, rfl, x, 0, c, rfl, rfl, by omega, ?_, ?_⟩
              · have hlen : (0 : Int) < (x.cps.toList.length : Nat) := by omega
                unfold atI ixN
                rw [if_pos (Int.le_refl 0), if_pos hlen]
                exact hc
              · refine ⟨rfl, ?_⟩
                have k2 := k _ sD
                have e0 : decide (V.str (⟨#[c]⟩ : Str) = V.str "0") = decide (x.cps.toList[0]? = some 48) := by
                  rw [hc]
                  refine decide_eq_decide.mpr ⟨fun z => ?_, fun z => ?_⟩
                  · injection z with z
                    have z2 := congrArg (fun y : Str => y.cps.toList) z
                    have z3 : ([c] : List Nat) = [48] := z2
                    injection z3 with z4
                    rw [z4]
                  · injection z with z
                    rw [z]
                    rfl
                rw [numB, q, hall, decide_eq_false h3, ← e0] at k2
                exact k2
      · rw [decide_eq_false h2]
        refine iteT ?_
        have q : numB x = false := by
          have q : decide (1 ≤ x.length ∧ x.length ≤ 2) = false := decide_eq_false (by omega)
          rw [numB, q, Bool.false_and]
        have k2 := k H (Same.refl H)
        rw [q] at k2
        exact k2
    · rw [decide_eq_false h1]
      refine iteF ⟨_, rfl, iteT ?_⟩
      have q : numB x = false := by
        have q : decide (1 ≤ x.length ∧ x.length ≤ 2) = false := decide_eq_false (by omega)
        rw [numB, q, Bool.false_and]
      have k2 := k H (Same.refl H)
      rw [q] at k2
      exact k2
end
end Lw
set_option Elab.async false
set_option linter.all false
set_option maxRecDepth 100000
set_option maxHeartbeats 8000000
namespace Lw
open PySem PySem.Spec PyProof.Rows L2 Hb
def tI (i : Int) : Str := ((toString i : String) : Str)
def wordB (w : Str) : Bool := decide (32 ∉ TL.tl w) && decide (10 ∉ TL.tl w)
theorem no32 {w : Str} (h : wordB w = true) : 32 ∉ TL.tl w := of_decide_eq_true (Bool.and_eq_true_iff.mp h).1
theorem split_words {ws : List Str} (hne : ws ≠ []) (h : ∀ w ∈ ws, wordB w = true) : Txt.split (Txt.join " " ws) " " = ws := TL.split_join (s := 32) (S := []) rfl (by decide +kernel) hne fun p hp => no32 (h p hp)
theorem num_ints : ∀ i ∈ List.range 64, numB (tI (i : Int)) = true ∧ PySem.intText? (tI (i : Int)) = some (i : Int) ∧ (tI (i : Int)).length ≤ 2 ∧ wordB (tI (i : Int)) = true ∧ (i : Int).natAbs.log2 < 1920 := by decide +kernel
theorem num_tI {i : Int} (h : 0 ≤ i ∧ i < 64) : numB (tI i) = true ∧ PySem.intText? (tI i) = some i ∧ (tI i).length ≤ 2 ∧ wordB (tI i) = true ∧ i.natAbs.log2 < 1920 := by
  obtain ⟨n, rfl⟩ := Int.eq_ofNat_of_zero_le h.1
  exact num_ints n (List.mem_range.mpr (by omega))
theorem v_str_ne {x y : Str} (h : x ≠ y) : decide (V.str x = V.str y) = false := decide_eq_false fun e => h (by injection e)
theorem str_dec (x y : Str) : decide (V.str x = V.str y) = decide (x = y) := decide_eq_decide.mpr ⟨fun e => by injection e, fun e => by rw [e]⟩
/-- an event, told -/
inductive Ev where
  | tick | hum (p : Int) (d : Bool) | step (p n : Int)
def evW : Ev → List Str
  | .tick => ["tick"]
  | .hum p d => ["hum", tI p, if d then "doze" else "up"]
  | .step p n => ["step", tI p, tI n]
def evT (e : Ev) : Str := Txt.join " " (evW e)
def EvOk (k : Int) : Ev → Prop
  | .tick => True
  | .hum p _ => 0 ≤ p ∧ p < k
  | .step p n => (0 ≤ p ∧ p < k) ∧ 0 ≤ n ∧ n < 64
theorem lit_ne : ("hum" : Str) ≠ "step" ∧ ("tick" : Str) ≠ "step" ∧ ("tick" : Str) ≠ "hum" := by decide +kernel
theorem lit_words : wordB "hum" = true ∧ wordB "step" = true ∧ wordB "tick" = true ∧ wordB "doze" = true ∧ wordB "up" = true := by decide +kernel
theorem lit_len : ("hum" : Str).length = 3 ∧ ("step" : Str).length = 4 ∧ ("tick" : Str).length = 4 ∧ ("doze" : Str).length = 4 ∧ ("up" : Str).length = 2 ∧ (" " : Str).length = 1 := by decide +kernel
theorem tick_T : evT .tick = "tick" := by decide +kernel
theorem split_ev {k : Int} {e : Ev} (hk : k ≤ 64) (ok : EvOk k e) : Txt.split (evT e) " " = evW e := by
  obtain ⟨l1, l2, l3, l4, l5⟩ := lit_words
  refine split_words (by cases e <;> simp [evW]) fun w hw => ?_
  cases e with
  | tick =>
    rw [List.mem_singleton.mp hw]
    exact l3
  | hum p d =>
    have np := num_tI ⟨ok.1, Int.lt_of_lt_of_le ok.2 hk⟩
    simp only [evW, List.mem_cons, List.not_mem_nil, or_false] at hw
    rcases hw with rfl | rfl | rfl
    · exact l1
    · exact np.2.2.2.1
    · cases d
      · exact l5
      · exact l4
  | step p n =>
    have np := num_tI ⟨ok.1.1, Int.lt_of_lt_of_le ok.1.2 hk⟩
    have nn := num_tI ok.2
    simp only [evW, List.mem_cons, List.not_mem_nil, or_false] at hw
    rcases hw with rfl | rfl | rfl
    · exact l2
    · exact np.2.2.2.1
    · exact nn.2.2.2.1
theorem str_join_le (sep : Str) : ∀ ts : List Str, (Str.join sep ts).length ≤ (ts.map (·.length)).sum + ts.length * sep.length
  | [] => by simp [Str.join]; rfl
  | [x] => by show x.length ≤ _; simp
  | x :: y :: r => by
    have ih := str_join_le sep (y :: r)
    show (x ++ sep ++ Str.join sep (y :: r)).length ≤ _
    rw [Str.length_append, Str.length_append, List.map_cons, List.sum_cons, List.length_cons, Nat.succ_mul]
    omega
theorem ev_short {k : Int} {e : Ev} (hk : k ≤ 64) (ok : EvOk k e) : (evT e).length ≤ 20 := by
  obtain ⟨l1, l2, l3, l4, l5, l6⟩ := lit_len
  have z := str_join_le " " (evW e)
  rw [← TL.join_eq] at z
  change (evT e).length ≤ _ at z
  cases e with
  | tick =>
    rw [tick_T, l3]
    decide
  | hum p d =>
    have np := (num_tI ⟨ok.1, Int.lt_of_lt_of_le ok.2 hk⟩).2.2.1
    cases d <;> simp [evW, l1, l4, l5, l6] at z <;> omega
  | step p n =>
    have np := (num_tI ⟨ok.1.1, Int.lt_of_lt_of_le ok.1.2 hk⟩).2.2.1
    have nn := (num_tI ok.2).2.2.1
    simp [evW, l2, l6] at z
    omega
def spNumber : Sp := fun vs H Q _ => ∃ i : Int, vs = [.int i] ∧ Q (.bl (decide (0 ≤ i))) H
def spPerson : Sp := fun vs H Q _ => ∃ (k p : Int), vs = [.int k, .str (tI p)] ∧ 0 ≤ p ∧ p < k ∧ k ≤ 64 ∧ ∀ H', Same H H' → Q (.bl true) H'
def spEvent : Sp := fun vs H Q _ => ∃ (k : Int) (e : Ev), vs = [.int k, .str (evT e)] ∧ EvOk k e ∧ k ≤ 64 ∧ ∀ H', Same H H' → Q (.bl true) H'
section
variable {P : Program} {w : World} {K : PySem.W.Frag} {mg : Str → Option Value} {base : Heap}
theorem c_is_number (D : Df K mg "is_number" s_is_number) (T : Tx K mg) (c_is_whole : C8.Cal P w K mg base 1 "is_whole" spWhole []) : C8.Cal P w K mg base 2 "is_number" spNumber [] := by
  refine cal_mk D sc_is_number bd_is_number (fun vs H Q E h => ?_) fun f cdv A outer s H vs Q E hr h => ?_
  · obtain ⟨i, rfl, _⟩ := h
    rfl
  · obtain ⟨i, rfl, k⟩ := h
    refine ⟨_, (pss_one (ps_ret (pe_and (C8.pe_c c_is_whole hr (by decide) rfl (pa_cons (pv 0) pa_nil)) (pe_one (pe_cmpR op_ge (pv 0) pe_int (by first | exact nomark _ | rfl)))))), ?_⟩
    exact ⟨_, rfl, i, rfl, _, rfl, iteT ⟨_, rfl, _, _, rfl, rfl, k⟩⟩
theorem c_is_person (D : Df K mg "is_person" s_is_person) (T : Tx K mg) (c_is_numeral : C8.Cal P w K mg base 1 "is_numeral" spNumeral []) : C8.Cal P w K mg base 2 "is_person" spPerson [] := by
  refine cal_mk D sc_is_person bd_is_person (fun vs H Q E h => ?_) fun f cdv A outer s H vs Q E hr h => ?_
  · obtain ⟨k, p, rfl, _⟩ := h
    rfl
  · obtain ⟨k, p, rfl, p0, pk, k64, c⟩ := h
    obtain ⟨a1, a2, a3, a4, a5⟩ := num_tI (i := p) ⟨p0, by omega⟩
    refine ⟨_, (pss_one (ps_ret (pe_and (C8.pe_c c_is_numeral hr (by decide) rfl (pa_cons (pv 1) pa_nil)) (pe_one (pe_cmpR op_lt (pe_callTy call_int_str (by rfl) T.n_int (by decide +kernel) (pa_cons (pv 1) pa_nil)) (pv 0) (by first | exact nomark _ | rfl)))))), ?_⟩
    refine ⟨_, rfl, tI p, rfl, by omega, fun H1 s1 => ?_⟩
    rw [a1]
    refine ⟨_, rfl, iteT ⟨_, rfl, tI p, p, rfl, a2, by omega, _, rfl, _, _, rfl, rfl, ?_⟩⟩
    have e : V.bl (decide (p < k)) = V.bl true := by rw [decide_eq_true pk]
    show Q (V.bl (decide (p < k))) H1
    rw [e]
    exact c H1 s1
theorem c_is_event (D : Df K mg "is_event" s_is_event) (T : Tx K mg) (c_is_numeral : C8.Cal P w K mg base 1 "is_numeral" spNumeral []) (c_is_person : C8.Cal P w K mg base 2 "is_person" spPerson []) : C8.Cal P w K mg base 3 "is_event" spEvent [] := by
  refine cal_mk D sc_is_event bd_is_event (fun vs H Q E h => ?_) fun f cdv A outer s H vs Q E hr h => ?_
  · obtain ⟨k, e, rfl, _⟩ := h
    rfl
  · obtain ⟨k, e, rfl, ok, k64, c⟩ := h
    have short := ev_short k64 ok
    have line := sizeLine_eq
    obtain ⟨n1, n2, n3⟩ := lit_ne
    refine ⟨_, (pss_cons (ps_if (pt_not (pt_val (pe_callB call_isi (by rfl) T.n_isinstance (by decide +kernel) (pa_cons (pv 1) (pa_cons (pe_bltn (v := .ty "str") (u := .type "str") rfl T.n_str (by decide +kernel) rfl) pa_nil)))))
 (pss_one (ps_ret pe_bl))
 pss_nil)
 (pss_cons (ps_set (i := 2) sc_is_event.nd rfl (Or.inl rfl) (pe_split (pv 1) pe_str))
 (pss_cons (ps_if (pt_cmpR op_eq (pe_ix ix_list (pv 2) pe_int (fun _ _ => rfl)) pe_str (by first | exact nomark _ | rfl))
 (pss_one (ps_ret (pe_and (pe_cmpR op_eq (pe_callB call_len (by rfl) T.n_len (by decide +kernel) (pa_cons (pv 2) pa_nil)) pe_int (by first | exact nomark _ | rfl)) (pe_and (C8.pe_c c_is_person hr (by decide) rfl (pa_cons (pv 0) (pa_cons (pe_ix ix_list (pv 2) pe_int (fun _ _ => rfl)) pa_nil))) (pe_one (C8.pe_c c_is_numeral hr (by decide) rfl (pa_cons (pe_ix ix_list (pv 2) pe_int (fun _ _ => rfl)) pa_nil)))))))
 pss_nil)
 (pss_cons (ps_if (pt_cmpR op_eq (pe_ix ix_list (pv 2) pe_int (fun _ _ => rfl)) pe_str (by first | exact nomark _ | rfl))
 (pss_one (ps_ret (pe_and (pe_cmpR op_eq (pe_callB call_len (by rfl) T.n_len (by decide +kernel) (pa_cons (pv 2) pa_nil)) pe_int (by first | exact nomark _ | rfl)) (pe_and (C8.pe_c c_is_person hr (by decide) rfl (pa_cons (pv 0) (pa_cons (pe_ix ix_list (pv 2) pe_int (fun _ _ => rfl)) pa_nil))) (pe_one (pe_cmpR op_in_seq (pe_ix ix_list (pv 2) pe_int (fun _ _ => rfl)) (pe_glob (v := .ref _) rfl T.g_HUMMED rfl) (by first | exact nomark _ | rfl)))))))
 pss_nil)
 (pss_one (ps_ret (pe_cmpR op_eq (pv 1) pe_str (by first | exact nomark _ | rfl)))))))), ?_⟩
    refine ⟨_, rfl, _, _, _, _, true, rfl, .ty _, .base (.str _), kit_ty (by decide +kernel), _, rfl, iteF ?_⟩
    refine ⟨_, rfl, ⟨_, rfl⟩, evT e, " ", rfl, rfl, by decide +kernel, by omega, fun p np => ?_⟩
    rw [split_ev k64 ok]
    have sp : Same H (upd H p (.lst ((evW e).map V.str))) := Same.new np
    have hp : SqL K (upd H p (.lst ((evW e).map V.str))) p ((evW e).map V.str) := SqL.of upd_same
    generalize upd H p (.lst ((evW e).map V.str)) = H1 at sp hp ⊢
    cases e with
    | tick =>
      refine ⟨_, rfl, p, _, 0, .str "tick", rfl, rfl, hp, rfl, rfl, _, rfl, ?_⟩
      rw [v_str_ne n2]
      refine iteF ⟨_, rfl, p, _, 0, .str "tick", rfl, rfl, hp, rfl, rfl, _, rfl, ?_⟩
      rw [v_str_ne n3]
      refine iteF ⟨_, rfl, rfl, ?_⟩
      rw [str_dec, tick_T, decide_eq_true rfl]
      exact c H1 sp
    | hum q d =>
      refine ⟨_, rfl, p, _, 0, .str "hum", rfl, rfl, hp, rfl, rfl, _, rfl, ?_⟩
      rw [v_str_ne n1]
      refine iteF ⟨_, rfl, p, _, 0, .str "hum", rfl, rfl, hp, rfl, rfl, _, rfl, ?_⟩
      rw [decide_eq_true rfl]
      refine iteT ⟨_, rfl, .ref p, 3, rfl, .inl ⟨_, hp, rfl⟩, rfl, _, rfl, iteT ?_⟩
      refine ⟨_, rfl, _, rfl, p, _, 1, .str (tI q), rfl, rfl, hp, rfl, k, q, rfl, ok.1, ok.2, k64, fun H2 s2 => ⟨_, rfl, iteT ?_⟩⟩
      refine ⟨_, rfl, p, _, 2, .str (if d then "doze" else "up"), rfl, rfl, Same.seq s2 hp, rfl, _, _, rfl, .inr (T.t_HUMMED _), rfl, rfl, ?_⟩
      have e : V.bl (if false = true then !inV (.str (if d then "doze" else "up")) [V.str "doze", V.str "up"] else inV (.str (if d then "doze" else "up")) [V.str "doze", V.str "up"]) = V.bl true := by
        cases d <;> decide +kernel
      rw [e]
      exact c H2 (sp.trans s2)
    | step q n =>
      refine ⟨_, rfl, p, _, 0, .str "step", rfl, rfl, hp, rfl, rfl, _, rfl, ?_⟩
      rw [decide_eq_true rfl]
      refine iteT ⟨_, rfl, .ref p, 3, rfl, .inl ⟨_, hp, rfl⟩, rfl, _, rfl, iteT ?_⟩
      refine ⟨_, rfl, _, rfl, p, _, 1, .str (tI q), rfl, rfl, hp, rfl, k, q, rfl, ok.1.1, ok.1.2, k64, fun H2 s2 => ⟨_, rfl, iteT ?_⟩⟩
      have nn := num_tI ok.2
      refine ⟨_, rfl, p, _, 2, .str (tI n), rfl, rfl, Same.seq s2 hp, rfl, tI n, rfl, by omega, fun H3 s3 => ?_⟩
      rw [nn.1]
      exact c H3 ((sp.trans s2).trans s3)
end
end Lw
set_option Elab.async false
set_option linter.all false
set_option maxRecDepth 100000
set_option maxHeartbeats 8000000
namespace Lw
open PySem PySem.Spec PyProof.Rows L2 Hb
/-- a walk, told -/
structure Wk where
  g : Int
  n : Int
  f : Str
  es : List Str
def EvS (k : Int) (s : Str) : Prop := ∃ e, s = evT e ∧ EvOk k e
def firstL : List Str := ["asleep", "dozing", "up"]
structure WkOk (w : Wk) : Prop where
  g0 : 0 ≤ w.g
  n0 : 0 ≤ w.n
  few : w.g + w.n ≤ 64
  f : w.f ∈ firstL
  es : ∀ s ∈ w.es, EvS (w.g + w.n) s
  len : w.es.length ≤ 1000
def wFs (t : Addr) (w : Wk) : List (Str × V) := [("guests", .int w.g), ("nurses", .int w.n), ("first", .str w.f), ("events", .ref t)]
def WAt (K : PySem.W.Frag) (C : Addr) (H : Hp) (p : Addr) (w : Wk) : Prop := ∃ dx t, H p = some (.ins C dx (wFs t w)) ∧ SqT K H t (w.es.map V.str)
theorem WAt.same {K : PySem.W.Frag} {C : Addr} {H H' : Hp} {p : Addr} {w : Wk} (x : WAt K C H p w) (s : Same H H') : WAt K C H' p w := by
  obtain ⟨dx, t, h1, h2⟩ := x
  exact ⟨dx, t, s _ _ h1, SqT.keep (Same.tk s) h2⟩
theorem flat_strs' (xs : List Str) : (xs.map V.str).all flatV = true := by
  induction xs with
  | nil => rfl
  | cons x xs ih => rw [List.map_cons, List.all_cons, ih]; rfl
abbrev dflW (K : PySem.W.Frag) : Addr := He.dflAt ("Walk", some "__init__") 0 K
def spWInit (K : PySem.W.Frag) (C : Addr) : Sp := fun vs H Q _ => ∃ (x dx a : Addr) (w : Wk), vs = [.ref x, .int w.g, .int w.n, .str w.f, .ref a] ∧ H x = some (.ins C dx []) ∧
  (SqL K H a (w.es.map V.str) ∨ SqT K H a (w.es.map V.str)) ∧ WkOk w ∧ ∀ H', (∀ b o, b ≠ x → H b = some o → H' b = some o) → WAt K C H' x w → Q .non H'
section
variable {P : Program} {w : World} {K : PySem.W.Frag} {mg : Str → Option Value} {base : Heap}
theorem m_Walk_mk (D : Df1v K mg "Walk" "Walk.__init__" s_Walk_init [.ref (dflW K)]) (T : Tx K mg) (c_is_number : C8.Cal P w K mg base 2 "is_number" spNumber []) (c_is_row : C8.Cal P w K mg base 1 "is_row" (spRow K) [])
    (c_is_event : C8.Cal P w K mg base 3 "is_event" spEvent []) :
    C8.Mak P w K mg base 4 "Walk" (He.ga K "Walk") (spWInit K (He.ga K "Walk")) [] ∧ C8.Mak P w K mg base 4 "Walk" (He.ga K "Walk") (spWInit K (He.ga K "Walk")) [.ref (dflW K)] := by
  refine mak_mkD2 (n := 4) (by simp) rfl D sc_Walk_init bk_Walk_init bkp_Walk_init (fun vs H Q E h => ?_) fun f cdv A outer s H vs Q E hr h => ?_
  · obtain ⟨x, dx, a, z, rfl, _⟩ := h
    rfl
  · obtain ⟨x, dx, a, z, rfl, hx, ha, ok, k⟩ := h
    refine ⟨_, (pss_cons (ps_if (pt_not (pt_val (C8.pe_c c_is_number hr (by decide) rfl (pa_cons (pv 1) pa_nil))))
 (pss_one ps_never)
 pss_nil)
 (pss_cons (ps_if (pt_not (pt_val (C8.pe_c c_is_number hr (by decide) rfl (pa_cons (pv 2) pa_nil))))
 (pss_one ps_never)
 pss_nil)
 (pss_cons (ps_if (pt_cmpR op_notIn_seq (pv 3) (pe_glob (v := .ref _) rfl T.g_FIRSTS rfl) (by first | exact nomark _ | rfl))
 (pss_one ps_never)
 pss_nil)
 (pss_cons (ps_if (pt_not (pt_val (C8.pe_c c_is_row hr (by decide) rfl (pa_cons (pv 4) pa_nil))))
 (pss_one ps_never)
 pss_nil)
 (pss_cons (ps_for PassesOwn.never rfl (pi_enumS (by rfl) T.n_enumerate (pa_cons (pv 4) pa_nil)) (pg_tup (by rfl) (pgs_cons (pg_name (i := 5) sc_Walk_init.nd rfl (Or.inl rfl)) (pgs_cons (pg_name (i := 6) sc_Walk_init.nd rfl (Or.inl rfl)) pgs_nil)))
 (pss_one (ps_if (pt_not (pt_val (C8.pe_c c_is_event hr (by decide) rfl (pa_cons (pe_op op_add (pv 1) (pv 2)) (pa_cons (pv 6) pa_nil)))))
 (pss_one ps_never)
 pss_nil)))
 (pss_cons (ps_fld (pv 0) (pv 1) rfl)
 (pss_cons (ps_fld (pv 0) (pv 2) rfl)
 (pss_cons (ps_fld (pv 0) (pv 3) rfl)
 (pss_one (ps_fld (pv 0) (pe_callTy call_tuple_of (by rfl) T.n_tuple (by decide +kernel) (pa_cons (pv 4) pa_nil)) rfl)))))))))), ?_⟩
    refine ⟨_, rfl, z.g, rfl, _, rfl, ?_⟩
    rw [decide_eq_true ok.g0]
    refine iteF ⟨_, rfl, z.n, rfl, _, rfl, ?_⟩
    rw [decide_eq_true ok.n0]
    refine iteF ⟨_, rfl, _, _, rfl, .inr (T.t_FIRSTS _), rfl, rfl, _, rfl, ?_⟩
    rw [if_pos rfl]
    have eF : inV (.str z.f) [V.str "asleep", V.str "dozing", V.str "up"] = true := by
      show inV (.str z.f) (firstL.map V.str) = true
      rw [inV_strs, decide_eq_true ok.f]
    rw [eF]
    refine iteF ⟨_, rfl, a, _, rfl, ha, fun H1 s1 => ⟨_, rfl, iteF ?_⟩⟩
    have ha1 : SqL K H1 a (z.es.map V.str) ∨ SqT K H1 a (z.es.map V.str) := ha.imp (Same.seq s1) (SqT.keep (Same.tk s1))
    refine ⟨_, rfl, a, _, rfl, ha1, fun J G hG wk => for_it wk (fun i σ H' => (∃ v5 v6, σ = [some (.ref x), some (.int z.g), some (.int z.n), some (.str z.f), some (.ref a), v5, v6]) ∧ Same H1 H') ⟨⟨_, _, rfl⟩, Same.refl _⟩ (fun i σ H' _ e => hG _ e.2) ?_ ?_⟩
    · rintro i y σ H' H2 hi ⟨⟨v5, v6, rfl⟩, s2⟩ ⟨Tp, u, v, rfl, hT, rfl, e1, e2⟩
      injection e1 with e1
      subst e1
      replace e2 : (z.es.map V.str)[i]? = some v := e2
      rw [List.getElem?_map] at e2
      obtain ⟨s, hs, rfl⟩ := Option.map_eq_some_iff.mp e2
      obtain ⟨e, rfl, oe⟩ := ok.es s (List.mem_of_getElem? hs)
      have s3 : Same H' (upd H' Tp (.tup [.int (i : Nat), .str (evT e)])) := Same.new hT
      refine ⟨Tp, _, rfl, SqT.of upd_same, rfl, _, _, rfl, _, _, rfl, rfl, ?_⟩
      refine ⟨_, rfl, _, rfl, _, _, rfl, rfl, _, rfl, z.g + z.n, e, rfl, oe, ok.few, fun H3 s4 => ⟨_, rfl, iteF ?_⟩⟩
      exact ⟨⟨_, _, rfl⟩, (s2.trans s3).trans s4⟩
    · rintro σ H2 ⟨⟨v5, v6, rfl⟩, s2⟩
      have s12 := s1.trans s2
      have ha2 : SqL K H2 a (z.es.map V.str) ∨ SqT K H2 a (z.es.map V.str) := ha.imp (Same.seq s12) (SqT.keep (Same.tk s12))
      have hx2 := s12 _ _ hx
      refine ⟨_, rfl, _, rfl, x, _, dx, [], rfl, hx2, T.cls_Walk, T.a_guests, by decide, ?_⟩
      have h3 : upd H2 x (.ins (He.ga K "Walk") dx (putF "guests" (.int z.g) [])) x = some (.ins (He.ga K "Walk") dx [("guests", .int z.g)]) := upd_same
      have k3 : KX x H2 (upd H2 x (.ins (He.ga K "Walk") dx (putF "guests" (.int z.g) []))) := KX.put
      generalize upd H2 x (.ins (He.ga K "Walk") dx (putF "guests" (.int z.g) [])) = H3 at h3 k3 ⊢
      refine ⟨_, rfl, _, rfl, x, _, dx, _, rfl, h3, T.cls_Walk, T.a_nurses, by show 1 < 1000; decide, ?_⟩
      have h4 : upd H3 x (.ins (He.ga K "Walk") dx (putF "nurses" (.int z.n) [("guests", .int z.g)])) x = some (.ins (He.ga K "Walk") dx [("guests", .int z.g), ("nurses", .int z.n)]) := upd_same
      have k4 : KX x H3 (upd H3 x (.ins (He.ga K "Walk") dx (putF "nurses" (.int z.n) [("guests", .int z.g)]))) := KX.put
      generalize upd H3 x (.ins (He.ga K "Walk") dx (putF "nurses" (.int z.n) [("guests", .int z.g)])) = H4 at h4 k4 ⊢
      refine ⟨_, rfl, _, rfl, x, _, dx, _, rfl, h4, T.cls_Walk, T.a_first, by show 2 < 1000; decide, ?_⟩
      have h5 : upd H4 x (.ins (He.ga K "Walk") dx (putF "first" (.str z.f) [("guests", .int z.g), ("nurses", .int z.n)])) x = some (.ins (He.ga K "Walk") dx [("guests", .int z.g), ("nurses", .int z.n), ("first", .str z.f)]) := upd_same
      have k5 : KX x H4 (upd H4 x (.ins (He.ga K "Walk") dx (putF "first" (.str z.f) [("guests", .int z.g), ("nurses", .int z.n)]))) := KX.put
      generalize upd H4 x (.ins (He.ga K "Walk") dx (putF "first" (.str z.f) [("guests", .int z.g), ("nurses", .int z.n)])) = H5 at h5 k5 ⊢
      have k25 := (k3.trans k4).trans k5
      have kAll := (Hb.Same.kx s12).trans k25
      rcases ha2 with ha2 | ha2
      · refine ⟨_, rfl, a, _, rfl, .inl ⟨k25.seq hx2 ha2, fun t nt => ?_⟩⟩
        have s6 : Same H5 (upd H5 t (.tup (z.es.map V.str))) := Same.new nt
        have h6 := s6 _ _ h5
        refine ⟨_, rfl, x, _, dx, _, rfl, h6, T.cls_Walk, T.a_events, by show 3 < 1000; decide, ?_⟩
        exact k _ ((kAll.trans (Hb.Same.kx s6)).trans KX.put) ⟨dx, t, upd_same, SqT.keep (KX.tk KX.put h6) (SqT.of upd_same)⟩
      · refine ⟨_, rfl, a, _, rfl, .inr ⟨SqT.keep (k25.tk hx2) ha2, ?_⟩⟩
        refine ⟨_, rfl, x, _, dx, _, rfl, h5, T.cls_Walk, T.a_events, by show 3 < 1000; decide, ?_⟩
        exact k _ (kAll.trans KX.put) ⟨dx, a, upd_same, SqT.keep (KX.tk KX.put h5) (SqT.keep (k25.tk hx2) ha2)⟩
end
end Lw
set_option Elab.async false
set_option linter.all false
set_option maxRecDepth 100000
set_option maxHeartbeats 8000000
namespace Lw
open PySem PySem.Spec PyProof.Rows L2 Hb
theorem eqv_all {α : Type} [DecidableEq α] {enc : α → PyData} (h : ∀ x y, PyData.eqv (enc x) (enc y) = decide (x = y)) : ∀ ps qs : List α, PyData.eqvAll (ps.map enc) (qs.map enc) = decide (ps = qs)
  | [], [] => by simp [PyData.eqvAll]
  | [], q :: qs => by simp [PyData.eqvAll]
  | p :: ps, [] => by simp [PyData.eqvAll]
  | p :: ps, q :: qs => by
    rw [List.map_cons, List.map_cons, PyData.eqvAll, h, eqv_all h ps qs]
    by_cases h1 : p = q <;> by_cases h2 : ps = qs <;> simp [h1, h2]
theorem eqv_tup {α : Type} [DecidableEq α] {enc : α → PyData} (h : ∀ x y, PyData.eqv (enc x) (enc y) = decide (x = y)) (ps qs : List α) : PyData.eqv (.tuple (ps.map enc)) (.tuple (qs.map enc)) = decide (ps = qs) := by
  rw [PyData.eqv, eqv_all h]
theorem eqv_lst {α : Type} [DecidableEq α] {enc : α → PyData} (h : ∀ x y, PyData.eqv (enc x) (enc y) = decide (x = y)) (ps qs : List α) : PyData.eqv (.list (ps.map enc)) (.list (qs.map enc)) = decide (ps = qs) := by
  rw [PyData.eqv, eqv_all h]
theorem eqv_S (x y : Str) : PyData.eqv (.str x) (.str y) = decide (x = y) := by simp [PyData.eqv, beq_dec]
theorem strOk_tl (x : Str) : PyData.strOk x = (TL.tl x).all (· < 0x110000) := by
  unfold PyData.strOk TL.tl
  rw [← Array.all_toList]
theorem strOk_app {x y : Str} (hx : PyData.strOk x = true) (hy : PyData.strOk y = true) : PyData.strOk (x ++ y) = true := by
  rw [strOk_tl] at hx hy ⊢
  rw [TL.tl_append, List.all_append, hx, hy]
  rfl
theorem strOk_join : ∀ {ws : List Str}, (∀ w ∈ ws, PyData.strOk w = true) → PyData.strOk (Str.join " " ws) = true
  | [], _ => by decide +kernel
  | [w], h => h w List.mem_cons_self
  | w :: x :: r, h => strOk_app (strOk_app (h w List.mem_cons_self) (by decide +kernel)) (strOk_join (ws := x :: r) fun y hy => h y (List.mem_cons_of_mem _ hy))
theorem num_ok : ∀ i ∈ List.range 64, PyData.strOk (tI (i : Int)) = true := by decide +kernel
theorem lits_ok : PyData.strOk "hum" = true ∧ PyData.strOk "step" = true ∧ PyData.strOk "tick" = true ∧ PyData.strOk "doze" = true ∧ PyData.strOk "up" = true := by decide +kernel
theorem num_ok' {i : Int} (h : 0 ≤ i ∧ i < 64) : PyData.strOk (tI i) = true := by
  obtain ⟨n, rfl⟩ := Int.eq_ofNat_of_zero_le h.1
  exact num_ok n (List.mem_range.mpr (by omega))
theorem ev_ok {k : Int} (hk : k ≤ 64) {s : Str} (h : EvS k s) : PyData.strOk s = true := by
  obtain ⟨e, rfl, ok⟩ := h
  obtain ⟨l1, l2, l3, l4, l5⟩ := lits_ok
  unfold evT
  rw [TL.join_eq]
  refine strOk_join fun w hw => ?_
  cases e with
  | tick =>
    rw [List.mem_singleton.mp hw]
    exact l3
  | hum p d =>
    simp only [evW, List.mem_cons, List.not_mem_nil, or_false] at hw
    rcases hw with rfl | rfl | rfl
    · exact l1
    · exact num_ok' ⟨ok.1, Int.lt_of_lt_of_le ok.2 hk⟩
    · cases d
      · exact l5
      · exact l4
  | step p n =>
    simp only [evW, List.mem_cons, List.not_mem_nil, or_false] at hw
    rcases hw with rfl | rfl | rfl
    · exact l2
    · exact num_ok' ⟨ok.1.1, Int.lt_of_lt_of_le ok.1.2 hk⟩
    · exact num_ok' ok.2
theorem tds_strsW {K : PySem.W.Frag} {H : Hp} : ∀ xs : List Str, TDs K H (xs.map V.str) (xs.map PyData.str)
  | [] => .nil
  | x :: xs => .cons (.str x) (tds_strsW xs)
theorem shp_str {x : Str} (h : PyData.strOk x = true) : Shp (.str x) := ⟨by simp only [PyData.canLay0]; exact h, by simp [PyData.depth]⟩
theorem shaped_es {xs : List Str} (h : ∀ s ∈ xs, PyData.strOk s = true) : SeqAt.shaped (.tuple (xs.map PyData.str)) = true := shaped_tup fun d hd => by
  obtain ⟨x, hx, rfl⟩ := List.mem_map.mp hd
  exact shp_str (h x hx)
/-- alike walks -/
def wEq (a b : Wk) : Bool := decide (a.g = b.g) && (decide (a.n = b.n) && (decide (a.f = b.f) && decide (a.es = b.es)))
theorem wEq_refl (a : Wk) : wEq a a = true := by simp [wEq]
theorem ok_strs {z : Wk} (ok : WkOk z) : ∀ s ∈ z.es, PyData.strOk s = true := fun s hs => ev_ok ok.few (ok.es s hs)
def spUpto (K : PySem.W.Frag) (C : Addr) : Sp := fun vs H Q _ => ∃ (p : Addr) (m : Int) (z : Wk), vs = [.ref p, .int m] ∧ WAt K C H p z ∧ WkOk z ∧ 0 ≤ m ∧
  ∀ H' q, Same H H' → H q = none → WAt K C H' q ⟨z.g, z.n, z.f, z.es.take m.toNat⟩ → Q (.ref q) H'
def spFurther (K : PySem.W.Frag) (C : Addr) : Sp := fun vs H Q _ => ∃ (p a : Addr) (es : List Str) (z : Wk), vs = [.ref p, .ref a] ∧ WAt K C H p z ∧ WkOk z ∧ (SqL K H a (es.map V.str) ∨ SqT K H a (es.map V.str)) ∧ WkOk ⟨z.g, z.n, z.f, z.es ++ es⟩ ∧
  ∀ H' q, Same H H' → H q = none → WAt K C H' q ⟨z.g, z.n, z.f, z.es ++ es⟩ → Q (.ref q) H'
def spLenW (K : PySem.W.Frag) (C : Addr) : Sp := fun vs H Q _ => ∃ (p : Addr) (z : Wk), vs = [.ref p] ∧ WAt K C H p z ∧ WkOk z ∧ Q (.int z.es.length) H
def spEqW (K : PySem.W.Frag) (C : Addr) : Sp := fun vs H Q _ => ∃ (p : Addr) (y : V) (z : Wk), vs = [.ref p, y] ∧ WAt K C H p z ∧ WkOk z ∧ ((∃ q k, y = .ref q ∧ WAt K C H q k ∧ WkOk k ∧ Q (.bl (wEq z k)) H) ∨ ∃ t ∈ anyTy, TyX K H y (.type t) ∧ Q (.bl false) H)
theorem sIx_some (n : Nat) {i : Int} (h0 : 0 ≤ i) : HT.sIx n n (some i) = min i.toNat n := by
  have a : ¬ i < 0 := by omega
  simp [HT.sIx, a]
theorem app_nil {K : PySem.W.Frag} {H : Hp} {t : Addr} {xs ys : List V} (e : ys = []) (h : SqT K H t xs) : SqT K H t (xs ++ ys) := by
  rw [e, List.append_nil]
  exact h
/-- a walk made -/
theorem mk_W {K : PySem.W.Frag} {C : Addr} {H : Hp} {r x dx : Addr} {z : Wk} {R : VK} {E : XK} (hr : SqL K H r (z.es.map V.str) ∨ SqT K H r (z.es.map V.str)) (ok : WkOk z) (nx : H x = none) (ndx : H dx = none) (ne : dx ≠ x)
    (hR : ∀ H2, Same H H2 → WAt K C H2 x z → R .non H2) : spWInit K C [.ref x, .int z.g, .int z.n, .str z.f, .ref r] (upd (upd H dx (.own x)) x (.ins C dx [])) R E := by
  have s1 : Same H (upd (upd H dx (.own x)) x (.ins C dx [])) := fun b u e => by
    rw [upd_ne (ne_of_none e nx), upd_ne (ne_of_none e ndx)]
    exact e
  exact ⟨x, dx, r, z, rfl, upd_same, hr.imp (Same.seq s1) (SqT.keep (Same.tk s1)), ok, fun H2 kp hz => hR H2 (fun b u e => kp b u (ne_of_none e nx) (s1 b u e)) hz⟩

end Lw
set_option Elab.async false
set_option linter.all false
set_option maxRecDepth 100000
set_option maxHeartbeats 8000000
/-! Worlds: what a walk does. -/
namespace Lw
open PySem PySem.Spec PyProof.Rows L2 Hb
def intV : Option Int → V
  | none => .non
  | some i => .int i
def beyondO (ds : List Dr) (n r : Int) : Option Int := match ds[n.toNat]? with
  | none => none
  | some d => if r = d.1 then some d.2.1 else if r = d.2.1 then some d.1 else none
structure Wd where
  st : S0
  pl : List Int
  sp : List Int
  tk : Int
  md : List (Int × Str)
  wk : Option Int
  mn : Int
/-- the other side of a door -/
def behindD (d : Dr) (r : Int) : Int := if r = d.1 then d.2.1 else d.1
def doorAt (h : Hz) (n : Int) : Dr := h.doors.getD n.toNat (0, 0, none)
def placeAt (w : Wd) (p : Int) : Int := w.pl.getD p.toNat 0
def doEv (h : Hz) (z : Zz) (w : Wd) : Ev → Wd
  | .tick => { w with st := tick z w.st, tk := w.tk + 1, sp := [] }
  | .hum _ d => { w with st := hum z (if d then "doze" else "up") w.st }
  | .step p n => { w with st := rowS z w.st (nzStep h (doorAt h n) (behindD (doorAt h n) (placeAt w p))), pl := w.pl.set p.toNat (behindD (doorAt h n) (placeAt w p)), md := w.md ++ List.map (Prod.mk w.tk) (nzStep h (doorAt h n) (behindD (doorAt h n) (placeAt w p))), sp := w.sp ++ [p] }
def wokeAt (w : Wd) (s : S0) : Option Int := if w.wk = none ∧ s = .wok then some w.mn else w.wk
def goEv (h : Hz) (z : Zz) (w : Wd) (e : Ev) : Wd := { doEv h z w e with wk := wokeAt w (doEv h z w e).st, mn := w.mn + 1 }
def CanEv (h : Hz) (g : Int) (w : Wd) : Ev → Prop
  | .tick => True
  | .hum p _ => (0 ≤ p ∧ p < (w.pl.length : Nat)) ∧ g ≤ p ∧ placeAt w p ∈ h.cradles
  | .step p n => (0 ≤ p ∧ p < (w.pl.length : Nat)) ∧ (0 ≤ n ∧ n < (h.doors.length : Nat)) ∧ p ∉ w.sp ∧ (placeAt w p = (doorAt h n).1 ∨ placeAt w p = (doorAt h n).2.1)
instance (h : Hz) (g : Int) (w : Wd) (e : Ev) : Decidable (CanEv h g w e) := by cases e <;> (unfold CanEv; infer_instance)
def wd0 (z : Zz) (k : Int) (f : Str) : Wd := ⟨firstS z f, List.replicate k.toNat 0, [], 0, [], none, 0⟩
def runEv (h : Hz) (z : Zz) (w : Wd) (es : List Ev) : Wd := es.foldl (goEv h z) w
/-- each of them is possible in its turn -/
def Poss (h : Hz) (z : Zz) (g : Int) : Wd → List Ev → Prop
  | _, [] => True
  | w, e :: es => CanEv h g w e ∧ Poss h z g (goEv h z w e) es
theorem Poss.app {h : Hz} {z : Zz} {g : Int} : ∀ {w : Wd} {es fs : List Ev}, Poss h z g w (es ++ fs) ↔ Poss h z g w es ∧ Poss h z g (runEv h z w es) fs
  | _, [], _ => ⟨fun x => ⟨trivial, x⟩, fun x => x.2⟩
  | w, e :: es, fs => by
    show (_ ∧ Poss h z g _ (es ++ fs)) ↔ (_ ∧ Poss h z g _ es) ∧ _
    rw [Poss.app (es := es)]
    exact ⟨fun ⟨a, b, c⟩ => ⟨⟨a, b⟩, c⟩, fun ⟨⟨a, b⟩, c⟩ => ⟨a, b, c⟩⟩
theorem Poss.at {h : Hz} {z : Zz} {g : Int} {w : Wd} {es : List Ev} (x : Poss h z g w es) {i : Nat} {e : Ev} (hi : es[i]? = some e) : CanEv h g (runEv h z w (es.take i)) e := by
  have q : es = es.take i ++ e :: es.drop (i + 1) := by
    obtain ⟨hl, he⟩ := List.getElem?_eq_some_iff.mp hi
    rw [← he, ← List.drop_eq_getElem_cons hl, List.take_append_drop]
  rw [q] at x
  exact (Poss.app.mp x).2.1
theorem Poss.take {h : Hz} {z : Zz} {g : Int} {w : Wd} {es : List Ev} (x : Poss h z g w es) (i : Nat) : Poss h z g w (es.take i) := by
  rw [← List.take_append_drop i es] at x
  exact (Poss.app.mp x).1
theorem run_next {h : Hz} {z : Zz} {w : Wd} {es : List Ev} {i : Nat} {e : Ev} (hi : es[i]? = some e) : runEv h z w (es.take (i + 1)) = goEv h z (runEv h z w (es.take i)) e := by
  rw [List.take_add_one, hi]
  simp [runEv]
theorem run_snoc {h : Hz} {z : Zz} {w : Wd} {es : List Ev} {e : Ev} : runEv h z w (es ++ [e]) = goEv h z (runEv h z w es) e := by simp [runEv]
/-- bounds of a world behind so many events -/
structure WdB (h : Hz) (w : Wd) (k : Nat) (m : Nat) : Prop where
  pl : w.pl.length = k
  sp : w.sp.length ≤ m
  md : w.md.length ≤ 2 * m
  mn : w.mn = (m : Nat)
  tk0 : 0 ≤ w.tk
  tk : w.tk ≤ (m : Nat)
  mdt : ∀ x ∈ w.md, 0 ≤ x.1 ∧ x.1 ≤ w.tk
  wk : ∀ i, w.wk = some i → 0 ≤ i ∧ i < (m : Nat)
theorem WdB.zero (h : Hz) (z : Zz) {k : Int} (f : Str) : WdB h (wd0 z k f) k.toNat 0 := ⟨List.length_replicate, Nat.le_refl _, Nat.le_refl _, rfl, Int.le_refl _, Int.le_refl _, (fun x hx => nomatch hx), fun i e => nomatch e⟩
theorem WdB.go {h : Hz} {z : Zz} {w : Wd} {k m : Nat} (x : WdB h w k m) (e : Ev) : WdB h (goEv h z w e) k (m + 1) := by
  have wk : ∀ (s : S0) i, wokeAt w s = some i → 0 ≤ i ∧ i < ((m + 1 : Nat) : Int) := fun s i q => by
    unfold wokeAt at q
    split at q
    · have := x.mn
      simp at q
      omega
    · have := x.wk i q
      omega
  have mn : w.mn + 1 = ((m + 1 : Nat) : Int) := by have := x.mn; omega
  have t0 := x.tk0
  have t1 := x.tk
  have sp := x.sp
  have md := x.md
  cases e with
  | tick => exact ⟨x.pl, Nat.zero_le _, by show w.md.length ≤ _; omega, mn, by show 0 ≤ w.tk + 1; omega, by show w.tk + 1 ≤ _; omega, fun y hy => by have := x.mdt y hy; exact ⟨this.1, by show y.1 ≤ w.tk + 1; omega⟩, wk _⟩
  | hum p d => exact ⟨x.pl, by show w.sp.length ≤ _; omega, by show w.md.length ≤ _; omega, mn, t0, by show w.tk ≤ _; omega, x.mdt, wk _⟩
  | step p n =>
    refine ⟨by show (w.pl.set _ _).length = _; rw [List.length_set]; exact x.pl, by show (w.sp ++ [p]).length ≤ _; rw [List.length_append]; show _ + 1 ≤ _; omega, ?_, mn, t0, by show w.tk ≤ _; omega, fun y hy => ?_, wk _⟩
    · show (w.md ++ _).length ≤ _
      rw [List.length_append, List.length_map]
      have := nzStep_le h (doorAt h n) (behindD (doorAt h n) (placeAt w p))
      omega
    · rcases List.mem_append.mp hy with hy | hy
      · exact x.mdt y hy
      · obtain ⟨s, _, rfl⟩ := List.mem_map.mp hy
        exact ⟨t0, Int.le_refl _⟩
theorem WdB.run {h : Hz} (z : Zz) {k : Nat} : ∀ {es : List Ev} {w : Wd} {m : Nat}, WdB h w k m → WdB h (runEv h z w es) k (m + es.length)
  | [], _, _, x => x
  | e :: es, w, m, x => by
    have := WdB.run z (es := es) (x.go (z := z) e)
    rw [show m + 1 + es.length = m + (e :: es).length by rw [List.length_cons]; omega] at this
    exact this
def encM (x : Int × Str) : PyData := .tuple [.int x.1, .str x.2]
def movK (p : Int) : L2.Key × V := (Sum.inl p, .bl true)
theorem mov_val {sp : List Int} (p : Int) : (valV (sp.map movK) (Sum.inl p)).isSome = decide (p ∈ sp) := by
  induction sp with
  | nil => rfl
  | cons q sp ih =>
    by_cases e : q = p
    · subst e
      rw [List.map_cons, valV_pos (p := movK q) (k := Sum.inl q) rfl]
      simp
    · rw [List.map_cons, valV_neg (p := movK q) (fun z => e (by injection z)), ih]
      have e2 : ¬ p = q := fun z => e z.symm
      simp [e2]
theorem mov_put {sp : List Int} {p : Int} (h : p ∉ sp) : putK (sp.map movK) (Sum.inl p) (.bl true) = (sp ++ [p]).map movK := by
  have e := mov_val (sp := sp) p
  rw [decide_eq_false h] at e
  rw [putK_new _ (by simpa using e), List.map_append]
  rfl
end Lw
set_option Elab.async false
set_option linter.all false
set_option maxRecDepth 100000
set_option maxHeartbeats 8000000
namespace Lw
open PySem PySem.Spec PyProof.Rows L2 Hb
def spBeyond (K : PySem.W.Frag) (C : Addr) : Sp := fun vs H Q _ => ∃ (p : Addr) (h : Hz) (n r : Int), vs = [.ref p, .int n, .int r] ∧ HAt K C H p h ∧ 0 ≤ n ∧ h.doors.length ≤ 1000 ∧ Q (intV (beyondO h.doors n r)) H
section
variable {P : Program} {w : World} {K : PySem.W.Frag} {mg : Str → Option Value} {base : Heap}
theorem c_beyond (D : Df K mg "beyond" s_beyond) (T : Tx K mg) : C8.Cal P w K mg base 1 "beyond" (spBeyond K (He.ga K "House")) [] := by
  refine cal_mk D sc_beyond bd_beyond (fun vs H Q E h => ?_) fun f cdv A outer s H vs Q E hr h => ?_
  · obtain ⟨p, h, n, r, rfl, _⟩ := h
    rfl
  · obtain ⟨p, h, n, r, rfl, ⟨dx, a, b, c, xs, ys, hp, ha, td, _⟩, n0, few, k⟩ := h
    have line := sizeLine_eq
    have len : xs.length = h.doors.length := by rw [td.length, List.length_map]
    refine ⟨_, (pss_cons (ps_if (pt_cmpR op_ge (pv 1) (pe_callB call_len (by rfl) T.n_len (by decide +kernel) (pa_cons (pe_fld (pv 0) rfl) pa_nil)) (by first | exact nomark _ | rfl))
 (pss_one (ps_ret pe_non))
 pss_nil)
 (pss_cons (ps_asg (pe_ix ix_tup (pe_fld (pv 0) rfl) (pv 1) (fun _ _ => rfl)) (pg_tup (by rfl) (pgs_cons (pg_name (i := 3) sc_beyond.nd rfl (Or.inl rfl)) (pgs_cons (pg_name (i := 4) sc_beyond.nd rfl (Or.inl rfl)) (pgs_cons (pg_name (i := 5) sc_beyond.nd rfl (Or.inl rfl)) pgs_nil)))))
 (pss_cons (ps_if (pt_cmpR op_eq (pv 2) (pv 3) (by first | exact nomark _ | rfl))
 (pss_one (ps_ret (pv 4)))
 pss_nil)
 (pss_one (ps_ret (pe_ifExp (pt_cmpR op_eq (pv 2) (pv 4) (by first | exact nomark _ | rfl)) (pv 3) pe_non)))))), ?_⟩
    refine ⟨_, rfl, _, rfl, p, _, dx, _, _, rfl, hp, T.cls_House, T.a_doors, rfl, .ref a, xs.length, rfl, .inr ⟨_, ha, rfl⟩, _, _, rfl, rfl, _, rfl, ite2 (fun q => ?_) (fun q => ?_)⟩
    · have q2 : ((xs.length : Nat) : Int) ≤ n := of_decide_eq_true q
      have e : beyondO h.doors n r = none := by
        unfold beyondO
        rw [List.getElem?_eq_none (by omega)]
      rw [e] at k
      exact k
    · have q2 : ¬ ((xs.length : Nat) : Int) ≤ n := fun z => q (decide_eq_true z)
      have hlt : n.toNat < xs.length := by omega
      obtain ⟨d, hd, tdd⟩ := TDs.at_map td (List.getElem?_eq_getElem hlt)
      obtain ⟨t, et, ht⟩ := TD.door_inv tdd
      have at_ : atI xs n = some (.ref t) := by
        have q := atI_nat (xs := xs) (j := n.toNat) (v := .ref t) (by rw [List.getElem?_eq_getElem hlt, et])
        rw [show ((n.toNat : Nat) : Int) = n by omega] at q
        exact q
      have eb : beyondO h.doors n r = if r = d.1 then some d.2.1 else if r = d.2.1 then some d.1 else none := by
        unfold beyondO
        rw [hd]
      refine ⟨_, rfl, p, _, dx, _, _, rfl, hp, T.cls_House, T.a_doors, rfl, _, rfl, a, _, n, _, rfl, rfl, ha, at_, t, _, rfl, ht, rfl, _, _, rfl, _, _, rfl, _, _, rfl, rfl, ?_⟩
      refine ⟨_, rfl, _, rfl, rfl, _, rfl, ?_⟩
      by_cases e1 : r = d.1
      · rw [decide_eq_true (show V.int r = V.int d.1 by rw [e1])]
        rw [eb, if_pos e1] at k
        exact iteT ⟨_, rfl, k⟩
      · rw [decide_eq_false (show ¬ V.int r = V.int d.1 from fun q => e1 (by injection q))]
        rw [eb, if_neg e1] at k
        refine iteF ⟨_, rfl, _, rfl, rfl, _, rfl, ?_⟩
        by_cases e2 : r = d.2.1
        · rw [decide_eq_true (show V.int r = V.int d.2.1 by rw [e2])]
          rw [if_pos e2] at k
          exact iteT ⟨_, rfl, k⟩
        · rw [decide_eq_false (show ¬ V.int r = V.int d.2.1 from fun q => e2 (by injection q))]
          rw [if_neg e2] at k
          exact iteF k
end
end Lw
set_option Elab.async false
set_option linter.all false
set_option maxRecDepth 100000
set_option maxHeartbeats 8000000
namespace Lw
open PySem PySem.Spec PyProof.Rows L2 Hb
theorem ins_ne {H : Hp} {x a C C' dx dx' : Addr} {fs fs' : List (Str × V)} (h1 : H x = some (.ins C dx fs)) (h2 : H a = some (.ins C' dx' fs')) (n : fs.length ≠ fs'.length) : x ≠ a := fun e => by
  rw [e, h2] at h1
  injection h1 with h1
  injection h1 with _ _ h3
  exact n (by rw [h3])
theorem _root_.Hb.KX.free_ {x b : Addr} {H H' : Hp} (k : KX x H H') (n : b ≠ x) (e : H' b = none) : H b = none := by
  cases q : H b with
  | none => rfl
  | some o =>
    rw [k b o n q] at e
    cases e
def nFs (hm zm : Addr) (g : Int) (sv : V) (pl mv : Addr) (tk : Int) (md : Addr) : List (Str × V) := [("own_house", .ref hm), ("own_sleeper", .ref zm), ("guests", .int g), ("state", sv), ("places", .ref pl), ("moved", .ref mv), ("ticks", .int tk), ("made", .ref md)]
structure NIs (K : PySem.W.Frag) (C : Addr) (H : Hp) (x hm zm : Addr) (g : Int) (w : Wd) (dx : Addr) (sv : V) (pl mv md : Addr) (xs : List V) : Prop where
  o : H x = some (.ins C dx (nFs hm zm g sv pl mv w.tk md))
  st : StAt K H sv w.st
  hpl : H pl = some (.lst (w.pl.map V.int))
  hmv : H mv = some (.dK (w.sp.map movK))
  hmd : H md = some (.lst xs)
  td : TDs K H xs (w.md.map encM)
  ne : pl ≠ md
/-- a Night at x, all of it newer than G -/
def NightAt (K : PySem.W.Frag) (C : Addr) (G H : Hp) (x hm zm : Addr) (g : Int) (w : Wd) : Prop := ∃ dx sv pl mv md xs, NIs K C H x hm zm g w dx sv pl mv md xs ∧ Same G H ∧ G x = none ∧ G pl = none ∧ G mv = none ∧ G md = none
theorem NIs.same {K : PySem.W.Frag} {C : Addr} {H H' : Hp} {x hm zm : Addr} {g : Int} {w : Wd} {dx : Addr} {sv : V} {pl mv md : Addr} {xs : List V} (y : NIs K C H x hm zm g w dx sv pl mv md xs) (s : Same H H') : NIs K C H' x hm zm g w dx sv pl mv md xs :=
  ⟨s _ _ y.o, y.st.keep (Same.tk s), s _ _ y.hpl, s _ _ y.hmv, s _ _ y.hmd, TDs.keep (Same.tk s) y.td, y.ne⟩
theorem NightAt.same {K : PySem.W.Frag} {C : Addr} {G H H' : Hp} {x hm zm : Addr} {g : Int} {w : Wd} (y : NightAt K C G H x hm zm g w) (s : Same H H') : NightAt K C G H' x hm zm g w := by
  obtain ⟨dx, sv, pl, mv, md, xs, a, b, c⟩ := y
  exact ⟨dx, sv, pl, mv, md, xs, a.same s, b.trans s, c⟩
def spNInit (K : PySem.W.Frag) (C CS CW : Addr) : Sp := fun vs H Q _ => ∃ (x dx hm zm wa : Addr) (z : Zz) (wl : Wk), vs = [.ref x, .ref hm, .ref zm, .ref wa] ∧ H x = some (.ins C dx []) ∧ SlpAt K CS H zm z ∧ WAt K CW H wa wl ∧ WkOk wl ∧
  ∀ H' sv pl mv md xs, NIs K C H' x hm zm wl.g (wd0 z (wl.g + wl.n) wl.f) dx sv pl mv md xs → KX x H H' → H pl = none → H mv = none → H md = none → Q .non H'
def spNTick (K : PySem.W.Frag) (C CS : Addr) : Sp := fun vs H Q _ => ∃ (G : Hp) (x hm zm : Addr) (g : Int) (w : Wd) (h : Hz) (z : Zz), vs = [.ref x] ∧ NightAt K C G H x hm zm g w ∧ SlpAt K CS G zm z ∧ ∀ H', NightAt K C G H' x hm zm g (doEv h z w .tick) → Q .non H'
def spNStep (K : PySem.W.Frag) (C CS CH : Addr) : Sp := fun vs H Q _ => ∃ (G : Hp) (x hm zm : Addr) (g : Int) (w : Wd) (h : Hz) (z : Zz) (p n : Int), vs = [.ref x, .int p, .int n] ∧ NightAt K C G H x hm zm g w ∧ HAt K CH G hm h ∧ SlpAt K CS G zm z ∧ CanEv h g w (.step p n) ∧
  h.doors.length ≤ 1000 ∧ w.md.length ≤ 1000 ∧ w.sp.length ≤ 1000 ∧ ∀ H', NightAt K C G H' x hm zm g (doEv h z w (.step p n)) → Q .non H'
section
variable {P : Program} {w : World} {K : PySem.W.Frag} {mg : Str → Option Value} {base : Heap}
theorem m_Night_mk (D : Df1 K mg "Night" "Night.__init__" s_Night_init) (T : Tx K mg) (c_first_state : C8.Cal P w K mg base 2 "first_state" (spFirst K (He.ga K "Sleeper")) []) :
    C8.Mak P w K mg base 3 "Night" (He.ga K "Night") (spNInit K (He.ga K "Night") (He.ga K "Sleeper") (He.ga K "Walk")) [] := by
  refine mak_mk D sc_Night_init bd_Night_init (fun vs H Q E h => ?_) fun f cdv A outer s H vs Q E hr h => ?_
  · obtain ⟨x, dx, hm, zm, wa, z, wl, rfl, _⟩ := h
    rfl
  · obtain ⟨x, dx, hm, zm, wa, z, wl, rfl, hx, hz, ⟨dw, tw, hw, hwt⟩, ok, k⟩ := h
    have line := sizeLine_eq
    have xw : x ≠ wa := ins_ne hx hw (by show 0 ≠ 4; decide)
    refine ⟨_, (pss_cons (ps_fld (pv 0) (pv 1) rfl)
 (pss_cons (ps_fld (pv 0) (pv 2) rfl)
 (pss_cons (ps_fld (pv 0) (pe_fld (pv 3) rfl) rfl)
 (pss_cons (ps_fld (pv 0) (C8.pe_c c_first_state hr (by decide) rfl (pa_cons (pv 2) (pa_cons (pe_fld (pv 3) rfl) pa_nil))) rfl)
 (pss_cons (ps_fld (pv 0) (pe_op op_rep (pe_lst (pa_cons pe_int pa_nil)) (pe_op op_add (pe_fld (pv 3) rfl) (pe_fld (pv 3) rfl))) rfl)
 (pss_cons (ps_fld (pv 0) pe_dnewK rfl)
 (pss_cons (ps_fld (pv 0) pe_int rfl)
 (pss_one (ps_fld (pv 0) (pe_lst pa_nil) rfl))))))))), ?_⟩
    refine ⟨_, rfl, _, rfl, x, _, dx, [], rfl, hx, T.cls_Night, T.b_own_house, by decide, ?_⟩
    refine ⟨_, rfl, _, rfl, x, _, dx, _, rfl, upd_same, T.cls_Night, T.b_own_sleeper, by show 1 < 1000; decide, ?_⟩
    refine ⟨_, rfl, wa, _, dw, _, _, rfl, (by rw [upd_ne xw.symm, upd_ne xw.symm]; exact hw), T.cls_Walk, T.a_guests, rfl, _, rfl, x, _, dx, _, rfl, upd_same, T.cls_Night, T.b_guests, by show 2 < 1000; decide, ?_⟩
    rw [upd_upd, upd_upd]
    have hx1 : upd H x (.ins (He.ga K "Night") dx (putF "guests" (.int wl.g) (putF "own_sleeper" (.ref zm) (putF "own_house" (.ref hm) [])))) x = some (.ins (He.ga K "Night") dx [("own_house", .ref hm), ("own_sleeper", .ref zm), ("guests", .int wl.g)]) := upd_same
    have k1 : KX x H (upd H x (.ins (He.ga K "Night") dx (putF "guests" (.int wl.g) (putF "own_sleeper" (.ref zm) (putF "own_house" (.ref hm) []))))) := KX.put
    generalize upd H x (.ins (He.ga K "Night") dx (putF "guests" (.int wl.g) (putF "own_sleeper" (.ref zm) (putF "own_house" (.ref hm) [])))) = H1 at hx1 k1 ⊢
    have hw1 := k1 wa _ xw.symm hw
    have hz1 : SlpAt K (He.ga K "Sleeper") H1 zm z := hz.keep (k1.tk hx) fun o e => k1 zm o (by obtain ⟨_, _, _, h1, _⟩ := hz; exact ins_ne h1 hx (by show 5 ≠ 0; decide)) e
    refine ⟨_, rfl, _, rfl, wa, _, dw, _, _, rfl, hw1, T.cls_Walk, T.a_first, rfl, zm, z, wl.f, rfl, hz1, fun H2 sv s2 hsv => ?_⟩
    have hx2 := s2 _ _ hx1
    have hw2 := s2 _ _ hw1
    refine ⟨_, rfl, x, _, dx, _, rfl, hx2, T.cls_Night, T.b_state, by show 3 < 1000; decide, ?_⟩
    have k2 : KX x H (upd H2 x (.ins (He.ga K "Night") dx (putF "state" sv [("own_house", .ref hm), ("own_sleeper", .ref zm), ("guests", .int wl.g)]))) := (k1.trans (Hb.Same.kx s2)).trans KX.put
    have hx3 : upd H2 x (.ins (He.ga K "Night") dx (putF "state" sv [("own_house", .ref hm), ("own_sleeper", .ref zm), ("guests", .int wl.g)])) x = some (.ins (He.ga K "Night") dx [("own_house", .ref hm), ("own_sleeper", .ref zm), ("guests", .int wl.g), ("state", sv)]) := upd_same
    have hsv3 : StAt K (upd H2 x (.ins (He.ga K "Night") dx (putF "state" sv [("own_house", .ref hm), ("own_sleeper", .ref zm), ("guests", .int wl.g)]))) sv (firstS z wl.f) := hsv.keep (KX.tk KX.put hx2)
    generalize upd H2 x (.ins (He.ga K "Night") dx (putF "state" sv [("own_house", .ref hm), ("own_sleeper", .ref zm), ("guests", .int wl.g)])) = H3 at k2 hx3 hsv3 ⊢
    have hw3 := k2 wa _ xw.symm hw
    have g0 := ok.g0
    have n0 := ok.n0
    have few := ok.few
    refine ⟨by show 1 ≤ sizeLine; decide, fun u nu => ?_⟩
    have s4 : Same H3 (upd H3 u (.lst [.int 0])) := Same.new nu
    refine ⟨_, rfl, wa, _, dw, _, _, rfl, s4 _ _ hw3, T.cls_Walk, T.a_guests, rfl, _, rfl, wa, _, dw, _, _, rfl, s4 _ _ hw3, T.cls_Walk, T.a_nurses, rfl, _, _, rfl, rfl, u, _, _, rfl, rfl, upd_same, by omega, by omega, (by show 1 * _ ≤ _; omega), fun pl npl => ?_⟩
    rw [show (List.replicate (wl.g + wl.n).toNat [V.int 0]).flatten = (List.replicate (wl.g + wl.n).toNat (0 : Int)).map V.int by rw [List.map_replicate]; exact List.flatten_replicate_singleton]
    have s5 := s4.trans (Same.new npl (o := .lst ((List.replicate (wl.g + wl.n).toNat (0 : Int)).map V.int)))
    have hpl : upd (upd H3 u (.lst [.int 0])) pl (.lst ((List.replicate (wl.g + wl.n).toNat (0 : Int)).map V.int)) pl = some (.lst ((List.replicate (wl.g + wl.n).toNat (0 : Int)).map V.int)) := upd_same
    have npl3 : H3 pl = none := s4.free npl
    generalize upd (upd H3 u (.lst [.int 0])) pl (.lst ((List.replicate (wl.g + wl.n).toNat (0 : Int)).map V.int)) = H5 at s5 hpl ⊢
    have hx5 := s5 _ _ hx3
    have plx : pl ≠ x := fun e => by rw [e, hx3] at npl3; cases npl3
    refine ⟨_, rfl, x, _, dx, _, rfl, hx5, T.cls_Night, T.b_places, by show 4 < 1000; decide, ?_⟩
    have hx6 : upd H5 x (.ins (He.ga K "Night") dx (putF "places" (.ref pl) [("own_house", .ref hm), ("own_sleeper", .ref zm), ("guests", .int wl.g), ("state", sv)])) x = some (.ins (He.ga K "Night") dx [("own_house", .ref hm), ("own_sleeper", .ref zm), ("guests", .int wl.g), ("state", sv), ("places", .ref pl)]) := upd_same
    have k6 : KX x H3 (upd H5 x (.ins (He.ga K "Night") dx (putF "places" (.ref pl) [("own_house", .ref hm), ("own_sleeper", .ref zm), ("guests", .int wl.g), ("state", sv)]))) := (Hb.Same.kx s5).trans KX.put
    have hpl6 : upd H5 x (.ins (He.ga K "Night") dx (putF "places" (.ref pl) [("own_house", .ref hm), ("own_sleeper", .ref zm), ("guests", .int wl.g), ("state", sv)])) pl = some (.lst ((List.replicate (wl.g + wl.n).toNat (0 : Int)).map V.int)) := by rw [upd_ne plx]; exact hpl
    generalize upd H5 x (.ins (He.ga K "Night") dx (putF "places" (.ref pl) [("own_house", .ref hm), ("own_sleeper", .ref zm), ("guests", .int wl.g), ("state", sv)])) = H6 at hx6 k6 hpl6 ⊢
    intro mv nmv
    have mvx : mv ≠ x := fun e => by rw [e, hx6] at nmv; cases nmv
    have s7 : Same H6 (upd H6 mv (.dK [])) := Same.new nmv
    refine ⟨_, rfl, x, _, dx, _, rfl, s7 _ _ hx6, T.cls_Night, T.b_moved, by show 5 < 1000; decide, ?_⟩
    refine ⟨_, rfl, x, _, dx, _, rfl, upd_same, T.cls_Night, T.b_ticks, by show 6 < 1000; decide, ?_⟩
    rw [upd_upd]
    have hx8 : upd (upd H6 mv (.dK [])) x (.ins (He.ga K "Night") dx (putF "ticks" (.int 0) (putF "moved" (.ref mv) [("own_house", .ref hm), ("own_sleeper", .ref zm), ("guests", .int wl.g), ("state", sv), ("places", .ref pl)]))) x = some (.ins (He.ga K "Night") dx [("own_house", .ref hm), ("own_sleeper", .ref zm), ("guests", .int wl.g), ("state", sv), ("places", .ref pl), ("moved", .ref mv), ("ticks", .int 0)]) := upd_same
    have k8 : KX x H6 (upd (upd H6 mv (.dK [])) x (.ins (He.ga K "Night") dx (putF "ticks" (.int 0) (putF "moved" (.ref mv) [("own_house", .ref hm), ("own_sleeper", .ref zm), ("guests", .int wl.g), ("state", sv), ("places", .ref pl)])))) := (Hb.Same.kx s7).trans KX.put
    have hmv8 : upd (upd H6 mv (.dK [])) x (.ins (He.ga K "Night") dx (putF "ticks" (.int 0) (putF "moved" (.ref mv) [("own_house", .ref hm), ("own_sleeper", .ref zm), ("guests", .int wl.g), ("state", sv), ("places", .ref pl)]))) mv = some (.dK []) := by rw [upd_ne mvx]; exact upd_same
    have free6 : ∀ {b : Addr}, b ≠ x → H6 b = none → H b = none := fun {b} n e => by
      cases q : H b with
      | none => rfl
      | some o =>
        rw [k6 b o n (k2 b o n q)] at e
        cases e
    generalize upd (upd H6 mv (.dK [])) x (.ins (He.ga K "Night") dx (putF "ticks" (.int 0) (putF "moved" (.ref mv) [("own_house", .ref hm), ("own_sleeper", .ref zm), ("guests", .int wl.g), ("state", sv), ("places", .ref pl)]))) = H8 at hx8 k8 hmv8 ⊢
    refine ⟨Nat.zero_le _, fun md nmd => ?_⟩
    have mdx : md ≠ x := fun e => by rw [e, hx8] at nmd; cases nmd
    have s9 : Same H8 (upd H8 md (.lst [])) := Same.new nmd
    refine ⟨_, rfl, x, _, dx, _, rfl, s9 _ _ hx8, T.cls_Night, T.b_made, by show 7 < 1000; decide, ?_⟩
    have k9 : KX x H8 (upd (upd H8 md (.lst [])) x (.ins (He.ga K "Night") dx (putF "made" (.ref md) [("own_house", .ref hm), ("own_sleeper", .ref zm), ("guests", .int wl.g), ("state", sv), ("places", .ref pl), ("moved", .ref mv), ("ticks", .int 0)]))) := (Hb.Same.kx s9).trans KX.put
    have kall := ((k2.trans k6).trans k8).trans k9
    have tk3 := ((k6.trans k8).trans k9).tk hx3
    have hpl8 := k8 pl _ plx hpl6
    refine k _ sv pl mv md [] ⟨upd_same, hsv3.keep tk3, k9 pl _ plx hpl8, k9 mv _ mvx hmv8, ?_, .nil, fun e => ?_⟩ kall (k2.free_ plx npl3) (free6 mvx nmv) (free6 mdx ?_)
    · rw [upd_ne mdx]
      exact upd_same
    · rw [← e, hpl8] at nmd
      cases nmd
    · cases q : H6 md with
      | none => rfl
      | some o =>
        rw [k8 md o mdx q] at nmd
        cases nmd
end
end Lw
set_option Elab.async false
set_option linter.all false
set_option maxRecDepth 100000
set_option maxHeartbeats 8000000
namespace Lw
open PySem PySem.Spec PyProof.Rows L2 Hb
theorem place_at {w : Wd} {p : Int} (h : 0 ≤ p ∧ p < (w.pl.length : Nat)) : atI (w.pl.map V.int) p = some (.int (placeAt w p)) := by
  have hlt : p.toNat < w.pl.length := by omega
  have q := atI_nat (xs := w.pl.map V.int) (j := p.toNat) (v := .int (placeAt w p)) (by
    rw [List.getElem?_map, List.getElem?_eq_getElem hlt]
    unfold placeAt
    rw [List.getD_eq_getElem?_getD, List.getElem?_eq_getElem hlt]
    rfl)
  rw [show ((p.toNat : Nat) : Int) = p by omega] at q
  exact q
theorem door_get {h : Hz} {n : Int} (e : 0 ≤ n ∧ n < (h.doors.length : Nat)) : h.doors[n.toNat]? = some (doorAt h n) := by
  have hlt : n.toNat < h.doors.length := by omega
  unfold doorAt
  rw [List.getD_eq_getElem?_getD, List.getElem?_eq_getElem hlt]
  rfl
theorem beyond_can {h : Hz} {n r : Int} (e : 0 ≤ n ∧ n < (h.doors.length : Nat)) (q : r = (doorAt h n).1 ∨ r = (doorAt h n).2.1) : beyondO h.doors n r = some (behindD (doorAt h n) r) := by
  unfold beyondO behindD
  rw [door_get e]
  show (if _ then _ else _) = some (if _ then _ else _)
  by_cases e1 : r = (doorAt h n).1
  · rw [if_pos e1, if_pos e1]
  · rw [if_neg e1, if_neg e1]
    rcases q with q | q
    · exact absurd q e1
    · rw [if_pos q]
theorem ixN_in {n : Nat} {i : Int} (h0 : 0 ≤ i) (h1 : i < n) : ixN n i = some i.toNat := by
  unfold ixN
  rw [if_pos h0, if_pos h1]
theorem md_more (w : Wd) (ns : List Str) (i : Nat) (s : Str) (h : ns[i]? = some s) : (ns.take (i + 1)).map (fun s => encM (w.tk, s)) = (ns.take i).map (fun s => encM (w.tk, s)) ++ [encM (w.tk, s)] := by
  rw [List.take_add_one, h, List.map_append]
  rfl
section
variable {P : Program} {w : World} {K : PySem.W.Frag} {mg : Str → Option Value} {base : Heap}
theorem ok_tick {f : Addr} {fd : FuncData} (F : FunD K "tick" "Night.tick" (defArgs s_Night_tick) (defBody s_Night_tick) (defScope s_Night_tick) [] [] f fd) (T : Tx K mg) (c_ticked : C8.Cal P w K mg base 1 "ticked" (spSt K (He.ga K "Sleeper") tick) []) :
    FnOk P w K mg base CX0 2 f fd ["self"] (spNTick K (He.ga K "Night") (He.ga K "Sleeper")) := by
  refine F.ok sc_Night_tick (fun vs H Q E h => ?_) fun cdv A outer s H vs Q E hr h => ?_
  · obtain ⟨G, x, hm, zm, g, w, h, z, rfl, _⟩ := h
    rfl
  · obtain ⟨G, x, hm, zm, g, w, h, z, rfl, ⟨dx, sv, pl, mv, md, xs, y, sG, gx, gp, gm, gd⟩, hz, k⟩ := h
    suffices go : ∃ t, PSs (cxOf CX0 P _ K mg base N_Night_tick "Night.tick" (defScope s_Night_tick) f cdv A outer s H E).nox (defBody s_Night_tick) t ∧ t { nx := fun _ H' => Q .non H', rt := Q } (start N_Night_tick [.ref x]) H by
      obtain ⟨t, h1, h2⟩ := go
      exact ⟨t, h1.nox, h2⟩
    refine ⟨_, (pss_cons (ps_fld (pv 0) (C8.pe_c c_ticked hr (by decide) rfl (pa_cons (pe_fld (pv 0) rfl) (pa_cons (pe_fld (pv 0) rfl) pa_nil))) rfl)
 (pss_cons (ps_fldaug (pv 0) pe_int in_add)
 (pss_one (ps_fld (pv 0) pe_dnewK rfl)))), ?_⟩
    refine ⟨_, rfl, x, _, dx, _, _, rfl, y.o, T.cls_Night, T.b_own_sleeper, rfl, _, rfl, x, _, dx, _, _, rfl, y.o, T.cls_Night, T.b_state, rfl, zm, sv, z, w.st, rfl, hz.same sG, y.st, fun H1 v1 s1 hv1 => ?_⟩
    have y1 := y.same s1
    refine ⟨_, rfl, x, _, dx, _, rfl, y1.o, T.cls_Night, T.b_state, by show 8 < 1000; decide, ?_⟩
    refine ⟨_, rfl, x, _, dx, _, _, rfl, upd_same, T.cls_Night, T.b_ticks, rfl, _, _, rfl, rfl, dx, _, upd_same, by show 8 < 1000; decide, ?_⟩
    rw [upd_upd]
    have hx2 : upd H1 x (.ins (He.ga K "Night") dx (putF "ticks" (.int (w.tk + 1)) (putF "state" v1 (nFs hm zm g sv pl mv w.tk md)))) x = some (.ins (He.ga K "Night") dx (nFs hm zm g v1 pl mv (w.tk + 1) md)) := upd_same
    have k2 : KX x H1 (upd H1 x (.ins (He.ga K "Night") dx (putF "ticks" (.int (w.tk + 1)) (putF "state" v1 (nFs hm zm g sv pl mv w.tk md))))) := KX.put
    generalize upd H1 x (.ins (He.ga K "Night") dx (putF "ticks" (.int (w.tk + 1)) (putF "state" v1 (nFs hm zm g sv pl mv w.tk md)))) = H2 at hx2 k2 ⊢
    intro mv2 nmv
    have s3 : Same H2 (upd H2 mv2 (.dK [])) := Same.new nmv
    refine ⟨_, rfl, x, _, dx, _, rfl, s3 _ _ hx2, T.cls_Night, T.b_moved, by show 8 < 1000; decide, ?_⟩
    have mx : mv2 ≠ x := fun e => by rw [e, hx2] at nmv; cases nmv
    have plx : pl ≠ x := fun e => by have := y.hpl; rw [e, y.o] at this; cases this
    have mdx : md ≠ x := fun e => by have := y.hmd; rw [e, y.o] at this; cases this
    have k3 : KX x H1 (upd (upd H2 mv2 (.dK [])) x (.ins (He.ga K "Night") dx (putF "moved" (.ref mv2) (nFs hm zm g v1 pl mv (w.tk + 1) md)))) := (k2.trans (Hb.Same.kx s3)).trans KX.put
    have tk3 := k3.tk y1.o
    have gx2 : ∀ b o, G b = some o → b ≠ x := fun b o e q => by rw [q, gx] at e; cases e
    refine k _ ⟨dx, v1, pl, mv2, md, xs, ⟨upd_same, hv1.keep tk3, k3 pl _ plx y1.hpl, by rw [upd_ne mx]; exact upd_same, k3 md _ mdx y1.hmd, TDs.keep tk3 y1.td, y.ne⟩, fun b o e => k3 b o (gx2 b o e) (s1 _ _ (sG _ _ e)), gx, gp, ?_, gd⟩
    cases q : G mv2 with
    | none => rfl
    | some o =>
      rw [k2 mv2 o (gx2 _ _ q) (s1 _ _ (sG _ _ q))] at nmv
      cases nmv
theorem ok_step {f : Addr} {fd : FuncData} (F : FunD K "step" "Night.step" (defArgs s_Night_step) (defBody s_Night_step) (defScope s_Night_step) [] [] f fd) (T : Tx K mg) (c_beyond : C8.Cal P w K mg base 1 "beyond" (spBeyond K (He.ga K "House")) [])
    (c_noises_of_step : C8.Cal P w K mg base 2 "noises_of_step" (spNoises K (He.ga K "House")) []) (c_heard_all : C8.Cal P w K mg base 4 "heard_all" (spHeardAll K (He.ga K "Sleeper")) []) :
    FnOk P w K mg base CX0 5 f fd ["self", "person", "number"] (spNStep K (He.ga K "Night") (He.ga K "Sleeper") (He.ga K "House")) := by
  refine F.ok sc_Night_step (fun vs H Q E h => ?_) fun cdv A outer s H vs Q E hr h => ?_
  · obtain ⟨G, x, hm, zm, g, w, h, z, p, n, rfl, _⟩ := h
    rfl
  · obtain ⟨G, x, hm, zm, g, w, h, z, p, n, rfl, ⟨dx, sv, pl, mv, md, xs, y, sG, gx, gp, gm, gd⟩, hh, hz, ⟨pin, nin, psp, dor⟩, dfew, mfew, sfew, k⟩ := h
    have hu := hu_of hr
    have line := sizeLine_eq
    suffices go : ∃ t, PSs (cxOf CX0 P _ K mg base N_Night_step "Night.step" (defScope s_Night_step) f cdv A outer s H E).nox (defBody s_Night_step) t ∧ t { nx := fun _ H' => Q .non H', rt := Q } (start N_Night_step [.ref x, .int p, .int n]) H by
      obtain ⟨t, h1, h2⟩ := go
      exact ⟨t, h1.nox, h2⟩
    refine ⟨_, (pss_cons (ps_set (i := 3) sc_Night_step.nd rfl (Or.inl rfl) (C8.pe_c c_beyond hr (by decide) rfl (pa_cons (pe_fld (pv 0) rfl) (pa_cons (pv 2) (pa_cons (pe_ix ix_list (pe_fld (pv 0) rfl) (pv 1) (fun _ _ => rfl)) pa_nil)))))
 (pss_cons (ps_set (i := 4) sc_Night_step.nd rfl (Or.inl rfl) (C8.pe_c c_noises_of_step hr (by decide) rfl (pa_cons (pe_fld (pv 0) rfl) (pa_cons (pv 2) (pa_cons (pv 3) pa_nil)))))
 (pss_cons (ps_fld (pv 0) (C8.pe_c c_heard_all hr (by decide) rfl (pa_cons (pe_fld (pv 0) rfl) (pa_cons (pe_fld (pv 0) rfl) (pa_cons (pv 4) pa_nil)))) rfl)
 (pss_cons (ps_expr (pe_bm PySem.F.plainAttrs_list PySem.F.slot_list_extend PySem.F.type_list_extend mt_extend (pe_fld (pv 0) rfl) (pa_cons (pe_lc (own := [("noise", 5)]) (by rfl) sc_Night_step.nd (pi_tup (pv 4)) (blkOk_by (N := N_Night_step) (sc := defScope s_Night_step) (by decide +kernel)) (fun _ _ _ _ _ => (pg_name (i := 5) sc_Night_step.nd rfl (Or.inl rfl))) (fun _ _ _ _ _ => pts_nil) (fun _ _ _ _ _ => (pe_tup (pa_cons (show PE _ _ (tFld K _ "ticks") from pe_fld (pv 0) rfl) (pa_cons (pv 5) pa_nil))))) pa_nil)))
 (pss_cons (ps_asg (pv 3) (pg_sub (pe_fld (pv 0) rfl) (pv 1) set_list))
 (pss_one (ps_dput hu (pe_fld (pv 0) rfl) (pv 1) pe_bl rfl))))))), ?_⟩
    refine ⟨_, rfl, x, _, dx, _, _, rfl, y.o, T.cls_Night, T.b_own_house, rfl, _, rfl, _, rfl, x, _, dx, _, _, rfl, y.o, T.cls_Night, T.b_places, rfl, _, rfl, pl, _, p, _, rfl, rfl, SqL.of y.hpl, place_at pin, hm, h, n, placeAt w p, rfl, hh.same sG, nin.1, dfew, ?_⟩
    rw [beyond_can nin dor]
    generalize er : behindD (doorAt h n) (placeAt w p) = r
    refine ⟨_, rfl, x, _, dx, _, _, rfl, y.o, T.cls_Night, T.b_own_house, rfl, _, rfl, _, rfl, hm, h, n, r, _, rfl, hh.same sG, nin.1, door_get nin, fun H1 t s1 nt ht => ?_⟩
    generalize ens : nzStep h (doorAt h n) r = ns at ht
    have nfew : ns.length ≤ 2 := by rw [← ens]; exact nzStep_le _ _ _
    have y1 := y.same s1
    refine ⟨_, rfl, x, _, dx, _, _, rfl, y1.o, T.cls_Night, T.b_own_sleeper, rfl, _, rfl, x, _, dx, _, _, rfl, y1.o, T.cls_Night, T.b_state, rfl, _, rfl, zm, sv, t, z, w.st, ns, rfl, hz.same (sG.trans s1), y1.st, ht, fun H2 v2 s2 hv2 => ?_⟩
    have y2 := y1.same s2
    refine ⟨_, rfl, x, _, dx, _, rfl, y2.o, T.cls_Night, T.b_state, by show 8 < 1000; decide, ?_⟩
    have plx : pl ≠ x := fun e => by have := y.hpl; rw [e, y.o] at this; cases this
    have mdx : md ≠ x := fun e => by have := y.hmd; rw [e, y.o] at this; cases this
    have mvx : mv ≠ x := fun e => by have := y.hmv; rw [e, y.o] at this; cases this
    have hx3 : upd H2 x (.ins (He.ga K "Night") dx (putF "state" v2 (nFs hm zm g sv pl mv w.tk md))) x = some (.ins (He.ga K "Night") dx (nFs hm zm g v2 pl mv w.tk md)) := upd_same
    have k3 : KX x H2 (upd H2 x (.ins (He.ga K "Night") dx (putF "state" v2 (nFs hm zm g sv pl mv w.tk md)))) := KX.put
    have tk3 := k3.tk y2.o
    have ht3 := SqT.keep tk3 (SqT.keep (Same.tk s2) ht)
    have hv3 := hv2.keep tk3
    have hpl3 := k3 pl _ plx y2.hpl
    have hmd3 := k3 md _ mdx y2.hmd
    have hmv3 := k3 mv _ mvx y2.hmv
    have td3 := TDs.keep tk3 y2.td
    have gx2 : ∀ b o, G b = some o → b ≠ x := fun b o e q => by rw [q, gx] at e; cases e
    have sG3 : Same G (upd H2 x (.ins (He.ga K "Night") dx (putF "state" v2 (nFs hm zm g sv pl mv w.tk md)))) := fun b o e => k3 b o (gx2 b o e) (s2 _ _ (s1 _ _ (sG _ _ e)))
    generalize upd H2 x (.ins (He.ga K "Night") dx (putF "state" v2 (nFs hm zm g sv pl mv w.tk md))) = H3 at hx3 ht3 hv3 hpl3 hmd3 hmv3 td3 sG3 ⊢
    clear k3 tk3 y2 y1 hv2 s2 ht nt s1 H2 H1
    refine ⟨_, rfl, x, _, dx, _, _, rfl, hx3, T.cls_Night, T.b_made, rfl, .inl ⟨rfl, _, SqL.of hmd3⟩, _, rfl, t, rfl, ⟨_, ht3⟩, fun D nD => ?_⟩
    refine lc_tup (K := K) (a := t) (xs := ns.map V.str) (fun i H' => Same H3 H' ∧ ∃ acc, H' D = some (.lst acc) ∧ TDs K H' acc ((ns.take i).map fun s => encM (w.tk, s))) ⟨Same.new nD, [], upd_same, .nil⟩ (fun i H' _ q => SqT.keep (Same.tk q.1) ht3) ?_ ?_
    · rintro i v H' hv ⟨s4, acc, hD, tda⟩
      rw [List.getElem?_map] at hv
      obtain ⟨m, hm', rfl⟩ := Option.map_eq_some_iff.mp hv
      refine ⟨rfl, yes_ ⟨_, rfl, x, _, dx, _, _, rfl, s4 _ _ hx3, T.cls_Night, T.b_ticks, rfl, _, rfl, by show 2 ≤ sizeLine; decide, fun q nq => ?_⟩⟩
      have s5 : Same H' (upd H' q (.tup [.int w.tk, .str m])) := Same.new nq
      have al := tda.length
      rw [List.length_map, List.length_take] at al
      refine ⟨acc, s5 _ _ hD, by omega, Hb.Same.acc (s4.trans s5) nD, _, upd_same, ?_⟩
      rw [md_more w ns i m hm']
      have tkD := tk_acc (ys := acc ++ [.ref q]) (s5 _ _ hD)
      exact TDs.app (TDs.keep tkD (TDs.keep (Same.tk s5) tda)) (.cons (TD.keep tkD (.tup (SqT.of upd_same) (.cons (.int _) (.cons (.str _) .nil)))) .nil)
    · rintro H4 ⟨s4, acc, hD, tda⟩
      rw [List.length_map, List.take_length] at tda
      have al := tda.length
      have xl := td3.length
      rw [List.length_map] at al xl
      refine ⟨md, D, xs, acc, rfl, rfl, s4 _ _ hmd3, hD, by omega, ?_⟩
      have tk5 : TK H4 (upd H4 md (.lst (xs ++ acc))) := tk_acc (s4 _ _ hmd3)
      have hx5 : upd H4 md (.lst (xs ++ acc)) x = some (.ins (He.ga K "Night") dx (nFs hm zm g v2 pl mv w.tk md)) := by rw [upd_ne mdx.symm]; exact s4 _ _ hx3
      have hpl5 : upd H4 md (.lst (xs ++ acc)) pl = some (.lst (w.pl.map V.int)) := by rw [upd_ne y.ne]; exact s4 _ _ hpl3
      have mvd : mv ≠ md := fun e => by have := y.hmv; rw [e, y.hmd] at this; cases this
      have hmv5 : upd H4 md (.lst (xs ++ acc)) mv = some (.dK (w.sp.map movK)) := by rw [upd_ne mvd]; exact s4 _ _ hmv3
      have hmd5 : upd H4 md (.lst (xs ++ acc)) md = some (.lst (xs ++ acc)) := upd_same
      have td5 := TDs.keep tk5 (TDs.app (TDs.keep (Same.tk s4) td3) tda)
      have hv5 := (hv3.keep (Same.tk s4)).keep tk5
      have sG5 : Same G (upd H4 md (.lst (xs ++ acc))) := fun b o e => by
        rw [upd_ne (fun q => by rw [q, gd] at e; cases e)]
        exact s4 _ _ (sG3 _ _ e)
      generalize upd H4 md (.lst (xs ++ acc)) = H5 at tk5 hx5 hpl5 hmv5 hmd5 td5 hv5 sG5 ⊢
      have ix : ixN (w.pl.map V.int).length p = some p.toNat := ixN_in pin.1 (by rw [List.length_map]; exact pin.2)
      refine ⟨_, rfl, _, rfl, x, _, dx, _, _, rfl, hx5, T.cls_Night, T.b_places, rfl, _, rfl, pl, _, p, p.toNat, rfl, rfl, hpl5, ix, ?_⟩
      have tk6 : TK H5 (upd H5 pl (.lst ((w.pl.map V.int).set p.toNat (.int r)))) := tk_acc hpl5
      have mvp : mv ≠ pl := fun e => by have := y.hmv; rw [e, y.hpl] at this; cases this
      refine ⟨_, rfl, x, _, dx, _, _, rfl, (by rw [upd_ne plx.symm]; exact hx5), T.cls_Night, T.b_moved, rfl, _, rfl, mv, _, rfl, DPut.k (k := Sum.inl p) (by rw [upd_ne mvp]; exact hmv5) (by rw [List.length_map]; omega), ?_⟩
      rw [mov_put psp]
      have hmv6 : upd H5 pl (.lst ((w.pl.map V.int).set p.toNat (.int r))) mv = some (.dK (w.sp.map movK)) := by rw [upd_ne mvp]; exact hmv5
      have tk7 : TK (upd H5 pl (.lst ((w.pl.map V.int).set p.toNat (.int r)))) (upd (upd H5 pl (.lst ((w.pl.map V.int).set p.toNat (.int r)))) mv (.dK ((w.sp ++ [p]).map movK))) := TK.put hmv6 (by intro xs e; cases e) (by intro q u e; cases e)
      have tk57 := tk6.trans tk7
      refine k _ ⟨dx, v2, pl, mv, md, xs ++ acc, ⟨?_, ?_, ?_, ?_, ?_, ?_, y.ne⟩, fun b o e => ?_, gx, gp, gm, gd⟩
      · rw [upd_ne mvx.symm, upd_ne plx.symm]
        exact hx5
      · show StAt K _ v2 (rowS z w.st (nzStep h (doorAt h n) (behindD (doorAt h n) (placeAt w p))))
        rw [er, ens]
        exact hv5.keep tk57
      · rw [upd_ne mvp.symm, upd_same]
        show some (HO.lst ((w.pl.map V.int).set p.toNat (.int r))) = some (HO.lst ((w.pl.set p.toNat (behindD (doorAt h n) (placeAt w p))).map V.int))
        rw [er, List.map_set]
      · exact upd_same
      · rw [upd_ne mvd.symm, upd_ne y.ne.symm]
        exact hmd5
      · show TDs K _ (xs ++ acc) ((w.md ++ List.map (Prod.mk w.tk) (nzStep h (doorAt h n) (behindD (doorAt h n) (placeAt w p)))).map encM)
        have e : (w.md ++ List.map (Prod.mk w.tk) ns).map encM = w.md.map encM ++ ns.map fun s => encM (w.tk, s) := by
          rw [List.map_append, List.map_map]
          rfl
        rw [er, ens, e]
        exact TDs.keep tk57 td5
      · rw [upd_ne (fun q => by rw [q, gm] at e; cases e), upd_ne (fun q => by rw [q, gp] at e; cases e)]
        exact sG5 _ _ e
end
end Lw
set_option Elab.async false
set_option linter.all false
set_option maxRecDepth 100000
set_option maxHeartbeats 8000000
namespace Lw
open PySem PySem.Spec PyProof.Rows L2 Hb
theorem beyond_none {h : Hz} {n r : Int} (n0 : 0 ≤ n) : decide (intV (beyondO h.doors n r) = V.non) = !decide ((0 ≤ n ∧ n < (h.doors.length : Nat)) ∧ (r = (doorAt h n).1 ∨ r = (doorAt h n).2.1)) := by
  by_cases e : n < (h.doors.length : Nat)
  · by_cases q : r = (doorAt h n).1 ∨ r = (doorAt h n).2.1
    · rw [beyond_can ⟨n0, e⟩ q]
      have : decide ((0 ≤ n ∧ n < (h.doors.length : Nat)) ∧ (r = (doorAt h n).1 ∨ r = (doorAt h n).2.1)) = true := decide_eq_true ⟨⟨n0, e⟩, q⟩
      rw [this]
      rfl
    · have : decide ((0 ≤ n ∧ n < (h.doors.length : Nat)) ∧ (r = (doorAt h n).1 ∨ r = (doorAt h n).2.1)) = false := decide_eq_false fun z => q z.2
      rw [this]
      unfold beyondO
      rw [door_get ⟨n0, e⟩]
      show decide (intV (if _ then _ else if _ then _ else _) = _) = _
      rw [if_neg fun z => q (.inl z), if_neg fun z => q (.inr z)]
      rfl
  · have : decide ((0 ≤ n ∧ n < (h.doors.length : Nat)) ∧ (r = (doorAt h n).1 ∨ r = (doorAt h n).2.1)) = false := decide_eq_false fun z => e z.1.2
    rw [this]
    unfold beyondO
    rw [List.getElem?_eq_none (by omega)]
    rfl
def spNAllows (K : PySem.W.Frag) (C CH : Addr) : Sp := fun vs H Q _ => ∃ (G : Hp) (x q hm zm : Addr) (g : Int) (w : Wd) (h : Hz) (e : Ev), vs = [.ref x, .ref q] ∧ NightAt K C G H x hm zm g w ∧ HAt K CH G hm h ∧ SqL K H q ((evW e).map V.str) ∧
  EvOk (w.pl.length : Nat) e ∧ w.pl.length ≤ 64 ∧ h.doors.length ≤ 1000 ∧ Q (.bl (decide (CanEv h g w e))) H
def spNFollow (K : PySem.W.Frag) (C CS CH : Addr) : Sp := fun vs H Q _ => ∃ (G : Hp) (x q hm zm : Addr) (g : Int) (w : Wd) (h : Hz) (z : Zz) (e : Ev), vs = [.ref x, .ref q] ∧ NightAt K C G H x hm zm g w ∧ HAt K CH G hm h ∧ SlpAt K CS G zm z ∧ SqL K H q ((evW e).map V.str) ∧
  EvOk (w.pl.length : Nat) e ∧ w.pl.length ≤ 64 ∧ h.doors.length ≤ 1000 ∧ w.md.length ≤ 1000 ∧ w.sp.length ≤ 1000 ∧ w.st.ok ∧ CanEv h g w e ∧ ∀ H', NightAt K C G H' x hm zm g (doEv h z w e) → Q .non H'
section
variable {P : Program} {w : World} {K : PySem.W.Frag} {mg : Str → Option Value} {base : Heap}
theorem ok_allows {f : Addr} {fd : FuncData} (F : FunD K "allows" "Night.allows" (defArgs s_Night_allows) (defBody s_Night_allows) (defScope s_Night_allows) [] [] f fd) (T : Tx K mg) (c_beyond : C8.Cal P w K mg base 1 "beyond" (spBeyond K (He.ga K "House")) []) :
    FnOk P w K mg base CX0 2 f fd ["self", "words"] (spNAllows K (He.ga K "Night") (He.ga K "House")) := by
  refine F.ok sc_Night_allows (fun vs H Q E h => ?_) fun cdv A outer s H vs Q E hr h => ?_
  · obtain ⟨G, x, q, hm, zm, g, w, h, e, rfl, _⟩ := h
    rfl
  · obtain ⟨G, x, q, hm, zm, g, w, h, e, rfl, ⟨dx, sv, pl, mv, md, xs, y, sG, gx, gp, gm, gd⟩, hh, hq, eok, k64, dfew, k⟩ := h
    have hu := hu_of hr
    have line := sizeLine_eq
    obtain ⟨n1, n2, n3⟩ := lit_ne
    suffices go : ∃ t, PSs (cxOf CX0 P _ K mg base N_Night_allows "Night.allows" (defScope s_Night_allows) f cdv A outer s H E).nox (defBody s_Night_allows) t ∧ t { nx := fun _ H' => Q .non H', rt := Q } (start N_Night_allows [.ref x, .ref q]) H by
      obtain ⟨t, h1, h2⟩ := go
      exact ⟨t, h1.nox, h2⟩
    refine ⟨_, (pss_cons (ps_if (pt_cmpR op_eq (pe_ix ix_list (pv 1) pe_int (fun _ _ => rfl)) pe_str (by first | exact nomark _ | rfl))
 (pss_one (ps_ret pe_bl))
 pss_nil)
 (pss_cons (ps_set (i := 2) sc_Night_allows.nd rfl (Or.inl rfl) (pe_callTy call_int_str (by rfl) T.n_int (by decide +kernel) (pa_cons (pe_ix ix_list (pv 1) pe_int (fun _ _ => rfl)) pa_nil)))
 (pss_cons (ps_if (pt_cmpR op_eq (pe_ix ix_list (pv 1) pe_int (fun _ _ => rfl)) pe_str (by first | exact nomark _ | rfl))
 (pss_one (ps_ret (pe_and (pe_cmpR op_ge (pv 2) (pe_fld (pv 0) rfl) (by first | exact nomark _ | rfl)) (pe_one (pe_cmpR op_in_seq (pe_ix ix_list (pe_fld (pv 0) rfl) (pv 2) (fun _ _ => rfl)) (pe_fld (pe_fld (pv 0) rfl) rfl) (by first | exact nomark _ | rfl))))))
 pss_nil)
 (pss_one (ps_ret (pe_and (pe_cmp (pc_dnotin hu (pv 2) (pe_fld (pv 0) rfl)) rfl) (pe_one (pe_cmpR op_notN (C8.pe_c c_beyond hr (by decide) rfl (pa_cons (pe_fld (pv 0) rfl) (pa_cons (pe_callTy call_int_str (by rfl) T.n_int (by decide +kernel) (pa_cons (pe_ix ix_list (pv 1) pe_int (fun _ _ => rfl)) pa_nil)) (pa_cons (pe_ix ix_list (pe_fld (pv 0) rfl) (pv 2) (fun _ _ => rfl)) pa_nil)))) pe_non (by first | exact nomark _ | rfl))))))))), ?_⟩
    cases e with
    | tick =>
      refine ⟨_, rfl, q, _, 0, .str "tick", rfl, rfl, hq, rfl, rfl, _, rfl, ?_⟩
      rw [decide_eq_true rfl]
      exact iteT k
    | hum p d =>
      obtain ⟨a1, a2, a3, a4, a5⟩ := num_tI (i := p) ⟨eok.1, Int.lt_of_lt_of_le eok.2 (by omega)⟩
      refine ⟨_, rfl, q, _, 0, .str "hum", rfl, rfl, hq, rfl, rfl, _, rfl, ?_⟩
      rw [v_str_ne (show ("hum" : Str) ≠ "tick" from n3.symm)]
      refine iteF ⟨_, rfl, q, _, 1, .str (tI p), rfl, rfl, hq, rfl, tI p, p, rfl, a2, by omega, ?_⟩
      refine ⟨_, rfl, q, _, 0, .str "hum", rfl, rfl, hq, rfl, rfl, _, rfl, ?_⟩
      rw [decide_eq_true rfl]
      refine iteT ⟨_, rfl, _, rfl, x, _, dx, _, _, rfl, y.o, T.cls_Night, T.b_guests, rfl, _, _, rfl, rfl, _, rfl, ?_⟩
      by_cases hg : g ≤ p
      · rw [decide_eq_true hg]
        obtain ⟨dh, ah, bh, ch, xh, yh, hH, _, _, _, _, hc⟩ := hh.same sG
        refine iteT ⟨_, rfl, x, _, dx, _, _, rfl, y.o, T.cls_Night, T.b_places, rfl, _, rfl, pl, _, p, _, rfl, rfl, SqL.of y.hpl, place_at eok, _, rfl, x, _, dx, _, _, rfl, y.o, T.cls_Night, T.b_own_house, rfl, hm, _, dh, _, _, rfl, hH, T.cls_House, T.a_cradles, rfl, ch, _, rfl, .inr hc, rfl, flat_ints _, ?_⟩
        rw [if_neg Bool.false_ne_true, inV_ints]
        have e : decide (placeAt w p ∈ sortI h.cradles) = decide (CanEv h g w (.hum p d)) := decide_eq_decide.mpr ⟨fun z => ⟨eok, hg, (sortI_perm _).mem_iff.mp z⟩, fun z => (sortI_perm _).mem_iff.mpr z.2.2⟩
        rw [e]
        exact k
      · rw [decide_eq_false hg]
        have e : decide (CanEv h g w (.hum p d)) = false := decide_eq_false fun z => hg z.2.1
        rw [e] at k
        exact iteF k
    | step p n =>
      obtain ⟨a1, a2, a3, a4, a5⟩ := num_tI (i := p) ⟨eok.1.1, Int.lt_of_lt_of_le eok.1.2 (by omega)⟩
      obtain ⟨b1, b2, b3, b4, b5⟩ := num_tI eok.2
      refine ⟨_, rfl, q, _, 0, .str "step", rfl, rfl, hq, rfl, rfl, _, rfl, ?_⟩
      rw [v_str_ne (show ("step" : Str) ≠ "tick" from n2.symm)]
      refine iteF ⟨_, rfl, q, _, 1, .str (tI p), rfl, rfl, hq, rfl, tI p, p, rfl, a2, by omega, ?_⟩
      refine ⟨_, rfl, q, _, 0, .str "step", rfl, rfl, hq, rfl, rfl, _, rfl, ?_⟩
      rw [v_str_ne (show ("step" : Str) ≠ "hum" from n1.symm)]
      refine iteF ⟨_, rfl, _, rfl, x, _, dx, _, _, rfl, y.o, T.cls_Night, T.b_moved, rfl, mv, _, rfl, DGet.k (k := Sum.inl p) y.hmv, _, rfl, ?_⟩
      rw [mov_val]
      by_cases hp : p ∈ w.sp
      · rw [decide_eq_true hp]
        have e : decide (CanEv h g w (.step p n)) = false := decide_eq_false fun z => z.2.2.1 hp
        rw [e] at k
        exact iteF k
      · rw [decide_eq_false hp]
        refine iteT ⟨_, rfl, x, _, dx, _, _, rfl, y.o, T.cls_Night, T.b_own_house, rfl, _, rfl, q, _, 2, .str (tI n), rfl, rfl, hq, rfl, tI n, n, rfl, b2, by omega, _, rfl, x, _, dx, _, _, rfl, y.o, T.cls_Night, T.b_places, rfl, _, rfl, pl, _, p, _, rfl, rfl, SqL.of y.hpl, place_at eok.1, hm, h, n, placeAt w p, rfl, hh.same sG, eok.2.1, dfew, rfl, ?_⟩
        rw [beyond_none eok.2.1, Bool.not_not]
        have e : decide ((0 ≤ n ∧ n < (h.doors.length : Nat)) ∧ (placeAt w p = (doorAt h n).1 ∨ placeAt w p = (doorAt h n).2.1)) = decide (CanEv h g w (.step p n)) := decide_eq_decide.mpr ⟨fun z => ⟨eok.1, z.1, hp, z.2⟩, fun z => ⟨z.2.1, z.2.2.2⟩⟩
        rw [e]
        exact k
theorem ok_follow {f : Addr} {fd : FuncData} (F : FunD K "follow" "Night.follow" (defArgs s_Night_follow) (defBody s_Night_follow) (defScope s_Night_follow) [] [] f fd) (T : Tx K mg) (c_hummed : C8.Cal P w K mg base 2 "hummed" (spHum K (He.ga K "Sleeper")) [])
    (c_tick : C8.Met P w K mg base 2 (He.ga K "Night") "tick" (spNTick K (He.ga K "Night") (He.ga K "Sleeper")) []) (c_step : C8.Met P w K mg base 5 (He.ga K "Night") "step" (spNStep K (He.ga K "Night") (He.ga K "Sleeper") (He.ga K "House")) []) :
    FnOk P w K mg base CX0 6 f fd ["self", "words"] (spNFollow K (He.ga K "Night") (He.ga K "Sleeper") (He.ga K "House")) := by
  refine F.ok sc_Night_follow (fun vs H Q E h => ?_) fun cdv A outer s H vs Q E hr h => ?_
  · obtain ⟨G, x, q, hm, zm, g, w, h, z, e, rfl, _⟩ := h
    rfl
  · obtain ⟨G, x, q, hm, zm, g, w, h, z, e, rfl, hN, hh, hz, hq, eok, k64, dfew, mfew, sfew, sok, can, k⟩ := h
    have hu := hu_of hr
    obtain ⟨dx, sv, pl, mv, md, xs, y, sG, gx, gp, gm, gd⟩ := id hN
    obtain ⟨n1, n2, n3⟩ := lit_ne
    suffices go : ∃ t, PSs (cxOf CX0 P _ K mg base N_Night_follow "Night.follow" (defScope s_Night_follow) f cdv A outer s H E).nox (defBody s_Night_follow) t ∧ t { nx := fun _ H' => Q .non H', rt := Q } (start N_Night_follow [.ref x, .ref q]) H by
      obtain ⟨t, h1, h2⟩ := go
      exact ⟨t, h1.nox, h2⟩
    refine ⟨_, (pss_one (ps_if (pt_cmpR op_eq (pe_ix ix_list (pv 1) pe_int (fun _ _ => rfl)) pe_str (by first | exact nomark _ | rfl))
 (pss_one (ps_expr (C8.pe_mt0 c_tick hr (by decide) (pv 0))))
 (pss_one (ps_if (pt_cmpR op_eq (pe_ix ix_list (pv 1) pe_int (fun _ _ => rfl)) pe_str (by first | exact nomark _ | rfl))
 (pss_one (ps_fld (pv 0) (C8.pe_c c_hummed hr (by decide) rfl (pa_cons (pe_fld (pv 0) rfl) (pa_cons (pe_fld (pv 0) rfl) (pa_cons (pe_ix ix_list (pv 1) pe_int (fun _ _ => rfl)) pa_nil)))) rfl))
 (pss_one (ps_expr (C8.pe_mt c_step hr (by decide) (pv 0) (pa_cons (pe_callTy call_int_str (by rfl) T.n_int (by decide +kernel) (pa_cons (pe_ix ix_list (pv 1) pe_int (fun _ _ => rfl)) pa_nil)) (pa_cons (pe_callTy call_int_str (by rfl) T.n_int (by decide +kernel) (pa_cons (pe_ix ix_list (pv 1) pe_int (fun _ _ => rfl)) pa_nil)) pa_nil))))))))), ?_⟩
    cases e with
    | tick =>
      refine ⟨_, rfl, q, _, 0, .str "tick", rfl, rfl, hq, rfl, rfl, _, rfl, ?_⟩
      rw [decide_eq_true rfl]
      exact iteT ⟨_, rfl, x, dx, _, rfl, y.o, rfl, G, x, hm, zm, g, w, h, z, rfl, hN, hz, k⟩
    | hum p d =>
      refine ⟨_, rfl, q, _, 0, .str "hum", rfl, rfl, hq, rfl, rfl, _, rfl, ?_⟩
      rw [v_str_ne (show ("hum" : Str) ≠ "tick" from n3.symm)]
      refine iteF ⟨_, rfl, q, _, 0, .str "hum", rfl, rfl, hq, rfl, rfl, _, rfl, ?_⟩
      rw [decide_eq_true rfl]
      refine iteT ⟨_, rfl, x, _, dx, _, _, rfl, y.o, T.cls_Night, T.b_own_sleeper, rfl, _, rfl, x, _, dx, _, _, rfl, y.o, T.cls_Night, T.b_state, rfl, _, rfl, q, _, 2, .str (if d then "doze" else "up"), rfl, rfl, hq, rfl, zm, sv, z, w.st, _, rfl, hz.same sG, y.st, sok, fun H1 v1 s1 hv1 => ?_⟩
      have y1 := y.same s1
      refine ⟨_, rfl, x, _, dx, _, rfl, y1.o, T.cls_Night, T.b_state, by show 8 < 1000; decide, ?_⟩
      have plx : pl ≠ x := fun e => by have := y.hpl; rw [e, y.o] at this; cases this
      have mdx : md ≠ x := fun e => by have := y.hmd; rw [e, y.o] at this; cases this
      have mvx : mv ≠ x := fun e => by have := y.hmv; rw [e, y.o] at this; cases this
      have k3 : KX x H1 (upd H1 x (.ins (He.ga K "Night") dx (putF "state" v1 (nFs hm zm g sv pl mv w.tk md)))) := KX.put
      have tk3 := k3.tk y1.o
      exact k _ ⟨dx, v1, pl, mv, md, xs, ⟨upd_same, hv1.keep tk3, k3 pl _ plx y1.hpl, k3 mv _ mvx y1.hmv, k3 md _ mdx y1.hmd, TDs.keep tk3 y1.td, y.ne⟩, fun b o e => k3 b o (fun q => by rw [q, gx] at e; cases e) (s1 _ _ (sG _ _ e)), gx, gp, gm, gd⟩
    | step p n =>
      obtain ⟨a1, a2, a3, a4, a5⟩ := num_tI (i := p) ⟨eok.1.1, Int.lt_of_lt_of_le eok.1.2 (by omega)⟩
      obtain ⟨b1, b2, b3, b4, b5⟩ := num_tI eok.2
      refine ⟨_, rfl, q, _, 0, .str "step", rfl, rfl, hq, rfl, rfl, _, rfl, ?_⟩
      rw [v_str_ne (show ("step" : Str) ≠ "tick" from n2.symm)]
      refine iteF ⟨_, rfl, q, _, 0, .str "step", rfl, rfl, hq, rfl, rfl, _, rfl, ?_⟩
      rw [v_str_ne (show ("step" : Str) ≠ "hum" from n1.symm)]
      exact iteF ⟨_, rfl, x, dx, _, rfl, y.o, rfl, _, rfl, q, _, 1, .str (tI p), rfl, rfl, hq, rfl, tI p, p, rfl, a2, by omega, _, rfl, q, _, 2, .str (tI n), rfl, rfl, hq, rfl, tI n, n, rfl, b2, by omega, G, x, hm, zm, g, w, h, z, p, n, rfl, hN, hh, hz, can, dfew, mfew, sfew, k⟩
end
end Lw
set_option Elab.async false
set_option linter.all false
set_option maxRecDepth 100000
set_option maxHeartbeats 8000000
namespace Lw
open PySem PySem.Spec PyProof.Rows L2 Hb
def pFs (sv : V) (pl : Addr) (tk : Int) (md : Addr) (wk : Option Int) : List (Str × V) := [("state", sv), ("places", .ref pl), ("ticks", .int tk), ("made", .ref md), ("woke", intV wk)]
/-- a Played -/
def PlAt (K : PySem.W.Frag) (C : Addr) (H : Hp) (p : Addr) (w : Wd) : Prop := ∃ dx sv pl md xs, H p = some (.ins C dx (pFs sv pl w.tk md w.wk)) ∧ StAt K H sv w.st ∧ SqT K H pl (w.pl.map V.int) ∧ SqT K H md xs ∧ TDs K H xs (w.md.map encM)
theorem PlAt.same {K : PySem.W.Frag} {C : Addr} {H H' : Hp} {p : Addr} {w : Wd} (y : PlAt K C H p w) (s : Same H H') : PlAt K C H' p w := by
  obtain ⟨dx, sv, pl, md, xs, a, b, c, d, e⟩ := y
  exact ⟨dx, sv, pl, md, xs, s _ _ a, b.keep (Same.tk s), SqT.keep (Same.tk s) c, SqT.keep (Same.tk s) d, TDs.keep (Same.tk s) e⟩
def spPInit (K : PySem.W.Frag) (C : Addr) : Sp := fun vs H Q _ => ∃ (x dx : Addr) (sv : V) (pl md : Addr) (tk : Int) (wk : Option Int), vs = [.ref x, sv, .ref pl, .int tk, .ref md, intV wk] ∧ H x = some (.ins C dx []) ∧
  ∀ H', KX x H H' → H' x = some (.ins C dx (pFs sv pl tk md wk)) → Q .non H'
def spPlay (K : PySem.W.Frag) (C CH CS CW : Addr) : Sp := fun vs H Q _ => ∃ (hm zm wa : Addr) (h : Hz) (z : Zz) (g n : Int) (f : Str) (es : List Ev), vs = [.ref hm, .ref zm, .ref wa] ∧ HAt K CH H hm h ∧ SlpAt K CS H zm z ∧ WAt K CW H wa ⟨g, n, f, es.map evT⟩ ∧
  WkOk ⟨g, n, f, es.map evT⟩ ∧ (∀ e ∈ es, EvOk (g + n) e) ∧ Poss h z g (wd0 z (g + n) f) es ∧ h.doors.length ≤ 1000 ∧ es.length ≤ 400 ∧ (∀ i, (runEv h z (wd0 z (g + n) f) (es.take i)).st.ok) ∧
  ∀ H' p, Same H H' → H p = none → PlAt K C H' p (runEv h z (wd0 z (g + n) f) es) → Q (.ref p) H'
theorem intV_non (o : Option Int) : decide (intV o = V.non) = decide (o = none) := by cases o <;> simp [intV]
section
variable {P : Program} {w : World} {K : PySem.W.Frag} {mg : Str → Option Value} {base : Heap}
theorem m_Played_mk (D : Df1 K mg "Played" "Played.__init__" s_Played_init) (T : Tx K mg) : C8.Mak P w K mg base 1 "Played" (He.ga K "Played") (spPInit K (He.ga K "Played")) [] := by
  refine mak_mk D sc_Played_init bd_Played_init (fun vs H Q E h => ?_) fun f cdv A outer s H vs Q E hr h => ?_
  · obtain ⟨x, dx, sv, pl, md, tk, wk, rfl, _⟩ := h
    rfl
  · obtain ⟨x, dx, sv, pl, md, tk, wk, rfl, hx, k⟩ := h
    refine ⟨_, (pss_cons (ps_fld (pv 0) (pv 1) rfl)
 (pss_cons (ps_fld (pv 0) (pv 2) rfl)
 (pss_cons (ps_fld (pv 0) (pv 3) rfl)
 (pss_cons (ps_fld (pv 0) (pv 4) rfl)
 (pss_one (ps_fld (pv 0) (pv 5) rfl)))))), ?_⟩
    refine ⟨_, rfl, _, rfl, x, _, dx, [], rfl, hx, T.cls_Played, T.p_state, by decide, ?_⟩
    refine ⟨_, rfl, _, rfl, x, _, dx, _, rfl, upd_same, T.cls_Played, T.p_places, by show 1 < 1000; decide, ?_⟩
    refine ⟨_, rfl, _, rfl, x, _, dx, _, rfl, upd_same, T.cls_Played, T.p_ticks, by show 2 < 1000; decide, ?_⟩
    refine ⟨_, rfl, _, rfl, x, _, dx, _, rfl, upd_same, T.cls_Played, T.p_made, by show 3 < 1000; decide, ?_⟩
    refine ⟨_, rfl, _, rfl, x, _, dx, _, rfl, upd_same, T.cls_Played, T.p_woke, by show 4 < 1000; decide, ?_⟩
    rw [upd_upd, upd_upd, upd_upd, upd_upd]
    exact k _ KX.put upd_same
theorem c_play (D : Df K mg "play" s_play) (T : Tx K mg) (m_Night : C8.Mak P w K mg base 3 "Night" (He.ga K "Night") (spNInit K (He.ga K "Night") (He.ga K "Sleeper") (He.ga K "Walk")) [])
    (m_Played : C8.Mak P w K mg base 1 "Played" (He.ga K "Played") (spPInit K (He.ga K "Played")) [])
    (c_allows : C8.Met P w K mg base 2 (He.ga K "Night") "allows" (spNAllows K (He.ga K "Night") (He.ga K "House")) [])
    (c_follow : C8.Met P w K mg base 6 (He.ga K "Night") "follow" (spNFollow K (He.ga K "Night") (He.ga K "Sleeper") (He.ga K "House")) []) :
    C8.Cal P w K mg base 8 "play" (spPlay K (He.ga K "Played") (He.ga K "House") (He.ga K "Sleeper") (He.ga K "Walk")) [] := by
  refine cal_mk D sc_play bd_play (fun vs H Q E h => ?_) fun f cdv A outer s H vs Q E hr h => ?_
  · obtain ⟨hm, zm, wa, h, z, g, n, fi, es, rfl, _⟩ := h
    rfl
  · obtain ⟨hm, zm, wa, h, z, g, n, fi, es, rfl, hh, hz, hwa, wok, eok, poss, dfew, efew, sok, k⟩ := h
    have line := sizeLine_eq
    have g0 := wok.g0
    have n0 := wok.n0
    have few := wok.few
    change 0 ≤ g at g0
    change 0 ≤ n at n0
    change g + n ≤ 64 at few
    refine ⟨_, (pss_cons (ps_set (i := 3) sc_play.nd rfl (Or.inl rfl) (C8.pe_mk m_Night hr (by decide) rfl (pa_cons (pv 0) (pa_cons (pv 1) (pa_cons (pv 2) pa_nil)))))
 (pss_cons (ps_set (i := 4) sc_play.nd rfl (Or.inl rfl) pe_non)
 (pss_cons (ps_for PassesOwn.never rfl (pi_enumT (by rfl) T.n_enumerate (pa_cons (pe_fld (pv 2) rfl) pa_nil)) (pg_tup (by rfl) (pgs_cons (pg_name (i := 5) sc_play.nd rfl (Or.inl rfl)) (pgs_cons (pg_name (i := 6) sc_play.nd rfl (Or.inl rfl)) pgs_nil)))
 (pss_cons (ps_set (i := 7) sc_play.nd rfl (Or.inl rfl) (pe_split (pv 6) pe_str))
 (pss_cons (ps_if (pt_not (pt_val (C8.pe_mt c_allows hr (by decide) (pv 3) (pa_cons (pv 7) pa_nil))))
 (pss_one ps_never)
 pss_nil)
 (pss_cons (ps_expr (C8.pe_mt c_follow hr (by decide) (pv 3) (pa_cons (pv 7) pa_nil)))
 (pss_one (ps_if (PW.pt (pw_and (pt_cmpR op_isN (pv 4) pe_non (by first | exact nomark _ | rfl)) (pw_and1 (pt_cmpR (op_eqD hr.units) (pe_fld (pv 3) rfl) (pe_glob (v := .ref _) rfl T.g_WOKEN rfl) (by first | exact nomark _ | rfl)))))
 (pss_one (ps_set (i := 4) sc_play.nd rfl (Or.inl rfl) (pv 5)))
 pss_nil))))))
 (pss_one (ps_ret (C8.pe_mk m_Played hr (by decide) rfl (pa_cons (pe_fld (pv 3) rfl) (pa_cons (pe_callTy call_tuple_of (by rfl) T.n_tuple (by decide +kernel) (pa_cons (pe_fld (pv 3) rfl) pa_nil)) (pa_cons (pe_fld (pv 3) rfl) (pa_cons (pe_callTy call_tuple_of (by rfl) T.n_tuple (by decide +kernel) (pa_cons (pe_fld (pv 3) rfl) pa_nil)) (pa_cons (pv 4) pa_nil))))))))))), ?_⟩
    refine ⟨_, rfl, _, rfl, _, rfl, fun x dx nx ndx ne => ?_⟩
    have s0 : Same H (upd (upd H dx (.own x)) x (.ins (He.ga K "Night") dx [])) := fun b u e => by
      rw [upd_ne (ne_of_none e nx), upd_ne (ne_of_none e ndx)]
      exact e
    refine ⟨x, dx, hm, zm, wa, z, _, rfl, upd_same, hz.same s0, hwa.same s0, wok, fun H1 sv pl mv md xs y kx np nm nd => ⟨rfl, ?_⟩⟩
    have N0 : NightAt K (He.ga K "Night") H H1 x hm zm g (wd0 z (g + n) fi) := ⟨dx, sv, pl, mv, md, xs, y, fun b o e => kx b o (ne_of_none e nx) (s0 b o e), nx, s0.free np, s0.free nm, s0.free nd⟩
    clear y kx np nm nd s0 ne ndx xs md mv pl sv
    obtain ⟨dw, tw, hwO, hwt⟩ := hwa
    have sN : ∀ {H' : Hp} {w : Wd}, NightAt K (He.ga K "Night") H H' x hm zm g w → Same H H' := fun q => by
      obtain ⟨_, _, _, _, _, _, _, s, _⟩ := q
      exact s
    refine ⟨_, rfl, wa, _, dw, _, _, rfl, sN N0 _ _ hwO, T.cls_Walk, T.a_events, rfl, tw, _, rfl, SqT.keep (Same.tk (sN N0)) hwt, for_it walk_enumT (fun i σ H' => (∃ v5 v6 v7, σ = [some (.ref hm), some (.ref zm), some (.ref wa), some (.ref x), some (intV (runEv h z (wd0 z (g + n) fi) (es.take i)).wk), v5, v6, v7]) ∧
      NightAt K (He.ga K "Night") H H' x hm zm g (runEv h z (wd0 z (g + n) fi) (es.take i))) ⟨⟨_, _, _, rfl⟩, N0⟩ (fun i σ H' _ q => SqT.keep (Same.tk (sN q.2)) hwt) ?_ ?_⟩
    · rintro i v σ H2 H3 hi ⟨⟨v5, v6, v7, rfl⟩, N2⟩ ⟨Tp, u1, u2, rfl, nT, rfl, e1, e2⟩
      injection e1 with e1
      subst e1
      replace e2 : ((es.map evT).map V.str)[i]? = some u2 := e2
      rw [List.getElem?_map, List.getElem?_map] at e2
      obtain ⟨y, hy, rfl⟩ := Option.map_eq_some_iff.mp e2
      obtain ⟨ev, hev, rfl⟩ := Option.map_eq_some_iff.mp hy
      have evok := eok ev (List.mem_of_getElem? hev)
      have short := ev_short few evok
      have il : i < es.length := (List.getElem?_eq_some_iff.mp hev).1
      have s3 : Same H2 (upd H2 Tp (.tup [.int (i : Nat), .str (evT ev)])) := Same.new nT
      have N3 := N2.same s3
      refine ⟨Tp, _, rfl, SqT.of upd_same, rfl, _, _, rfl, _, _, rfl, rfl, ?_⟩
      generalize upd H2 Tp (.tup [.int (i : Nat), .str (evT ev)]) = H3 at N3 ⊢
      clear N2 s3 e2 hy
      refine ⟨_, rfl, ⟨_, rfl⟩, evT ev, " ", rfl, rfl, by decide +kernel, by omega, fun q nq => ?_⟩
      rw [split_ev few evok]
      have N4 := N3.same (Same.new nq (o := .lst ((evW ev).map V.str)))
      have hq : SqL K (upd H3 q (.lst ((evW ev).map V.str))) q ((evW ev).map V.str) := SqL.of upd_same
      generalize upd H3 q (.lst ((evW ev).map V.str)) = H4 at N4 hq ⊢
      clear N3 nq
      have B := WdB.run z (es := es.take i) (WdB.zero h z (k := g + n) fi)
      have tl : (es.take i).length = i := by rw [List.length_take]; omega
      rw [tl, Nat.zero_add] at B
      have can := poss.at hev
      have nx := run_next (h := h) (z := z) (w := wd0 z (g + n) fi) hev
      have sok1 := sok (i + 1)
      have sok0 := sok i
      rw [nx] at sok1
      generalize runEv h z (wd0 z (g + n) fi) (es.take i) = wd at N4 B can nx sok1 sok0 ⊢
      have evok2 : EvOk (wd.pl.length : Nat) ev := by
        rw [B.pl, Int.toNat_of_nonneg (by omega)]
        exact evok
      have pl64 : wd.pl.length ≤ 64 := by rw [B.pl]; omega
      have mfew := B.md
      have sfew := B.sp
      obtain ⟨dx4, sv4, pl4, mv4, md4, xs4, y4, sG4, gx4, _⟩ := id N4
      refine ⟨_, rfl, x, dx4, _, rfl, y4.o, rfl, _, rfl, H, x, q, hm, zm, g, wd, h, ev, rfl, N4, hh, hq, evok2, pl64, dfew, _, rfl, ?_⟩
      rw [decide_eq_true can]
      refine iteF ⟨_, rfl, x, dx4, _, rfl, y4.o, rfl, _, rfl, H, x, q, hm, zm, g, wd, h, z, ev, rfl, N4, hh, hz, hq, evok2, pl64, dfew, by omega, by omega, sok0, can, fun H5 N5 => ?_⟩
      have N5' : NightAt K (He.ga K "Night") H H5 x hm zm g (goEv h z wd ev) := by
        obtain ⟨a1, a2, a3, a4, a5, a6, a7, a8⟩ := N5
        exact ⟨a1, a2, a3, a4, a5, a6, ⟨a7.o, a7.st, a7.hpl, a7.hmv, a7.hmd, a7.td, a7.ne⟩, a8⟩
      obtain ⟨dx5, sv5, pl5, mv5, md5, xs5, y5, sG5, gx5, _⟩ := id N5
      have ewk : (goEv h z wd ev).wk = wokeAt wd (doEv h z wd ev).st := rfl
      have mn := B.mn
      refine ⟨_, rfl, rfl, _, rfl, ?_⟩
      rw [intV_non]
      by_cases e1 : wd.wk = none
      · rw [decide_eq_true e1]
        refine iteT ⟨_, rfl, x, _, dx5, _, _, rfl, y5.o, T.cls_Night, T.b_state, rfl, ?_⟩
        have hw : StAt K H5 (.ref (He.ga K "WOKEN")) .wok := ⟨_, rfl, T.t_WOKEN _⟩
        refine ⟨_, _, TD.dp y5.st.td, TD.dp hw.td, (S0.shp sok1).shaped, (S0.shp (s := .wok) trivial).shaped, _, rfl, ?_⟩
        rw [eqv_st]
        by_cases e2 : (doEv h z wd ev).st = .wok
        · rw [decide_eq_true e2]
          have e3 : (goEv h z wd ev).wk = some ((i : Nat) : Int) := by
            rw [ewk, wokeAt, if_pos ⟨e1, e2⟩, mn]
          refine iteT ⟨_, rfl, ?_, ?_⟩
          · rw [nx, e3]
            exact ⟨_, _, _, rfl⟩
          · rw [nx]
            exact N5'
        · rw [decide_eq_false e2]
          have e3 : (goEv h z wd ev).wk = wd.wk := by rw [ewk, wokeAt, if_neg (fun q => e2 q.2)]
          refine iteF ⟨?_, ?_⟩
          · rw [nx, e3]
            exact ⟨_, _, _, rfl⟩
          · rw [nx]
            exact N5'
      · rw [decide_eq_false e1]
        have e3 : (goEv h z wd ev).wk = wd.wk := by rw [ewk, wokeAt, if_neg (fun q => e1 q.1)]
        refine iteF (iteF ⟨?_, ?_⟩)
        · rw [nx, e3]
          exact ⟨_, _, _, rfl⟩
        · rw [nx]
          exact N5'
    · rintro σ H2 ⟨⟨v5, v6, v7, rfl⟩, N2⟩
      rw [List.length_map, List.length_map, List.take_length] at N2 ⊢
      obtain ⟨dx2, sv2, pl2, mv2, md2, xs2, y2, sG2, gx2, _⟩ := id N2
      refine ⟨_, rfl, x, _, dx2, _, _, rfl, y2.o, T.cls_Night, T.b_state, rfl, _, rfl, x, _, dx2, _, _, rfl, y2.o, T.cls_Night, T.b_places, rfl, pl2, _, rfl, .inl ⟨SqL.of y2.hpl, fun t1 nt1 => ?_⟩⟩
      have s3 : Same H2 (upd H2 t1 (.tup ((runEv h z (wd0 z (g + n) fi) es).pl.map V.int))) := Same.new nt1
      have h1 : upd H2 t1 (.tup ((runEv h z (wd0 z (g + n) fi) es).pl.map V.int)) t1 = some (.tup ((runEv h z (wd0 z (g + n) fi) es).pl.map V.int)) := upd_same
      have y3 := y2.same s3
      have sG3 := sG2.trans s3
      generalize upd H2 t1 (.tup ((runEv h z (wd0 z (g + n) fi) es).pl.map V.int)) = H3 at h1 y3 sG3 ⊢
      refine ⟨_, rfl, x, _, dx2, _, _, rfl, y3.o, T.cls_Night, T.b_ticks, rfl, _, rfl, x, _, dx2, _, _, rfl, y3.o, T.cls_Night, T.b_made, rfl, md2, _, rfl, .inl ⟨SqL.of y3.hmd, fun t2 nt2 => ?_⟩⟩
      have s4 : Same H3 (upd H3 t2 (.tup xs2)) := Same.new nt2
      have h2 : upd H3 t2 (.tup xs2) t2 = some (.tup xs2) := upd_same
      have y4 := y3.same s4
      have sG4 := sG3.trans s4
      have h1' := s4 _ _ h1
      generalize upd H3 t2 (.tup xs2) = H4 at h1' h2 y4 sG4 ⊢
      refine ⟨_, rfl, fun p dp np ndp ne => ?_⟩
      have s5 : Same H4 (upd (upd H4 dp (.own p)) p (.ins (He.ga K "Played") dp [])) := fun b u e => by
        rw [upd_ne (ne_of_none e np), upd_ne (ne_of_none e ndp)]
        exact e
      refine ⟨p, dp, sv2, t1, t2, _, _, rfl, upd_same, fun H' kx hp => ⟨rfl, ?_⟩⟩
      have s6 : Same H4 H' := fun b o e => kx b o (ne_of_none e np) (s5 b o e)
      exact k H' p (sG4.trans s6) (sG4.free np) ⟨dp, sv2, t1, t2, xs2, hp, y4.st.keep (Same.tk s6), SqT.of (s6 _ _ h1'), SqT.of (s6 _ _ h2), TDs.keep (Same.tk s6) y4.td⟩
end
end Lw
set_option Elab.async false
set_option linter.all false
set_option maxRecDepth 100000
set_option maxHeartbeats 8000000
namespace Lw
open PySem PySem.Spec PyProof.Rows L2 Hb
/-! ### events told, worlds below a table; the law's world and play -/
def evVsB : Ev → List V
  | .tick => [.str "tick"]
  | .hum p d => [.str "hum", .int p, .str (if d then "doze" else "up")]
  | .step p n => [.str "step", .int p, .int n]
def spEvText (K : PySem.W.Frag) : Sp := fun vs H Q _ => ∃ (a : Addr) (e : Ev) (k : Int), vs = [.ref a] ∧ SqT K H a (evVsB e) ∧ EvOk k e ∧ k ≤ 64 ∧ ∀ H', Same H H' → Q (.str (evT e)) H'
def spIsBelow (K : PySem.W.Frag) : Sp := fun vs H Q _ => ∃ (wp q : Addr) (H0 : Hp) (W : Wst) (gs : List Sg), vs = [.ref wp, .ref q] ∧ Wo K H0 H wp W ∧ TbAt K H q gs ∧ (∀ g ∈ gs, g.st.ok) ∧ W.s.ok ∧ W.rs.length ≤ 100 ∧ (∃ g ∈ gs, g.st = W.s ∧ ∀ r ∈ W.rs, r ∈ g.no) ∧ ∀ H', Same H H' → Q (.bl true) H'
def toEvW : Wev → Ev
  | .tick => .tick
  | .step p s => .step (p : Nat) s.n
theorem evV_evs (e : Wev) : evV e = evVsB (toEvW e) := by cases e <;> rfl
theorem InS.runE {h : Hz} {z : Zz} {ws : List Str} (zk : Zok z ws) : ∀ {es : List Ev} {w : Wd}, InS z w.st → InS z (runEv h z w es).st
  | [], _, i => i
  | e :: es, w, i => InS.runE zk (es := es) (w := goEv h z w e) (by
    cases e with
    | tick => exact InS.tick zk i
    | hum p d => exact (InS.hum zk i).1
    | step p n =>
      show InS z (rowS z w.st _)
      generalize nzStep h (doorAt h n) (behindD (doorAt h n) (placeAt w p)) = ns
      have go : ∀ (ns : List Str) (s : S0), InS z s → InS z (rowS z s ns) := by
        intro ns
        induction ns with
        | nil => exact fun s i => i
        | cons n ns ih => exact fun s i => ih _ (InS.hear zk i)
      exact go ns _ i)
/-- the law's world and play's -/
structure GPW (W : Wst) (w : Wd) : Prop where
  st : w.st = W.s
  pl : w.pl = W.rs
  fr : ∀ (p : Nat), W.ts[p]? = some false → (p : Int) ∉ w.sp
  ln : W.ts.length = W.rs.length
theorem GPW.start {z : Zz} {f : Str} {n : Nat} : GPW ⟨firstS z f, List.replicate n 0, List.replicate n false, 0⟩ (wd0 z (n : Int) f) := ⟨rfl, by show List.replicate ((n : Int)).toNat 0 = _; rw [Int.toNat_natCast], fun p _ q => (nomatch q), by rw [List.length_replicate, List.length_replicate]⟩
theorem GPW.go {h : Hz} {z : Zz} {W : Wst} {w : Wd} {e : Wev} (dne : ∀ x ∈ h.doors, x.1 ≠ x.2.1) (x : GPW W w) (ok : evOkW h W e) : GPW (goW z W e) (goEv h z w (toEvW e)) ∧ ∀ g, CanEv h g w (toEvW e) := by
  cases e with
  | tick =>
    refine ⟨⟨by show tick z w.st = tick z W.s; rw [x.st], x.pl, fun p _ q => (nomatch q), by show (W.rs.map _).length = _; rw [List.length_map]; rfl⟩, fun g => trivial⟩
  | step p s =>
    obtain ⟨tf, r, hr, ms⟩ := ok
    obtain ⟨ms1, le⟩ := mem_waysR.mp ms
    obtain ⟨i, d, hd, hn, alt⟩ := mem_steps2 ms1
    have dn := dne d (List.mem_of_getElem? hd)
    have hi : i < h.doors.length := (List.getElem?_eq_some_iff.mp hd).1
    have pl := (List.getElem?_eq_some_iff.mp hr).1
    have ed : doorAt h s.n = d := by
      unfold doorAt
      rw [hn, Int.toNat_natCast, List.getD_eq_getElem?_getD, hd]
      rfl
    have epl : placeAt w (p : Nat) = s.le := by
      rw [le]
      unfold placeAt
      rw [x.pl, Int.toNat_natCast, List.getD_eq_getElem?_getD, hr]
      rfl
    have eri : behindD d s.le = s.ri := by
      unfold behindD
      rcases alt with ⟨a, b, _⟩ | ⟨a, b, _⟩
      · rw [if_pos b, a]
      · rw [if_neg (fun z => dn (by rw [← z, b])), a]
    have ens : nzStep h d s.ri = s.ns := by
      rcases alt with ⟨a, _, b⟩ | ⟨a, _, b⟩ <;> rw [a, b]
    refine ⟨⟨?_, ?_, fun q hq m => ?_, ?_⟩, fun g => ⟨⟨by omega, by rw [x.pl]; omega⟩, ⟨by omega, by omega⟩, x.fr p tf, ?_⟩⟩
    · show rowS z w.st (nzStep h (doorAt h s.n) (behindD (doorAt h s.n) (placeAt w (p : Nat)))) = rowS z W.s s.ns
      rw [ed, epl, eri, ens, x.st]
    · show w.pl.set ((p : Nat) : Int).toNat (behindD (doorAt h s.n) (placeAt w (p : Nat))) = W.rs.set p s.ri
      rw [ed, epl, eri, x.pl, Int.toNat_natCast]
    · replace hq : (W.ts.set p true)[q]? = some false := hq
      replace m : (q : Int) ∈ w.sp ++ [((p : Nat) : Int)] := m
      by_cases c : p = q
      · subst c
        rw [List.getElem?_set_self (List.getElem?_eq_some_iff.mp tf).1] at hq
        cases hq
      · rw [List.getElem?_set_ne c] at hq
        rcases List.mem_append.mp m with m | m
        · exact x.fr q hq m
        · have := List.mem_singleton.mp m
          omega
    · show (W.ts.set p true).length = (W.rs.set p s.ri).length
      rw [List.length_set, List.length_set]
      exact x.ln
    · show placeAt w (p : Nat) = (doorAt h s.n).1 ∨ placeAt w (p : Nat) = (doorAt h s.n).2.1
      rw [ed, epl]
      exact alt.elim (fun q => .inl q.2.1) fun q => .inr q.2.1
section
variable {P : Program} {w : World} {K : PySem.W.Frag} {mg : Str → Option Value} {base : Heap}
theorem c_event_text (D : Df K mg "_law_event_text" s_event_text) (T : Tx K mg) : C8.Cal P w K mg base 1 "_law_event_text" (spEvText K) [] := by
  refine cal_mk D sc_event_text bd_event_text (fun vs H Q E h => ?_) fun f cdv A outer s H vs Q E hr h => ?_
  · obtain ⟨v, e, k, rfl, _⟩ := h
    rfl
  · obtain ⟨a, e, k0, rfl, ha, ok, k64, k⟩ := h
    have line := sizeLine_eq
    have len : (evVsB e).length = (evW e).length := by cases e <;> rfl
    refine ⟨_, (pss_one (ps_ret (pe_join pe_str (pe_lc (own := [("_law_one", 1)]) (by rfl) sc_event_text.nd (pi_tup (pv 0)) (blkOk_by (N := N_event_text) (sc := defScope s_event_text) (by decide +kernel)) (fun _ _ _ _ _ => (pg_name (i := 1) sc_event_text.nd rfl (Or.inl rfl))) (fun _ _ _ _ _ => pts_nil) (fun _ _ _ _ _ => (pe_callTy (show CallR _ _ (fun xs H Q => (∃ x, xs = [.str x] ∧ Q (.str x) H) ∨ ∃ i : Int, xs = [.int i] ∧ i.natAbs.log2 < 1920 ∧ Q (.str ((toString i : String) : Str)) H) from Hb.call_strV) (by rfl) T.n_str (by decide +kernel) (pa_cons (pv 1) pa_nil))))))), ?_⟩
    refine ⟨⟨_, rfl⟩, _, rfl, a, rfl, ⟨_, ha⟩, fun D nD => lc_tup (K := K) (a := a) (xs := evVsB e) (fun i H' => H' = upd H D (.lst (((evW e).take i).map V.str))) rfl (fun i H' _ q => by rw [q]; exact SqT.keep (Same.tk (Same.new nD)) ha) ?_ ?_⟩
    · rintro i x H' hx rfl
      obtain ⟨wd, hwd, hv⟩ : ∃ wd, (evW e)[i]? = some wd ∧ (x = .str wd ∨ ∃ p : Int, x = .int p ∧ tI p = wd ∧ p.natAbs.log2 < 1920) := by
        cases e with
        | tick =>
          match i, hx with
          | 0, hx => exact ⟨_, rfl, .inl (by simpa [evVsB] using hx.symm)⟩
          | (i + 1), hx => simp [evVsB] at hx
        | hum p d =>
          match i, hx with
          | 0, hx => exact ⟨_, rfl, .inl (by simpa [evVsB] using hx.symm)⟩
          | 1, hx => exact ⟨_, rfl, .inr ⟨p, by simpa [evVsB] using hx.symm, rfl, (num_tI ⟨ok.1, Int.lt_of_lt_of_le ok.2 k64⟩).2.2.2.2⟩⟩
          | 2, hx => exact ⟨_, rfl, .inl (by simpa [evVsB] using hx.symm)⟩
          | (i + 3), hx => simp [evVsB] at hx
        | step p n =>
          match i, hx with
          | 0, hx => exact ⟨_, rfl, .inl (by simpa [evVsB] using hx.symm)⟩
          | 1, hx => exact ⟨_, rfl, .inr ⟨p, by simpa [evVsB] using hx.symm, rfl, (num_tI ⟨ok.1.1, Int.lt_of_lt_of_le ok.1.2 k64⟩).2.2.2.2⟩⟩
          | 2, hx => exact ⟨_, rfl, .inr ⟨n, by simpa [evVsB] using hx.symm, rfl, (num_tI ok.2).2.2.2.2⟩⟩
          | (i + 3), hx => simp [evVsB] at hx
      have put : ∃ acc, upd H D (.lst (((evW e).take i).map V.str)) D = some (.lst acc) ∧ acc.length < sizeLine ∧ upd (upd H D (.lst (((evW e).take i).map V.str))) D (.lst (acc ++ [.str wd])) = upd H D (.lst (((evW e).take (i + 1)).map V.str)) := by
        refine ⟨_, upd_same, ?_, ?_⟩
        · have : (evW e).length ≤ 3 := by cases e <;> (simp [evW])
          rw [List.length_map, List.length_take]
          omega
        · rw [upd_upd, List.take_add_one, hwd, List.map_append]
          rfl
      rcases hv with rfl | ⟨p, rfl, rfl, lg⟩
      · exact ⟨rfl, yes_ ⟨_, rfl, .inl ⟨wd, rfl, put⟩⟩⟩
      · exact ⟨rfl, yes_ ⟨_, rfl, .inr ⟨p, rfl, lg, put⟩⟩⟩
    · rintro H' rfl
      rw [len, List.take_length]
      refine ⟨" ", D, evW e, rfl, rfl, .inl (SqL.of upd_same), ?_, k _ (Same.new nD)⟩
      obtain ⟨l1, l2, l3, l4, l5, l6⟩ := lit_len
      cases e with
      | tick => simp [evW, l3, l6]
      | hum p d =>
        have np := (num_tI ⟨ok.1, Int.lt_of_lt_of_le ok.2 k64⟩).2.2.1
        cases d <;> simp [evW, l1, l4, l5, l6] <;> omega
      | step p n =>
        have np := (num_tI ⟨ok.1.1, Int.lt_of_lt_of_le ok.1.2 k64⟩).2.2.1
        have nn := (num_tI ok.2).2.2.1
        simp [evW, l2, l6]
        omega
theorem c_is_below (D : Df K mg "_law_is_below" s_is_below) (T : Tx K mg) : C8.Cal P w K mg base 1 "_law_is_below" (spIsBelow K) [] := by
  refine cal_mk D sc_is_below bd_is_below (fun vs H Q E h => ?_) fun f cdv A outer s H vs Q E hr h => ?_
  · obtain ⟨wp, q, H0, W, gs, rfl, _⟩ := h
    rfl
  · obtain ⟨wp, q, H0, W, gs, rfl, ⟨v, ra, ta, wo⟩, tb, gok, wok, few, has, k⟩ := h
    have hu := hu_of hr
    have line := sizeLine_eq
    obtain ⟨bs, hq, tds⟩ := tb.t
    refine ⟨_, (pss_cons (ps_for PassesOwn.never rfl (pi_tup (pv 1)) (pg_tup (by rfl) (pgs_cons (pg_name (i := 2) sc_is_below.nd rfl (Or.inl rfl)) (pgs_cons (pg_name (i := 3) sc_is_below.nd rfl (Or.inl rfl)) (pgs_cons (pg_name (i := 4) sc_is_below.nd rfl (Or.inr rfl)) pgs_nil))))
 (pss_one (ps_if (PW.pt (pw_and (pt_cmpR (op_eqD hr.units) (pv 2) (pe_dget hu (pv 0) pe_str (fun _ _ => rfl)) (by first | exact nomark _ | rfl)) (pw_and1 (pt_cmpR (op_eqD hr.units) (pe_lc (own := [("_law_room", 5)]) (by rfl) sc_is_below.nd (pi_list (pe_dget hu (pv 0) pe_str (fun _ _ => rfl))) (blkOk_by (N := N_is_below) (sc := defScope s_is_below) (by decide +kernel)) (fun _ _ _ _ _ => (pg_name (i := 5) sc_is_below.nd rfl (Or.inl rfl))) (fun _ _ _ _ _ => (pts_one (pt_cmpR (show OpR _ _ (rIn K true) from op_notIn_seq) (pv 5) (pv 4) (by first | exact nomark _ | rfl)))) (fun _ _ _ _ _ => (pv 5))) (pe_lst pa_nil) (by first | exact nomark _ | rfl)))))
 (pss_one (ps_ret pe_bl))
 pss_nil)))
 (pss_one (ps_ret pe_bl))), ?_⟩
    have xl : bs.length = gs.length := by
      have := tds.length
      rw [List.length_map, List.length_map] at this
      exact this
    refine ⟨_, rfl, q, rfl, ⟨_, hq⟩, for_tup (K := K) (a := q) (xs := bs.map V.ref) (fun i σ H' => Same H H' ∧ (∃ v2 v3 v4 v5, σ = [some (.ref wp), some (.ref q), v2, v3, v4, v5]) ∧ ∀ g ∈ gs.take i, ¬ (g.st = W.s ∧ ∀ r ∈ W.rs, r ∈ g.no))
      ⟨Same.refl _, ⟨_, _, _, _, rfl⟩, fun g hg => nomatch hg⟩ (fun i σ H' _ e => SqT.keep (Same.tk e.1) hq) ?_ ?_⟩
    · rintro i x σ H1 hx ⟨s1, ⟨v2, v3, v4, v5, rfl⟩, pre⟩
      obtain ⟨g, hg, tdg⟩ := TDs.at_map (TDs.keep (Same.tk s1) tds) hx
      obtain ⟨ga, sv, be, nn, eg, h1, h2, h3, h4⟩ := TD.sg_inv tdg
      subst eg
      have gm := List.mem_of_getElem? hg
      have wo1 := wo.same s1
      have step : ¬ (g.st = W.s ∧ ∀ r ∈ W.rs, r ∈ g.no) → ∀ g' ∈ gs.take (i + 1), ¬ (g'.st = W.s ∧ ∀ r ∈ W.rs, r ∈ g'.no) := fun q g' m => by
        rw [List.take_add_one, hg] at m
        rcases List.mem_append.mp m with m | m
        · exact pre g' m
        · have : g' = g := by simpa using m
          rw [this]; exact q
      refine ⟨ga, _, rfl, h1, rfl, _, _, rfl, _, _, rfl, _, _, rfl, rfl, ?_⟩
      refine ⟨_, rfl, _, rfl, wp, v, rfl, .inl ⟨wkv v ra ta W.t, Sum.inr "state", .inl wo1.hw, rfl, rfl⟩, _, _, TD.dp h2.td, TD.dp wo1.st.td, (S0.shp (gok g gm)).shaped, (S0.shp wok).shaped, ?_⟩
      rw [eqv_st]
      by_cases c : g.st = W.s
      · rw [decide_eq_true c]
        refine ⟨_, rfl, iteT ?_⟩
        have rl : (W.rs.map V.int).length = W.rs.length := List.length_map _
        refine ⟨_, rfl, wp, .ref ra, rfl, .inl ⟨wkv v ra ta W.t, Sum.inr "rooms", .inl wo1.hw, rfl, rfl⟩, ra, rfl, ⟨_, SqL.of wo1.hr⟩, fun D nD => lc_list (K := K) (a := ra) (xs := W.rs.map V.int) (fun j H' => Same H1 H' ∧ H' D = some (.lst (((W.rs.take j).filter fun r => decide (r ∉ g.no)).map V.int))) ⟨Same.new nD, upd_same⟩ (fun j H' _ e => SqL.of (e.1 _ _ wo1.hr)) ?_ ?_⟩
        · rintro j x H2 hx2 ⟨s2, hD⟩
          rw [List.getElem?_map] at hx2
          obtain ⟨r, hr2, rfl⟩ := Option.map_eq_some_iff.mp hx2
          have nx : W.rs.take (j + 1) = W.rs.take j ++ [r] := by rw [List.take_add_one, hr2]; rfl
          refine ⟨rfl, _, rfl, _, rfl, nn, _, rfl, .inr (SqT.keep (Same.tk s2) h4), rfl, flat_ints _, _, rfl, ?_⟩
          rw [if_pos rfl, inV_ints]
          by_cases c2 : r ∈ g.no
          · rw [decide_eq_true c2]
            refine iteF ⟨s2, ?_⟩
            rw [nx, List.filter_append, List.filter_cons, if_neg (by simp [c2]), List.filter_nil, List.append_nil]
            exact hD
          · rw [decide_eq_false c2]
            have fl : (((W.rs.take j).filter fun r => decide (r ∉ g.no)).map V.int).length ≤ 100 := by
              rw [List.length_map]
              have a1 := List.length_filter_le (fun r => decide (r ∉ g.no)) (W.rs.take j)
              rw [List.length_take] at a1
              omega
            refine iteT ⟨_, rfl, _, hD, by omega, Hb.Same.acc s2 nD, ?_⟩
            rw [upd_same, nx, List.filter_append, List.filter_cons, if_pos (by simp [c2]), List.filter_nil, List.map_append]
            rfl
        · rintro H2 ⟨s2, hD⟩
          rw [rl, List.take_length] at hD
          refine ⟨Nat.zero_le _, fun p np => ?_⟩
          have s3 : Same H2 (upd H2 p (.lst [])) := Same.new np
          refine ⟨.list ((W.rs.filter fun r => decide (r ∉ g.no)).map PyData.int), .list [], .lst (SqL.of (s3 _ _ hD)) (TDs.dp (tds_ints _)), .lst (SqL.of upd_same) .nil, shaped_list (fun d hd => by obtain ⟨x, _, rfl⟩ := List.mem_map.mp hd; exact ⟨by simp [PyData.canLay0], by simp [PyData.depth]⟩), shaped_list (fun d h => by cases h), _, rfl, ?_⟩
          have s13 := (s1.trans s2).trans s3
          rw [eqv_nil]
          by_cases c2 : ∀ r ∈ W.rs, r ∈ g.no
          · have e0 : (W.rs.filter fun r => decide (r ∉ g.no)) = [] := by
              rw [List.filter_eq_nil_iff]
              intro r hr3
              simpa using c2 r hr3
            rw [e0]
            exact iteT (k _ s13)
          · have e0 : ((W.rs.filter fun r => decide (r ∉ g.no)).map PyData.int).isEmpty = false := by
              cases e : W.rs.filter fun r => decide (r ∉ g.no) with
              | nil =>
                rw [List.filter_eq_nil_iff] at e
                exact absurd (fun r hr3 => by simpa using e r hr3) c2
              | cons a l => rfl
            rw [e0]
            exact iteF ⟨s13, ⟨_, _, _, _, rfl⟩, step fun q => c2 q.2⟩
      · rw [decide_eq_false c]
        exact ⟨_, rfl, iteF ⟨s1, ⟨_, _, _, _, rfl⟩, step fun q => c q.1⟩⟩
    · rintro σ H1 ⟨s1, ⟨v2, v3, v4, v5, rfl⟩, pre⟩
      rw [List.length_map, xl, List.take_length] at pre
      obtain ⟨g, hg, e⟩ := has
      exact absurd e (pre g hg)
end
end Lw
set_option Elab.async false
set_option linter.all false
set_option maxRecDepth 100000
set_option maxHeartbeats 8000000
namespace Lw
open PySem PySem.Spec PyProof.Rows L2 Hb
section
variable {P : Program} {w : World} {K : PySem.W.Frag} {mg : Str → Option Value} {base : Heap}
abbrev XL (P : Program) (w : World) (K : PySem.W.Frag) (mg : Str → Option Value) (base : Heap) (f : Addr) (cdv : Value) (s : Shared) (H0 : Hp) : Cx := (cxOf CX0 P w K mg base N_law "law" (defScope s_law) f cdv callerA [] s H0 E0).nox
abbrev lawA : List Stmt := nthB (defBody s_law) 0
abbrev lawB : List Stmt := nthB lawA 1
theorem sqL_overB {H H1 H' : Hp} {b a : Addr} {xs : List V} (h : SqL K H a xs) (s : Same H H1) (nb : H b = none) (k : Kb b H1 H') : SqL K H' a xs := by
  rcases h with (h | ⟨o, h⟩) | h
  · exact .inl (.inl (k _ _ (ne_of_none h nb) (s _ _ h)))
  · exact .inl (.inr ⟨o, k _ _ (ne_of_none h nb) (s _ _ h)⟩)
  · exact .inr h
theorem _root_.Hb.HAt.kb {C b : Addr} {H H' : Hp} {p : Addr} {h : Hz} (x : HAt K C H p h) (bx : Box b H) (k : Kb b H H') : HAt K C H' p h := by
  have x2 := x
  obtain ⟨dx, a, b2, c, xs, ys, h1, _⟩ := x2
  obtain ⟨_, _, _, e, _⟩ := id bx
  exact x.keep (bx.tk k) fun o e2 => k _ _ (ne_of h1 e (by intro z; cases z)) e2
theorem _root_.Hb.SlpAt.kb {C b : Addr} {H H' : Hp} {p : Addr} {z : Zz} (x : SlpAt K C H p z) (bx : Box b H) (k : Kb b H H') : SlpAt K C H' p z := by
  have x2 := x
  obtain ⟨dx, t, xs, h1, _⟩ := x2
  obtain ⟨_, _, _, e, _⟩ := id bx
  exact x.keep (bx.tk k) fun o e2 => k _ _ (ne_of h1 e (by intro z; cases z)) e2
/-- a house and a sleeper, drawn and made -/
structure Bx where
  o : Addr
  p : Addr
  zo : Addr
  dk : Addr
  q : Addr
  h : Hz
  z : Zz
structure Fx (r m : Int) (W : List Str) (U : Bx) : Prop where
  hk : Hok U.h r m W
  zk : Zok U.z W
structure Kt (K : PySem.W.Frag) (b : Addr) (U : Bx) (H : Hp) : Prop where
  bx : Box b H
  ho : BHo K b H U.o U.h
  hz : BZ H U.zo U.dk U.z
  hh : HAt K (He.ga K "House") H U.p U.h
  hs : SlpAt K (He.ga K "Sleeper") H U.q U.z
section
variable {b : Addr} {U : Bx} {H H' : Hp}
theorem Kt.same (y : Kt K b U H) (s : Same H H') : Kt K b U H' := ⟨y.bx.same s, y.ho.same y.bx s, y.hz.same s, y.hh.same s, y.hs.same s⟩
end
theorem Fx.zin {r m : Int} {W : List Str} {U : Bx} (x : Fx r m W U) : Zin U.z := ⟨x.zk.nd, fun p hp => ⟨(x.zk.ok p hp).2, x.zk.srt p hp⟩, Nat.le_trans x.zk.few (by decide), x.zk.s1, x.zk.d1, x.zk.n1, x.zk.lo⟩
def W3 : List Str := ["aa", "bb", "cc"]
theorem w3_ok : ∀ w ∈ W3, PyData.strOk w = true ∧ nameB w = true := by decide +kernel
theorem w3_nd : W3.Nodup := by decide +kernel
def firsts3 : List Str := ["asleep", "dozing", "up"]
end
end Lw
set_option Elab.async false
set_option linter.all false
set_option maxRecDepth 100000
set_option maxHeartbeats 8000000
namespace Lw
open PySem PySem.Spec PyProof.Rows L2 Hb
section
variable {P : Program} {w : World} {K : PySem.W.Frag} {mg : Str → Option Value} {base : Heap}
theorem Kt.kb {b : Addr} {U : Bx} {H H' : Hp} (y : Kt K b U H) (k : Kb b H H') (bx : Box b H') : Kt K b U H' := ⟨bx, y.ho.kb y.bx k, y.hz.kb y.bx k, y.hh.kb y.bx k, y.hs.kb y.bx k⟩
/-- the world told by a standing that is reached -/
structure Sim (h : Hz) (z : Zz) (f : Str) (n : Nat) (W : Wst) (t : Nat) : Prop where
  et : W.t = (t : Int)
  ln : W.rs.length = n
  lt : W.ts.length = n
  ex : ∃ g, RchT h z f t g ∧ g.st = W.s ∧ (∀ r ∈ W.rs, r ∈ g.no) ∧ ∀ (p : Nat) r, W.rs[p]? = some r → W.ts[p]? = some false → r ∈ g.be
theorem Sim.start {h : Hz} {z : Zz} {f : Str} {n : Nat} : Sim h z f n ⟨firstS z f, List.replicate n 0, List.replicate n false, 0⟩ 0 := by
  refine ⟨rfl, List.length_replicate, List.length_replicate, _, .start, rfl, fun r hr => ?_, fun p r hp _ => ?_⟩
  · rw [(List.mem_replicate.mp hr).2]
    exact List.mem_singleton.mpr rfl
  · rw [(List.mem_replicate.mp (List.mem_of_getElem? hp)).2]
    exact List.mem_singleton.mpr rfl
theorem withR_mem {l : List Int} {r x : Int} (asc : l.Pairwise (· < ·)) : x ∈ withR l r ↔ x ∈ l ∨ x = r := by
  unfold withR
  by_cases c : r ∈ l
  · rw [if_pos c]
    exact ⟨.inl, fun q => q.elim id fun e => e ▸ c⟩
  · rw [if_neg c, sortI_ins asc c, ← (insI_perm r l).mem_iff, List.mem_append, List.mem_singleton]
theorem Sim.go {h : Hz} {z : Zz} {f : Str} {n : Nat} {W : Wst} {t : Nat} {ev : Wev} (x : Sim h z f n W t) (asc : ∀ g, RchT h z f t g → g.no.Pairwise (· < ·)) (ok : evOkW h W ev) (nw : (goW z W ev).s ≠ .wok) : ∃ t', Sim h z f n (goW z W ev) t' := by
  obtain ⟨g, rg, eg, mem, fre⟩ := x.ex
  cases ev with
  | tick =>
    have nw' : tick z g.st ≠ .wok := by rw [eg]; exact nw
    refine ⟨t + 1, by show W.t + 1 = _; rw [x.et]; omega, x.ln, by show (W.rs.map _).length = n; rw [List.length_map]; exact x.ln, ⟨tick z g.st, g.no, g.no⟩, .tick rg (by unfold bTick; rw [if_neg nw']), by rw [eg]; rfl, mem, fun p r hp _ => mem r (List.mem_of_getElem? hp)⟩
  | step p s =>
    obtain ⟨tf, r, hr, ms⟩ := ok
    obtain ⟨ms1, le⟩ := mem_waysR.mp ms
    have leb : s.le ∈ g.be := by rw [le]; exact fre p r hr tf
    have nw' : rowS z g.st s.ns ≠ .wok := by rw [eg]; exact nw
    have wm := fun q => withR_mem (r := s.ri) (x := q) (asc g rg)
    refine ⟨t, x.et, by show (W.rs.set _ _).length = n; rw [List.length_set]; exact x.ln, by show (W.ts.set _ _).length = n; rw [List.length_set]; exact x.lt, ⟨rowS z g.st s.ns, g.be, withR g.no s.ri⟩, .step rg ms1 (by unfold bStep; rw [if_pos leb, if_neg nw']), by rw [eg]; rfl, fun q hq => ?_, fun p' q hp ht => ?_⟩
    · refine (wm q).mpr ?_
      rcases List.mem_or_eq_of_mem_set hq with hq | hq
      · exact .inl (mem q hq)
      · exact .inr hq
    · show q ∈ g.be
      replace hp : (W.rs.set p s.ri)[p']? = some q := hp
      replace ht : (W.ts.set p true)[p']? = some false := ht
      by_cases c : p = p'
      · subst c
        rw [List.getElem?_set_self (List.getElem?_eq_some_iff.mp tf).1] at ht
        cases ht
      · rw [List.getElem?_set_ne c] at hp ht
        exact fre p' q hp ht
theorem paired_snoc {α β : Type} {R : α → β → Prop} : ∀ {ps : List α} {qs : List β} {p : α} {q : β}, Paired R ps qs → R p q → Paired R (ps ++ [p]) (qs ++ [q])
  | _, _, _, _, .nil, h => .cons h .nil
  | _, _, _, _, .cons h t, h2 => .cons h (paired_snoc t h2)
theorem valV_mergeN : ∀ (kvs acc : List (Key × V)) (k : Key), k ∉ kvs.map Prod.fst → valV (mergeK acc kvs) k = valV acc k
  | [], _, _, _ => rfl
  | p :: ps, acc, k, n => by
    rw [List.map_cons, List.mem_cons, not_or] at n
    show valV (mergeK (putK acc p.1 p.2) ps) k = _
    rw [valV_mergeN ps _ k n.2, valV_put, if_neg n.1]
theorem valV_merge : ∀ (kvs acc : List (Key × V)) (k : Key) (v : V), (kvs.map Prod.fst).Nodup → (k, v) ∈ kvs → valV (mergeK acc kvs) k = some v
  | [], _, _, _, _, m => nomatch m
  | p :: ps, acc, k, v, nd, m => by
    rw [List.map_cons, List.nodup_cons] at nd
    show valV (mergeK (putK acc p.1 p.2) ps) k = _
    rcases List.mem_cons.mp m with e | m
    · subst e
      rw [valV_mergeN ps _ k nd.1, valV_put, if_pos rfl]
    · exact valV_merge ps _ k v nd.2 m
end
end Lw
set_option Elab.async false
set_option linter.all false
set_option maxRecDepth 100000
set_option maxHeartbeats 8000000
namespace Lw
open PySem PySem.Spec PyProof.Rows L2 Hb
section
variable {P : Program} {w : World} {K : PySem.W.Frag} {mg : Str → Option Value} {base : Heap}
structure Cs (P : Program) (w : World) (K : PySem.W.Frag) (mg : Str → Option Value) (base : Heap) : Prop where
  c_box : C8.Cal P w K mg base 1 "_law_box" (spBox K) []
  c_take : C8.Cal P w K mg base 1 "_law_take" (spTake) []
  c_pick : C8.Cal P w K mg base 2 "_law_pick" (spPickB K) []
  c_house : C8.Cal P w K mg base 3 "_law_house" (spBHouse K) []
  c_sleeper : C8.Cal P w K mg base 3 "_law_sleeper" (spBSleeper K) []
  c_house_of : C8.Cal P w K mg base 7 "_law_house_of" (spBHome K (He.ga K "House")) []
  c_sleeper_of : C8.Cal P w K mg base 6 "_law_sleeper_of" (spBSleeperOf K (He.ga K "Sleeper")) []
  c_table : C8.Cal P w K mg base 9 "table" (spTable K) []
  c_ways : C8.Cal P w K mg base 1 "_law_ways" (spLWays K) []
  c_l_begin : C8.Cal P w K mg base 2 "_law_begin" (spLBegin K) []
  c_go : C8.Cal P w K mg base 3 "_law_go" (spLGo K) []
  c_event_text : C8.Cal P w K mg base 1 "_law_event_text" (spEvText K) []
  c_is_below : C8.Cal P w K mg base 1 "_law_is_below" (spIsBelow K) []
  m_Walk : C8.Mak P w K mg base 4 "Walk" (He.ga K "Walk") (spWInit K (He.ga K "Walk")) []
  c_play : C8.Cal P w K mg base 8 "play" (spPlay K (He.ga K "Played") (He.ga K "House") (He.ga K "Sleeper") (He.ga K "Walk")) []
abbrev RmL (s : Shared) (f : Addr) (cdv : Value) : Prop := Room 10 (callerA.deeper (envOfC "law" (defScope s_law) s.heap.objs.size f cdv))
abbrev End (b a : Addr) (D : Ends) (HE : Hp) : Prop := ∀ σ' H', (Box b H' ∧ Kb b HE H' ∧ ∃ v1 v3 v4 v5 v6 v7 v8 v9 v10 v11 v12 v13 v14 v15 v16 v17 v18 v19 v20, σ' = [some (.ref a), v1, some (.ref b), v3, v4, v5, v6, v7, v8, v9, v10, v11, v12, v13, v14, v15, v16, v17, v18, v19, v20]) → D.nx σ' H'
abbrev bodM : List Stmt := nthB lawB 7
def firsts2 : List Str := ["asleep", "dozing"]
/-- the sheets: a table for each room that is not come to -/
structure Sht (K : PySem.W.Frag) (b : Addr) (U : Bx) (st : Str) (sh : Addr) (m : Nat) (H : Hp) : Prop where
  nb : sh ≠ b
  h : ∃ xs : List V, H sh = some (.lst xs) ∧ xs.length = m ∧ ∀ (i : Nat) v, xs[i]? = some v → ∃ t x, v = .ref t ∧ SqT K H t [.int (i : Nat), x] ∧ (x = .non ∨ ∃ q gs, x = .ref q ∧ LeastT U.h U.z st (i : Nat) none ∧ TbAt K H q gs ∧ ∀ g, g ∈ gs ↔ Rch U.h U.z st g)
theorem TbAt.tk {H H' : Hp} {q : Addr} {gs : List Sg} (x : TbAt K H q gs) (s : TK H H') : TbAt K H' q gs := by
  obtain ⟨bs, a, b⟩ := x.t
  exact ⟨bs, SqT.keep s a, TDs.keep s b⟩
theorem Sht.kb {b : Addr} {U : Bx} {st : Str} {sh : Addr} {m : Nat} {H H' : Hp} (x : Sht K b U st sh m H) (bx : Box b H) (k : Kb b H H') : Sht K b U st sh m H' := by
  obtain ⟨nb, xs, h1, h2, h3⟩ := x
  have tk := bx.tk k
  refine ⟨nb, xs, k _ _ nb h1, h2, fun i v e => ?_⟩
  obtain ⟨t, x, a1, a2, a3⟩ := h3 i v e
  refine ⟨t, x, a1, SqT.keep tk a2, a3.imp id fun q => ?_⟩
  obtain ⟨q, gs, b1, b2, b3, b4⟩ := q
  exact ⟨q, gs, b1, b2, b3.tk tk, b4⟩
/-- people who walk: the world, the lines so far, play's world -/
structure Wn (K : PySem.W.Frag) (b : Addr) (U : Bx) (st : Str) (HA HB H : Hp) (wp la : Addr) (n m : Nat) (W : Wst) (es : List Wev) : Prop where
  bx : Box b H
  kb : Kb b HA H
  wo : Wo K HB H wp W
  hb : HB b ≠ none
  hla : HB la ≠ none
  hA : ∀ c, HA c ≠ none → HB c ≠ none
  nla : HA la = none
  lb : la ≠ b
  hl : H la = some (.lst ((es.map fun e => evT (toEvW e)).map V.str))
  gp : GPW W (runEv U.h U.z (wd0 U.z (n : Nat) st) (es.map toEvW))
  ps : ∀ g, Poss U.h U.z g (wd0 U.z (n : Nat) st) (es.map toEvW)
  ok : ∀ e ∈ es.map toEvW, EvOk (n : Nat) e
  el : es.length = m
  rl : W.rs.length = n
def R0 (a : Addr) (D : Ends) (σ : L2.St) (H : Hp) : Prop := ∃ (b : Addr) (HE : Hp), End b a D HE ∧ Box b H ∧ Kb b HE H ∧ ∃ v1 v3 v4 v5 v6 v7 v8 v9 v10 v11 v12 v13 v14 v15 v16 v17 v18 v19 v20, σ = [some (.ref a), v1, some (.ref b), v3, v4, v5, v6, v7, v8, v9, v10, v11, v12, v13, v14, v15, v16, v17, v18, v19, v20]
def Sl (a b : Addr) (U : Bx) (st : Str) (sh : Addr) (v1 v3 v10 v11 v12 v13 v14 v15 v16 v17 v18 v19 v20 : Option V) : L2.St := [some (.ref a), v1, some (.ref b), v3, some (.ref U.o), some (.ref U.zo), some (.ref U.p), some (.ref U.q), some (.str st), some (.ref sh), v10, v11, v12, v13, v14, v15, v16, v17, v18, v19, v20]
def R5 (K : PySem.W.Frag) (a : Addr) (D : Ends) (σ : L2.St) (H : Hp) : Prop := ∃ (b : Addr) (HE : Hp) (U : Bx) (st : Str) (sh : Addr), End b a D HE ∧ Fx 4 7 W3 U ∧ st ∈ firsts3 ∧ Kt K b U H ∧ Kb b HE H ∧ Sht K b U st sh U.h.rooms.toNat H ∧ ∃ v1 v3 v10 v11 v12 v13 v14 v15 v16 v17 v18 v19 v20, σ = Sl a b U st sh v1 v3 v10 v11 v12 v13 v14 v15 v16 v17 v18 v19 v20
def R8 (K : PySem.W.Frag) (a : Addr) (D : Ends) (σ : L2.St) (H : Hp) : Prop := ∃ (b : Addr) (HE : Hp) (U : Bx) (st : Str) (sh : Addr) (HA HB : Hp) (wp la : Addr) (n m : Nat) (W : Wst) (es : List Wev), End b a D HE ∧ Fx 4 7 W3 U ∧ st ∈ firsts3 ∧ Kt K b U HA ∧ Kb b HE HA ∧ 1 ≤ n ∧ n ≤ 4 ∧ m ≤ 24 ∧ Wn K b U st HA HB H wp la n m W es ∧ ∃ v1 v3 v10 v14 v15 v16 v17 v18 v19 v20, σ = Sl a b U st sh v1 v3 v10 (some (.int (n : Nat))) (some (.ref wp)) (some (.ref la)) v14 v15 v16 v17 v18 v19 v20
def BM (K : PySem.W.Frag) (a : Addr) (D : Ends) (σ : L2.St) (H : Hp) : Prop := ∃ (b : Addr) (U : Bx) (st : Str) (sh : Addr) (HA HB : Hp) (wp la : Addr) (n m : Nat) (W : Wst) (es : List Wev) (t : Nat) (v1 v3 v10 v14 v15 v16 v17 v18 v19 v20 : Option V), Fx 4 7 W3 U ∧ Kt K b U HA ∧ Sht K b U st sh U.h.rooms.toNat HA ∧ 1 ≤ n ∧ n ≤ 4 ∧ m < 24 ∧ Wn K b U st HA HB H wp la n m W es ∧ Sim U.h U.z st n W t ∧ σ = Sl a b U st sh v1 v3 v10 (some (.int (n : Nat))) (some (.ref wp)) (some (.ref la)) v14 v15 v16 v17 v18 v19 v20 ∧
  (∀ σ' H' W' es' t', Wn K b U st HA HB H' wp la n (m + 1) W' es' → Sim U.h U.z st n W' t' → (∃ v10 v14 v15 v16 v17 v18 v19, σ' = Sl a b U st sh v1 v3 v10 (some (.int (n : Nat))) (some (.ref wp)) (some (.ref la)) v14 v15 v16 v17 v18 v19 v20) → D.nx σ' H') ∧
  ∀ σ' H' W' es', Wn K b U st HA HB H' wp la n (m + 1) W' es' → (∃ v10 v14 v15 v16 v17 v18 v19, σ' = Sl a b U st sh v1 v3 v10 (some (.int (n : Nat))) (some (.ref wp)) (some (.ref la)) v14 v15 v16 v17 v18 v19 v20) → D.bk σ' H'
def RM (K : PySem.W.Frag) (a : Addr) (D : Ends) (σ : L2.St) (H : Hp) : Prop := ∃ (b : Addr) (U : Bx) (st : Str) (sh : Addr) (HA HB : Hp) (wp la ep : Addr) (n m : Nat) (W : Wst) (es : List Wev) (t : Nat) (e : Wev) (v1 v3 v10 v14 v15 v16 v17 v19 v20 : Option V), Fx 4 7 W3 U ∧ Kt K b U HA ∧ Sht K b U st sh U.h.rooms.toNat HA ∧ 1 ≤ n ∧ n ≤ 4 ∧ m < 24 ∧ Wn K b U st HA HB H wp la n m W es ∧ Sim U.h U.z st n W t ∧ SqT K H ep (evV e) ∧ evOkW U.h W e ∧ σ = Sl a b U st sh v1 v3 v10 (some (.int (n : Nat))) (some (.ref wp)) (some (.ref la)) v14 v15 v16 v17 (some (.ref ep)) v19 v20 ∧
  (∀ σ' H' W' es' t', Wn K b U st HA HB H' wp la n (m + 1) W' es' → Sim U.h U.z st n W' t' → (∃ v10 v14 v15 v16 v17 v18 v19, σ' = Sl a b U st sh v1 v3 v10 (some (.int (n : Nat))) (some (.ref wp)) (some (.ref la)) v14 v15 v16 v17 v18 v19 v20) → D.nx σ' H') ∧
  ∀ σ' H' W' es', Wn K b U st HA HB H' wp la n (m + 1) W' es' → (∃ v10 v14 v15 v16 v17 v18 v19, σ' = Sl a b U st sh v1 v3 v10 (some (.int (n : Nat))) (some (.ref wp)) (some (.ref la)) v14 v15 v16 v17 v18 v19 v20) → D.bk σ' H'
section
variable {b wp la : Addr} {U : Bx} {st : Str} {HA HB H H' : Hp} {n m : Nat} {W : Wst} {es : List Wev}
theorem Wn.box (x : Wn K b U st HA HB H wp la n m W es) (bx' : Box b H') (k : Kb b H H') : Wn K b U st HA HB H' wp la n m W es :=
  ⟨bx', x.kb.trans k, x.wo.kb x.hb x.bx bx' k, x.hb, x.hla, x.hA, x.nla, x.lb, k _ _ x.lb x.hl, x.gp, x.ps, x.ok, x.el, x.rl⟩
theorem Wn.same (x : Wn K b U st HA HB H wp la n m W es) (s : Same H H') : Wn K b U st HA HB H' wp la n m W es := x.box (x.bx.same s) (Kb.same s)
end
end
end Lw
set_option Elab.async false
set_option linter.all false
set_option maxRecDepth 100000
set_option maxHeartbeats 8000000
namespace Lw
open PySem PySem.Spec PyProof.Rows L2 Hb
section
variable {P : Program} {w : World} {K : PySem.W.Frag} {mg : Str → Option Value} {base : Heap}
theorem part1 (T : Tx K mg) (C : Cs P w K mg base) {f : Addr} {cdv : Value} {s : Shared} {H0 : Hp} (hr : RmL s f cdv) {a : Addr} (next : Part (XL P w K mg base f cdv s H0) (lawB.drop 5) (R5 K a)) : Part (XL P w K mg base f cdv s H0) (lawB.drop 0) (R0 a) := by
  have hu := hu_of hr
  have h64 := hr.units
  have line := sizeLine_eq
  have hg : (XL P w K mg base f cdv s H0).A.guards = some [] := rfl
  obtain ⟨c_box, c_take, c_pick, c_house, c_sleeper, c_house_of, c_sleeper_of, c_table, c_ways, c_l_begin, c_go, c_event_text, c_is_below, m_Walk, c_play⟩ := C
  obtain ⟨tN, hN, next⟩ := next
  refine ⟨_, (pss_cons (ps_set (i := 4) sc_law.nd rfl (Or.inl rfl) (C8.pe_c c_house hr (by decide) rfl (pa_cons (pv 2) (pa_cons pe_int (pa_cons pe_int (pa_cons (pe_lst (pa_cons pe_str (pa_cons pe_str (pa_cons pe_str pa_nil)))) pa_nil))))))
 (pss_cons (ps_set (i := 5) sc_law.nd rfl (Or.inl rfl) (C8.pe_c c_sleeper hr (by decide) rfl (pa_cons (pv 2) (pa_cons (pe_lst (pa_cons pe_str (pa_cons pe_str (pa_cons pe_str pa_nil)))) (pa_cons pe_int pa_nil)))))
 (pss_cons (ps_asg (pe_tup (pa_cons (C8.pe_c c_house_of hr (by decide) rfl (pa_cons (pv 4) pa_nil)) (pa_cons (C8.pe_c c_sleeper_of hr (by decide) rfl (pa_cons (pv 5) pa_nil)) pa_nil))) (pg_tup (by rfl) (pgs_cons (pg_name (i := 6) sc_law.nd rfl (Or.inr rfl)) (pgs_cons (pg_name (i := 7) sc_law.nd rfl (Or.inr rfl)) pgs_nil))))
 (pss_cons (ps_set (i := 8) sc_law.nd rfl (Or.inr rfl) (C8.pe_c c_pick hr (by decide) rfl (pa_cons (pv 2) (pa_cons (pe_lst (pa_cons pe_str (pa_cons pe_str pa_nil))) pa_nil))))
 (pss_cons (ps_setLc (i := 9) (own := [("_law_room", 10)]) (by rfl) sc_law.nd rfl rfl (sw_true rfl rfl rfl (by decide +kernel)) (pi_range1 (by rfl) T.n_range (pa_cons (pe_ix ix_tup (pv 4) pe_int (fun _ _ => rfl)) pa_nil)) (blkOk_by (N := N_law) (sc := defScope s_law) (by decide +kernel)) (fun _ _ _ _ _ => (pg_name (i := 10) sc_law.nd rfl (Or.inl rfl))) (fun _ _ _ _ _ => pts_nil) (fun _ _ _ _ _ => (pe_tup (pa_cons (pv 10) (pa_cons (C8.pe_c c_table hr (by decide) rfl (pa_cons (pv 6) (pa_cons (pv 7) (pa_cons (pv 8) (pa_cons (pv 10) pa_nil))))) pa_nil)))))
 hN))))), ?_⟩
  rintro DE σ H1 ⟨b, HE, hE, bx, kE, v1, v3, v4, v5, v6, v7, v8, v9, v10, v11, v12, v13, v14, v15, v16, v17, v18, v19, v20, rfl⟩
  refine ⟨_, rfl, by show 3 ≤ sizeLine; omega, fun l nl => ?_⟩
  have sA : Same H1 (upd H1 l (.lst (W3.map V.str))) := Same.new nl
  refine ⟨b, l, 4, 3, W3, rfl, bx.same sA, upd_same, bx.ne nl, by decide, by decide, by decide, by decide, by decide, by decide, fun H2 o h b2 k2 no ho hk => ?_⟩
  have kA : Kb b H1 H2 := (Kb.same sA : Kb b H1 _).trans k2
  clear k2 sA nl no
  refine ⟨_, rfl, by show 3 ≤ sizeLine; omega, fun l nl => ?_⟩
  have sA : Same H2 (upd H2 l (.lst (W3.map V.str))) := Same.new nl
  refine ⟨b, l, 4, W3, rfl, b2.same sA, upd_same, b2.ne nl, w3_nd, w3_ok, by decide, by decide, by decide, fun H3 zo dk z b3 k3 nzo ndk hz zk zs zd => ?_⟩
  have kB : Kb b H2 H3 := (Kb.same sA : Kb b H2 _).trans k3
  clear k3 sA nl nzo ndk
  have ho3 := ho.kb b2 kB
  have hin : Hin h := hk.hin (by decide) (by decide) fun w hw => (w3_ok w hw).2
  have fx : Fx 4 7 W3 ⟨o, o, zo, dk, o, h, z⟩ := ⟨hk, zk⟩
  refine ⟨_, rfl, b, o, h, rfl, ho3, hin, fun H4 p s4 np hh => ?_⟩
  refine ⟨_, rfl, zo, dk, z, rfl, hz.same s4, fx.zin, fun p hp => (zk.ok p hp).1, fun H5 q s5 nq hs => ?_⟩
  refine ⟨by show 2 ≤ sizeLine; omega, fun tp ntp => ⟨tp, _, rfl, SqT.of upd_same, rfl, _, _, rfl, _, _, rfl, rfl, ?_⟩⟩
  have s6 : Same H5 (upd H5 tp (.tup [.ref p, .ref q])) := Same.new ntp
  generalize upd H5 tp (.tup [.ref p, .ref q]) = H6 at s6 ⊢
  have s36 := (s4.trans s5).trans s6
  have b6 := b3.same s36
  refine ⟨_, rfl, by show 2 ≤ sizeLine; omega, fun l3 nl3 => ?_⟩
  have s7 : Same H6 (upd H6 l3 (.lst (firsts2.map V.str))) := Same.new nl3
  refine ⟨b, l3, firsts2.map V.str, rfl, b6.same s7, .inl ⟨upd_same, b6.ne nl3⟩, by decide, by decide, fun H8 v hv b8 k8 => ?_⟩
  obtain ⟨st, hst2, rfl⟩ := List.mem_map.mp hv
  have hst : st ∈ firsts3 := by
    have : firsts3 = firsts2 ++ [("up" : Str)] := rfl
    rw [this]
    exact List.mem_append_left _ hst2
  have k38 : Kb b H3 H8 := (Kb.same (s36.trans s7)).trans k8
  have k58 : Kb b H5 H8 := (Kb.same (s6.trans s7)).trans k8
  have kt8 : Kt K b ⟨o, p, zo, dk, q, h, z⟩ H8 := ⟨b8, ho3.kb b3 k38, hz.kb b3 k38, (hh.same s5).kb (b3.same (s4.trans s5)) k58, hs.kb (b3.same (s4.trans s5)) k58⟩
  obtain ⟨n, hn, n1, n6, hd⟩ := hok_nat hk (by decide)
  have un := unr_drawn (h := h) (n := n) st zk (by decide) n1 n6 hd
  have dm := hk.dm
  obtain ⟨p', q', c', xs', ys', hx⟩ := kt8.ho
  have ktho := kt8.ho
  have r1 := hk.r1
  have r2 := hk.r2
  refine ⟨_, rfl, o, _, 0, _, rfl, rfl, hx.ho, rfl, h.rooms, rfl, by omega, by omega, fun sh nsh => lc_range (lo := 0) (n := h.rooms.toNat) (fun i H' => Same H8 H' ∧ ∃ xs : List V, H' sh = some (.lst xs) ∧ xs.length = i ∧ ∀ (j : Nat) v, xs[j]? = some v → ∃ t x, v = .ref t ∧ SqT K H' t [.int (j : Nat), x] ∧ (x = .non ∨ ∃ q gs, x = .ref q ∧ LeastT h z st (j : Nat) none ∧ TbAt K H' q gs ∧ ∀ g, g ∈ gs ↔ Rch h z st g)) ⟨Same.new nsh, [], upd_same, rfl, fun j v e => nomatch e⟩ ?_ ?_⟩
  · rintro i HA hi ⟨sA, xs, hD, xl, at_⟩
    have ktA := kt8.same sA
    have fin : ∀ (HB : Hp) (x : V), Same HA HB → (x = .non ∨ ∃ q gs, x = .ref q ∧ LeastT h z st (i : Nat) none ∧ TbAt K HB q gs ∧ ∀ g, g ∈ gs ↔ Rch h z st g) → ∀ t, HB t = none →
        ∃ acc, upd HB t (.tup [.int (0 + (i : Nat)), x]) sh = some (.lst acc) ∧ acc.length < sizeLine ∧ Same H8 (upd (upd HB t (.tup [.int (0 + (i : Nat)), x])) sh (.lst (acc ++ [V.ref t]))) ∧ ∃ xs : List V, upd (upd HB t (.tup [.int (0 + (i : Nat)), x])) sh (.lst (acc ++ [V.ref t])) sh = some (.lst xs) ∧ xs.length = i + 1 ∧ ∀ (j : Nat) v, xs[j]? = some v → ∃ u y, v = .ref u ∧ SqT K (upd (upd HB t (.tup [.int (0 + (i : Nat)), x])) sh (.lst (acc ++ [V.ref t]))) u [.int (j : Nat), y] ∧ (y = .non ∨ ∃ q gs, y = .ref q ∧ LeastT h z st (j : Nat) none ∧ TbAt K (upd (upd HB t (.tup [.int (0 + (i : Nat)), x])) sh (.lst (acc ++ [V.ref t]))) q gs ∧ ∀ g, g ∈ gs ↔ Rch h z st g) := by
      intro HB x sB hx t nt
      have sC : Same HB (upd HB t (.tup [.int (0 + (i : Nat)), x])) := Same.new nt
      have htC : upd HB t (.tup [.int (0 + (i : Nat)), x]) t = some (.tup [.int (i : Nat), x]) := by rw [upd_same, Int.zero_add]
      have tsh : t ≠ sh := (ne_of_none (sB _ _ hD) nt).symm
      generalize upd HB t (.tup [.int (0 + (i : Nat)), x]) = HC at sC htC ⊢
      have hD2 := sC _ _ (sB _ _ hD)
      have tk := tk_acc (ys := xs ++ [V.ref t]) hD2
      have tkA : TK HA (upd HC sh (.lst (xs ++ [V.ref t]))) := ⟨fun c ys e => tk.1 c ys ((Same.tk (sB.trans sC)).1 c ys e), fun c o u e => tk.2 c o u ((Same.tk (sB.trans sC)).2 c o u e)⟩
      refine ⟨xs, hD2, by omega, Hb.Same.acc (sA.trans (sB.trans sC)) nsh, xs ++ [V.ref t], upd_same, by rw [List.length_append, xl]; rfl, fun j v e => ?_⟩
      by_cases c : j < xs.length
      · rw [List.getElem?_append_left c] at e
        obtain ⟨u, y, a1, a2, a3⟩ := at_ j v e
        refine ⟨u, y, a1, SqT.keep tkA a2, a3.imp id fun q => ?_⟩
        obtain ⟨q, gs, b1, b2, b3, b4⟩ := q
        exact ⟨q, gs, b1, b2, b3.tk tkA, b4⟩
      · have cj : j = i := by
          have := (List.getElem?_eq_some_iff.mp e).1
          rw [List.length_append] at this
          have : ([V.ref t] : List V).length = 1 := rfl
          omega
        subst cj
        rw [List.getElem?_append_right (by omega), xl, Nat.sub_self] at e
        obtain rfl := Option.some.inj e
        refine ⟨t, x, rfl, SqT.of (by rw [upd_ne tsh]; exact htC), hx.imp id fun q => ?_⟩
        obtain ⟨q, gs, b1, b2, b3, b4⟩ := q
        exact ⟨q, gs, b1, b2, (b3.same sC).tk tk, b4⟩
    have ez : (0 : Int) + ((i : Nat) : Int) = ((i : Nat) : Int) := Int.zero_add _
    refine ⟨rfl, yes_ ⟨_, rfl, _, rfl, _, rfl, _, rfl, _, rfl, p, q, h, z, st, uni (ssZ z W3) n, n, 0 + (i : Nat), rfl, ktA.hh, ktA.hs, by omega, un, fun HB qt gs sB le tb nd mem gl => ?_, fun HB t sB le => ?_⟩⟩
    · rw [ez] at le
      exact ⟨by show 2 ≤ sizeLine; omega, fun t nt => fin HB (.ref qt) sB (.inr ⟨qt, gs, rfl, le, tb, mem⟩) t nt⟩
    · exact ⟨by show 2 ≤ sizeLine; omega, fun t nt => fin HB .non sB (.inl rfl) t nt⟩
  · rintro HA ⟨sA, xs, hD, xl, at_⟩
    refine next _ _ _ ⟨b, HE, ⟨o, p, zo, dk, q, h, z⟩, st, sh, hE, ⟨hk, zk⟩, hst, kt8.same sA, ((kE.trans kA).trans kB).trans (k38.trans (Kb.same sA)), ⟨b8.ne nsh, xs, hD, xl, at_⟩, _, _, _, _, _, _, _, _, _, _, _, _, _, rfl⟩
end
end Lw
set_option Elab.async false
set_option linter.all false
set_option maxRecDepth 100000
set_option maxHeartbeats 8000000
namespace Lw
open PySem PySem.Spec PyProof.Rows L2 Hb
section
variable {P : Program} {w : World} {K : PySem.W.Frag} {mg : Str → Option Value} {base : Heap}
theorem part5 (T : Tx K mg) (C : Cs P w K mg base) {f : Addr} {cdv : Value} {s : Shared} {H0 : Hp} (hr : RmL s f cdv) {a : Addr} (hM : Part (XL P w K mg base f cdv s H0) bodM (BM K a)) (next : Part (XL P w K mg base f cdv s H0) (lawB.drop 8) (R8 K a)) : Part (XL P w K mg base f cdv s H0) (lawB.drop 5) (R5 K a) := by
  have hu := hu_of hr
  have h64 := hr.units
  have line := sizeLine_eq
  have hg : (XL P w K mg base f cdv s H0).A.guards = some [] := rfl
  obtain ⟨c_box, c_take, c_pick, c_house, c_sleeper, c_house_of, c_sleeper_of, c_table, c_ways, c_l_begin, c_go, c_event_text, c_is_below, m_Walk, c_play⟩ := C
  obtain ⟨tN, hN, next⟩ := next
  obtain ⟨tM, hM, kM⟩ := hM
  refine ⟨_, (pss_cons (ps_set (i := 11) sc_law.nd rfl (Or.inl rfl) (pe_op op_add pe_int (C8.pe_c c_take hr (by decide) rfl (pa_cons (pv 2) (pa_cons pe_int pa_nil)))))
 (pss_cons (ps_par (i := 12) (j := 13) (by rfl) sc_law.nd rfl rfl (by decide) rfl rfl (pa_cons (C8.pe_c c_l_begin hr (by decide) rfl (pa_cons (pv 4) (pa_cons (pv 5) (pa_cons (pv 11) (pa_cons (pv 8) pa_nil))))) (pa_cons (pe_lst pa_nil) pa_nil)) (by rfl))
 (pss_cons (ps_for PassesOwn.never rfl (pi_range1 (by rfl) T.n_range (pa_cons pe_int pa_nil)) (pg_name (i := 14) sc_law.nd rfl (Or.inl rfl))
 hM)
 hN))), ?_⟩
  rintro DE σ H1 ⟨b, HE, U, st, sh, hE, fx, hst, kt, kE, sht, v1, v3, v10, v11, v12, v13, v14, v15, v16, v17, v18, v19, v20, rfl⟩
  refine ⟨_, rfl, b, 4, rfl, kt.bx, by decide, by decide, fun H2 k b2 k2 k0 k5 => ⟨_, _, rfl, rfl, ?_⟩⟩
  obtain ⟨n, hn⟩ : ∃ n : Nat, 1 + k = (n : Int) := ⟨(1 + k).toNat, by omega⟩
  have n1 : 1 ≤ n := by omega
  have n4 : n ≤ 4 := by omega
  have kt2 := kt.kb k2 b2
  have sht2 := sht.kb kt.bx k2
  show gName 11 (V.int (1 + k)) _ _ _
  rw [hn]
  refine ⟨_, rfl, _, rfl, _, rfl, _, rfl, U.o, U.zo, U.dk, U.z, (n : Nat), st, rfl, kt2.hz, hst, by omega, by omega, fun H3 wp s3 wo => ⟨Nat.zero_le _, fun la nla => ?_⟩⟩
  rw [Int.toNat_natCast] at wo
  have s4 : Same H3 (upd H3 la (.lst [])) := Same.new nla
  have b4 := b2.same (s3.trans s4)
  have nla2 : H2 la = none := s3.free nla
  have lb : la ≠ b := b2.ne nla2
  have hbn : upd H2 la (.lst []) b ≠ none := by
    obtain ⟨_, _, _, e, _⟩ := b2
    rw [upd_ne lb.symm, e]; intro z; cases z
  have wo4 : Wo K (upd H2 la (.lst [])) (upd H3 la (.lst [])) wp ⟨firstS U.z st, List.replicate n 0, List.replicate n false, 0⟩ := by
    obtain ⟨v, ra, ta, w3⟩ := wo
    have a1 : wp ≠ la := ne_of_none w3.hw nla
    have a2 : ra ≠ la := ne_of_none w3.hr nla
    have a3 : ta ≠ la := ne_of_none w3.ht nla
    have w4 := w3.same s4
    refine ⟨v, ra, ta, w4.hw, w4.hr, w4.ht, w4.st, by rw [upd_ne a1]; exact w3.nw, by rw [upd_ne a2]; exact w3.nr, by rw [upd_ne a3]; exact w3.nt, w3.rt, fun c e => ?_⟩
    by_cases q : c = la
    · rw [q, upd_same] at e; cases e
    · rw [upd_ne q] at e ⊢
      exact w3.dm c e
  have wn : Wn K b U st H2 (upd H2 la (.lst [])) (upd H3 la (.lst [])) wp la n 0 ⟨firstS U.z st, List.replicate n 0, List.replicate n false, 0⟩ [] :=
    ⟨b4, Kb.same (s3.trans s4), wo4, hbn, (by rw [upd_same]; intro z; cases z), (fun c q => by
      by_cases e : c = la
      · rw [e, upd_same]; intro z; cases z
      · rw [upd_ne e]; exact q), nla2, lb, upd_same, GPW.start, fun g => trivial, (fun e he => nomatch he), rfl, List.length_replicate⟩
  refine ⟨_, _, rfl, ?_⟩
  refine ⟨24, rfl, by decide, by decide, for_range (lo := 0) (n := 24) (fun i σ H' => (∃ W es t, Wn K b U st H2 (upd H2 la (.lst [])) H' wp la n i W es ∧ Sim U.h U.z st n W t) ∧ ∃ v10 v14 v15 v16 v17 v18 v19, σ = Sl a b U st sh v1 v3 v10 (some (.int (n : Nat))) (some (.ref wp)) (some (.ref la)) v14 v15 v16 v17 v18 v19 v20) ⟨⟨_, _, 0, wn, Sim.start⟩, _, _, _, _, _, _, _, rfl⟩ ?_ ?_⟩
  · rintro i σ H4 hi ⟨⟨W, es, t, wn, sim⟩, w10, w14, w15, w16, w17, w18, w19, rfl⟩
    refine kM _ _ _ ⟨b, U, st, sh, H2, _, wp, la, n, i, W, es, t, v1, v3, w10, some (.int (0 + (i : Nat))), w15, w16, w17, w18, w19, v20, fx, kt2, sht2, n1, n4, hi, wn, sim, rfl, fun σ' H' W' es' t' wn' sim' q => ⟨⟨W', es', t', wn', sim'⟩, q⟩, fun σ' H' W' es' wn' q => ?_⟩
    obtain ⟨u10, u14, u15, u16, u17, u18, u19, rfl⟩ := q
    exact next _ _ _ ⟨b, HE, U, st, sh, H2, _, wp, la, n, i + 1, W', es', hE, fx, hst, kt2, kE.trans k2, n1, n4, hi, wn', _, _, _, _, _, _, _, _, _, _, rfl⟩
  · rintro σ H4 ⟨⟨W, es, t, wn, sim⟩, w10, w14, w15, w16, w17, w18, w19, rfl⟩
    exact next _ _ _ ⟨b, HE, U, st, sh, H2, _, wp, la, n, 24, W, es, hE, fx, hst, kt2, kE.trans k2, n1, n4, Nat.le_refl _, wn, _, _, _, _, _, _, _, _, _, _, rfl⟩
theorem part8 (T : Tx K mg) (C : Cs P w K mg base) {f : Addr} {cdv : Value} {s : Shared} {H0 : Hp} (hr : RmL s f cdv) {a : Addr} : Part (XL P w K mg base f cdv s H0) (lawB.drop 8) (R8 K a) := by
  have hu := hu_of hr
  have h64 := hr.units
  have line := sizeLine_eq
  have hg : (XL P w K mg base f cdv s H0).A.guards = some [] := rfl
  obtain ⟨c_box, c_take, c_pick, c_house, c_sleeper, c_house_of, c_sleeper_of, c_table, c_ways, c_l_begin, c_go, c_event_text, c_is_below, m_Walk, c_play⟩ := C
  refine ⟨_, (pss_cons (ps_set (i := 20) sc_law.nd rfl (Or.inl rfl) (C8.pe_c c_play hr (by decide) rfl (pa_cons (pv 6) (pa_cons (pv 7) (pa_cons (C8.pe_mk m_Walk hr (by decide) rfl (pa_cons (pv 11) (pa_cons pe_int (pa_cons (pv 8) (pa_cons (pv 13) pa_nil))))) pa_nil)))))
 (pss_one (ps_if (PW.pt (pw_or (pt_cmpR (op_neD h64) (pe_fld (pv 20) rfl) (pe_dget hu (pv 12) pe_str (fun _ _ => rfl)) (by first | exact nomark _ | rfl)) (pw_or1 (pt_cmpR (op_neD h64) (pe_fld (pv 20) rfl) (pe_callTy call_tuple_of (by rfl) T.n_tuple (by decide +kernel) (pa_cons (pe_dget hu (pv 12) pe_str (fun _ _ => rfl)) pa_nil)) (by first | exact nomark _ | rfl)))))
 (pss_one (ps_ret pe_bl))
 pss_nil))), ?_⟩
  rintro DE σ H1 ⟨b, HE, U, st, sh, HA, HB, wp, la, n, m, W, es, hE, fx, hst, kt, kE, n1, n4, m24, wn, v1, v3, v10, v14, v15, v16, v17, v18, v19, v20, rfl⟩
  have kt1 := kt.kb wn.kb wn.bx
  have dm := fx.hk.dm
  have el := wn.el
  have esl : (es.map toEvW).length = es.length := List.length_map _
  have emap : (es.map fun e => evT (toEvW e)) = (es.map toEvW).map evT := by rw [List.map_map]; rfl
  have hl := wn.hl
  rw [emap] at hl
  refine ⟨_, rfl, _, rfl, _, rfl, _, rfl, _, rfl, ?_⟩
  intro x dx nx ndx ne
  have s2 : Same H1 (upd (upd H1 dx (.own x)) x (.ins (He.ga K "Walk") dx [])) := fun b u e => by
    rw [upd_ne (ne_of_none e nx), upd_ne (ne_of_none e ndx)]
    exact e
  have eok : ∀ e ∈ es.map toEvW, EvOk ((n : Nat) + 0 : Int) e := fun e he => by rw [Int.add_zero]; exact wn.ok e he
  have wk : WkOk ⟨(n : Nat), 0, st, (es.map toEvW).map evT⟩ := ⟨by show (0 : Int) ≤ (n : Nat); omega, Int.le_refl 0, by show ((n : Nat) : Int) + 0 ≤ 64; omega, hst, fun s hs => by
    obtain ⟨e, he, rfl⟩ := List.mem_map.mp hs
    exact ⟨e, rfl, eok e he⟩, by show ((es.map toEvW).map evT).length ≤ 1000; rw [List.length_map, esl]; omega⟩
  refine ⟨x, dx, la, ⟨(n : Nat), 0, st, (es.map toEvW).map evT⟩, rfl, upd_same, .inl (SqL.of (s2 _ _ hl)), wk, fun H2 kp hwa => ⟨rfl, ?_⟩⟩
  have s12 : Same H1 H2 := fun b u e => kp b u (ne_of_none e nx) (s2 b u e)
  have kt2 := kt1.same s12
  have ez : ((n : Nat) : Int) + 0 = ((n : Nat) : Int) := Int.add_zero _
  refine ⟨U.p, U.q, x, U.h, U.z, (n : Nat), 0, st, es.map toEvW, rfl, kt2.hh, kt2.hs, hwa, wk, eok, by rw [ez]; exact wn.ps _, by omega, by rw [esl]; omega, fun i => InS.sok fx.zk (InS.runE fx.zk (InS.first fx.zk st)), fun H3 pq s3 npq hpl => ?_⟩
  rw [ez] at hpl
  have wn3 := wn.same (s12.trans s3)
  obtain ⟨v, ra, ta, w3⟩ := wn3.wo
  obtain ⟨dxp, sv, plA, md, mxs, hO, hst3, hplT, hmd, tmd⟩ := hpl
  have gp := wn.gp
  rw [gp.st] at hst3
  rw [gp.pl] at hplT
  have sok : W.s.ok := by rw [← gp.st]; exact InS.sok fx.zk (InS.runE fx.zk (InS.first fx.zk st))
  refine ⟨_, rfl, pq, _, dxp, _, _, rfl, hO, T.cls_Played, T.p_state, rfl, _, rfl, wp, v, rfl, .inl ⟨wkv v ra ta W.t, Sum.inr "state", .inl w3.hw, rfl, rfl⟩, ?_⟩
  refine ne_data (d := .tuple W.s.ds) (TD.dp hst3.td) (TD.dp w3.st.td) (S0.shp sok).shaped ⟨_, rfl, iteF ?_⟩
  refine ⟨_, rfl, pq, _, dxp, _, _, rfl, hO, T.cls_Played, T.p_places, rfl, _, rfl, wp, .ref ra, rfl, .inl ⟨wkv v ra ta W.t, Sum.inr "rooms", .inl w3.hw, rfl, rfl⟩, ra, _, rfl, .inl ⟨SqL.of w3.hr, fun u nu => ?_⟩⟩
  have s4 : Same H3 (upd H3 u (.tup (W.rs.map V.int))) := Same.new nu
  refine ne_data (d := .tuple (W.rs.map PyData.int)) (.tup (SqT.keep (Same.tk s4) hplT) (TDs.dp (tds_ints _))) (.tup (SqT.of upd_same) (TDs.dp (tds_ints _))) (shapedB_ints _) ⟨_, rfl, iteF ?_⟩
  have wn4 := wn3.same s4
  exact hE _ _ ⟨wn4.bx, kE.trans wn4.kb, _, _, _, _, _, _, _, _, _, _, _, _, _, _, _, _, _, _, _, rfl⟩
end
end Lw
set_option Elab.async false
set_option linter.all false
set_option maxRecDepth 100000
set_option maxHeartbeats 8000000
namespace Lw
open PySem PySem.Spec PyProof.Rows L2 Hb
section
variable {P : Program} {w : World} {K : PySem.W.Frag} {mg : Str → Option Value} {base : Heap}
theorem bodyM1 (T : Tx K mg) (C : Cs P w K mg base) {f : Addr} {cdv : Value} {s : Shared} {H0 : Hp} (hr : RmL s f cdv) {a : Addr} (next : Part (XL P w K mg base f cdv s H0) (bodM.drop 3) (RM K a)) : Part (XL P w K mg base f cdv s H0) bodM (BM K a) := by
  have hu := hu_of hr
  have h64 := hr.units
  have line := sizeLine_eq
  have hg : (XL P w K mg base f cdv s H0).A.guards = some [] := rfl
  obtain ⟨c_box, c_take, c_pick, c_house, c_sleeper, c_house_of, c_sleeper_of, c_table, c_ways, c_l_begin, c_go, c_event_text, c_is_below, m_Walk, c_play⟩ := C
  obtain ⟨tN, hN, next⟩ := next
  refine ⟨_, (pss_cons (ps_set (i := 15) sc_law.nd rfl (Or.inr rfl) (C8.pe_c c_take hr (by decide) rfl (pa_cons (pv 2) (pa_cons (pv 11) pa_nil))))
 (pss_cons (ps_setLc (i := 16) (own := [("_law_room", 10), ("_law_door", 17)]) (g := (gTup K 2 (gCons (gName 17) (gCons (gName 10) gNil)))) (by rfl) sc_law.nd rfl rfl (sw_true rfl rfl rfl (by decide +kernel)) (pi_list (C8.pe_c c_ways hr (by decide) rfl (pa_cons (pv 4) (pa_cons (pe_ix ix_list (pe_dget hu (pv 12) pe_str (fun _ _ => rfl)) (pv 15) (fun _ _ => rfl)) pa_nil)))) (blkOk_by (N := N_law) (sc := defScope s_law) (by decide +kernel)) (fun _ _ _ _ _ => (pg_tup (by rfl) (pgs_cons (pg_name (i := 17) sc_law.nd rfl (Or.inl rfl)) (pgs_cons (pg_name (i := 10) sc_law.nd rfl (Or.inl rfl)) pgs_nil)))) (fun _ _ _ _ _ => pts_nil) (fun _ _ _ _ _ => (pe_tup (pa_cons pe_str (pa_cons (pv 15) (pa_cons (pv 17) pa_nil))))))
 (pss_cons (ps_set (i := 18) sc_law.nd rfl (Or.inl rfl) (pe_ifExp (pt_not (pt_val (pe_ix ix_list (pe_dget hu (pv 12) pe_str (fun _ _ => rfl)) (pv 15) (fun _ _ => rfl)))) (C8.pe_c c_pick hr (by decide) rfl (pa_cons (pv 2) (pa_cons (pe_op op_cat (pv 16) (pe_lst (pa_cons (pe_tup (pa_cons pe_str pa_nil)) pa_nil))) pa_nil))) (pe_tup (pa_cons pe_str pa_nil))))
 hN))), ?_⟩
  rintro DE σ H1 ⟨b, U, st, sh, HA, HB, wp, la, n, m, W, es, t, v1, v3, v10, v14, v15, v16, v17, v18, v19, v20, fx, kt, sht, n1, n4, m24, wn, sim, rfl, hE, hK⟩
  refine ⟨_, rfl, _, rfl, b, (n : Nat), rfl, wn.bx, by omega, by omega, fun H2 pI b2 k2 p0 p1 => ?_⟩
  obtain ⟨p, rfl⟩ : ∃ p : Nat, pI = (p : Int) := ⟨pI.toNat, by omega⟩
  have pn : p < n := by omega
  have wn2 := wn.box b2 k2
  obtain ⟨v, ra, ta, w2⟩ := wn2.wo
  have kt2 := kt.kb wn2.kb b2
  obtain ⟨r, hr1⟩ : ∃ r, W.rs[p]? = some r := ⟨_, List.getElem?_eq_getElem (by rw [sim.ln]; exact pn)⟩
  obtain ⟨tb, ht1⟩ : ∃ tb, W.ts[p]? = some tb := ⟨_, List.getElem?_eq_getElem (by rw [sim.lt]; exact pn)⟩
  have atr : atI (W.rs.map V.int) ((p : Nat) : Int) = some (.int r) := atI_nat (by rw [List.getElem?_map, hr1]; rfl)
  have att : atI (W.ts.map V.bl) ((p : Nat) : Int) = some (.bl tb) := atI_nat (by rw [List.getElem?_map, ht1]; rfl)
  have dm := fx.hk.dm
  refine ⟨_, rfl, _, rfl, wp, .ref ra, rfl, .inl ⟨wkv v ra ta W.t, Sum.inr "rooms", .inl w2.hw, rfl, rfl⟩, _, rfl, ra, _, (p : Nat), .int r, rfl, rfl, SqL.of w2.hr, atr, b, U.o, U.h, r, rfl, kt2.ho, by omega, fun x hx => (fx.hk.d x hx).2.2.1, fun H3 wq ws s3 nwq hwq tws => ?_⟩
  have wl := ways_len U.h r
  have wl2 : ws.length = (waysR U.h r).length := by rw [tws.length, List.length_map]
  refine ⟨wq, rfl, ⟨_, SqL.of hwq⟩, fun D nD => lc_list (K := K) (a := wq) (xs := ws) (fun i H' => Same H3 H' ∧ ∃ zs : List V, H' D = some (.lst zs) ∧ zs.length ≤ i ∧ ∀ v ∈ zs, ∃ e s, v = .ref e ∧ s ∈ waysR U.h r ∧ SqT K H' e (evV (.step p s))) ⟨Same.new nD, [], upd_same, Nat.le_refl _, fun v hv => nomatch hv⟩ (fun i H' _ e => SqL.of (e.1 _ _ hwq)) ?_ ?_⟩
  · rintro i x H4 hx ⟨s4, zs, hD, zl, al⟩
    obtain ⟨s', hs', tdn⟩ := TDs.at_map tws hx
    obtain ⟨t', rfl, ht'⟩ := TD.nr_inv tdn
    have il := (List.getElem?_eq_some_iff.mp hx).1
    refine ⟨t', _, rfl, SqT.keep (Same.tk s4) ht', rfl, _, _, rfl, _, _, rfl, rfl, rfl, yes_ ⟨_, rfl, _, rfl, by show 3 ≤ sizeLine; omega, fun e ne => ?_⟩⟩
    have s5 : Same H4 (upd H4 e (.tup [.str "step", .int (p : Nat), .int s'.n])) := Same.new ne
    have eD : e ≠ D := (ne_of_none hD ne).symm
    have tk := tk_acc (ys := zs ++ [V.ref e]) (s5 _ _ hD)
    refine ⟨zs, s5 _ _ hD, by omega, Hb.Same.acc (s4.trans s5) nD, zs ++ [.ref e], upd_same, by rw [List.length_append]; show _ + 1 ≤ _; omega, fun v hv => ?_⟩
    rcases List.mem_append.mp hv with hv | hv
    · obtain ⟨e', s'', a1, a2, a3⟩ := al v hv
      exact ⟨e', s'', a1, a2, SqT.keep tk (SqT.keep (Same.tk s5) a3)⟩
    · exact ⟨e, s', List.mem_singleton.mp hv, List.mem_of_getElem? hs', SqT.of (by rw [upd_ne eD]; exact upd_same)⟩
  · rintro H4 ⟨s4, zs, hD, zl, al⟩
    have s24 := s3.trans s4
    have w4 := w2.same s24
    have wn4 := wn2.same s24
    have b4 := wn4.bx
    refine ⟨_, rfl, wp, .ref ta, rfl, .inl ⟨wkv v ra ta W.t, Sum.inr "tired", .inl w4.hw, rfl, rfl⟩, _, rfl, ta, _, (p : Nat), .bl tb, rfl, rfl, SqL.of w4.ht, att, _, rfl, ?_⟩
    cases tb with
    | true =>
      refine iteF ⟨by show 1 ≤ sizeLine; omega, fun e ne => ?_⟩
      have s5 : Same H4 (upd H4 e (.tup [.str "tick"])) := Same.new ne
      exact next _ _ _ ⟨b, U, st, sh, HA, HB, wp, la, e, n, m, W, es, t, .tick, v1, v3, v10, v14, _, _, v17, v19, v20, fx, kt, sht, n1, n4, m24, wn4.same s5, sim, SqT.of upd_same, trivial, rfl, hE, hK⟩
    | false =>
      refine iteT ⟨_, rfl, _, rfl, by show 1 ≤ sizeLine; omega, fun e0 ne0 => ⟨by show 1 ≤ sizeLine; omega, fun l0 nl0 => ?_⟩⟩
      have s5 : Same H4 (upd H4 e0 (.tup [.str "tick"])) := Same.new ne0
      have he0 : SqT K (upd H4 e0 (.tup [.str "tick"])) e0 (evV .tick) := SqT.of upd_same
      generalize upd H4 e0 (.tup [.str "tick"]) = H5 at s5 he0 nl0 ⊢
      have s6 : Same H5 (upd H5 l0 (.lst [.ref e0])) := Same.new nl0
      have hl0 : upd H5 l0 (.lst [.ref e0]) l0 = some (.lst [.ref e0]) := upd_same
      generalize upd H5 l0 (.lst [.ref e0]) = H6 at s6 hl0 ⊢
      have s46 := s5.trans s6
      refine ⟨D, l0, zs, _, rfl, rfl, s46 _ _ hD, hl0, by show zs.length + 1 ≤ _; omega, fun l nl => ?_⟩
      have s7 : Same H6 (upd H6 l (.lst (zs ++ [.ref e0]))) := Same.new nl
      have s47 := s46.trans s7
      have wn7 := wn4.same s47
      refine ⟨b, l, zs ++ [.ref e0], rfl, wn7.bx, .inl ⟨upd_same, (b4.same s46).ne nl⟩, by simp, by rw [List.length_append]; show zs.length + 1 < _; omega, fun H8 v8 hv8 b8 k8 => ?_⟩
      have wn8 := wn7.box b8 k8
      have tk8 := wn7.bx.tk k8
      rcases List.mem_append.mp hv8 with hv8 | hv8
      · obtain ⟨e, s', rfl, ms, he⟩ := al v8 hv8
        exact next _ _ _ ⟨b, U, st, sh, HA, HB, wp, la, e, n, m, W, es, t, .step p s', v1, v3, v10, v14, _, _, v17, v19, v20, fx, kt, sht, n1, n4, m24, wn8, sim, SqT.keep tk8 (SqT.keep (Same.tk s47) he), ⟨ht1, r, hr1, ms⟩, rfl, hE, hK⟩
      · rw [List.mem_singleton.mp hv8]
        exact next _ _ _ ⟨b, U, st, sh, HA, HB, wp, la, e0, n, m, W, es, t, .tick, v1, v3, v10, v14, _, _, v17, v19, v20, fx, kt, sht, n1, n4, m24, wn8, sim, SqT.keep tk8 (SqT.keep (Same.tk (s6.trans s7)) he0), trivial, rfl, hE, hK⟩
theorem bodyM2 (T : Tx K mg) (C : Cs P w K mg base) {f : Addr} {cdv : Value} {s : Shared} {H0 : Hp} (hr : RmL s f cdv) {a : Addr} : Part (XL P w K mg base f cdv s H0) (bodM.drop 3) (RM K a) := by
  have hu := hu_of hr
  have h64 := hr.units
  have line := sizeLine_eq
  have hg : (XL P w K mg base f cdv s H0).A.guards = some [] := rfl
  obtain ⟨c_box, c_take, c_pick, c_house, c_sleeper, c_house_of, c_sleeper_of, c_table, c_ways, c_l_begin, c_go, c_event_text, c_is_below, m_Walk, c_play⟩ := C
  refine ⟨_, (pss_cons (ps_expr (C8.pe_c c_go hr (by decide) rfl (pa_cons (pv 4) (pa_cons (pv 5) (pa_cons (pv 12) (pa_cons (pv 18) pa_nil))))))
 (pss_cons (ps_expr (pe_bm PySem.F.plainAttrs_list PySem.F.slot_list_append PySem.F.type_list_append mt_append (pv 13) (pa_cons (C8.pe_c c_event_text hr (by decide) rfl (pa_cons (pv 18) pa_nil)) pa_nil)))
 (pss_cons (ps_if (pt_cmpR (op_eqD h64) (pe_dget hu (pv 12) pe_str (fun _ _ => rfl)) (pe_tup (pa_cons pe_str pa_nil)) (by first | exact nomark _ | rfl))
 (pss_one ps_break)
 pss_nil)
 (pss_one (ps_for PassesOwn.never rfl (pi_list (pv 9)) (pg_tup (by rfl) (pgs_cons (pg_name (i := 10) sc_law.nd rfl (Or.inl rfl)) (pgs_cons (pg_name (i := 19) sc_law.nd rfl (Or.inl rfl)) pgs_nil)))
 (pss_one (ps_if (PW.pt (pw_and (pt_cmpR op_notN (pv 19) pe_non (by first | exact nomark _ | rfl)) (pw_and1 (PW.pt (pw_or (pt_cmpR op_in_seq (pv 10) (pe_dget hu (pv 12) pe_str (fun _ _ => rfl)) (by first | exact nomark _ | rfl)) (pw_or1 (pt_not (pt_val (C8.pe_c c_is_below hr (by decide) rfl (pa_cons (pv 12) (pa_cons (pv 19) pa_nil)))))))))))
 (pss_one (ps_ret pe_bl))
 pss_nil))))))), ?_⟩
  rintro DE σ H1 ⟨b, U, st, sh, HA, HB, wp, la, ep, n, m, W, es, t, e, v1, v3, v10, v14, v15, v16, v17, v19, v20, fx, kt, sht, n1, n4, m24, wn, sim, he, ok, rfl, hE, hK⟩
  have dm := fx.hk.dm
  have fm := fx.hk.fm
  have r2 := fx.hk.r2
  have kt1 := kt.kb wn.kb wn.bx
  have rl := sim.ln
  have dne : ∀ x ∈ U.h.doors, x.1 ≠ x.2.1 := fun x hx => (fx.hk.d x hx).2.2.1
  obtain ⟨nn, hn, nn1, nn6, hd⟩ := hok_nat fx.hk (by decide)
  have un := unr_drawn (h := U.h) (n := nn) st fx.zk (by decide) nn1 nn6 hd
  have inU : ∀ {t g}, RchT U.h U.z st t g → g ∈ uni (ssZ U.z W3) nn := fun r => r.rch.inU un
  refine ⟨_, rfl, _, rfl, _, rfl, _, rfl, b, U.o, U.zo, U.dk, wp, ep, U.h, U.z, W, HB, e, rfl, kt1.ho, kt1.hz, fx.zin, wn.wo, he, ok, by omega, by omega, by omega, nodup_of_lt fx.hk.fs, dne, fun H2 fr tk2 wo2 => ?_⟩
  have b2 : Box b H2 := by
    obtain ⟨x1, y1, z1, e1, q1⟩ := wn.bx
    exact ⟨x1, y1, z1, fr _ _ wn.hb e1, q1⟩
  have bA : HA b ≠ none := by
    obtain ⟨_, _, _, e, _⟩ := kt.bx
    rw [e]; intro z; cases z
  obtain ⟨gp2, can⟩ := wn.gp.go (h := U.h) (z := U.z) dne ok
  have eok : EvOk (n : Nat) (toEvW e) := by
    cases e with
    | tick => trivial
    | step p s =>
      obtain ⟨q1, q2⟩ := (can 0).1, (can 0).2.1
      have pl : (runEv U.h U.z (wd0 U.z (n : Nat) st) (es.map toEvW)).pl.length = n := by rw [wn.gp.pl]; exact rl
      exact ⟨⟨by omega, by rw [← pl]; exact q1.2⟩, q2.1, by have := q2.2; show s.n < 64; omega⟩
  have he2 := SqT.keep tk2 he
  rw [evV_evs] at he2
  have hl2 := fr _ _ wn.hla wn.hl
  have lalen : ((es.map fun e => evT (toEvW e)).map V.str).length = m := by rw [List.length_map, List.length_map]; exact wn.el
  refine ⟨_, rfl, .inl ⟨rfl, _, SqL.of hl2⟩, _, rfl, ep, toEvW e, (n : Nat), rfl, he2, eok, by omega, fun H3 s3 => ?_⟩
  have hl3 := s3 _ _ hl2
  refine ⟨la, _, _, rfl, rfl, hl3, by omega, ?_⟩
  have wo3 := wo2.same s3
  have hbA : Kb b HA H3 := fun c o nc ec => s3 _ _ (fr c o (wn.hA c (by rw [ec]; intro z; cases z)) (wn.kb c o nc ec))
  have wn4 : Wn K b U st HA HB (upd H3 la (.lst (((es.map fun e => evT (toEvW e)).map V.str) ++ [V.str (evT (toEvW e))]))) wp la n (m + 1) (goW U.z W e) (es ++ [e]) := by
    refine ⟨(b2.same s3).put wn.lb, hbA.acc wn.nla, ?_, wn.hb, wn.hla, wn.hA, wn.nla, wn.lb, by rw [upd_same, List.map_append, List.map_append]; rfl, by rw [List.map_append]; exact (run_snoc (e := toEvW e)).symm ▸ gp2, fun g => ?_, fun x hx => ?_, by rw [List.length_append, wn.el]; rfl, ?_⟩
    · obtain ⟨v, ra, ta, w3⟩ := wo3
      have ne : ∀ {c : Addr}, HB c = none → c ≠ la := fun {c} e q => wn.hla (by rw [← q]; exact e)
      have tk := tk_acc (ys := ((es.map fun e => evT (toEvW e)).map V.str) ++ [V.str (evT (toEvW e))]) hl3
      refine ⟨v, ra, ta, by rw [upd_ne (ne w3.nw)]; exact w3.hw, by rw [upd_ne (ne w3.nr)]; exact w3.hr, by rw [upd_ne (ne w3.nt)]; exact w3.ht, w3.st.keep tk, w3.nw, w3.nr, w3.nt, w3.rt, fun c q => ?_⟩
      by_cases q2 : c = la
      · rw [q2, upd_same] at q; cases q
      · rw [upd_ne q2] at q; exact w3.dm c q
    · rw [List.map_append]
      exact Poss.app.mpr ⟨wn.ps g, can g, trivial⟩
    · rw [List.map_append] at hx
      rcases List.mem_append.mp hx with hx | hx
      · exact wn.ok x hx
      · rw [List.mem_singleton.mp hx]; exact eok
    · cases e with
      | tick => exact wn.rl
      | step p s => show (W.rs.set _ _).length = n; rw [List.length_set]; exact wn.rl
  generalize upd H3 la (.lst (((es.map fun e => evT (toEvW e)).map V.str) ++ [V.str (evT (toEvW e))])) = H4 at wn4 ⊢
  clear hl3 wo3 hbA s3 hl2 he2 gp2 can fr tk2 wo2 b2 H2 H3
  obtain ⟨v, ra, ta, w4⟩ := wn4.wo
  have sok : (goW U.z W e).s.ok := by
    rw [← wn4.gp.st]
    exact InS.sok fx.zk (InS.runE fx.zk (InS.first fx.zk st))
  refine ⟨_, rfl, wp, v, rfl, .inl ⟨wkv v ra ta (goW U.z W e).t, Sum.inr "state", .inl w4.hw, rfl, rfl⟩, by show 1 ≤ sizeLine; omega, fun x nx => ?_⟩
  have s5 : Same H4 (upd H4 x (.tup [.str "woken"])) := Same.new nx
  have hw : StAt K (upd H4 x (.tup [.str "woken"])) (.ref x) .wok := ⟨x, rfl, SqT.of upd_same⟩
  generalize upd H4 x (.tup [.str "woken"]) = H5 at s5 hw ⊢
  have w5 := w4.same s5
  have wn5 := wn4.same s5
  refine ⟨_, _, TD.dp w5.st.td, TD.dp hw.td, (S0.shp sok).shaped, (S0.shp (s := .wok) trivial).shaped, _, rfl, ?_⟩
  rw [eqv_st]
  by_cases c : (goW U.z W e).s = .wok
  · rw [decide_eq_true c]
    exact iteT (hK _ _ _ _ wn5 ⟨_, _, _, _, _, _, _, rfl⟩)
  · rw [decide_eq_false c]
    obtain ⟨t', sim'⟩ := sim.go (fun g rg => (lots_asc (uni_mem.mp (inU rg)).2.2).1) ok c
    obtain ⟨nb, xs, hsh, xl, at_⟩ := sht.kb kt.bx wn5.kb
    obtain ⟨g, rg, eg, mem, _⟩ := sim'.ex
    refine iteF ⟨_, rfl, sh, rfl, ⟨_, SqL.of hsh⟩, for_list (K := K) (a := sh) (xs := xs) (fun i σ H' => Same H5 H' ∧ ∃ v10 v19, σ = Sl a b U st sh v1 v3 v10 (some (.int (n : Nat))) (some (.ref wp)) (some (.ref la)) v14 v15 v16 v17 (some (.ref ep)) v19 v20) ⟨Same.refl _, _, _, rfl⟩ (fun i σ H' _ q => SqL.of (q.1 _ _ hsh)) ?_ ?_⟩
    · rintro i x σ H6 hx ⟨s6, w10, w19, rfl⟩
      obtain ⟨u, y, rfl, hu, alt⟩ := at_ i x hx
      have w6 := w5.same s6
      refine ⟨u, _, rfl, SqT.keep (Same.tk s6) hu, rfl, _, _, rfl, _, _, rfl, rfl, ?_⟩
      rcases alt with rfl | ⟨q, gs, rfl, l0, tb, gl⟩
      · exact ⟨_, rfl, rfl, _, rfl, iteF ⟨s6, _, _, rfl⟩⟩
      · have nin : ((i : Nat) : Int) ∉ (goW U.z W e).rs := fun m => l0 t' g rg (mem _ m)
        refine ⟨_, rfl, rfl, _, rfl, iteT ⟨_, rfl, _, rfl, wp, .ref ra, rfl, .inl ⟨wkv v ra ta (goW U.z W e).t, Sum.inr "rooms", .inl w6.hw, rfl, rfl⟩, ra, _, rfl, .inl (SqL.of w6.hr), rfl, flat_ints _, _, rfl, ?_⟩⟩
        rw [if_neg Bool.false_ne_true, inV_ints, decide_eq_false nin]
        refine iteF ⟨_, rfl, _, rfl, wp, q, HB, goW U.z W e, gs, rfl, ⟨v, ra, ta, w6⟩, tb.same s6, fun g' hg' => ?_, sok, by rw [wn4.rl]; omega, ⟨g, (gl g).mpr rg.rch, eg, mem⟩, fun H7 s7 => ⟨_, rfl, iteF ⟨s6.trans s7, _, _, rfl⟩⟩⟩
        exact (gin_of fx.hk (by decide) (by decide) fx.zk hn nn6 (((gl g').mp hg').inU un)).2
    · rintro σ H6 ⟨s6, w10, w19, rfl⟩
      exact hE _ _ _ _ t' (wn5.same s6) sim' ⟨_, _, _, _, _, _, _, rfl⟩
end
end Lw
set_option Elab.async false
set_option linter.all false
set_option maxRecDepth 100000
set_option maxHeartbeats 8000000
namespace Lw
open PySem PySem.Spec PyProof.Rows L2 Hb
section
variable {P : Program} {w : World} {K : PySem.W.Frag} {mg : Str → Option Value} {base : Heap}
theorem ok_law (T : Tx K mg) (C : Cs P w K mg base)
    (f a : Addr) (cdv : Value) (s : Shared) (H : Hp) (ns : List Int) (few : ns.length ≤ 63) (hS : SqL K H a (ns.map V.int)) (hr : Room 10 (callerA.deeper (envOfC "law" (defScope s_law) s.heap.objs.size f cdv))) :
    ∃ t, PSs (cxOf CX0 P w K mg base N_law "law" (defScope s_law) f cdv callerA [] s H E0).nox (defBody s_law) t ∧ t { nx := fun _ _ => False, rt := fun v _ => v = .bl true } (start N_law [.ref a]) H := by
  have hr' : RmL s f cdv := hr
  have c_box := C.c_box
  obtain ⟨t1, h1, k1⟩ : Part (XL P w K mg base f cdv s H) (lawB.drop 0) (R0 a) := part1 T C hr' (part5 T C hr' (bodyM1 T C hr' (bodyM2 T C hr')) (part8 T C hr'))
  refine ⟨_, (pss_cons (ps_for PassesOwn.never rfl (pi_range1 (by rfl) T.n_range (pa_cons (pe_callB (call_max2 rfl) (by rfl) T.n_max (by decide +kernel) (pa_cons pe_int (pa_cons (pe_callB (call_min2 rfl) (by rfl) T.n_min (by decide +kernel) (pa_cons pe_int (pa_cons (pe_callB call_len (by rfl) T.n_len (by decide +kernel) (pa_cons (pv 0) pa_nil)) pa_nil))) pa_nil))) pa_nil)) (pg_name (i := 1) sc_law.nd rfl (Or.inl rfl))
 (pss_cons (ps_set (i := 2) sc_law.nd rfl (Or.inl rfl) (C8.pe_c c_box hr (by decide) rfl (pa_cons (pv 0) (pa_cons (pv 1) pa_nil))))
 (pss_one (ps_for PassesOwn.never rfl (pi_range1 (by rfl) T.n_range (pa_cons pe_int pa_nil)) (pg_name (i := 3) sc_law.nd rfl (Or.inl rfl))
 h1))))
 (pss_one (ps_ret pe_bl))), ?_⟩
  have sl : SqL K H a (ns.map V.int) := hS
  refine ⟨_, rfl, .ref a, _, rfl, .inl ⟨_, hS, rfl⟩, _, _, rfl, _, _, rfl, ?_⟩
  have hN : ∃ N : Int, (if (if (((ns.map V.int).length : Nat) : Int) < 3 then (((ns.map V.int).length : Nat) : Int) else 3) > 1 then (if (((ns.map V.int).length : Nat) : Int) < 3 then (((ns.map V.int).length : Nat) : Int) else 3) else 1) = N ∧ 1 ≤ N ∧ N ≤ 3 := by
    refine ⟨_, rfl, ?_⟩
    split <;> split at * <;> omega
  obtain ⟨N, eN, N1, N3⟩ := hN
  refine ⟨N, by rw [← eN], by omega, by omega, for_range (lo := 0) (n := N.toNat) (fun _ σ H' => SqL K H' a (ns.map V.int) ∧ ∃ v1 v2 v3 v4 v5 v6 v7 v8 v9 v10 v11 v12 v13 v14 v15 v16 v17 v18 v19 v20, σ = [some (.ref a), v1, v2, v3, v4, v5, v6, v7, v8, v9, v10, v11, v12, v13, v14, v15, v16, v17, v18, v19, v20])
    ⟨hS, _, _, _, _, _, _, _, _, _, _, _, _, _, _, _, _, _, _, _, _, rfl⟩ ?_ (fun σ H' _ => rfl)⟩
  rintro spot σ H1 hi ⟨sl1, v1, v2, v3, v4, v5, v6, v7, v8, v9, v10, v11, v12, v13, v14, v15, v16, v17, v18, v19, v20, rfl⟩
  refine ⟨_, rfl, _, rfl, a, (0 + (spot : Nat)), ns, rfl, sl1, few, by omega, by omega, fun H2 b bx2 s2 nb => ?_⟩
  refine ⟨2, rfl, by decide, by decide, for_range (lo := 0) (n := 2) (fun _ σ H' => Box b H' ∧ Kb b H2 H' ∧ ∃ v1 v3 v4 v5 v6 v7 v8 v9 v10 v11 v12 v13 v14 v15 v16 v17 v18 v19 v20, σ = [some (.ref a), v1, some (.ref b), v3, v4, v5, v6, v7, v8, v9, v10, v11, v12, v13, v14, v15, v16, v17, v18, v19, v20])
    ⟨bx2, Kb.refl _ _, _, _, _, _, _, _, _, _, _, _, _, _, _, _, _, _, _, _, _, rfl⟩ ?_ ?_⟩
  · rintro turn σ H3 ht ⟨bx3, k3, v1, v3, v4, v5, v6, v7, v8, v9, v10, v11, v12, v13, v14, v15, v16, v17, v18, v19, v20, rfl⟩
    exact k1 _ _ _ ⟨b, H2, fun σ' H' q => q, bx3, k3, _, _, _, _, _, _, _, _, _, _, _, _, _, _, _, _, _, _, _, rfl⟩
  · rintro σ H3 ⟨bx3, k3, v1, v3, v4, v5, v6, v7, v8, v9, v10, v11, v12, v13, v14, v15, v16, v17, v18, v19, v20, rfl⟩
    exact ⟨sqL_overB sl1 s2 nb k3, _, _, _, _, _, _, _, _, _, _, _, _, _, _, _, _, _, _, _, _, rfl⟩
end
end Lw
set_option Elab.async false
set_option linter.all false
set_option maxRecDepth 100000
set_option maxHeartbeats 0
namespace Lw
open PySem PySem.Spec PyProof.Rows L2 Hb
section
variable {P : Program} {w : World} {K : PySem.W.Frag} {h : Heap} {mg : Str → Option Value}
theorem tx_of (X : K.In h) (G : h.Ns mainGlobals mg) (cd : He.SaysD fa fn K) (cx : ex K = true) : Tx K mg :=
  ⟨He.free_ok X G (cd.fact 65 rfl),
   He.free_ok X G (cd.fact 66 rfl),
   He.free_ok X G (cd.fact 67 rfl),
   He.free_ok X G (cd.fact 68 rfl),
   He.free_ok X G (cd.fact 69 rfl),
   He.free_ok X G (cd.fact 70 rfl),
   He.free_ok X G (cd.fact 71 rfl),
   He.free_ok X G (cd.fact 72 rfl),
   He.free_ok X G (cd.fact 73 rfl),
   He.free_ok X G (cd.fact 74 rfl),
   He.free_ok X G (cd.fact 75 rfl),
   He.free_ok X G (cd.fact 76 rfl),
   He.free_ok X G (cd.fact 77 rfl),
   He.free_ok X G (cd.fact 78 rfl),
   He.free_ok X G (cd.fact 79 rfl),
   He.free_ok X G (cd.fact 80 rfl),
   He.free_ok X G (cd.fact 81 rfl),
   He.free_ok X G (cd.fact 82 rfl),
   He.str_ok X G (cd.fact 83 rfl),
   He.str_ok X G (cd.fact 84 rfl),
   He.glo_ok X G (cd.fact 85 rfl),
   fun H => He.tupB_ok (EX0 cx) H,
   He.glo_ok X G (cd.fact 86 rfl),
   fun H => He.tupB_ok (EX1 cx) H,
   He.glo_ok X G (cd.fact 87 rfl),
   fun H => He.tupB_ok (EX2 cx) H,
   He.glo_ok X G (cd.fact 88 rfl),
   fun H => He.tupB_ok (EX3 cx) H,
   He.glo_ok X G (cd.fact 89 rfl),
   fun H => He.tupB_ok (EX4 cx) H,
   He.glo_ok X G (cd.fact 90 rfl),
   fun H => He.tupB_ok (EX5 cx) H,
   He.glo_ok X G (cd.fact 91 rfl),
   fun H => He.tupB_ok (EX6 cx) H,
   He.nilB_ok (EX7 cx),
   He.cls_ok (cd.fact 92 rfl),
   He.noat_ok (cd.fact 93 rfl),
   He.noat_ok (cd.fact 94 rfl),
   He.noat_ok (cd.fact 95 rfl),
   He.noat_ok (cd.fact 96 rfl),
   He.cls_ok (cd.fact 97 rfl),
   He.noat_ok (cd.fact 98 rfl),
   He.noat_ok (cd.fact 99 rfl),
   He.noat_ok (cd.fact 100 rfl),
   He.noat_ok (cd.fact 101 rfl),
   He.noat_ok (cd.fact 102 rfl),
   He.cls_ok (cd.fact 103 rfl),
   He.noat_ok (cd.fact 104 rfl),
   He.noat_ok (cd.fact 105 rfl),
   He.noat_ok (cd.fact 106 rfl),
   He.noat_ok (cd.fact 107 rfl),
   He.cls_ok (cd.fact 108 rfl),
   He.noat_ok (cd.fact 109 rfl),
   He.noat_ok (cd.fact 110 rfl),
   He.noat_ok (cd.fact 111 rfl),
   He.noat_ok (cd.fact 112 rfl),
   He.noat_ok (cd.fact 113 rfl),
   He.noat_ok (cd.fact 114 rfl),
   He.noat_ok (cd.fact 115 rfl),
   He.noat_ok (cd.fact 116 rfl),
   He.cls_ok (cd.fact 117 rfl),
   He.noat_ok (cd.fact 118 rfl),
   He.noat_ok (cd.fact 119 rfl),
   He.noat_ok (cd.fact 120 rfl),
   He.noat_ok (cd.fact 121 rfl),
   He.noat_ok (cd.fact 122 rfl),
   He.cls_ok (cd.fact 123 rfl),
   He.noat_ok (cd.fact 124 rfl),
   He.noat_ok (cd.fact 125 rfl),
   He.noat_ok (cd.fact 126 rfl)⟩
theorem df_is_whole (X : K.In h) (G : h.Ns mainGlobals mg) (cd : He.SaysD fa fn K) : Df K mg "is_whole" s_is_whole := by
  obtain ⟨fd, F⟩ := cd.def_ 0 (d := d_is_whole) rfl
  exact ⟨fd, F, He.glo_ok X G (cd.fact 6 rfl)⟩
theorem df_is_number (X : K.In h) (G : h.Ns mainGlobals mg) (cd : He.SaysD fa fn K) : Df K mg "is_number" s_is_number := by
  obtain ⟨fd, F⟩ := cd.def_ 1 (d := d_is_number) rfl
  exact ⟨fd, F, He.glo_ok X G (cd.fact 7 rfl)⟩
theorem df_is_positive (X : K.In h) (G : h.Ns mainGlobals mg) (cd : He.SaysD fa fn K) : Df K mg "is_positive" s_is_positive := by
  obtain ⟨fd, F⟩ := cd.def_ 2 (d := d_is_positive) rfl
  exact ⟨fd, F, He.glo_ok X G (cd.fact 8 rfl)⟩
theorem df_is_name (X : K.In h) (G : h.Ns mainGlobals mg) (cd : He.SaysD fa fn K) : Df K mg "is_name" s_is_name := by
  obtain ⟨fd, F⟩ := cd.def_ 3 (d := d_is_name) rfl
  exact ⟨fd, F, He.glo_ok X G (cd.fact 9 rfl)⟩
theorem df_is_row (X : K.In h) (G : h.Ns mainGlobals mg) (cd : He.SaysD fa fn K) : Df K mg "is_row" s_is_row := by
  obtain ⟨fd, F⟩ := cd.def_ 4 (d := d_is_row) rfl
  exact ⟨fd, F, He.glo_ok X G (cd.fact 10 rfl)⟩
theorem df_is_tuple_of (X : K.In h) (G : h.Ns mainGlobals mg) (cd : He.SaysD fa fn K) : Df K mg "is_tuple_of" s_is_tuple_of := by
  obtain ⟨fd, F⟩ := cd.def_ 5 (d := d_is_tuple_of) rfl
  exact ⟨fd, F, He.glo_ok X G (cd.fact 11 rfl)⟩
theorem df_are_unlike (X : K.In h) (G : h.Ns mainGlobals mg) (cd : He.SaysD fa fn K) : Df K mg "are_unlike" s_are_unlike := by
  obtain ⟨fd, F⟩ := cd.def_ 6 (d := d_are_unlike) rfl
  exact ⟨fd, F, He.glo_ok X G (cd.fact 12 rfl)⟩
theorem df_is_numeral (X : K.In h) (G : h.Ns mainGlobals mg) (cd : He.SaysD fa fn K) : Df K mg "is_numeral" s_is_numeral := by
  obtain ⟨fd, F⟩ := cd.def_ 7 (d := d_is_numeral) rfl
  exact ⟨fd, F, He.glo_ok X G (cd.fact 13 rfl)⟩
theorem df_is_room (X : K.In h) (G : h.Ns mainGlobals mg) (cd : He.SaysD fa fn K) : Df K mg "is_room" s_is_room := by
  obtain ⟨fd, F⟩ := cd.def_ 8 (d := d_is_room) rfl
  exact ⟨fd, F, He.glo_ok X G (cd.fact 14 rfl)⟩
theorem df_is_door (X : K.In h) (G : h.Ns mainGlobals mg) (cd : He.SaysD fa fn K) : Df K mg "is_door" s_is_door := by
  obtain ⟨fd, F⟩ := cd.def_ 9 (d := d_is_door) rfl
  exact ⟨fd, F, He.glo_ok X G (cd.fact 15 rfl)⟩
theorem df_is_floor (X : K.In h) (G : h.Ns mainGlobals mg) (cd : He.SaysD fa fn K) : Df K mg "is_floor" s_is_floor := by
  obtain ⟨fd, F⟩ := cd.def_ 10 (d := d_is_floor) rfl
  exact ⟨fd, F, He.glo_ok X G (cd.fact 16 rfl)⟩
theorem df_are_doors (X : K.In h) (G : h.Ns mainGlobals mg) (cd : He.SaysD fa fn K) : Df K mg "are_doors" s_are_doors := by
  obtain ⟨fd, F⟩ := cd.def_ 11 (d := d_are_doors) rfl
  exact ⟨fd, F, He.glo_ok X G (cd.fact 17 rfl)⟩
theorem df_are_floors (X : K.In h) (G : h.Ns mainGlobals mg) (cd : He.SaysD fa fn K) : Df K mg "are_floors" s_are_floors := by
  obtain ⟨fd, F⟩ := cd.def_ 12 (d := d_are_floors) rfl
  exact ⟨fd, F, He.glo_ok X G (cd.fact 18 rfl)⟩
theorem df_are_cradles (X : K.In h) (G : h.Ns mainGlobals mg) (cd : He.SaysD fa fn K) : Df K mg "are_cradles" s_are_cradles := by
  obtain ⟨fd, F⟩ := cd.def_ 13 (d := d_are_cradles) rfl
  exact ⟨fd, F, He.glo_ok X G (cd.fact 19 rfl)⟩
theorem df_House_init (X : K.In h) (G : h.Ns mainGlobals mg) (cd : He.SaysD fa fn K) : Df1d K mg "House" "House.__init__" s_House_init 1 := by
  obtain ⟨fd, F⟩ := cd.def_ 14 (d := d_House_init) rfl
  exact ⟨He.mkr_ok (cd.fact 127 rfl), He.glo_ok X G (cd.fact 128 rfl), fd, _, rfl, F⟩
theorem df_is_sorted_name (X : K.In h) (G : h.Ns mainGlobals mg) (cd : He.SaysD fa fn K) : Df K mg "is_sorted_name" s_is_sorted_name := by
  obtain ⟨fd, F⟩ := cd.def_ 15 (d := d_is_sorted_name) rfl
  exact ⟨fd, F, He.glo_ok X G (cd.fact 20 rfl)⟩
theorem df_are_sorts (X : K.In h) (G : h.Ns mainGlobals mg) (cd : He.SaysD fa fn K) : Df K mg "are_sorts" s_are_sorts := by
  obtain ⟨fd, F⟩ := cd.def_ 16 (d := d_are_sorts) rfl
  exact ⟨fd, F, He.glo_ok X G (cd.fact 21 rfl)⟩
theorem df_Sleeper_init (X : K.In h) (G : h.Ns mainGlobals mg) (cd : He.SaysD fa fn K) : Df1 K mg "Sleeper" "Sleeper.__init__" s_Sleeper_init := ⟨He.mkr_ok (cd.fact 129 rfl), He.glo_ok X G (cd.fact 130 rfl), cd.def_ 17 (d := d_Sleeper_init) rfl⟩
theorem df_first_state (X : K.In h) (G : h.Ns mainGlobals mg) (cd : He.SaysD fa fn K) : Df K mg "first_state" s_first_state := by
  obtain ⟨fd, F⟩ := cd.def_ 18 (d := d_first_state) rfl
  exact ⟨fd, F, He.glo_ok X G (cd.fact 22 rfl)⟩
theorem df_heard (X : K.In h) (G : h.Ns mainGlobals mg) (cd : He.SaysD fa fn K) : Df K mg "heard" s_heard := by
  obtain ⟨fd, F⟩ := cd.def_ 19 (d := d_heard) rfl
  exact ⟨fd, F, He.glo_ok X G (cd.fact 23 rfl)⟩
theorem df_heard_all (X : K.In h) (G : h.Ns mainGlobals mg) (cd : He.SaysD fa fn K) : Df K mg "heard_all" s_heard_all := by
  obtain ⟨fd, F⟩ := cd.def_ 20 (d := d_heard_all) rfl
  exact ⟨fd, F, He.glo_ok X G (cd.fact 24 rfl)⟩
theorem df_ticked (X : K.In h) (G : h.Ns mainGlobals mg) (cd : He.SaysD fa fn K) : Df K mg "ticked" s_ticked := by
  obtain ⟨fd, F⟩ := cd.def_ 21 (d := d_ticked) rfl
  exact ⟨fd, F, He.glo_ok X G (cd.fact 25 rfl)⟩
theorem df_hummed (X : K.In h) (G : h.Ns mainGlobals mg) (cd : He.SaysD fa fn K) : Df K mg "hummed" s_hummed := by
  obtain ⟨fd, F⟩ := cd.def_ 22 (d := d_hummed) rfl
  exact ⟨fd, F, He.glo_ok X G (cd.fact 26 rfl)⟩
theorem df_dozing_anew (X : K.In h) (G : h.Ns mainGlobals mg) (cd : He.SaysD fa fn K) : Df K mg "dozing_anew" s_dozing_anew := by
  obtain ⟨fd, F⟩ := cd.def_ 23 (d := d_dozing_anew) rfl
  exact ⟨fd, F, He.glo_ok X G (cd.fact 27 rfl)⟩
theorem df_sort_of (X : K.In h) (G : h.Ns mainGlobals mg) (cd : He.SaysD fa fn K) : Df K mg "sort_of" s_sort_of := by
  obtain ⟨fd, F⟩ := cd.def_ 24 (d := d_sort_of) rfl
  exact ⟨fd, F, He.glo_ok X G (cd.fact 28 rfl)⟩
theorem df_heard_asleep (X : K.In h) (G : h.Ns mainGlobals mg) (cd : He.SaysD fa fn K) : Df K mg "heard_asleep" s_heard_asleep := by
  obtain ⟨fd, F⟩ := cd.def_ 25 (d := d_heard_asleep) rfl
  exact ⟨fd, F, He.glo_ok X G (cd.fact 29 rfl)⟩
theorem df_heard_loud_dozing (X : K.In h) (G : h.Ns mainGlobals mg) (cd : He.SaysD fa fn K) : Df K mg "heard_loud_dozing" s_heard_loud_dozing := by
  obtain ⟨fd, F⟩ := cd.def_ 26 (d := d_heard_loud_dozing) rfl
  exact ⟨fd, F, He.glo_ok X G (cd.fact 30 rfl)⟩
theorem df_is_person (X : K.In h) (G : h.Ns mainGlobals mg) (cd : He.SaysD fa fn K) : Df K mg "is_person" s_is_person := by
  obtain ⟨fd, F⟩ := cd.def_ 27 (d := d_is_person) rfl
  exact ⟨fd, F, He.glo_ok X G (cd.fact 31 rfl)⟩
theorem df_is_event (X : K.In h) (G : h.Ns mainGlobals mg) (cd : He.SaysD fa fn K) : Df K mg "is_event" s_is_event := by
  obtain ⟨fd, F⟩ := cd.def_ 28 (d := d_is_event) rfl
  exact ⟨fd, F, He.glo_ok X G (cd.fact 32 rfl)⟩
theorem df_Walk_init (X : K.In h) (G : h.Ns mainGlobals mg) (cd : He.SaysD fa fn K) : Df1v K mg "Walk" "Walk.__init__" s_Walk_init [.ref (He.dflAt ("Walk", some "__init__") 0 K)] := by
  obtain ⟨fd, F⟩ := cd.def_ 29 (d := d_Walk_init) rfl
  exact ⟨He.mkr_ok (cd.fact 131 rfl), He.glo_ok X G (cd.fact 132 rfl), fd, F⟩
theorem df_beyond (X : K.In h) (G : h.Ns mainGlobals mg) (cd : He.SaysD fa fn K) : Df K mg "beyond" s_beyond := by
  obtain ⟨fd, F⟩ := cd.def_ 30 (d := d_beyond) rfl
  exact ⟨fd, F, He.glo_ok X G (cd.fact 33 rfl)⟩
theorem df_floor_noise (X : K.In h) (G : h.Ns mainGlobals mg) (cd : He.SaysD fa fn K) : Df K mg "floor_noise" s_floor_noise := by
  obtain ⟨fd, F⟩ := cd.def_ 31 (d := d_floor_noise) rfl
  exact ⟨fd, F, He.glo_ok X G (cd.fact 34 rfl)⟩
theorem df_noises_of_step (X : K.In h) (G : h.Ns mainGlobals mg) (cd : He.SaysD fa fn K) : Df K mg "noises_of_step" s_noises_of_step := by
  obtain ⟨fd, F⟩ := cd.def_ 32 (d := d_noises_of_step) rfl
  exact ⟨fd, F, He.glo_ok X G (cd.fact 35 rfl)⟩
theorem df_Night_init (X : K.In h) (G : h.Ns mainGlobals mg) (cd : He.SaysD fa fn K) : Df1 K mg "Night" "Night.__init__" s_Night_init := ⟨He.mkr_ok (cd.fact 133 rfl), He.glo_ok X G (cd.fact 134 rfl), cd.def_ 33 (d := d_Night_init) rfl⟩
theorem df_Night_allows (X : K.In h) (G : h.Ns mainGlobals mg) (cd : He.SaysD fa fn K) : Dm K "Night" "allows" "Night.allows" s_Night_allows := ⟨He.meth_ok (cd.fact 0 rfl), cd.def_ 34 (d := d_Night_allows) rfl⟩
theorem df_Night_follow (X : K.In h) (G : h.Ns mainGlobals mg) (cd : He.SaysD fa fn K) : Dm K "Night" "follow" "Night.follow" s_Night_follow := ⟨He.meth_ok (cd.fact 1 rfl), cd.def_ 35 (d := d_Night_follow) rfl⟩
theorem df_Night_tick (X : K.In h) (G : h.Ns mainGlobals mg) (cd : He.SaysD fa fn K) : Dm K "Night" "tick" "Night.tick" s_Night_tick := ⟨He.meth_ok (cd.fact 2 rfl), cd.def_ 36 (d := d_Night_tick) rfl⟩
theorem df_Night_step (X : K.In h) (G : h.Ns mainGlobals mg) (cd : He.SaysD fa fn K) : Dm K "Night" "step" "Night.step" s_Night_step := ⟨He.meth_ok (cd.fact 3 rfl), cd.def_ 37 (d := d_Night_step) rfl⟩
theorem df_Played_init (X : K.In h) (G : h.Ns mainGlobals mg) (cd : He.SaysD fa fn K) : Df1 K mg "Played" "Played.__init__" s_Played_init := ⟨He.mkr_ok (cd.fact 135 rfl), He.glo_ok X G (cd.fact 136 rfl), cd.def_ 38 (d := d_Played_init) rfl⟩
theorem df_play (X : K.In h) (G : h.Ns mainGlobals mg) (cd : He.SaysD fa fn K) : Df K mg "play" s_play := by
  obtain ⟨fd, F⟩ := cd.def_ 39 (d := d_play) rfl
  exact ⟨fd, F, He.glo_ok X G (cd.fact 36 rfl)⟩
theorem df_all_steps (X : K.In h) (G : h.Ns mainGlobals mg) (cd : He.SaysD fa fn K) : Df K mg "all_steps" s_all_steps := by
  obtain ⟨fd, F⟩ := cd.def_ 40 (d := d_all_steps) rfl
  exact ⟨fd, F, He.glo_ok X G (cd.fact 37 rfl)⟩
theorem df_begin (X : K.In h) (G : h.Ns mainGlobals mg) (cd : He.SaysD fa fn K) : Df K mg "begin" s_begin := by
  obtain ⟨fd, F⟩ := cd.def_ 41 (d := d_begin) rfl
  exact ⟨fd, F, He.glo_ok X G (cd.fact 38 rfl)⟩
theorem df_with_room (X : K.In h) (G : h.Ns mainGlobals mg) (cd : He.SaysD fa fn K) : Df K mg "with_room" s_with_room := by
  obtain ⟨fd, F⟩ := cd.def_ 42 (d := d_with_room) rfl
  exact ⟨fd, F, He.glo_ok X G (cd.fact 39 rfl)⟩
theorem df_behind_step (X : K.In h) (G : h.Ns mainGlobals mg) (cd : He.SaysD fa fn K) : Df K mg "behind_step" s_behind_step := by
  obtain ⟨fd, F⟩ := cd.def_ 43 (d := d_behind_step) rfl
  exact ⟨fd, F, He.glo_ok X G (cd.fact 40 rfl)⟩
theorem df_behind_tick (X : K.In h) (G : h.Ns mainGlobals mg) (cd : He.SaysD fa fn K) : Df K mg "behind_tick" s_behind_tick := by
  obtain ⟨fd, F⟩ := cd.def_ 44 (d := d_behind_tick) rfl
  exact ⟨fd, F, He.glo_ok X G (cd.fact 41 rfl)⟩
theorem df_Search_init (X : K.In h) (G : h.Ns mainGlobals mg) (cd : He.SaysD fa fn K) : Df1 K mg "Search" "Search.__init__" s_Search_init := ⟨He.mkr_ok (cd.fact 137 rfl), He.glo_ok X G (cd.fact 138 rfl), cd.def_ 45 (d := d_Search_init) rfl⟩
theorem df_Search_spread (X : K.In h) (G : h.Ns mainGlobals mg) (cd : He.SaysD fa fn K) : Dm K "Search" "spread" "Search.spread" s_Search_spread := ⟨He.meth_ok (cd.fact 4 rfl), cd.def_ 46 (d := d_Search_spread) rfl⟩
theorem df_Search_following (X : K.In h) (G : h.Ns mainGlobals mg) (cd : He.SaysD fa fn K) : Dm K "Search" "following" "Search.following" s_Search_following := ⟨He.meth_ok (cd.fact 5 rfl), cd.def_ 47 (d := d_Search_following) rfl⟩
theorem df_is_without (X : K.In h) (G : h.Ns mainGlobals mg) (cd : He.SaysD fa fn K) : Df K mg "is_without" s_is_without := by
  obtain ⟨fd, F⟩ := cd.def_ 48 (d := d_is_without) rfl
  exact ⟨fd, F, He.glo_ok X G (cd.fact 42 rfl)⟩
theorem df_table (X : K.In h) (G : h.Ns mainGlobals mg) (cd : He.SaysD fa fn K) : Df K mg "table" s_table := by
  obtain ⟨fd, F⟩ := cd.def_ 49 (d := d_table) rfl
  exact ⟨fd, F, He.glo_ok X G (cd.fact 43 rfl)⟩
theorem df_box (X : K.In h) (G : h.Ns mainGlobals mg) (cd : He.SaysD fa fn K) : Df K mg "_law_box" s_box := by
  obtain ⟨fd, F⟩ := cd.def_ 50 (d := d_box) rfl
  exact ⟨fd, F, He.glo_ok X G (cd.fact 44 rfl)⟩
theorem df_take (X : K.In h) (G : h.Ns mainGlobals mg) (cd : He.SaysD fa fn K) : Df K mg "_law_take" s_take := by
  obtain ⟨fd, F⟩ := cd.def_ 51 (d := d_take) rfl
  exact ⟨fd, F, He.glo_ok X G (cd.fact 45 rfl)⟩
theorem df_pick (X : K.In h) (G : h.Ns mainGlobals mg) (cd : He.SaysD fa fn K) : Df K mg "_law_pick" s_pick := by
  obtain ⟨fd, F⟩ := cd.def_ 52 (d := d_pick) rfl
  exact ⟨fd, F, He.glo_ok X G (cd.fact 46 rfl)⟩
theorem df_shuffled (X : K.In h) (G : h.Ns mainGlobals mg) (cd : He.SaysD fa fn K) : Df K mg "_law_shuffled" s_shuffled := by
  obtain ⟨fd, F⟩ := cd.def_ 53 (d := d_shuffled) rfl
  exact ⟨fd, F, He.glo_ok X G (cd.fact 47 rfl)⟩
theorem df_house (X : K.In h) (G : h.Ns mainGlobals mg) (cd : He.SaysD fa fn K) : Df K mg "_law_house" s_house := by
  obtain ⟨fd, F⟩ := cd.def_ 54 (d := d_house) rfl
  exact ⟨fd, F, He.glo_ok X G (cd.fact 48 rfl)⟩
theorem df_sleeper (X : K.In h) (G : h.Ns mainGlobals mg) (cd : He.SaysD fa fn K) : Df K mg "_law_sleeper" s_sleeper := by
  obtain ⟨fd, F⟩ := cd.def_ 55 (d := d_sleeper) rfl
  exact ⟨fd, F, He.glo_ok X G (cd.fact 49 rfl)⟩
theorem df_house_of (X : K.In h) (G : h.Ns mainGlobals mg) (cd : He.SaysD fa fn K) : Df K mg "_law_house_of" s_house_of := by
  obtain ⟨fd, F⟩ := cd.def_ 56 (d := d_house_of) rfl
  exact ⟨fd, F, He.glo_ok X G (cd.fact 50 rfl)⟩
theorem df_sleeper_of (X : K.In h) (G : h.Ns mainGlobals mg) (cd : He.SaysD fa fn K) : Df K mg "_law_sleeper_of" s_sleeper_of := by
  obtain ⟨fd, F⟩ := cd.def_ 57 (d := d_sleeper_of) rfl
  exact ⟨fd, F, He.glo_ok X G (cd.fact 51 rfl)⟩
theorem df_first (X : K.In h) (G : h.Ns mainGlobals mg) (cd : He.SaysD fa fn K) : Df K mg "_law_first" s_first := by
  obtain ⟨fd, F⟩ := cd.def_ 58 (d := d_first) rfl
  exact ⟨fd, F, He.glo_ok X G (cd.fact 52 rfl)⟩
theorem df_l_heard (X : K.In h) (G : h.Ns mainGlobals mg) (cd : He.SaysD fa fn K) : Df K mg "_law_heard" s_l_heard := by
  obtain ⟨fd, F⟩ := cd.def_ 59 (d := d_l_heard) rfl
  exact ⟨fd, F, He.glo_ok X G (cd.fact 53 rfl)⟩
theorem df_noises (X : K.In h) (G : h.Ns mainGlobals mg) (cd : He.SaysD fa fn K) : Df K mg "_law_noises" s_noises := by
  obtain ⟨fd, F⟩ := cd.def_ 60 (d := d_noises) rfl
  exact ⟨fd, F, He.glo_ok X G (cd.fact 54 rfl)⟩
theorem df_l_ticked (X : K.In h) (G : h.Ns mainGlobals mg) (cd : He.SaysD fa fn K) : Df K mg "_law_ticked" s_l_ticked := by
  obtain ⟨fd, F⟩ := cd.def_ 61 (d := d_l_ticked) rfl
  exact ⟨fd, F, He.glo_ok X G (cd.fact 55 rfl)⟩
theorem df_l_hummed (X : K.In h) (G : h.Ns mainGlobals mg) (cd : He.SaysD fa fn K) : Df K mg "_law_hummed" s_l_hummed := by
  obtain ⟨fd, F⟩ := cd.def_ 62 (d := d_l_hummed) rfl
  exact ⟨fd, F, He.glo_ok X G (cd.fact 56 rfl)⟩
theorem df_door_noise (X : K.In h) (G : h.Ns mainGlobals mg) (cd : He.SaysD fa fn K) : Df K mg "_law_door_noise" s_door_noise := by
  obtain ⟨fd, F⟩ := cd.def_ 63 (d := d_door_noise) rfl
  exact ⟨fd, F, He.glo_ok X G (cd.fact 57 rfl)⟩
theorem df_l_floor_noise (X : K.In h) (G : h.Ns mainGlobals mg) (cd : He.SaysD fa fn K) : Df K mg "_law_floor_noise" s_l_floor_noise := by
  obtain ⟨fd, F⟩ := cd.def_ 64 (d := d_l_floor_noise) rfl
  exact ⟨fd, F, He.glo_ok X G (cd.fact 58 rfl)⟩
theorem df_ways (X : K.In h) (G : h.Ns mainGlobals mg) (cd : He.SaysD fa fn K) : Df K mg "_law_ways" s_ways := by
  obtain ⟨fd, F⟩ := cd.def_ 65 (d := d_ways) rfl
  exact ⟨fd, F, He.glo_ok X G (cd.fact 59 rfl)⟩
theorem df_l_begin (X : K.In h) (G : h.Ns mainGlobals mg) (cd : He.SaysD fa fn K) : Df K mg "_law_begin" s_l_begin := by
  obtain ⟨fd, F⟩ := cd.def_ 66 (d := d_l_begin) rfl
  exact ⟨fd, F, He.glo_ok X G (cd.fact 60 rfl)⟩
theorem df_go (X : K.In h) (G : h.Ns mainGlobals mg) (cd : He.SaysD fa fn K) : Df K mg "_law_go" s_go := by
  obtain ⟨fd, F⟩ := cd.def_ 67 (d := d_go) rfl
  exact ⟨fd, F, He.glo_ok X G (cd.fact 61 rfl)⟩
theorem df_event_text (X : K.In h) (G : h.Ns mainGlobals mg) (cd : He.SaysD fa fn K) : Df K mg "_law_event_text" s_event_text := by
  obtain ⟨fd, F⟩ := cd.def_ 68 (d := d_event_text) rfl
  exact ⟨fd, F, He.glo_ok X G (cd.fact 62 rfl)⟩
theorem df_is_below (X : K.In h) (G : h.Ns mainGlobals mg) (cd : He.SaysD fa fn K) : Df K mg "_law_is_below" s_is_below := by
  obtain ⟨fd, F⟩ := cd.def_ 69 (d := d_is_below) rfl
  exact ⟨fd, F, He.glo_ok X G (cd.fact 63 rfl)⟩
theorem facts {f : Addr} (X : K.In h) (G : h.Ns mainGlobals mg) (hfa : mg ("law" : Str) = some (.ref f)) (cd : He.SaysD fa fn K) (cx : ex K = true) :
    ∃ fd : FuncData, FunD K "law" "law" (defArgs s_law) (defBody s_law) (defScope s_law) [] [] f fd ∧ (∀ (s : Shared) (v : Value), BindsTo s fd ⟨[v], []⟩ [("_law_script", v)]) ∧ BodyG P w K mg N_law (defScope s_law) (defBody s_law) 10 63 := by
  obtain ⟨fd, F⟩ := cd.def_ 70 (d := d_law) rfl
  have T := tx_of X G cd cx
  have e := hfa.symm.trans (He.glo_ok X G (cd.fact 64 rfl))
  cases e
  have b := FunD.bindsA (ps := ["_law_script"]) F bd_law
  refine ⟨fd, F, fun s v => b s [v] rfl, fun base f a cdv s H ns few hS hr => ?_⟩
  have c_is_whole := c_is_whole (P := P) (w := w) (base := base) (df_is_whole X G cd) T
  have c_is_positive := c_is_positive (df_is_positive X G cd) T c_is_whole
  have c_is_name := c_is_name (P := P) (w := w) (base := base) (df_is_name X G cd) T
  have c_is_row := c_is_row (P := P) (w := w) (base := base) (df_is_row X G cd) T
  have c_is_tuple_of := c_is_tuple_of (P := P) (w := w) (base := base) (df_is_tuple_of X G cd) T
  have c_are_unlike := c_are_unlike (P := P) (w := w) (base := base) (df_are_unlike X G cd) T
  have c_is_room := c_is_room (df_is_room X G cd) T c_is_whole
  have c_is_door := c_is_door (df_is_door X G cd) T c_is_tuple_of c_is_room c_is_name
  have c_is_floor := c_is_floor (df_is_floor X G cd) T c_is_tuple_of c_is_room c_is_name
  have c_are_doors := c_are_doors (df_are_doors X G cd) T c_is_row c_is_door
  have c_are_floors := c_are_floors (df_are_floors X G cd) T c_is_row c_is_floor c_are_unlike
  have c_are_cradles := c_are_cradles (df_are_cradles X G cd) T c_is_row c_is_room c_are_unlike
  have c_House := m_House_mk (df_House_init X G cd) T c_is_positive c_are_doors c_are_floors c_are_cradles
  have c_is_sorted_name := c_is_sorted_name (df_is_sorted_name X G cd) T c_is_tuple_of c_is_name
  have c_are_sorts := c_are_sorts (df_are_sorts X G cd) T c_is_row c_is_sorted_name c_are_unlike
  have c_Sleeper := m_Sleeper_mk (df_Sleeper_init X G cd) T c_are_sorts c_is_positive
  have c_sort_of := c_sort_of (P := P) (w := w) (base := base) (df_sort_of X G cd) T
  have c_dozing_anew := c_dozing_anew (P := P) (w := w) (base := base) (df_dozing_anew X G cd) T
  have c_heard_loud_dozing := c_heard_loud_dozing (df_heard_loud_dozing X G cd) T c_dozing_anew
  have c_heard_asleep := c_heard_asleep (P := P) (w := w) (base := base) (df_heard_asleep X G cd) T
  have c_heard := c_heard (df_heard X G cd) T c_sort_of c_heard_asleep c_heard_loud_dozing
  have c_ticked := c_ticked (P := P) (w := w) (base := base) (df_ticked X G cd) T
  have c_hummed := c_hummed (df_hummed X G cd) T c_dozing_anew
  have c_first_state := c_first_state (df_first_state X G cd) T c_dozing_anew
  have c_floor_noise := c_floor_noise (P := P) (w := w) (base := base) (df_floor_noise X G cd) T
  have c_noises_of_step := c_noises_of_step (df_noises_of_step X G cd) T c_floor_noise
  have c_heard_all := c_heard_all (df_heard_all X G cd) T c_heard
  have c_all_steps := c_all_steps (df_all_steps X G cd) T c_noises_of_step
  have c_begin := c_begin (df_begin X G cd) T c_first_state
  have c_with_room := c_with_room (P := P) (w := w) (base := base) (df_with_room X G cd) T
  have c_behind_step := c_behind_step (df_behind_step X G cd) T c_heard_all c_with_room
  have c_behind_tick := c_behind_tick (df_behind_tick X G cd) T c_ticked
  have c_spread := met_ (P := P) (w := w) (mg := mg) (base := base) (df_Search_spread X G cd) T.cls_Search bd_Search_spread fun F => ok_spread F T c_behind_step
  have c_following := met_ (P := P) (w := w) (mg := mg) (base := base) (df_Search_following X G cd) T.cls_Search bd_Search_following fun F => ok_following F T c_behind_tick
  have c_Search := m_Search_mk (df_Search_init X G cd) T c_all_steps c_begin c_spread c_following
  have c_is_without := c_is_without (P := P) (w := w) (base := base) (df_is_without X G cd) T
  have c_table := c_table (df_table X G cd) T c_Search c_is_without
  have c_is_number := c_is_number (df_is_number X G cd) T c_is_whole
  have c_is_numeral := c_is_numeral (P := P) (w := w) (base := base) (df_is_numeral X G cd) T
  have c_is_person := c_is_person (df_is_person X G cd) T c_is_numeral
  have c_is_event := c_is_event (df_is_event X G cd) T c_is_numeral c_is_person
  have c_Walk2 := m_Walk_mk (df_Walk_init X G cd) T c_is_number c_is_row c_is_event
  have c_Walk := c_Walk2.1
  have c_Walk0 := c_Walk2.2
  have c_beyond := c_beyond (P := P) (w := w) (base := base) (df_beyond X G cd) T
  have c_Night := m_Night_mk (df_Night_init X G cd) T c_first_state
  have c_tick := met_ (P := P) (w := w) (mg := mg) (base := base) (df_Night_tick X G cd) T.cls_Night bd_Night_tick fun F => ok_tick F T c_ticked
  have c_step := met_ (P := P) (w := w) (mg := mg) (base := base) (df_Night_step X G cd) T.cls_Night bd_Night_step fun F => ok_step F T c_beyond c_noises_of_step c_heard_all
  have c_allows := met_ (P := P) (w := w) (mg := mg) (base := base) (df_Night_allows X G cd) T.cls_Night bd_Night_allows fun F => ok_allows F T c_beyond
  have c_follow := met_ (P := P) (w := w) (mg := mg) (base := base) (df_Night_follow X G cd) T.cls_Night bd_Night_follow fun F => ok_follow F T c_hummed c_tick c_step
  have c_Played := m_Played_mk (P := P) (w := w) (base := base) (df_Played_init X G cd) T
  have c_play := c_play (df_play X G cd) T c_Night c_Played c_allows c_follow
  have c_box := c_box (P := P) (w := w) (base := base) (df_box X G cd) T
  have c_take := c_take (P := P) (w := w) (base := base) (df_take X G cd) T
  have c_pick := c_pickB (df_pick X G cd) T c_take
  have c_shuffled := c_shuffled (df_shuffled X G cd) T c_take
  have c_house := c_houseB (df_house X G cd) T c_take c_pick c_shuffled
  have c_sleeper := c_sleeperB (df_sleeper X G cd) T c_take c_pick
  have c_house_of := c_house_ofB (df_house_of X G cd) T c_House
  have c_sleeper_of := c_sleeper_ofB (df_sleeper_of X G cd) T c_Sleeper
  have c_first := c_lfirst (P := P) (w := w) (base := base) (df_first X G cd) T
  have c_l_heard := c_lheard (P := P) (w := w) (base := base) (df_l_heard X G cd) T
  have c_noises := c_lnoises (df_noises X G cd) T c_l_heard
  have c_l_ticked := c_lticked (P := P) (w := w) (base := base) (df_l_ticked X G cd) T
  have c_door_noise := c_ldoorN (P := P) (w := w) (base := base) (df_door_noise X G cd) T
  have c_l_floor_noise := c_lfloorN (P := P) (w := w) (base := base) (df_l_floor_noise X G cd) T
  have c_ways := c_lways (P := P) (w := w) (base := base) (df_ways X G cd) T
  have c_l_hummed := c_lhummed (P := P) (w := w) (base := base) (df_l_hummed X G cd) T
  have c_l_begin := c_lbegin (df_l_begin X G cd) T c_first
  have c_go := c_lgo (df_go X G cd) T c_l_ticked c_l_hummed c_ways c_noises c_door_noise c_l_floor_noise
  have c_event_text := c_event_text (P := P) (w := w) (base := base) (df_event_text X G cd) T
  have c_is_below := c_is_below (P := P) (w := w) (base := base) (df_is_below X G cd) T
  exact ok_law T ⟨c_box, c_take, c_pick, c_house, c_sleeper, c_house_of, c_sleeper_of, c_table, c_ways, c_l_begin, c_go, c_event_text, c_is_below, c_Walk, c_play⟩ f a cdv s H ns few hS hr
end
end Lw
open PySem PySem.W PySem.Calls PyProof.Rows
theorem PySem.Challenge.cw_hushsteps_k78_whole_tables_and_walks_holds : PySem.Challenge.rw_hushsteps_k78_whole_tables_and_walks.Holds := by
  w_on; o_law
  refine HandSHeadRun.head_any (r := OpenLaw.row PySem.Challenge.rw_hushsteps_k78_whole_tables_and_walks) (q := view (OpenLaw.row PySem.Challenge.rw_hushsteps_k78_whole_tables_and_walks).prog [101]) (H := Lw.hk) (ob := Lw.ob) (M := 12000) (loose := Lw.names) (d := HandSHeadRun.topDef (OpenLaw.row PySem.Challenge.rw_hushsteps_k78_whole_tables_and_walks).prog 101) (kwd := []) Lw.ob_eq
    (by kernel_rfl) (fun s => by kernel_rfl) Lw.run (by kernel_rfl) (by kernel_rfl) (by kernel_rfl) (by rfl) (by first | assumption | decide +kernel) (by decide +kernel) ⟨rfl, rfl, rfl, rfl, rfl, by decide +kernel⟩ ?hw ?hc
  case hw => w_witness2
  case hc =>
    refine Hb.walk_ofG (l := PySem.Challenge.rw_hushsteps_k78_whole_tables_and_walks) (n := 63) (k := 10) (x := "_law_script") rfl (by decide) (by kernel_rfl) ⟨rfl, by decide, by decide⟩ ?F
    intro w mg fa h Y G hmg0
    obtain ⟨K, KX, c⟩ := Y
    have hmg : mg ("law" : PySem.Str) = some (.ref fa) := by
      have e : (HandSHeadRun.topDef (OpenLaw.row PySem.Challenge.rw_hushsteps_k78_whole_tables_and_walks).prog 101).name = ("law" : PySem.Str) := by kernel_rfl
      rw [← e]
      exact hmg0
    obtain ⟨fd, hF, hb, hB⟩ := Lw.facts (P := (PySem.Challenge.rw_hushsteps_k78_whole_tables_and_walks).prog) (w := w) KX G hmg c.t.d c.more
    exact ⟨K, fd, _, _, _, _, KX, hF, Lw.sc_law, hb, hB⟩
