import PyProof.Rows.All
import Wide.All
import OpenK.AllK
import Wide.FinOn
import PyProof.EnumMake
import PyProof.Draws
import PyProof.InstNe
import HandS.ForMost
import HandS.IsInst
import HandS.Zip0
import HandS.Zip
import HandS.Conv
import HandS.Deep
import HandS.SortRule
import HandS.SortInts
import HandS.TupLe
import HandS.OwnEq
import HandS.Walk
import HandS.Evl
import OpenK.KMake
import HandS.WideBits
import HandS.TupAny
import HandS.Style
import HandS.NamedTupSort
import HandS.FStr
import HandS.Text
import KE.KxField
import KE.KDictDisplayH
import HandS.Flow
import HandS.SetKeys
import PySem.Challenge.RW_silencers_k07_whole_pieces_and_twins
set_option Elab.async false
set_option linter.all false
set_option maxRecDepth 100000
set_option maxHeartbeats 4000000
namespace Bs
open PySem PySem.Spec PyProof.Rows L2
/-! ## enumerate over a tuple -/
theorem draws_tup {prog : Program} {w : World} {A : Around} (hh : A.handled = none) (it l : Addr) (hne : l ≠ it) (items : Array Value) :
    Draws prog w A it [it, l] items.size (fun i v => items[i]? = some v) (fun i h => h.IsTupleIter it l i ∧ h.IsTuple l items) where
  live := fun i h st => let ⟨⟨o, e, _⟩, _⟩ := st; ⟨o, e⟩
  frame := fun i h h' st k => ⟨st.1.at fun o e => k it (by simp) o e, st.2.at fun o e => k l (by simp) o e⟩
  item := fun i s Q E hi st hQ => by
    refine RZ.nextOf_tuple_item st.1 st.2 (x := items[i]) (by simp [hi]) fun h' hit' hs' => ?_
    exact hQ _ h' s.toks (by simp [hi]) ⟨hit', st.2.at fun o e => hs'.extBut l o hne e⟩ hs'
  done := fun s Q E st hQ => RZ.nextOf_tuple_end hh st.1 st.2 (by simp) hQ
theorem meets_enumerate_newT (l : Addr) (items : Array Value) (n : Nat) (dct : Option Addr) (sl : Array (Option Value)) :
    Meets (Builtin.«enumerate.__new__» ⟨[.type "enumerate", .ref l], []⟩) (fun _ R s => s.heap.get? l = some { cls := .type "tuple", dict := dct, data := .seq items n, slots := sl } ∧
      R (.ok (.ret (.ref (s.heap.push { cls := .type "tuple_iterator", data := .fields #[.ref l, .int 0 0] }).objs.size)))
        { s with heap := (s.heap.push { cls := .type "tuple_iterator", data := .fields #[.ref l, .int 0 0] }).push { cls := .type "enumerate", data := .fields #[.none, .bool false, .ref s.heap.objs.size, rawInt 0, .none, .none] } }) :=
  .of_wp fun prog w A R s h => by
    obtain ⟨hp, g, d, tk, os⟩ := s; obtain ⟨hl, h⟩ := h
    have hsub := sub_enumerate
    have hL : Heap.IsTuple (Shared.heap ⟨hp, g, d, tk, os⟩) l items := ⟨_, hl, rfl, n, rfl⟩
    wp_walk using AutoSeq1.wpAny_loadPart' hl
    refine wpAny_stack_any fun st => wpAny_pure ?_
    split
    · rename_i c _ _ _ _ _
      cases (c == Value.type "enumerate")
      · wp_walk using AutoSeq1.wpAny_loadPart' hl, wpAny_pyIter_tuple hL
        exact ⟨_, rfl, h⟩
      · wp_walk using AutoSeq1.wpAny_loadPart' hl, wpAny_pyIter_tuple hL
        exact ⟨_, rfl, h⟩
    · wp_walk using AutoSeq1.wpAny_loadPart' hl, wpAny_pyIter_tuple hL
      exact ⟨_, rfl, h⟩
section
variable {prog : Program} {w : World} {A : Around} {E : Value → Shared → Prop} {s : Shared}
theorem call_enumerate_tup {l : Addr} {items : Array Value} {Q : Value → Shared → Prop} (hL : s.heap.IsTuple l items)
    (h : ∀ h', IsEnum h' (s.heap.objs.size + 1) s.heap.objs.size 0 .none → h'.IsTupleIter s.heap.objs.size l 0 → h'.objs.size = s.heap.objs.size + 2 →
      (∀ b o, s.heap.get? b = some o → h'.get? b = some o) → Q (.ref (s.heap.objs.size + 1)) { s with heap := h' }) :
    wpAny (model prog w) A (call (.type "enumerate") [.ref l]) Q E s := by
  obtain ⟨⟨c, dct, dt, sl⟩, hl, hc, n, hd⟩ := hL
  replace hc : c = .type "tuple" := hc
  replace hd : dt = .seq items n := hd
  subst hc hd
  refine callType_new F.called_enumerate (by decide) (F.typeCall_enumerate_1 _) (F.newCall_enumerate_1 _) (fun obj => F.args_object_init_2 obj _) F.entry_enumerate_new
    (meets_enumerate_newT l items n dct sl) ⟨hl, ?_⟩
  have hz : (s.heap.push { cls := .type "tuple_iterator", data := .fields #[.ref l, .int 0 0] }).objs.size = s.heap.objs.size + 1 := Heap.size_push ..
  show _ ∧ _
  rw [hz]
  have he : IsEnum ((s.heap.push { cls := .type "tuple_iterator", data := .fields #[.ref l, .int 0 0] }).push
      { cls := .type "enumerate", data := .fields #[.none, .bool false, .ref s.heap.objs.size, rawInt 0, .none, .none] }) (s.heap.objs.size + 1) s.heap.objs.size 0 .none := by
    have := Heap.get?_push_size (s.heap.push { cls := .type "tuple_iterator", data := .fields #[.ref l, .int 0 0] })
      (o := { cls := .type "enumerate", data := .fields #[.none, .bool false, .ref s.heap.objs.size, rawInt 0, .none, .none] }) rfl
    rw [hz] at this; exact this
  refine ⟨⟨_, he, rfl⟩, h _ he ⟨_, Heap.get?_push_of_some _ (Heap.get?_push_size _ rfl), rfl, rfl⟩ (by rw [Heap.size_push, hz]) fun b o x => Heap.get?_push_of_some _ (Heap.get?_push_of_some _ x)⟩
end
/-- the tuple at a as it stands at each turn, each item in a new pair -/
def IteT (K : PySem.W.Frag) (a : Addr) : It :=
  ⟨fun i H => ∃ (xs : List V) (x : V), SqT K H a xs ∧ xs[i]? = some x, fun i H v H' => ∃ T x, v = .ref T ∧ H T = none ∧ H' = upd H T (.tup [.int (i : Nat), x]) ∧ ∀ xs, SqT K H a xs → xs[i]? = some x, fun i H => ∃ xs : List V, SqT K H a xs ∧ xs.length ≤ i⟩
theorem turn_enumT {P : Program} {w : World} {K : PySem.W.Frag} {elts : List Expr} {kk : Nat} {tpos : Pos} (a e it : Addr) :
    Turn P w K (.Tuple elts kk tpos) (IteT K a) [e, it] e (fun i h => (∃ old, IsEnum h e it ((i : Nat) : Int) old) ∧ h.IsTupleIter it a i ∧ e ≠ it ∧ a ≠ it ∧ a ≠ e) where
  mem := by simp
  obj := fun i h st b hb => by
    obtain ⟨⟨old, he⟩, ⟨o, ho, hc, hd⟩, _⟩ := st
    have e' : b = e ∨ b = it := by simpa using hb
    rcases e' with z | z
    · rw [z]; exact ⟨_, he, fun v q => nomatch q⟩
    · rw [z]; exact ⟨o, ho, fun v q => by rw [hd] at q; cases q⟩
  keep := fun i h h' st k => let ⟨⟨old, he⟩, hi, hne⟩ := st; ⟨⟨old, k e (by simp) _ he⟩, hi.at fun o q => k it (by simp) o q, hne⟩
  item := by
    intro X hP hw hK hc i pins s σ H E I hf st hg
    subst hP hw hK
    obtain ⟨⟨old, he⟩, hit, hne, hne2, hne3⟩ := st
    obtain ⟨xs, x, hq, hx⟩ := hg
    obtain ⟨its, rv, p, hz⟩ := I.tuple hq
    obtain ⟨u, hu, ru⟩ := rv.get hx
    have hel : e < s.heap.objs.size := Heap.lt_size he
    have hil : it < s.heap.objs.size := by obtain ⟨_, q, _⟩ := hit; exact Heap.lt_size q
    have hlt : i < its.toArray.size := by
      have := (List.getElem?_eq_some_iff.mp hu).1
      simpa using this
    refine wpAny_pyNext_enum_itemD (draws_tup (show X.A.in1.handled = none from I.ok.hd hc) it a hne2 its.toArray) he ⟨hit, p⟩ hlt hne (by simp [hne, Ne.symm hne3]) fun y h' tk hy ho hit' hT hsz hk => ?_
    have hyu : y = u := by
      have h2 : its.toArray[i]? = some u := by simpa using hu
      rw [h2] at hy
      exact (Option.some.inj hy).symm
    subst hyu
    refine ⟨_, rfl, wpAny_letOwnedTupleGo_enum (s := { s with heap := h', toks := tk + 1 }) ho fun h'' he' sb => ?_⟩
    have hT2 : h''.get? s.heap.objs.size = some { cls := .type "tuple", data := .seq #[.int i tk, y] } := (sb.2 _ (Nat.ne_of_gt hel)).trans hT
    have new : ObjOk X.prog X.w (upd H s.heap.objs.size (.tup [.int (i : Nat), x])) h'' s.heap.objs.size (.tup [.int (i : Nat), x]) :=
      ⟨by show 2 ≤ sizeLine; decide, [.int i tk, y], .cons ⟨_, rfl⟩ (.cons ru .nil), ⟨_, hT2, rfl, _, rfl⟩⟩
    have I1 : Inv X pins σ (upd H s.heap.objs.size (.tup [.int (i : Nat), x])) { s with heap := h'', toks := tk + 1 } :=
      I.turnedNew (ch := [e, it]) (fun b ob hb q => (sb.2 b (fun z => hb (by simp [z]))).trans (hk b ob (fun z => hb (by simp [z])) (fun z => hb (by simp [z])) q)) hf (Nat.le_refl _) new
    refine ⟨.ref s.heap.objs.size, _, I1, rfl, ⟨_, x, rfl, I.hok.fresh (Nat.le_refl _), rfl, fun ys hy => by rw [I.tuple_inj hy hq]; exact hx⟩, ⟨⟨y, ?_⟩, hit'.1.at fun o q => (sb.2 it (Ne.symm hne)).trans q, hne, hne2, hne3⟩, fun b hb => ?_⟩
    · have e1 : ((i + 1 : Nat) : Int) = (i : Int) + 1 := by omega
      rw [e1]; exact he'
    · have hb' : b < s.heap.objs.size := by
        have e' : b = e ∨ b = it := by simpa using hb
        rcases e' with z | z
        · rw [z]; exact hel
        · rw [z]; exact hil
      rw [upd_ne (Nat.ne_of_lt hb')]
      exact (hf b hb).1
  done := by
    intro X hP hw hK hc i pins s σ H E I hf st hg
    subst hP hw hK
    obtain ⟨⟨old, he⟩, hit, hne, hne2, hne3⟩ := st
    obtain ⟨xs, hq, hx⟩ := hg
    obtain ⟨its, rv, p, hz⟩ := I.tuple hq
    obtain ⟨f0, f1, f2, f3, f4, f5⟩ := hf it (by simp)
    have hl := rv.length
    have hT : s.TypeIs (.ref e) "enumerate" := ⟨_, he, rfl⟩
    unfold pyNext
    refine wpAny_bind (wpAny_attempt (wpAny_callSpecial?_slot (name := Str.ofString "__next__") hT F.slot_enumerate_next
      (wpAny_call_entry F.slot_enumerate_next hT F.entry_enumerate_next ?_ (F.args_enumerate_next_1 _))))
    show wpAny _ _ (field (.ref e) 2 >>= _) _ _ _
    refine wpAny_bind (wpAny_field he rfl (x := .ref it) rfl ?_)
    refine wpAny_bind (RZ.nextOf_tuple_end (show X.A.in1.handled = none from I.ok.hd hc) hit p (by simp; omega) fun h' x he' hx' => ?_)
    obtain ⟨o, ho, hc⟩ := hx'
    refine wpAny_bind (wpAny_isInstance (T := "StopIteration") (b := true) ⟨o, ho, hc⟩ isSubtype_stop ?_)
    exact wpAny_pure ⟨rfl, I.turned (t' := s.toks) (fun b o hb q => he' b o hb q) f0 f1 f3 f4 f5⟩
  self := fun A i s Q E st h => let ⟨⟨_, he⟩, _⟩ := st; wpAny_pyIter_enum he h
def iEnumT (K : PySem.W.Frag) (ta : TA) : TI := fun σ H R => ta σ H fun vs H1 => ∃ a xs, vs = [.ref a] ∧ SqT K H1 a xs ∧ R (IteT K a) H1
theorem pi_enumT {X : Cx} {e : Expr} {ta : TA} {p pos tpos : Pos} {elts : List Expr} {kk : Nat} (hg : Gl X "enumerate") (hm : X.mg "enumerate" = none) (ha : PA X [e] ta) (hs : starEach [e] X.env = [(false, eval e X.env)] := by rfl) :
    PI X (.Tuple elts kk tpos) (.Call (.Name "enumerate" p) [e] [] pos) (iEnumT X.K ta) := by
  refine ⟨fun pins s σ H R I h => ?_⟩
  refine Call_ (ld_blt I hg hm boot_enumerate (PyProof.Rows.callWith_type1 (thn (ha.run pos pins s σ H _ I h) fun us s1 ⟨vs, H1, I1, r1, q1⟩ => ?_) hs rfl))
  obtain ⟨a, xs, ex, hq, q⟩ := q1
  subst ex
  cases r1 with
  | cons r rr =>
    cases rr
    cases r
    obtain ⟨its, rv, p', hz⟩ := I1.tuple hq
    have hal : a < s1.heap.objs.size := by obtain ⟨_, q, _⟩ := p'; exact Heap.lt_size q
    refine call_enumerate_tup p' fun h' he hit hsz hk => wpAny_pyIter_enum he ?_
    have I2 : Inv X pins σ H1 { s1 with heap := h' } := I1.kept (t' := s1.toks) hk
    refine ⟨s1.heap.objs.size + 1, [s1.heap.objs.size + 1, s1.heap.objs.size], _, _, H1, rfl, I2, turn_enumT a (s1.heap.objs.size + 1) s1.heap.objs.size, ⟨⟨.none, he⟩, hit, Nat.succ_ne_self _, Nat.ne_of_lt hal, Nat.ne_of_lt (Nat.lt_succ_of_lt hal)⟩, fun b hb => ?_, q⟩
    have e' : b = s1.heap.objs.size + 1 ∨ b = s1.heap.objs.size := by simpa using hb
    have hle : s1.heap.objs.size ≤ b := by
      rcases e' with z | z
      · rw [z]; exact Nat.le_add_right _ _
      · rw [z]; exact Nat.le_refl _
    exact I1.fpOk hle (I1.hok.fresh hle)
theorem walk_enumT {K : PySem.W.Frag} {a : Addr} {xs : List V} : Walk (IteT K a) xs.length (fun H => SqT K H a xs) (YPair (fun i => some (.int (i : Nat))) (fun i => xs[i]?)) := by
  refine ⟨fun i _ hi q => ⟨xs, xs[i], q, by simp [hi]⟩, fun _ q => ⟨xs, q, Nat.le_refl _⟩, fun i H v H' _ q y => ?_⟩
  obtain ⟨T, x, h1, h2, h3, h4⟩ := y
  exact ⟨T, .int (i : Nat), x, h1, h2, h3, rfl, h4 xs q⟩
theorem walk_zipT {K : PySem.W.Frag} {a b : Addr} {xs ys : List V} {n : Nat} (hn : n = min xs.length ys.length) : Walk (RZ.ItzT K a b) n (fun H => SqT K H a xs ∧ SqT K H b ys) (YPair (fun i => xs[i]?) (fun i => ys[i]?)) := by
  subst hn
  refine ⟨fun i _ hi q => ?_, fun _ q => ⟨xs, ys, q.1, q.2, by omega⟩, fun i H v H' _ q y => ?_⟩
  · have h1 : i < xs.length := by omega
    have h2 : i < ys.length := by omega
    exact ⟨xs, ys, xs[i], ys[i], q.1, q.2, by simp [h1], by simp [h2]⟩
  · obtain ⟨T, x, z, h1, h2, h3, h4, h5⟩ := y
    exact ⟨T, x, z, h1, h2, h3, h4 xs q.1, h5 ys q.2⟩
end Bs

namespace Bs
open PySem PySem.Spec PyProof.Rows L2
/-! ## != of two instances of one own class with its own == and no != of its own -/
section
variable {prog : Program} {w : World} {A : Around} {E : Value → Shared → Prop} {s : Shared} {K : PySem.W.Frag} {x y C : Addr} {ox oy : Obj} {od oe : Option Obj} {f : Addr}
theorem objNe_K (X : K.In s.heap) (I : PySem.W.InstAt s.heap x ox C od) (hs : PySem.W.findIn K (.ref C) "__eq__" = some (some (.ref f))) (hf : PySem.W.isFn K (.ref f) = true) (hu : A.units < cLine) {Q : Fin → Shared → Prop}
    (hcall : wpAny (model prog w) A (call (.ref f) [.ref x, .ref y]) (fun v s' => ∃ b, v = .bool b ∧ Q (.done (.ret (.bool (!b)))) s') E s) :
    wpAny (model prog w) A (Builtin.«object.__ne__» ⟨[.ref x, .ref y], []⟩) Q E s := by
  obtain ⟨hp, g, d, t, os⟩ := s
  unfold Builtin.«object.__ne__»
  repeat (first
    | with_reducible refine wpAny_cRoomFor hu ?_
    | (refine wpAny_bind (m := callSpecialIfBound? (.ref x) (Str.ofString "__eq__") [.ref y])
        (PySem.W.ifBound_K X I hs hf (wpAny_mono hcall (fun v s' hv => by
          obtain ⟨b, rfl, hq⟩ := hv
          repeat (first | exact hq | exact wpAny_pure hq | exact wpAny_truthy_bool hq | (refine wpAny_bind (m := truthy (.bool _)) (wpAny_truthy_bool ?_)) | wp_step)) fun _ _ e => e)))
    | wp_step)
theorem ifBound_ne (X : K.In s.heap) (I : PySem.W.InstAt s.heap x ox C od) (hn : PySem.W.findIn K (.ref C) "__ne__" = some (some (.builtin "object.__ne__"))) {args : List Value} {Q : Option Value → Shared → Prop} {M : Model}
    (h : wpAny M A (call (.builtin "object.__ne__") (.ref x :: args)) (fun v => Q (some v)) E s) : wpAny M A (callSpecialIfBound? (.ref x) "__ne__" args) Q E s := by
  simp only [callSpecialIfBound?, bindSpecialIfBound?]
  refine wpAny_holding (wpAny_bind (wpAny_bind (wpAny_bind (I.type.here ((PySem.W.looks_findIn X hn).here ?_)))))
  refine wpAny_bind (wpAny_askSetting (wpAny_ite ?_))
  have fin : wpAny M A (call (.builtin "object.__ne__") ([.ref x] ++ args) >>= fun v => pure (some v)) Q E s := wpAny_bind (wpAny_mono h (fun v s' h' => wpAny_pure h') fun _ _ h' => h')
  have hb : bindSpecial (.builtin "object.__ne__") (.ref x) = pure (.builtin "object.__ne__", [.ref x]) := (F.slot_object_ne).bind (.ref x)
  split
  · rw [hb]
    exact wpAny_bind (wpAny_pure (wpAny_pure fin))
  · rw [hb]
    exact wpAny_tryCatch (wpAny_bind (wpAny_pure (wpAny_pure fin)))
theorem tryNe_K (X : K.In s.heap) (I : PySem.W.InstAt s.heap x ox C od) (hs : PySem.W.findIn K (.ref C) "__eq__" = some (some (.ref f))) (hf : PySem.W.isFn K (.ref f) = true)
    (hn : PySem.W.findIn K (.ref C) "__ne__" = some (some (.builtin "object.__ne__"))) (hsub : PySem.W.subIn K (.ref C) (.type "object") = some true) (hu : A.units + 1 < cLine) {Q : Option Value → Shared → Prop}
    (hcall : wpAny (model prog w) A.in1 (call (.ref f) [.ref x, .ref y]) (fun v s' => ∃ b, v = .bool b ∧ Q (some (.bool (!b))) s') E s) :
    wpAny (model prog w) A (tryCompare (.ref x) "__ne__" (.ref y)) Q E s := by
  simp only [tryCompare]
  refine wpAny_bind (ifBound_ne X I hn (wpAny_call (codeAny_call_builtin (F.slot_object_ne).plain F.cmpEntry_ne
    (PySem.W.check_slot F.cmpKind_ne F.cmpSplit_ne (I.type.andThen (PySem.W.looks_subIn X hsub)) (F.cmpArgs_ne _ _)
      (objNe_K (A := A.in1) X I hs hf hu (wpAny_mono hcall (fun v s' hv => ?_) fun _ _ e => e))))))
  obtain ⟨b, rfl, hq⟩ := hv
  first | exact ⟨b, rfl, wpAny_pure hq⟩ | exact ⟨b, rfl, wpAny_pure (wpAny_pure hq)⟩ | exact ⟨b, rfl, hq⟩
theorem richNe_K (X : K.In s.heap) (I : PySem.W.InstAt s.heap x ox C od) (J : PySem.W.InstAt s.heap y oy C oe) (hs : PySem.W.findIn K (.ref C) "__eq__" = some (some (.ref f))) (hf : PySem.W.isFn K (.ref f) = true)
    (hn : PySem.W.findIn K (.ref C) "__ne__" = some (some (.builtin "object.__ne__"))) (hsub : PySem.W.subIn K (.ref C) (.type "object") = some true) (hu : A.units + 1 < cLine) {Q : Value → Shared → Prop}
    (hcall : wpAny (model prog w) A.in1 (call (.ref f) [.ref x, .ref y]) (fun v s' => ∃ b, v = .bool b ∧ Q (.bool (!b)) s') E s) :
    wpAny (model prog w) A (richCompare .NotEq (.ref x) (.ref y)) Q E s := by
  have one : wpAny (model prog w) A (tryCompare (.ref x) "__ne__" (.ref y)) (fun r s' => ∃ v, r = some v ∧ Q v s') E s :=
    tryNe_K X I hs hf hn hsub hu (wpAny_mono hcall (fun v s' ⟨b, e, q⟩ => ⟨b, e, _, rfl, q⟩) fun _ _ e => e)
  unfold richCompare
  simp only [oneThing_ref]
  refine wpAny_holding (wpAny_bind (wpAny_cRoomFor (Nat.lt_of_succ_lt hu) ?_))
  rw [cmpInfo_NotEq]
  dsimp only
  refine wpAny_bind (I.type.here (wpAny_bind (J.type.here ?_)))
  rw [show (Value.ref C != Value.ref C) = false from by simp]
  simp only [Bool.false_eq_true, if_false]
  refine wpAny_bind (wpAny_pure ?_)
  simp only [Bool.false_eq_true, if_false]
  refine wpAny_bind (wpAny_mono one (fun r s' z => ?_) fun _ _ e => e)
  obtain ⟨v, rfl, hq⟩ := z
  exact wpAny_pure hq
end
/-- what != asks of two instances of C: the promise of C's own == -/
def rNeOwn (C : Addr) (sp : Sp) : R2 := fun x y H Q => ∃ a b dx dy fs gs, x = .ref a ∧ y = .ref b ∧ H a = some (.ins C dx fs) ∧ H b = some (.ins C dy gs) ∧ sp [.ref a, .ref b] H (fun v H' => ∃ r, v = .bl r ∧ Q (.bl (!r)) H') E0
structure OwnNe (K : PySem.W.Frag) (C f : Addr) : Prop where
  eq : PySem.W.findIn K (.ref C) "__eq__" = some (some (.ref f))
  fn : PySem.W.isFn K (.ref f) = true
  ne : PySem.W.findIn K (.ref C) "__ne__" = some (some (.builtin "object.__ne__"))
  sub : PySem.W.subIn K (.ref C) (.type "object") = some true
theorem op_neOwn {X : Cx} {C f : Addr} {fd : FuncData} {ps : List Str} {sp : Sp} {n : Nat} (N : OwnNe X.K C f) (F : FnOk X.prog X.w X.K X.mg X.base CX0 n f fd ps sp) (hr : Room (n + 1) X.A) (hb : Binds X.K fd ps []) : OpR X (compareOp .NotEq) (rNeOwn C sp) := by
  intro pins s σ H x y v u Q I rx ry h
  obtain ⟨a, b, dx, dy, fs, gs, rfl, rfl, ha, hb', hsp⟩ := h
  cases rx
  cases ry
  obtain ⟨mA, J, _⟩ := ins_get I.hok ha
  obtain ⟨mB, J', _⟩ := ins_get I.hok hb'
  obtain ⟨od, J, _⟩ := J.look
  obtain ⟨od', J', _⟩ := J'.look
  have hu : X.A.units + 1 < cLine := hu_of hr
  have hr1 : Room n X.A.in1 := hr.in1
  have e0 : Env0 X.prog X.w X.K X.mg X.base X.A.in1 X.stack s H := I.env0.in1
  have hl := F.len _ _ _ _ hsp
  have r2 : Vals [V.ref a, V.ref b] [Value.ref a, Value.ref b] := .cons rfl (.cons rfl .nil)
  show wpAny (model X.prog X.w) X.A (richCompare .NotEq (.ref a) (.ref b)) (EP X pins σ Q) X.xe s
  refine richNe_K I.kIn J J' N.eq N.fn N.ne N.sub hu ?_
  refine wpAny_call (codeAny_mono (F.run X.A.in1 X.stack s H ⟨[.ref a, .ref b], []⟩ [.ref a, .ref b] [.ref a, .ref b] _ E0 hr1 e0 (by
    have := hb s [.ref a, .ref b] I.kIn (by simpa using hl)
    simpa using this) r2 hsp) fun r s' hq => ?_)
  cases r with
  | error e => exact hq.elim
  | ok fl =>
    cases fl with
    | ret w =>
      obtain ⟨z, H', I', rz, r, ez, q⟩ := I.after hq
      subst ez
      cases rz
      exact ⟨r, rfl, .bl (!r), H', I', rfl, q⟩
    | next => exact False.elim hq
    | brk => exact False.elim hq
    | cont => exact False.elim hq
/-! ## calls in short -/
structure Cal (P : Program) (w : World) (K : PySem.W.Frag) (mg : Str → Option Value) (base : Heap) (k : Nat) (x : Str) (ps : List Str) (sp : Sp) : Prop where
  ex : ∃ (f : Addr) (fd : FuncData), FnOk P w K mg base CX0 k f fd ps sp ∧ mg x = some (.ref f) ∧ PySem.W.keepIn K (.ref f) = true ∧ Binds K fd ps []
theorem pe_cal {X : Cx} {k : Nat} {x : Str} {ps : List Str} {sp : Sp} {e : Expr} {es : List Expr} {t : TA} {p pos : Pos} (c : Cal X.prog X.w X.K X.mg X.base k x ps sp) (hr : Room k X.A) (ha : PA X (e :: es) t) (hg : Gl X x := by rfl)
    (hdb : (x == ("__debug__" : Str)) = false := by decide) (he : starEach (e :: es) X.env = (false, eval e X.env) :: starEach es X.env := by rfl) (hpl : (backTo pos (starEach es X.env)).any (·.1) = false := by rfl) :
    PE X (.Call (.Name x p) (e :: es) [] pos) (tCall sp [] E0 t) := by
  obtain ⟨f, fd, F, hm, hk, hb⟩ := c.ex
  exact pe_call F hr hg hm hk hb .nil pass0 ha hdb he hpl
theorem pe_cal0 {X : Cx} {k : Nat} {x : Str} {ps : List Str} {sp : Sp} {p pos : Pos} (c : Cal X.prog X.w X.K X.mg X.base k x ps sp) (hr : Room k X.A) (hg : Gl X x := by rfl)
    (hdb : (x == ("__debug__" : Str)) = false := by decide) :
    PE X (.Call (.Name x p) [] [] pos) (tCall sp [] E0 tNil) := by
  obtain ⟨f, fd, F, hm, hk, hb⟩ := c.ex
  exact pe_call0 F hr hg hm hk hb .nil pass0 hdb
/-- C(..) -/
structure Mkc (P : Program) (w : World) (K : PySem.W.Frag) (mg : Str → Option Value) (base : Heap) (k : Nat) (C : Addr) (x : Str) (ps : List Str) (sp : Sp) : Prop where
  ex : ∃ (f : Addr) (fd : FuncData), Mk K C f ∧ FnOk P w K mg base CX0 k f fd ps sp ∧ mg x = some (.ref C) ∧ Binds K fd ps []
theorem pe_mkc {X : Cx} {k : Nat} {C : Addr} {x : Str} {ps : List Str} {sp : Sp} {e : Expr} {es : List Expr} {t : TA} {p pos : Pos} (c : Mkc X.prog X.w X.K X.mg X.base k C x ps sp) (hr : Room (k + 1) X.A) (ha : PA X (e :: es) t) (hg : Gl X x := by rfl)
    (hdb : (x == ("__debug__" : Str)) = false := by decide) (he : starEach (e :: es) X.env = (false, eval e X.env) :: starEach es X.env := by rfl) (hpl : (backTo pos (starEach es X.env)).any (·.1) = false := by rfl) :
    PE X (.Call (.Name x p) (e :: es) [] pos) (tMake C sp [] E0 t) := by
  obtain ⟨f, fd, M, F, hm, hb⟩ := c.ex
  exact pe_make M F hr hg hm hb .nil pass0 ha hdb he hpl
/-- a global that is a class or a def, as a value -/
theorem pe_globR {X : Cx} {x : Str} {C : Addr} {pos : Pos} (hm : X.mg x = some (.ref C)) (hg : Gl X x := by rfl) (hn : (x == ("__debug__" : Str)) = false := by decide) : PE X (.Name x pos) (tC (.ref C)) := by
  exact pe_glob hg hm rfl hn
/-- the built-ins that no name of the program hides -/
structure Bl (mg : Str → Option Value) : Prop where
  isinstance : mg "isinstance" = none
  len : mg "len" = none
  sorted : mg "sorted" = none
  min : mg "min" = none
  max : mg "max" = none
  all : mg "all" = none
  zip : mg "zip" = none
  range : mg "range" = none
  enumerate : mg "enumerate" = none
  int_ : mg "int" = none
  bool_ : mg "bool" = none
  str_ : mg "str" = none
  list_ : mg "list" = none
  tuple_ : mg "tuple" = none
end Bs

namespace Bs
open PySem PySem.Spec PyProof.Rows L2
/-! ## heaps: what never changes, all but one object -/
/-- tuples stay -/
def TK (H H' : Hp) : Prop := ∀ a xs, H a = some (.tup xs) → H' a = some (.tup xs)
theorem TK.rfl' {H : Hp} : TK H H := fun _ _ h => h
theorem TK.trans {H H1 H2 : Hp} (a : TK H H1) (b : TK H1 H2) : TK H H2 := fun x o h => b x o (a x o h)
theorem _root_.L2.Same.tk {H H' : Hp} (e : Same H H') : TK H H' := fun a xs h => e a _ h
theorem _root_.L2.Same.new {H : Hp} {p : Addr} {o : HO} (h : H p = none) : Same H (upd H p o) := fun a u e => by rw [upd_ne (ne_of_none e h)]; exact e
theorem _root_.L2.Same.new' {H H1 : Hp} {p : Addr} {o : HO} (x : Same H H1) (h : H1 p = none) : Same H (upd H1 p o) := x.trans (Same.new h)
/-- an object that H does not know may change -/
theorem _root_.L2.Same.mut {H H' : Hp} {p : Addr} {o : HO} (e : Same H H') (h : H p = none) : Same H (upd H' p o) := fun a u ha => by
  rw [upd_ne (ne_of_none ha h)]
  exact e a u ha
def isTupO : Option HO → Bool
  | some (.tup _) => true
  | _ => false
theorem TK.upd {H : Hp} {p : Addr} {o : HO} (h : isTupO (H p) = false) : TK H (L2.upd H p o) := fun a xs e => by
  have hn : a ≠ p := fun q => by rw [q] at e; rw [e] at h; cases h
  rw [upd_ne hn]; exact e
theorem tk_lst {H : Hp} {p : Addr} {o : HO} {xs : List V} (h : H p = some (.lst xs)) : TK H (L2.upd H p o) := TK.upd (by rw [h]; rfl)
theorem tk_new {H : Hp} {p : Addr} {o : HO} (h : H p = none) : TK H (L2.upd H p o) := TK.upd (by rw [h]; rfl)
/-- all but the object at T stay -/
def ExT (T : Addr) (H H' : Hp) : Prop := ∀ a o, a ≠ T → H a = some o → H' a = some o
theorem ExT.rfl' {T : Addr} {H : Hp} : ExT T H H := fun _ _ _ h => h
theorem ExT.trans {T : Addr} {H H1 H2 : Hp} (a : ExT T H H1) (b : ExT T H1 H2) : ExT T H H2 := fun x o n h => b x o n (a x o n h)
theorem _root_.L2.Same.exT {T : Addr} {H H' : Hp} (e : Same H H') : ExT T H H' := fun a o _ h => e a o h
theorem ExT.tk {T : Addr} {H H' : Hp} {l : List V} (e : ExT T H H') (h : H T = some (.lst l)) : TK H H' := fun a xs q => e a _ (ne_of q h (by intro z; cases z)) q
theorem ExT.upd {T : Addr} {H H1 : Hp} {o : HO} (e : ExT T H H1) : ExT T H (L2.upd H1 T o) := fun a u n h => by rw [upd_ne n]; exact e a u n h
theorem ExT.new {T p : Addr} {H H1 : Hp} {o : HO} (e : ExT T H H1) (h : H1 p = none) : ExT T H (L2.upd H1 p o) := fun a u n q => by
  have q' := e a u n q
  rw [upd_ne (ne_of_none q' h)]; exact q'
/-- one more object, unknown at first, that may change -/
theorem ExT.mut {T p : Addr} {H H1 : Hp} {o : HO} (e : ExT T H H1) (h : H p = none) : ExT T H (L2.upd H1 p o) := fun a u n q => by
  rw [upd_ne (ne_of_none q h)]; exact e a u n q
theorem ExT.free {T : Addr} {H H' : Hp} (e : ExT T H H') {l : Addr} (hl : l ≠ T) (h : H' l = none) : H l = none := by
  cases q : H l with
  | none => rfl
  | some o => rw [e l o hl q] at h; cases h
/-! ## pairs of ints -/
def PairAt (H : Hp) (v : V) (p : Int × Int) : Prop := ∃ a, v = .ref a ∧ H a = some (.tup [.int p.1, .int p.2])
theorem PairAt.tk {H H' : Hp} {v : V} {p : Int × Int} (e : TK H H') (h : PairAt H v p) : PairAt H' v p := let ⟨a, h1, h2⟩ := h; ⟨a, h1, e _ _ h2⟩
theorem PairAt.inj {H : Hp} {v : V} {p q : Int × Int} (h : PairAt H v p) (h' : PairAt H v q) : p = q := by
  obtain ⟨a, rfl, h2⟩ := h
  obtain ⟨b, e, h3⟩ := h'
  cases e
  rw [h2] at h3
  injection h3 with h3
  injection h3 with h3
  injection h3 with h4 h5
  injection h4 with h4
  injection h5 with h5
  injection h5 with h5
  exact Prod.ext h4 h5
abbrev Pairs (H : Hp) (xs : List V) (ps : List (Int × Int)) : Prop := Paired (PairAt H) xs ps
theorem Paired.imp' {α β : Type} {F G : α → β → Prop} : ∀ {l₁ : List α} {l₂ : List β}, Paired F l₁ l₂ → (∀ a b, F a b → G a b) → Paired G l₁ l₂
  | _, _, .nil, _ => .nil
  | _, _, .cons r t, f => .cons (f _ _ r) (Paired.imp' t f)
theorem Pairs.tk {H H' : Hp} {xs : List V} {ps : List (Int × Int)} (e : TK H H') (h : Pairs H xs ps) : Pairs H' xs ps := Paired.imp' h fun _ _ q => q.tk e
theorem Paired.get {α β : Type} {F : α → β → Prop} : ∀ {l₁ : List α} {l₂ : List β} {i : Nat} {a : α}, Paired F l₁ l₂ → l₁[i]? = some a → ∃ b, l₂[i]? = some b ∧ F a b
  | _, _, _, _, .nil, h => by simp at h
  | _, _, 0, _, .cons r _, h => by simp at h; subst h; exact ⟨_, by simp, r⟩
  | _, _, i + 1, a, .cons _ t, h => by
    obtain ⟨b, h1, h2⟩ := Paired.get (i := i) (a := a) t (by simpa using h)
    exact ⟨b, by simpa using h1, h2⟩
theorem Paired.len {α β : Type} {F : α → β → Prop} : ∀ {l₁ : List α} {l₂ : List β}, Paired F l₁ l₂ → l₁.length = l₂.length
  | _, _, .nil => rfl
  | _, _, .cons _ t => by simp [Paired.len t]
theorem Paired.app {α β : Type} {F : α → β → Prop} : ∀ {l₁ m₁ : List α} {l₂ m₂ : List β}, Paired F l₁ l₂ → Paired F m₁ m₂ → Paired F (l₁ ++ m₁) (l₂ ++ m₂)
  | _, _, _, _, .nil, h => h
  | _, _, _, _, .cons r t, h => .cons r (Paired.app t h)
/-- the pair that a value is -/
def pairOf (H : Hp) (v : V) : Int × Int := match v with
  | .ref a => match H a with
    | some (.tup [.int i, .int j]) => (i, j)
    | _ => (0, 0)
  | _ => (0, 0)
theorem pairOf_of {H : Hp} {v : V} {p : Int × Int} (h : PairAt H v p) : pairOf H v = p := by
  obtain ⟨a, rfl, h2⟩ := h
  unfold pairOf
  simp only [h2]
theorem pairs_map {H : Hp} : ∀ {xs : List V} {ps : List (Int × Int)}, Pairs H xs ps → xs.map (pairOf H) = ps
  | _, _, .nil => rfl
  | _, _, .cons r t => by rw [List.map_cons, pairOf_of r, pairs_map t]
theorem pairs_mem {H : Hp} : ∀ {xs : List V} {ps : List (Int × Int)}, Pairs H xs ps → ∀ x ∈ xs, PairAt H x (pairOf H x)
  | _, _, .nil, _, h => by simp at h
  | _, _, .cons r t, x, h => by
    rcases List.mem_cons.mp h with e | h
    · subst e; rw [pairOf_of r]; exact r
    · exact pairs_mem t x h
theorem pairs_self {H : Hp} : ∀ {xs : List V}, (∀ x ∈ xs, PairAt H x (pairOf H x)) → Pairs H xs (xs.map (pairOf H))
  | [], _ => .nil
  | x :: xs, h => .cons (h x (by simp)) (pairs_self fun y hy => h y (by simp [hy]))
/-- before, or the same -/
def le2 (p q : Int × Int) : Prop := p.1 < q.1 ∨ (p.1 = q.1 ∧ p.2 ≤ q.2)
def lt2 (p q : Int × Int) : Prop := p.1 < q.1 ∨ (p.1 = q.1 ∧ p.2 < q.2)
/-- sorted(xs), xs a list of pairs -/
theorem sorted_pairs {K : PySem.W.Frag} {H : Hp} {a : Addr} {xs : List V} {ps : List (Int × Int)} {Q : VK} (hs : SqL K H a xs) (hp : Pairs H xs ps)
    (k : ∀ p ys qs, H p = none → Pairs H ys qs → qs.Perm ps → qs.Pairwise le2 → Q (.ref p) (upd H p (.lst ys))) : rSortedPO K [.ref a] H Q := by
  refine ⟨a, xs, pairOf H, rfl, hs, fun x hx => pairs_mem hp x hx, fun ys p h1 h2 hn => ?_⟩
  have hm : ∀ y ∈ ys, PairAt H y (pairOf H y) := fun y hy => pairs_mem hp y (h2.perm.mem_iff.mp hy)
  refine k p ys (ys.map (pairOf H)) hn (pairs_self hm) ?_ ?_
  · rw [← pairs_map hp]
    exact h2.perm.map _
  · refine List.pairwise_map.mpr (h1.imp fun {x y} h => ?_)
    have h' := SrtO.lexB_no.mp h
    unfold le2
    omega
theorem sorted_post {H : Hp} {xs ys : List V} {ps : List (Int × Int)} (hp : Pairs H xs ps) (h1 : SrtO.Srtd (ltP (pairOf H)) ys) (h2 : SrtO.Stb (ltP (pairOf H)) ys xs) : ∃ qs, Pairs H ys qs ∧ qs.Perm ps ∧ qs.Pairwise le2 := by
  have hm : ∀ y ∈ ys, PairAt H y (pairOf H y) := fun y hy => pairs_mem hp y (h2.perm.mem_iff.mp hy)
  refine ⟨ys.map (pairOf H), pairs_self hm, ?_, ?_⟩
  · rw [← pairs_map hp]
    exact h2.perm.map _
  · refine List.pairwise_map.mpr (h1.imp fun {x y} h => ?_)
    have h' := SrtO.lexB_no.mp h
    unfold le2
    omega
/-! ## comprehensions -/
theorem lc_data {J : It} {n : Nat} {G : Hp → Prop} {Y : Nat → Hp → V → Hp → Prop} (w : Walk J n G Y) {α : Type} (as : List α) (hn : as.length = n) (f : α → Bool) (P : Hp → V → α → Prop) (hP : ∀ H H' v a, TK H H' → P H v a → P H' v a)
    {g : TG} {tt : TT} {te : TE} {vs : List Nat} {σ : L2.St} {H1 : Hp} {D : Addr} {Qd : Hp → Prop} (hD : H1 D = none) (hG : ∀ H', Same H1 H' → G H') (hsz : as.length < sizeLine)
    (hs : ∀ i a x H H' (Ny : V → Hp → Prop) (Nn : Hp → Prop), as[i]? = some a → Same H1 H → Y i H x H' →
      (∀ y H4, f a = true → Same H' H4 → P H4 y a → Ny y H4) → (∀ H3, f a = false → Same H' H3 → Nn H3) →
      g x (wipe σ vs) H' fun σ2 H2 => wipe σ2 vs = wipe σ vs ∧ tt σ2 H2 fun b H3 => if b = true then te σ2 H3 fun y H4 => Ny y H4 else Nn H3)
    (hY : ∀ i H x H', H D = some (.lst []) ∨ True → Y i H x H' → Same H H')
    (hd : ∀ ys H', Same H1 H' → H' D = some (.lst ys) → Paired (P H') ys (as.filter f) → Qd H') :
    ∃ W : Nat → Nat → Hp → Prop, (∃ m, W 0 m (upd H1 D (.lst []))) ∧ ∀ i m H, W i m H →
      (J.stop i H ∧ Qd H) ∨ (J.go i H ∧ ∃ Nx : Hp → Prop, (∀ H', Nx H' → ∃ m', m' < m ∧ W (i + 1) m' H') ∧ ∀ x H', J.yld i H x H' → g x (wipe σ vs) H' fun σ2 H2 => wipe σ2 vs = wipe σ vs ∧ tt σ2 H2 fun b H3 =>
        if b = true then te σ2 H3 fun y H4 => ∃ acc, H4 D = some (.lst acc) ∧ acc.length < sizeLine ∧ Nx (upd H4 D (.lst (acc ++ [y]))) else Nx H3) := by
  refine lc_it w (Pv := fun i H => Same H1 H ∧ ∃ ys, H D = some (.lst ys) ∧ Paired (P H) ys ((as.take i).filter f)) ⟨L2.Same.new hD, [], upd_same, by simp; exact .nil⟩ (fun i H hi p => hG H p.1) ?_ ?_
  · intro i x H H' hi p hy
    obtain ⟨e1, ys, hys, hpr⟩ := p
    have hi' : i < as.length := by omega
    have ha : as[i]? = some as[i] := List.getElem?_eq_getElem hi'
    have eY := hY i H x H' (.inr trivial) hy
    have htk : (as.take (i + 1)).filter f = (as.take i).filter f ++ [as[i]].filter f := by
      rw [List.take_succ, ha, List.filter_append]; rfl
    have hlen : ys.length ≤ i := by
      have := Paired.len hpr
      have h2 := List.length_filter_le f (as.take i)
      have h3 := List.length_take_le i as
      omega
    refine hs i as[i] x H H' _ _ ha e1 hy ?_ ?_
    · intro y H4 hf e4 hPy
      refine ⟨ys, e4 _ _ (eY _ _ hys), by omega, ?_, _, upd_same, ?_⟩
      · exact Same.mut (e1.trans (eY.trans e4)) hD
      · rw [htk, List.filter_cons, if_pos hf]
        refine Paired.app (Paired.imp' hpr fun v a q => hP _ _ _ _ ?_ q) (.cons (hP _ _ _ _ ?_ hPy) .nil)
        · exact (Same.tk (eY.trans e4)).trans (tk_lst (e4 _ _ (eY _ _ hys)))
        · exact tk_lst (e4 _ _ (eY _ _ hys))
    · intro H3 hf e3
      refine ⟨e1.trans (eY.trans e3), ys, e3 _ _ (eY _ _ hys), ?_⟩
      rw [htk, List.filter_cons, if_neg (by simp [hf])]
      simp only [List.filter_nil, List.append_nil]
      exact Paired.imp' hpr fun v a q => hP _ _ _ _ (Same.tk (eY.trans e3)) q
  · intro H p
    obtain ⟨e1, ys, hys, hpr⟩ := p
    rw [← hn, List.take_length] at hpr
    exact hd ys H e1 hys hpr
theorem yes_if {σ : L2.St} {H : Hp} {A B : Hp → Prop} (h : A H) : tYes σ H (fun b H3 => if b = true then A H3 else B H3) := by
  show (if true = true then A H else B H)
  exact iteT h
theorem yat_same {xs : List V} {i : Nat} {H H' : Hp} {x : V} (h : YAt xs i H x H') : Same H H' := by rw [h.1]; exact Same.refl H
theorem ypair_same {xs ys : Nat → Option V} {i : Nat} {H H' : Hp} {x : V} (h : YPair xs ys i H x H') : Same H H' := by
  obtain ⟨T, x, y, _, h2, h3, _⟩ := h
  rw [h3]; exact Same.new h2
/-! ## the tape -/
structure Tape where
  ns : List Int
  i1 : Int
  i2 : Int
  i3 : Int
  i4 : Int
def Tp (H : Hp) (T L : Addr) : Prop := ∃ t : Tape, H T = some (.lst [.ref L, .int t.i1, .int t.i2, .int t.i3, .int t.i4]) ∧ H L = some (.lst (t.ns.map V.int)) ∧ L ≠ T ∧ 0 ≤ t.i1 ∧ 0 ≤ t.i3 ∧ t.i3 < 2147483648
theorem Tp.ext {T L : Addr} {H H' : Hp} (h : Tp H T L) (e : Same H H') : Tp H' T L := by
  obtain ⟨t, h1, h2, h3⟩ := h
  exact ⟨t, e _ _ h1, e _ _ h2, h3⟩
theorem Tp.lst {T L : Addr} {H : Hp} (h : Tp H T L) : ∃ l, H T = some (.lst l) := let ⟨t, h1, _⟩ := h; ⟨_, h1⟩
theorem Tp.lst2 {T L : Addr} {H : Hp} (h : Tp H T L) : ∃ l, H L = some (.lst l) := let ⟨t, _, h1, _⟩ := h; ⟨_, h1⟩
theorem Tp.tk {T L : Addr} {H H' : Hp} (h : Tp H T L) (e : ExT T H H') : TK H H' := let ⟨_, q⟩ := h.lst; e.tk q
/-- another object changes -/
theorem Tp.upd {T L p : Addr} {H : Hp} {o : HO} (h : Tp H T L) (h1 : p ≠ T) (h2 : p ≠ L) : Tp (L2.upd H p o) T L := by
  obtain ⟨t, a1, a2, a3⟩ := h
  exact ⟨t, by rw [upd_ne h1.symm]; exact a1, by rw [upd_ne h2.symm]; exact a2, a3⟩
theorem Tp.neT {T L p : Addr} {H : Hp} (h : Tp H T L) (hp : H p = none) : p ≠ T := fun q => by
  obtain ⟨l, h1⟩ := h.lst
  rw [← q, hp] at h1; cases h1
theorem Tp.neL {T L p : Addr} {H : Hp} (h : Tp H T L) (hp : H p = none) : p ≠ L := fun q => by
  obtain ⟨l, h1⟩ := h.lst2
  rw [← q, hp] at h1; cases h1
/-- what a draw promises -/
def spPick : Sp := fun vs H Q _ => ∃ (T L : Addr) (m : Int), vs = [.ref T, .int m] ∧ 0 < m ∧ m < 1073741824 ∧ Tp H T L ∧ ∀ r H', 0 ≤ r → r < m → ExT T H H' → Tp H' T L → Q (.int r) H'
end Bs

namespace Bs
open PySem PySem.Spec PyProof.Rows L2
/-! ## bits -/
theorem and_pp (x y : Nat) : Builtin.bitAnd (x : Int) (y : Int) = ((x &&& y : Nat) : Int) := by
  unfold Builtin.bitAnd
  rw [decide_eq_true (Int.natCast_nonneg x), decide_eq_true (Int.natCast_nonneg y)]
  simp
theorem or_pp (x y : Nat) : Builtin.bitOr (x : Int) (y : Int) = ((x ||| y : Nat) : Int) := by
  rw [Bits.bitOr_pp (Int.natCast_nonneg x) (Int.natCast_nonneg y)]; simp
theorem xor_pp (x y : Nat) : Builtin.bitXor (x : Int) (y : Int) = ((x ^^^ y : Nat) : Int) := by
  rw [Bits.bitXor_pp (Int.natCast_nonneg x) (Int.natCast_nonneg y)]; simp
/-- one bit less -/
def clr (x k : Nat) : Nat := x - (x &&& 2 ^ k)
theorem and_pow (x k : Nat) : x &&& 2 ^ k = if x.testBit k = true then 2 ^ k else 0 := by
  apply Nat.eq_of_testBit_eq
  intro j
  rw [Nat.testBit_and, Nat.testBit_two_pow]
  by_cases h : k = j
  · subst h
    cases hb : x.testBit k <;> simp
  · cases hb : x.testBit k <;> simp [h, Nat.testBit_two_pow]
theorem clr_bit (x k j : Nat) : (clr x k).testBit j = (x.testBit j && !decide (j = k)) := by
  unfold clr
  rw [and_pow]
  cases hb : x.testBit k with
  | false =>
    simp only [Bool.false_eq_true, if_false, Nat.sub_zero]
    by_cases h : j = k
    · subst h; simp [hb]
    · simp [h]
  | true =>
    rw [if_pos rfl]
    have h1 : x = 2 ^ (k + 1) * (x / 2 ^ (k + 1)) + x % 2 ^ (k + 1) := (Nat.div_add_mod x _).symm
    have hr : x % 2 ^ (k + 1) < 2 ^ (k + 1) := Nat.mod_lt _ (Nat.pow_pos (by decide))
    generalize x / 2 ^ (k + 1) = a at h1
    generalize x % 2 ^ (k + 1) = r at h1 hr
    have hrk : r.testBit k = true := by
      rw [h1, Nat.testBit_two_pow_mul_add _ hr, if_pos (Nat.lt_succ_self k)] at hb
      exact hb
    have hge : 2 ^ k ≤ r := by
      rcases Nat.lt_or_ge r (2 ^ k) with h | h
      · rw [Nat.testBit_lt_two_pow h] at hrk; cases hrk
      · exact h
    have hp : 2 ^ (k + 1) = 2 ^ k + 2 ^ k := by rw [Nat.pow_succ]; omega
    have hb' : r - 2 ^ k < 2 ^ k := by omega
    have hb2 : r - 2 ^ k < 2 ^ (k + 1) := by omega
    have e1 : x - 2 ^ k = 2 ^ (k + 1) * a + (r - 2 ^ k) := by omega
    have e2 : r = 2 ^ k * 1 + (r - 2 ^ k) := by omega
    rw [e1, Nat.testBit_two_pow_mul_add _ hb2]
    conv => rhs; rw [h1]
    rw [Nat.testBit_two_pow_mul_add _ hr]
    by_cases c : j < k + 1
    · rw [if_pos c, if_pos c]
      conv => rhs; rw [e2]
      rw [Nat.testBit_two_pow_mul_add _ hb']
      by_cases d : j < k
      · rw [if_pos d]; simp [show j ≠ k by omega]
      · have : j = k := by omega
        subst this
        rw [if_neg d, Nat.testBit_lt_two_pow hb']
        simp
    · rw [if_neg c, if_neg c]; simp [show j ≠ k by omega]
theorem bitNot_pow (k : Nat) : Builtin.bitNot ((2 : Int) ^ k) = -(2 ^ k) - 1 := rfl
theorem two_pow_pos (k : Nat) : (0 : Int) < 2 ^ k := Int.pow_pos (by decide)
theorem and_not (x k : Nat) : Builtin.bitAnd (x : Int) (Builtin.bitNot ((2 : Int) ^ k)) = ((clr x k : Nat) : Int) := by
  have h2 := two_pow_pos k
  unfold Builtin.bitAnd
  rw [decide_eq_true (Int.natCast_nonneg x), decide_eq_false (show ¬ 0 ≤ Builtin.bitNot ((2 : Int) ^ k) by rw [bitNot_pow]; omega)]
  show (x : Int) - (((x : Int).toNat &&& (Builtin.bitNot (Builtin.bitNot ((2 : Int) ^ k))).toNat : Nat) : Int) = _
  have e : (Builtin.bitNot (Builtin.bitNot ((2 : Int) ^ k))).toNat = 2 ^ k := by
    have : Builtin.bitNot (Builtin.bitNot ((2 : Int) ^ k)) = ((2 ^ k : Nat) : Int) := by
      unfold Builtin.bitNot
      rw [Int.natCast_pow]
      show -(-(2 : Int) ^ k - 1) - 1 = 2 ^ k
      omega
    rw [this]; exact Int.toNat_natCast _
  rw [e]
  unfold clr
  have hle : x &&& 2 ^ k ≤ x := Nat.and_le_left
  have e3 : ((x : Int).toNat &&& 2 ^ k) = x &&& 2 ^ k := by simp
  rw [e3]
  omega
/-- the lowest bit -/
theorem low_ex {n : Nat} (h : n ≠ 0) : ∃ k, n.testBit k = true ∧ ∀ j, j < k → n.testBit j = false := by
  obtain ⟨i, hi⟩ := Nat.exists_testBit_of_ne_zero h
  induction i using Nat.strongRecOn with
  | ind i ih =>
    by_cases c : ∃ j, j < i ∧ n.testBit j = true
    · obtain ⟨j, hj, hb⟩ := c
      exact ih j hj hb
    · refine ⟨i, hi, fun j hj => ?_⟩
      cases hb : n.testBit j with
      | false => rfl
      | true => exact absurd ⟨j, hj, hb⟩ c
theorem low_is {n k : Nat} (h1 : n.testBit k = true) (h2 : ∀ j, j < k → n.testBit j = false) : Builtin.bitAnd (n : Int) (-(n : Int)) = 2 ^ k := by
  have hn : n ≠ 0 := fun e => by rw [e] at h1; simp at h1
  have hm : n % 2 ^ k = 0 := by
    apply Nat.eq_of_testBit_eq
    intro j
    rw [Nat.testBit_mod_two_pow]
    by_cases c : j < k
    · rw [h2 j c]; simp
    · simp [c]
  have e1 : n = 2 ^ k * (n / 2 ^ k) := by
    have := Nat.div_add_mod n (2 ^ k)
    omega
  generalize hc : n / 2 ^ k = c at e1
  have hodd : c.testBit 0 = true := by
    rw [e1, Nat.testBit_two_pow_mul] at h1
    simpa using h1
  have hodd2 : c % 2 = 1 := by simpa using hodd
  obtain ⟨m, hm2⟩ : ∃ m, c = 2 * m + 1 := ⟨c / 2, by omega⟩
  have hp : 0 < 2 ^ k := Nat.pow_pos (by decide)
  have e2 : n - 1 = 2 ^ k * (2 * m) + (2 ^ k - 1) := by
    have : 2 ^ k * c = 2 ^ k * (2 * m) + 2 ^ k := by rw [hm2, Nat.mul_add, Nat.mul_one]
    omega
  have e3 : n &&& (n - 1) = clr n k := by
    apply Nat.eq_of_testBit_eq
    intro j
    rw [Nat.testBit_and, clr_bit]
    conv => lhs; rhs; rw [e2]
    rw [Nat.testBit_two_pow_mul_add _ (show 2 ^ k - 1 < 2 ^ k by omega)]
    by_cases c1 : j < k
    · rw [if_pos c1, h2 j c1]; simp
    · rw [if_neg c1]
      by_cases c2 : j = k
      · subst c2; simp
      · have e4 : n.testBit j = (2 * m + 1).testBit (j - k) := by
          rw [e1, hm2, Nat.testBit_two_pow_mul]
          simp [show k ≤ j by omega]
        rw [e4]
        obtain ⟨i, hi⟩ : ∃ i, j - k = i + 1 := ⟨j - k - 1, by omega⟩
        rw [hi, Nat.testBit_succ, Nat.testBit_succ]
        have a1 : (2 * m + 1) / 2 = m := by omega
        have a2 : 2 * m / 2 = m := by omega
        rw [a1, a2]
        simp [c2]
  unfold Builtin.bitAnd
  rw [decide_eq_true (Int.natCast_nonneg n), decide_eq_false (show ¬ 0 ≤ -(n : Int) by omega)]
  show (n : Int) - (((n : Int).toNat &&& (Builtin.bitNot (-(n : Int))).toNat : Nat) : Int) = _
  have e5 : (Builtin.bitNot (-(n : Int))).toNat = n - 1 := by unfold Builtin.bitNot; omega
  have e6 : ((n : Int).toNat &&& (n - 1)) = clr n k := by rw [Int.toNat_natCast]; exact e3
  rw [e5, e6]
  unfold clr
  rw [and_pow, if_pos h1]
  have hle : 2 ^ k ≤ n := by
    have := Nat.and_le_left (n := n) (m := 2 ^ k)
    rw [and_pow, if_pos h1] at this
    exact this
  have e7 : ((2 : Int) ^ k) = ((2 ^ k : Nat) : Int) := by rw [Int.natCast_pow]; rfl
  rw [e7]
  omega
theorem xor_low {n k : Nat} (h1 : n.testBit k = true) : n ^^^ 2 ^ k = clr n k := by
  apply Nat.eq_of_testBit_eq
  intro j
  rw [Nat.testBit_xor, clr_bit, Nat.testBit_two_pow]
  by_cases c : k = j
  · subst c; simp [h1]
  · simp [c, show j ≠ k from fun e => c e.symm]
theorem clr_lt {n k : Nat} (h1 : n.testBit k = true) : clr n k < n := by
  unfold clr
  rw [and_pow, if_pos h1]
  have hp : 0 < 2 ^ k := Nat.pow_pos (by decide)
  have hle : 2 ^ k ≤ n := by
    have := Nat.and_le_left (n := n) (m := 2 ^ k)
    rw [and_pow, if_pos h1] at this
    exact this
  omega
theorem bits_pow (k : Nat) : Builtin.Int.intBits ((2 : Int) ^ k) = k + 1 := by
  have h1 := natAbs_lt_pow_bits ((2 : Int) ^ k)
  have e : ((2 : Int) ^ k).natAbs = 2 ^ k := by rw [Int.natAbs_pow]; rfl
  rw [e] at h1
  have h2 : Builtin.Int.intBits ((2 : Int) ^ k) ≤ k + 1 := intBits_le (by rw [e, Nat.pow_succ]; have := Nat.pow_pos (n := k) (show 0 < 2 by decide); omega)
  have h3 : k < Builtin.Int.intBits ((2 : Int) ^ k) := (Nat.pow_lt_pow_iff_right (by decide)).mp h1
  omega
/-! ## rules -/
section
variable {X : Cx}
theorem ip_or : PIp X .BitOr (rI0 fun i j => .int (Builtin.bitOr i j)) := fun pins s σ H x y v u Q I rx ry h => iop_or pins s σ H x y v u Q I rx ry h
theorem ip_xor : PIp X .BitXor (rI0 fun i j => .int (Builtin.bitXor i j)) := fun pins s σ H x y v u Q I rx ry h => iop_xor pins s σ H x y v u Q I rx ry h
/-- xs[i] read, ahead of xs[i] op= e -/
def gGetL (K : PySem.W.Frag) : V → V → Hp → VK → Prop := fun o i H Q => ∃ p xs k v, o = .ref p ∧ i = .int k ∧ SqL K H p xs ∧ 0 ≤ k ∧ xs[k.toNat]? = some v ∧ Q v H
theorem get_listP : PGet X (gGetL X.K) := by
  intro pins s σ H o i ov iv Q I ro ri h
  obtain ⟨p, xs, k, v, rfl, rfl, hs, h0, hv, q⟩ := h
  cases ro
  obtain ⟨t, rfl⟩ := ri
  obtain ⟨its, r, pl, hz⟩ := I.list hs
  obtain ⟨u, hu, ru⟩ := r.get hv
  have hl := r.length
  have hk : k.toNat < xs.length := (List.getElem?_eq_some_iff.mp hv).1
  have hn := line63
  exact wpAny_getItem_list pl.isList h0 (by omega) (by simpa using hu) ⟨v, H, I, ru, q⟩
/-- a thing that is in no place of a tuple of data -/
def rNotInT (K : PySem.W.Frag) : R2 := fun x y H Q => ∃ d ds, Dp K H x d ∧ Dp K H y (.tuple ds) ∧ SeqAt.shaped d = true ∧ SeqAt.shaped (.list ds) = true ∧ SeqAt.shaped (.tuple ds) = true ∧ Q (.bl (!ds.any fun z => PyData.eqv z d)) H
def rInT (K : PySem.W.Frag) : R2 := fun x y H Q => ∃ d ds, Dp K H x d ∧ Dp K H y (.tuple ds) ∧ SeqAt.shaped d = true ∧ SeqAt.shaped (.list ds) = true ∧ SeqAt.shaped (.tuple ds) = true ∧ Q (.bl (ds.any fun z => PyData.eqv z d)) H
theorem op_inT (hu : X.A.units + 65 < cLine) : OpR X (compareOp .In) (rInT X.K) := by
  intro pins s σ H x y v u Q I rx ry ⟨d, ds, hd, he, sd, sl, se, q⟩
  obtain ⟨as, r1⟩ := Dp.reads I d x v hd rx
  obtain ⟨bs, r2⟩ := Dp.reads I (.tuple ds) y u he ry
  exact SeqAt.in_tuple_reads r2 r1 (by have := SeqAt.canLay_of_shaped sl; exact this) (SeqAt.canLay_of_shaped sd) (room_in_shaped sd hu) ⟨.bl _, H, I, rfl, q⟩
theorem op_notInT (hu : X.A.units + 65 < cLine) : OpR X (compareOp .NotIn) (rNotInT X.K) := by
  intro pins s σ H x y v u Q I rx ry ⟨d, ds, hd, he, sd, sl, se, q⟩
  obtain ⟨as, r1⟩ := Dp.reads I d x v hd rx
  obtain ⟨bs, r2⟩ := Dp.reads I (.tuple ds) y u he ry
  exact SeqAt.notIn_tuple_reads r2 r1 (by have := SeqAt.canLay_of_shaped sl; exact this) (SeqAt.canLay_of_shaped sd) (room_in_shaped sd hu) ⟨.bl _, H, I, rfl, q⟩
end
end Bs

namespace Bs
open PySem PySem.Spec PyProof.Rows L2 HT
/-! ## t[::-1], t a tuple -/
theorem fm_congr {α β : Type} {f g : α → Option β} : ∀ {l : List α}, (∀ x ∈ l, f x = g x) → l.filterMap f = l.filterMap g
  | [], _ => rfl
  | a :: l, h => by rw [List.filterMap_cons, List.filterMap_cons, h a (by simp), fm_congr fun x hx => h x (by simp [hx])]
theorem rev_all {α : Type} (xs : Array α) : (List.range xs.size).filterMap (fun m : Nat => xs[(((xs.size : Int) - 1) + (m : Int) * -1).toNat]?) = xs.toList.reverse := by
  rw [← PySem.W.krv_all xs, ← List.filterMap_reverse, ← PySem.W.krv_range, List.filterMap_map]
  refine fm_congr fun m hm => ?_
  have := List.mem_range.mp hm
  show _ = xs[xs.size - 1 - m]?
  congr 1
  omega
section
variable {prog : Program} {w : World} {A : Around} {E : Value → Shared → Prop} {s : Shared}
theorem sliceApplied_rev {sl : Addr} {tk : Tok} {n : Nat} {Q : Int × Int × Nat → Shared → Prop} (hs : s.heap.IsSliceOf sl .none .none (.int (-1) tk))
    (h : Q ((n : Int) - 1, -1, n) s) : wpAny (model prog w) A (Builtin.Slice.sliceApplied (.ref sl) (pure (n : Int))) Q E s := by
  obtain ⟨os, hos, hcs, hds⟩ := id hs
  unfold Builtin.Slice.sliceApplied Builtin.Slice.sliceFields
  refine wpAny_bind (wpAny_bind (wpAny_field hos hds (x := .none) rfl (wpAny_bind (wpAny_field hos hds (x := .none) rfl (wpAny_bind (wpAny_field hos hds (x := .int (-1) tk) rfl (wpAny_pure ?_)))))))
  refine wpAny_bind (slicePart_ (.int (-1) tk) ?_)
  show wpAny _ _ (if ((-1 : Int) == 0) = true then _ else _) _ _ s
  rw [if_neg (by decide)]
  refine wpAny_bind (slicePart_none (wpAny_bind (slicePart_none (wpAny_bind (wpAny_pure ?_)))))
  show wpAny _ _ (pure ((n : Int) - 1, (-1 : Int), Builtin.Slice.slicePlaces ((n : Int) - 1) (-1) (-1))) _ _ s
  have e : Builtin.Slice.slicePlaces ((n : Int) - 1) (-1) (-1) = n := by
    show (if (-1 : Int) > 0 then _ else if (n : Int) - 1 > -1 then ((n : Int) - 1 - -1 - 1) / - -1 + 1 else 0).toNat = n
    rw [if_neg (by decide)]
    by_cases h : (n : Int) - 1 > -1
    · rw [if_pos h, show (- -1 : Int) = 1 by decide, Int.ediv_one]; omega
    · rw [if_neg h]; omega
  rw [e]
  exact wpAny_pure h
theorem getItem_tuple_rev {t sl : Addr} {items : Array Value} {tk : Tok} {Q : Value → Shared → Prop} (ht : IsTup s.heap t items) (hs : s.heap.IsSliceOf sl .none .none (.int (-1) tk))
    (h : Q (.ref s.heap.objs.size) { s with heap := s.heap.push { cls := .type "tuple", data := .seq items.toList.reverse.toArray } })
    (hsz : items.size ≤ sizeLine) : wpAny (model prog w) A (getItem (.ref t) (.ref sl)) Q E s := by
  have hok : sizeOk (.seq items.toList.reverse.toArray) := by
    show items.toList.reverse.toArray.size ≤ sizeLine
    rw [List.size_toArray, List.length_reverse, Array.length_toList]
    exact hsz
  obtain ⟨os, hos, hcs, hds⟩ := id hs
  have hTs : s.TypeIs (.ref sl) "slice" := ⟨os, hos, hcs⟩
  unfold getItem
  try with_reducible refine wpAny_holding ?_
  first | refine wpAny_bind (wpAny_pure ?_) | skip
  refine wpAny_bind (wpAny_sequenceKey ht.typeIs (by decide) ?_)
  refine wpAny_bind (wpAny_callSpecial?_slot (name := Str.ofString "__getitem__") ht.typeIs PyProof.Rows.slot_tuple_getitem
    (wpAny_call_entry PyProof.Rows.slot_tuple_getitem ht.typeIs entry_tuple_getitem ?_ (args_tuple_getitem _ _)))
  show wpAny _ _ (Builtin.Tuple.tupleItemsOf (.ref t) >>= _) _ _ s
  refine wpAny_bind (tupleItemsOf_ ht ?_)
  refine wpAny_bind (wpAny_typeOf hTs ?_)
  rw [if_pos (by decide)]
  refine wpAny_bind (sliceApplied_rev hs ?_)
  have hno : ¬ ((((items.size : Int) - 1) == 0 && (-1 : Int) == 1 && items.size == items.size) = true) := by
    intro q
    rw [Bool.and_eq_true, Bool.and_eq_true] at q
    exact absurd q.1.2 (by decide)
  show wpAny _ _ (if (((items.size : Int) - 1) == 0 && (-1 : Int) == 1 && items.size == items.size) = true then _ else _) _ _ s
  rw [if_neg hno, rev_all]
  first
    | exact wpAny_bind (m := Builtin.Tuple.tupleExact _) (wpAny_newObj_type (wpAny_pure ⟨_, rfl, wpAny_pure h⟩) hok)
    | exact wpAny_bind (m := Builtin.Tuple.tupleExact _) (wpAny_newObj_type (wpAny_bind (wpAny_pure (wpAny_pure ⟨_, rfl, wpAny_pure h⟩))) hok)
    | exact wpAny_bind (wpAny_bind (m := Builtin.Tuple.tupleExact _) (wpAny_newObj_type (wpAny_pure (wpAny_pure ⟨_, rfl, wpAny_pure h⟩)) hok))
    | exact wpAny_bind (wpAny_bind (m := Builtin.Tuple.tupleExact _) (wpAny_newObj_type (wpAny_pure ⟨_, rfl, wpAny_pure h⟩) hok))
end
def tRevT (K : PySem.W.Frag) (te : TE) : TE := fun σ H Q => te σ H fun x H1 => ∃ a xs, x = .ref a ∧ SqT K H1 a xs ∧ ∀ p, H1 p = none → Q (.ref p) (upd H1 p (.tup xs.reverse))
theorem pe_revT {X : Cx} {e : Expr} {te : TE} {k : Nat} {p1 p2 p3 pos : Pos} (he : PE X e te) : PE X (.Subscript e (.Slice none none (some (.UnaryOp .USub (.Constant (.int 1) k p1) p2)) p3) pos) (tRevT X.K te) := by
  refine ⟨fun pins s σ H Q I h => ?_⟩
  refine Subscript_ (thn (he.run pins s σ H _ I h) fun v s1 ⟨x, H1, I1, r1, q1⟩ => ?_)
  obtain ⟨a, xs, ex, hx, q⟩ := q1
  subst ex
  cases r1
  have hst : PO X (some (.UnaryOp .USub (.Constant (.int 1) k p1) p2)) (tPart (tUn (rU fun i => .int (-i)) (tC (.int 1)))) := po_some (pe_un un_neg pe_int)
  refine wpAny_Slice (thn (po_none.run pins s1 σ H1 (fun o H2 => o = none ∧ H2 = H1) I1 ⟨rfl, rfl⟩) fun vl s2 ⟨l, H2, I2, pl, el, e2⟩ => ?_)
  subst el e2
  refine thn (po_none.run pins s2 σ H2 (fun o H3 => o = none ∧ H3 = H2) I2 ⟨rfl, rfl⟩) fun vu s3 ⟨u, H3, I3, pu, eu, e3⟩ => ?_
  subst eu e3
  refine thn (hst.run pins s3 σ H3 (fun o H4 => o = some (-1) ∧ H4 = H3) I3 ⟨1, rfl, -1, rfl, rfl, rfl⟩) fun vs s4 ⟨o, H4, I4, ps, eo, e4⟩ => ?_
  subst eo e4
  cases pl
  cases pu
  obtain ⟨tk, ev⟩ : ∃ tk, vs = .int (-1) tk := by
    cases ps with
    | int i t => exact ⟨t, rfl⟩
  subst ev
  have I5 : Inv X pins σ H4 { s4 with heap := s4.heap.push { cls := .type "slice", data := .fields #[.none, .none, .int (-1) tk] } } := I4.kept (t' := s4.toks) fun b ob q => Heap.get?_push_of_some _ q
  obtain ⟨its, r, ht, hz⟩ := I5.tuple hx
  have hlen := r.length
  show wpAny (model X.prog X.w) X.A (subscriptTail e (.Slice none none (some (.UnaryOp .USub (.Constant (.int 1) k p1) p2)) p3) (.ref a) (.ref s4.heap.objs.size)) (EP X pins σ Q) X.xe { s4 with heap := s4.heap.push { cls := .type "slice", data := .fields #[.none, .none, .int (-1) tk] } }
  refine tail_any (ops := [.ref a, .ref s4.heap.objs.size]) ht.typeIs (PyProof.Rows.slot_tuple_getitem.lookup) ?_ (by with_unfolding_all rfl)
  refine getItem_tuple_rev ht (Heap.IsSliceOf.new _ .none .none (.int (-1) tk)) ?_ (by rw [List.size_toArray]; omega)
  refine ⟨.ref _, _, I5.laid (t' := s4.toks) (o := .tup xs.reverse) (fun b ob q => Heap.get?_push_of_some _ q) (Nat.le_refl _) ?_, rfl, q _ (I5.hok.fresh (Nat.le_refl _))⟩
  exact ⟨by rw [List.length_reverse]; exact hz, _, r.reverse, ⟨_, Heap.get?_push_size _ rfl, rfl, _, rfl⟩⟩
/-! ## things of any kind -/
/-- the type of a thing, as far as isinstance asks for it -/
def Typ (K : PySem.W.Frag) (H : Hp) (v : V) (c : String) (b : Bool) : Prop := ∃ t, TyX K H v t ∧ PySem.W.kitOne K t (.type c) = some b
/-- an int, a flag, or neither -/
inductive Item (K : PySem.W.Frag) (H : Hp) : V → Prop where
  | int (i : Int) : Item K H (.int i)
  | bl (b : Bool) : Item K H (.bl b)
  | els {v : V} (h : Typ K H v "int" false) (h1 : ∀ i, v ≠ .int i) : Item K H v
def isI : V → Bool
  | .int _ => true
  | _ => false
def inI (a b : Int) : V → Bool
  | .int i => decide (a ≤ i ∧ i ≤ b)
  | _ => false
theorem TyX.same {K : PySem.W.Frag} {H H' : Hp} {v : V} {t : Value} (hk : ∀ a xs, H a = some (.tup xs) → H' a = some (.tup xs)) (h : TyX K H v t) (hl : ∀ a xs, v = .ref a → H a = some (.lst xs) → ∃ ys, H' a = some (.lst ys)) (ho : ∀ a o, v = .ref a → H a = some o → isTupO (some o) = false → (∀ xs, o ≠ .lst xs) → H' a = some o) : TyX K H' v t := by
  cases h with
  | base b =>
    cases b with
    | non => exact .base .non
    | bl x => exact .base (.bl x)
    | int x => exact .base (.int x)
    | str x => exact .base (.str x)
    | flt x => exact .base (.flt x)
    | @lst a xs e => obtain ⟨ys, h⟩ := hl a xs rfl e; exact .base (.lst h)
    | @frz a o xs e => exact .base (.frz (ho a _ rfl e rfl (fun _ => HO.noConfusion)))
    | @tup a xs e => exact .base (.tup (hk _ _ e))
    | @dK a kvs e => exact .base (.dK (ho a _ rfl e rfl (fun _ => HO.noConfusion)))
    | @dT a kvs e => exact .base (.dT (ho a _ rfl e rfl (fun _ => HO.noConfusion)))
    | @ins a C dx fs e cl ha hn htk hm => exact .base (.ins (ho a _ rfl e rfl (fun _ => HO.noConfusion)) cl ha hn htk hm)
  | byt b => exact .byt b
  | @set a S n e => exact .set (ho a _ rfl e rfl (fun _ => HO.noConfusion))
  | kList e c => exact .kList e c
  | kTuple e c => exact .kTuple e c
  | kDict e c => exact .kDict e c
  | @fTuple a o xs e => exact .fTuple (ho a _ rfl e rfl (fun _ => HO.noConfusion))
  | @fDict a o kvs e => exact .fDict (ho a _ rfl e rfl (fun _ => HO.noConfusion))
theorem TyX.ext {K : PySem.W.Frag} {H H' : Hp} {v : V} {t : Value} (h : TyX K H v t) (e : Same H H') : TyX K H' v t :=
  TyX.same (fun a xs q => e _ _ q) h (fun a xs _ q => ⟨xs, e _ _ q⟩) (fun a o _ q _ _ => e _ _ q)
theorem TyX.exT {K : PySem.W.Frag} {H H' : Hp} {T : Addr} {l l' : List V} {v : V} {t : Value} (h : TyX K H v t) (e : ExT T H H') (hT : H T = some (.lst l)) (hT' : H' T = some (.lst l')) : TyX K H' v t :=
  TyX.same (fun a xs q => e.tk hT _ _ q) h (fun a xs _ q => by
    by_cases c : a = T
    · exact ⟨l', by rw [c]; exact hT'⟩
    · exact ⟨xs, e _ _ c q⟩) (fun a o _ q _ n => e _ _ (fun c => by rw [c, hT] at q; exact n l (Option.some.inj q).symm) q)
theorem Typ.ext {K : PySem.W.Frag} {H H' : Hp} {v : V} {c : String} {b : Bool} (h : Typ K H v c b) (e : Same H H') : Typ K H' v c b := let ⟨t, h1, h2⟩ := h; ⟨t, TyX.ext h1 e, h2⟩
theorem Typ.exT {K : PySem.W.Frag} {H H' : Hp} {T : Addr} {l l' : List V} {v : V} {c : String} {b : Bool} (h : Typ K H v c b) (e : ExT T H H') (hT : H T = some (.lst l)) (hT' : H' T = some (.lst l')) : Typ K H' v c b := let ⟨t, h1, h2⟩ := h; ⟨t, TyX.exT h1 e hT hT', h2⟩
theorem Item.ext {K : PySem.W.Frag} {H H' : Hp} {v : V} (h : Item K H v) (e : Same H H') : Item K H' v := by
  cases h with
  | int i => exact .int i
  | bl b => exact .bl b
  | els h h1 => exact .els (h.ext e) h1
theorem Item.exT {K : PySem.W.Frag} {H H' : Hp} {T : Addr} {l l' : List V} {v : V} (h : Item K H v) (e : ExT T H H') (hT : H T = some (.lst l)) (hT' : H' T = some (.lst l')) : Item K H' v := by
  cases h with
  | int i => exact .int i
  | bl b => exact .bl b
  | els h h1 => exact .els (h.exT e hT hT') h1
/-- a tuple of items, or no tuple -/
inductive Thing (K : PySem.W.Frag) (H : Hp) : V → Prop where
  | tup {a : Addr} {xs : List V} (h : H a = some (.tup xs)) (h1 : ∀ x ∈ xs, Item K H x) (h2 : xs.length ≤ 100000) : Thing K H (.ref a)
  | els {v : V} (h : Typ K H v "tuple" false) (h1 : ∀ a xs, v = .ref a → H a ≠ some (.tup xs)) : Thing K H v
theorem Thing.ext {K : PySem.W.Frag} {H H' : Hp} {v : V} (h : Thing K H v) (e : Same H H') (hv : ∀ a, v = .ref a → H a ≠ none) : Thing K H' v := by
  cases h with
  | tup h h1 h2 => exact .tup (e _ _ h) (fun x hx => (h1 x hx).ext e) h2
  | els h h1 =>
    refine .els (h.ext e) fun a xs ea q => ?_
    cases c : H a with
    | none => exact hv a ea c
    | some o =>
      rw [e _ _ c] at q
      cases q
      exact h1 a xs ea c
theorem Thing.exT {K : PySem.W.Frag} {H H' : Hp} {T : Addr} {l l' : List V} {v : V} (h : Thing K H v) (e : ExT T H H') (hT : H T = some (.lst l)) (hT' : H' T = some (.lst l')) (hv : ∀ a, v = .ref a → H a ≠ none) : Thing K H' v := by
  cases h with
  | tup h h1 h2 => exact .tup (e.tk hT _ _ h) (fun x hx => (h1 x hx).exT e hT hT') h2
  | els h h1 =>
    refine .els (h.exT e hT hT') fun a xs ea q => ?_
    by_cases ca : a = T
    · rw [ca, hT'] at q; cases q
    · cases c : H a with
      | none => exact hv a ea c
      | some o =>
        rw [e _ _ ca c] at q
        cases q
        exact h1 a xs ea c
theorem typ_tup {K : PySem.W.Frag} {H : Hp} {a : Addr} {xs : List V} {c : String} {b : Bool} (h : H a = some (.tup xs)) (hb : kitB "tuple" c = some b) : Typ K H (.ref a) c b := ⟨_, .base (.tup h), kit_ty hb⟩
theorem typ_lst {K : PySem.W.Frag} {H : Hp} {a : Addr} {xs : List V} {c : String} {b : Bool} (h : H a = some (.lst xs)) (hb : kitB "list" c = some b) : Typ K H (.ref a) c b := ⟨_, .base (.lst h), kit_ty hb⟩
theorem typ_dK {K : PySem.W.Frag} {H : Hp} {a : Addr} {xs : List (L2.Key × V)} {c : String} {b : Bool} (h : H a = some (.dK xs)) (hb : kitB "dict" c = some b) : Typ K H (.ref a) c b := ⟨_, .base (.dK h), kit_ty hb⟩
theorem typ_non {K : PySem.W.Frag} {H : Hp} {c : String} {b : Bool} (hb : kitB "NoneType" c = some b) : Typ K H .non c b := ⟨_, .base .non, kit_ty hb⟩
theorem typ_str {K : PySem.W.Frag} {H : Hp} {c : String} {x : Str} {b : Bool} (hb : kitB "str" c = some b) : Typ K H (.str x) c b := ⟨_, .base (.str x), kit_ty hb⟩
theorem typ_int {K : PySem.W.Frag} {H : Hp} {c : String} {x : Int} {b : Bool} (hb : kitB "int" c = some b) : Typ K H (.int x) c b := ⟨_, .base (.int x), kit_ty hb⟩
theorem typ_bl {K : PySem.W.Frag} {H : Hp} {c : String} {x : Bool} {b : Bool} (hb : kitB "bool" c = some b) : Typ K H (.bl x) c b := ⟨_, .base (.bl x), kit_ty hb⟩
theorem Item.non {K : PySem.W.Frag} {H : Hp} : Item K H .non := .els (typ_non (by decide +kernel)) (fun _ => V.noConfusion)
theorem Item.str {K : PySem.W.Frag} {H : Hp} (x : Str) : Item K H (.str x) := .els (typ_str (by decide +kernel)) (fun _ => V.noConfusion)
theorem Item.tup {K : PySem.W.Frag} {H : Hp} {a : Addr} {xs : List V} (h : H a = some (.tup xs)) : Item K H (.ref a) := .els (typ_tup h (by decide +kernel)) (fun _ => V.noConfusion)
theorem Item.lst {K : PySem.W.Frag} {H : Hp} {a : Addr} {xs : List V} (h : H a = some (.lst xs)) : Item K H (.ref a) := .els (typ_lst h (by decide +kernel)) (fun _ => V.noConfusion)
theorem Item.dK {K : PySem.W.Frag} {H : Hp} {a : Addr} {xs : List (L2.Key × V)} (h : H a = some (.dK xs)) : Item K H (.ref a) := .els (typ_dK h (by decide +kernel)) (fun _ => V.noConfusion)
theorem Thing.non {K : PySem.W.Frag} {H : Hp} : Thing K H .non := .els (typ_non (by decide +kernel)) (fun _ _ => V.noConfusion)
theorem Thing.str {K : PySem.W.Frag} {H : Hp} (x : Str) : Thing K H (.str x) := .els (typ_str (by decide +kernel)) (fun _ _ => V.noConfusion)
theorem Thing.int {K : PySem.W.Frag} {H : Hp} (x : Int) : Thing K H (.int x) := .els (typ_int (by decide +kernel)) (fun _ _ => V.noConfusion)
theorem Thing.bl {K : PySem.W.Frag} {H : Hp} (x : Bool) : Thing K H (.bl x) := .els (typ_bl (by decide +kernel)) (fun _ _ => V.noConfusion)
theorem Thing.lst {K : PySem.W.Frag} {H : Hp} {a : Addr} {xs : List V} (h : H a = some (.lst xs)) : Thing K H (.ref a) := .els (typ_lst h (by decide +kernel)) (fun b ys e q => by cases e; rw [h] at q; cases q)
theorem Thing.dK {K : PySem.W.Frag} {H : Hp} {a : Addr} {xs : List (L2.Key × V)} (h : H a = some (.dK xs)) : Thing K H (.ref a) := .els (typ_dK h (by decide +kernel)) (fun b ys e q => by cases e; rw [h] at q; cases q)
/-- what isinstance asks of a class of one's own -/
structure ClsTy (K : PySem.W.Frag) (C : Addr) : Prop where
  int : PySem.W.kitOne K (.ref C) (.type "int") = some false
  tup : PySem.W.kitOne K (.ref C) (.type "tuple") = some false
end Bs

namespace Bs
open PySem PySem.Spec PyProof.Rows L2 HT
/-! ## sorted(xs), tuples of ints of any length -/
section
variable {prog : Program} {w : World} {A : Around} {E : Value → Shared → Prop} {s : Shared}
def IsIt (h : Heap) (v : Value) (ns : List Int) : Prop := ∃ (a : Addr) (o : Obj) (items : Array Value) (n : Nat), v = .ref a ∧ h.get? a = some o ∧ o.cls = .type "tuple" ∧ o.data = .seq items n ∧ IntsAre items.toList ns
theorem IsIt.keeps {h h' : Heap} {v : Value} {ns : List Int} (x : IsIt h v ns) (k : ∀ b o, v = .ref b → h.get? b = some o → h'.get? b = some o) : IsIt h' v ns := by
  obtain ⟨a, o, items, n, e, g, c, d, i⟩ := x
  exact ⟨a, o, items, n, e, k _ _ e g, c, d, i⟩
theorem lt_it {v u : Value} {ns ms : List Int} {Q : Bool → Shared → Prop} (hu : A.units < cLine) (hv : IsIt s.heap v ns) (hw : IsIt s.heap u ms) (h : Q (HT.lexLt ns ms) s) : wpAny (model prog w) A (keyLt' oneType' v u) Q E s := by
  obtain ⟨a, ⟨c1, dd, d1, sl⟩, items, n, rfl, ga, ca, da, ia⟩ := hv
  obtain ⟨b, ⟨c2, dd2, d2, sl2⟩, items2, n2, rfl, gb, cb, db, ib⟩ := hw
  simp only at ca da cb db
  subst ca da cb db
  rw [keyLt'_oneType, oneLt'_eq]
  simp only [if_true]
  refine wpAny_bind (wpAny_cRoomFor hu ?_)
  refine wpAny_bind (wpAny_callSpecialIfBound?_slot (name := PySem.Str.ofString "__lt__") ⟨_, ga, rfl⟩ PySem.F.slot_tuple_lt ?_)
  refine call_meets PySem.F.slot_tuple_lt ⟨_, ga, rfl⟩ PySem.F.entry_tuple_lt (PySem.F.args_tuple_lt_2 _ _) (tuple_lt_ints a b items items2 n n2 dd dd2 sl sl2 ns ms ia ib) ⟨ga, gb, ?_⟩
  exact wpAny_truthy_bool h
/-- of tuples, one by one -/
theorem lex_it (b : Bool) {Q : Bool → Shared → Prop} : ∀ {xs ys : List Value} {ns ms : List Int} (i : Nat) (d : Bool), IntsAre xs ns → IntsAre ys ms → (ns.length < ms.length ↔ d = true) → Q (HT.lexLt ns ms) s → PySem.W.KatLex prog w A b d Q (xs.zip ys) i s
  | _, _, _, _, i, d, .nil, .nil, e, h => by
    have : d = false := by
      cases d with
      | false => rfl
      | true => exact absurd (e.mpr rfl) (by simp)
    subst this
    exact PySem.W.kat_nil h
  | _, _, _, _, i, d, .nil, .cons m t r, e, h => by
    have : d = true := e.mp (by simp)
    subst this
    exact PySem.W.kat_nil h
  | _, _, _, _, i, d, .cons n t r, .nil, e, h => by
    have : d = false := by
      cases d with
      | false => rfl
      | true => exact absurd (e.mpr rfl) (by simp)
    subst this
    exact PySem.W.kat_nil h
  | _, _, _, _, i, d, .cons (vs := xs) (ns := ns) n t r, .cons (vs := ys) (ns := ms) m u r', e, h => by
    rw [HT.lexLt_cons] at h
    refine PySem.W.kat_cons (SeqAt.EqAt.int_int n t m u prog w _ _ ?_)
    refine PySem.W.kat_go (fun e1 => ?_) (fun e1 => ?_)
    · have ex : n = m := by simpa using e1
      rw [if_pos ex] at h
      exact PySem.W.kat_yes (lex_it b (i + 1) d r r' (by simpa using e) h)
    · have ex : ¬ n = m := by simpa using e1
      rw [if_neg ex] at h
      exact PySem.W.kat_no (TS.oneLt_ints _ h)
theorem kat_it {vs : List Value} (h : Heap) : (∀ v ∈ vs, ∃ ns, IsIt h v ns ∧ ns ≠ []) → ∃ fs, PySem.W.KatTups h vs fs ∧ fs.length = vs.length ∧ ∀ f ∈ fs, ∃ x t, f = Value.int x t := by
  induction vs with
  | nil => intro _; exact ⟨[], .nil, rfl, by simp⟩
  | cons v vs ih =>
    intro hv
    obtain ⟨fs, h1, h2, h3⟩ := ih fun u hu => hv u (List.mem_cons_of_mem _ hu)
    obtain ⟨ns, ⟨a, o, items, n, rfl, g, c, d, i⟩, hne⟩ := hv v List.mem_cons_self
    obtain ⟨its, rfl⟩ : ∃ its, items = List.toArray its := ⟨items.toList, by simp⟩
    cases its with
    | nil => cases i; exact absurd rfl hne
    | cons x its =>
      cases i with
      | cons k t r => exact ⟨.int k t :: fs, .cons g c d (by simp) h1, by simp [h2], fun f hf => (List.mem_cons.mp hf).elim (fun e => ⟨k, t, e⟩) (h3 f)⟩
theorem firsts_it {M : Model} : ∀ (vs : List Value) {Q : List (Option Value) → Shared → Prop}, (∀ v ∈ vs, ∃ ns, IsIt s.heap v ns) → (∀ l, Q l s) → wpAny M A (vs.mapM firstOfTuple') Q E s
  | [], Q, _, h => by rw [List.mapM_nil]; exact wpAny_pure (h _)
  | v :: vs, Q, hv, h => by
    obtain ⟨ns, ⟨a, o, items, n, rfl, g, c, d, i⟩⟩ := hv v List.mem_cons_self
    rw [List.mapM_cons]
    refine wpAny_bind ?_
    rw [PySem.W.kas_first_eq]
    refine wpAny_bind (PySem.W.Looks.here (show PySem.W.Looks M s.heap (typeOf (.ref a)) o.cls from (PySem.W.Looks.ld g).andThen .now) ?_)
    rw [c, if_neg (by first | decide | simp)]
    refine wpAny_bind (listItems_at g d (wpAny_pure ?_))
    exact wpAny_bind (firsts_it vs (fun u hu => hv u (List.mem_cons_of_mem _ hu)) fun l => wpAny_pure (h _))
theorem kind_one {v : Value} {vs : List Value} {Q : SortKind → Shared → Prop} (h0 : IsIt s.heap v []) (hv : ∀ u ∈ vs, ∃ ns, IsIt s.heap u ns) (h : Q oneType' s) {M : Model} : wpAny M A (keyKind' (v :: vs).toArray) Q E s := by
  rw [kat_kind_eq, List.mapM_toArray, map_eq_pure_bind]
  obtain ⟨a, o, items, n, rfl, g, c, d, i⟩ := id h0
  rw [List.mapM_cons]
  refine wpAny_bind (wpAny_bind (wpAny_bind ?_))
  rw [PySem.W.kas_first_eq]
  refine wpAny_bind (PySem.W.Looks.here (show PySem.W.Looks M s.heap (typeOf (.ref a)) o.cls from (PySem.W.Looks.ld g).andThen .now) ?_)
  rw [c, if_neg (by first | decide | simp)]
  refine wpAny_bind (listItems_at g d (wpAny_pure ?_))
  have e0 : items[0]? = none := by
    cases hl : items.toList with
    | nil => simp [Array.toList_eq_nil_iff.mp hl]
    | cons x r => rw [hl] at i; cases i
  rw [e0]
  refine wpAny_bind (firsts_it vs hv fun l => wpAny_pure (wpAny_pure ?_))
  have hall : ((none :: l : List (Option Value)).toArray.all fun x => x.isSome) = false := by simp
  rw [hall, if_neg (by simp)]
  have hb : (((none :: l : List (Option Value)).toArray[0]?.bind id).isSome) = false := by simp
  rw [hb, if_neg (by simp)]
  rw [oneTypeOnly'_eq, List.mapM_toArray, map_eq_pure_bind]
  have ht : ∀ u ∈ Value.ref a :: vs, PySem.W.Looks M s.heap (typeOf u) (.type "tuple") := fun u hu => by
    obtain ⟨ns, ⟨b, o', _, _, rfl, g', c', _, _⟩⟩ : ∃ ns, IsIt s.heap u ns := by
      rcases List.mem_cons.mp hu with rfl | hu
      · exact ⟨_, h0⟩
      · exact hv u hu
    rw [← c']
    exact (PySem.W.Looks.ld g').andThen .now
  refine wpAny_bind (wpAny_bind (wpAny_bind (PySem.W.kas_mapM (r := Value.type "tuple") _ (fun v hv Q' hq => (ht v hv).here hq) (wpAny_pure ?_))))
  have hall2 : ((List.map (fun _ => Value.type "tuple") (Value.ref a :: vs)).toArray.all fun x => x == Value.type "tuple") = true := by
    simp only [List.all_toArray, List.all_map, List.all_eq_true]
    intro _ _
    rfl
  have h00 : (List.map (fun _ => Value.type "tuple") (Value.ref a :: vs)).toArray[0]? = some (Value.type "tuple") := by simp
  rw [h00]
  simp only [hall2, if_true]
  exact wpAny_pure (wpAny_pure h)
theorem it_sortable {a : Addr} {vs : List Value} {k : Value → List Int} (h2 : 2 ≤ vs.length) (hu : A.units < cLine) (hv : ∀ v ∈ vs, IsIt s.heap v (k v)) (ha : ∀ v ∈ vs, v ≠ .ref a) (hk : (∀ v ∈ vs, k v ≠ []) ∨ ∃ v r, vs = v :: r ∧ k v = []) :
    SrtO.SortableO prog w A s a vs fun v u => HT.lexLt (k v) (k u) := by
  intro h' keep
  have hv' : ∀ v ∈ vs, IsIt h' v (k v) := fun v hm => (hv v hm).keeps fun b o e g => keep b o (fun z => ha v hm (by rw [e, z])) g
  rcases hk with hk | ⟨v0, r, rfl, hk⟩
  · obtain ⟨fs, h1, h3, h4⟩ := kat_it h' fun v hm => ⟨k v, hv' v hm, hk v hm⟩
    refine ⟨tuples' true, fun Q E hq => ?_, fun p q hp hq => ?_⟩
    · refine PySem.W.kat_kind (T := .type "int") h1 (by omega) (fun f hm => ?_) (by rfl) ?_
      · obtain ⟨x, t, rfl⟩ := h4 f hm
        exact PySem.W.Looks.now
      · have e : (Value.type "int" != Value.type "tuple") = true := by first | decide +kernel | rfl | decide
        rw [e]
        exact hq
    · obtain ⟨a1, o1, i1, n1, e1, g1, c1, d1, ii1⟩ := hv' _ hp
      obtain ⟨a2, o2, i2, n2, e2, g2, c2, d2, ii2⟩ := hv' _ hq
      show wpAny (model prog w) A (keyLt' (tuples' true) p.1 q.1) (fun r s' => s' = { s with heap := h' } ∧ r = HT.lexLt (k p.1) (k q.1)) (fun _ _ => False) { s with heap := h' }
      generalize k p.1 = ns at ii1 ⊢
      generalize k q.1 = ms at ii2 ⊢
      rw [e1, e2]
      refine PySem.W.kat_lt g1 d1 g2 d2 (lex_it true 0 _ ii1 ii2 ?_ ⟨rfl, rfl⟩)
      rw [← ii1.length, ← ii2.length, decide_eq_true_eq]
      simp
  · refine ⟨oneType', fun Q E hq => ?_, fun p q hp hq => lt_it (Q := fun r s' => s' = { s with heap := h' } ∧ r = HT.lexLt (k p.1) (k q.1)) (E := fun _ _ => False) hu (hv' p.1 hp) (hv' q.1 hq) ⟨rfl, rfl⟩⟩
    have h0 := hv' v0 List.mem_cons_self
    rw [hk] at h0
    exact kind_one (s := { s with heap := h' }) h0 (fun u hm => ⟨_, hv' u (List.mem_cons_of_mem _ hm)⟩) hq
end
/-- sorted(xs), tuples of ints: none empty, or the first one -/
def rSortedIt (K : PySem.W.Frag) : List V → Hp → VK → Prop := fun vs H Q => ∃ (a : Addr) (xs : List V) (k : V → List Int), vs = [V.ref a] ∧ SqL K H a xs ∧ (∀ x ∈ xs, ∃ t, x = V.ref t ∧ H t = some (.tup ((k x).map V.int))) ∧ ((∀ x ∈ xs, k x ≠ []) ∨ ∃ x r, xs = x :: r ∧ k x = []) ∧
  ∀ ys p, ys.Perm xs → ys.Pairwise (fun x y => HT.lexLt (k y) (k x) = false) → H p = none → Q (.ref p) (upd H p (.lst ys))
theorem cr_sortedIt {X : Cx} (hu : X.A.units + 64 < cLine) : CallR X (.builtin "sorted") (rSortedIt X.K) := by
  intro pins s σ H vs us Q I r h
  obtain ⟨a, xs, k, rfl, hs, hx, hk, q⟩ := h
  obtain ⟨its, rv, hl, hz⟩ := I.list hs
  obtain ⟨u, rfl, ru⟩ := vals1 r
  obtain rfl : u = Value.ref a := ru
  obtain ⟨e1, e2⟩ := refs_back rv fun x m => by
    obtain ⟨t, e, _⟩ := hx x m
    exact ⟨t, e⟩
  have hp : ∀ v ∈ its, IsIt s.heap v (k (backV v)) := fun v hv => by
    obtain ⟨t, rfl⟩ := e2 v hv
    have hm : V.ref t ∈ xs := by rw [e1]; exact List.mem_map.mpr ⟨_, hv, rfl⟩
    obtain ⟨t', e, ht⟩ := hx _ hm
    cases e
    obtain ⟨_, its2, r2, o, ho, hc, n, hd⟩ := I.hok _ _ ht
    exact ⟨t, o, its2.toArray, n, rfl, ho, hc, hd, intsAre_of r2⟩
  have hk' : (∀ v ∈ its, k (backV v) ≠ []) ∨ ∃ v r, its = v :: r ∧ k (backV v) = [] := by
    rcases hk with hk | ⟨x, r, ex, hk⟩
    · refine .inl fun v hv => hk _ ?_
      rw [e1]; exact List.mem_map.mpr ⟨_, hv, rfl⟩
    · rw [e1] at ex
      cases its with
      | nil => cases ex
      | cons v r' =>
        rw [List.map_cons] at ex
        injection ex with h1 h2
        exact .inr ⟨v, r', rfl, by rw [h1]; exact hk⟩
  refine SrtO.sorted_ord (NtL.swo_lexL fun u => k (backV u)) hl.isList (by rw [← rv.length]; exact hz) (fun h2 h₁ a' ha' keep => it_sortable (s := { s with heap := h₁ }) h2 (by show X.A.units + 1 + 1 < cLine; omega) (fun v hv => (hp v hv).keeps fun b o _ g => (keep b o g).2) (fun v hv => ?_) hk') fun out h1 h2 => ?_
  · obtain ⟨t, o, _, _, rfl, g, c, _, _⟩ := hp v hv
    exact fun e => (keep t o g).1 (Value.ref.inj e)
  · have h3 : ∀ u ∈ out, ∃ a, u = Value.ref a := fun u hu => e2 u (h2.perm.mem_iff.mp hu)
    obtain ⟨ep, he'⟩ := PyProof.Rows.sortedAll_at s.heap its out.toArray
    have hb : (out.map backV).Perm xs := by rw [e1]; exact h2.perm.map backV
    refine ⟨.ref _, upd H (s.heap.objs.size + 1) (.lst (out.map backV)), I.laid (t' := s.toks) (fun _ _ => PyProof.Rows.sortedAll_old) (Nat.le_succ _) ⟨?_, out, ep, vals_back h3, he'⟩, rfl, q _ _ hb ?_ (I.hok.fresh (Nat.le_succ _))⟩
    · rw [hb.length_eq]
      exact hz
    · exact List.pairwise_map.mpr h1
end Bs

namespace Bs
open PySem PySem.Spec PyProof.Rows L2 HT PySem.W
open Builtin Builtin.Str Builtin.Int Builtin.Float
/-! ## f'{n:b}' -/
def binL (n : Nat) : List Nat := (Nat.toDigits 2 n).map Char.toNat
def binText (n : Nat) : PySem.Str := ⟨(binL n).toArray⟩
theorem field_b (f : FormatSpec) (L : List Nat) (h5 : f.width = none) (h6 : f.grouping = none) (h7 : f.sign = none) (h8 : f.align = 62) (hL : L.isEmpty = false) : intField' f false [] L [] 4 = ⟨L.toArray⟩ := by
  unfold intField'
  simp only [h5, h6, h7, h8, hL, Bool.false_eq_true, if_false, List.length_nil, List.nil_append, List.append_nil, show ((62 : Nat) == 61) = false from rfl, show ((62 : Nat) == 60) = false from rfl, show ((62 : Nat) == 94) = false from rfl, Bool.and_false]
  have h0 : ((-1 : Int) - ((0 + 0 + 0 : Nat) : Int) - ((List.replicate ((0 : Int).toNat - L.length) 48 ++ L).length : Int)).toNat = 0 := by
    simp
  simp
theorem binL_ne (n : Nat) : (binL n).isEmpty = false := by
  unfold binL
  have := tDigits_len_ge 2 n
  cases h : Nat.toDigits 2 n with
  | nil => rw [h] at this; simp at this
  | cons a l => rfl
theorem parse_b : ∃ f : FormatSpec, parseFormatSpec (⟨#[98]⟩ : PySem.Str).cps.toList "int" 62 = .ok f ∧ f.type = some 98 ∧ f.precision = none ∧ f.noNeg0 = false ∧ f.alt = false ∧ f.width = none ∧ f.grouping = none ∧ f.sign = none ∧ f.align = 62 := ⟨_, rfl, rfl, rfl, rfl, rfl, rfl, rfl, rfl, rfl⟩
theorem meets_b (a : Int) (L : List Nat) (T : PySem.Str) (t u : Tok) (h0 : decide (a < 0) = false) (hL : ((Nat.toDigits 2 a.natAbs).map fun c => (if ((98 : Nat) == 88) = true then c.toUpper else c).toNat) = L) (hne : L.isEmpty = false) (hT : (⟨L.toArray⟩ : PySem.Str) = T) (hn : T.length ≤ sizeLine) :
    Meets («int.__format__» ⟨[.int a t, .str (⟨#[98]⟩ : PySem.Str) u], []⟩) (fun _ R s => ∀ t' k, R (.ok (.ret (.str T t'))) { s with toks := k }) := by
  apply KPc.meets_of
  intro prog w A s Q E hR
  unfold Builtin.«int.__format__»
  refine wpAny_bind (wpAny_of_eq (a := (_, _)) rfl ?_)
  refine wpAny_bind (wpAny_of_eq (a := _) rfl ?_)
  refine wpAny_ite (KPc.ite_no (fun h => nomatch h) ?_)
  refine wpAny_bind (wpAny_typeNameOf (T := "str") (typeIs_str _ _ _) (by decide) fun _ => ?_)
  refine wpAny_bind (wpAny_of_eq (a := some _) rfl ?_)
  refine wpAny_ite (KPc.ite_no (by decide +kernel) ?_)
  refine wpAny_ite (KPc.ite_no (by decide +kernel) ?_)
  refine wpAny_bind (wpAny_typeNameOfCut_int ?_)
  obtain ⟨f, hp, h1, h2, h3, h4, h5, h6, h7, h8⟩ := parse_b
  simp only [hp, h1, Option.getD_some]
  rw [if_pos (by decide +kernel)]
  show wpAny _ _ (if _ then _ else _) _ _ _
  rw [if_neg (by simp [h2])]
  show wpAny _ _ (if _ then _ else _) _ _ _
  rw [if_neg (by simp [h3])]
  show wpAny _ _ (if ((98 : Nat) == 99) = true then _ else _) _ _ _
  rw [if_neg (by decide)]
  show wpAny _ _ (if ((2 : Nat) == 10) = true then _ else _) _ _ _
  rw [if_neg (by decide)]
  show wpAny _ _ (if _ then _ else _) _ _ _
  rw [if_neg (by rw [h5]; decide)]
  rw [h4]
  rw [h0, hL, if_neg Bool.false_ne_true, if_neg (by decide)]
  have e : ∀ X : PySem.Str, X = T → wpAny (model prog w) A (retStr X) Q E s := fun X e => KXf.ret_text e (by rw [e]; exact hn) hR
  refine e _ ?_
  conv => lhs; whnf
  rw [← hT]
  simp only [h5, h6, h7, h8, hne, Bool.false_eq_true, if_false, List.length_nil, List.nil_append, List.append_nil, show ((62 : Nat) == 61) = false from rfl, show ((62 : Nat) == 60) = false from rfl, show ((62 : Nat) == 94) = false from rfl, Bool.and_false]
  simp
  generalize instDecidableEqBool (f.align == 60) true = d
  cases d <;> simp
theorem bin_digits (n : Nat) : ((Nat.toDigits 2 (n : Int).natAbs).map fun c => (if ((98 : Nat) == 88) = true then c.toUpper else c).toNat) = binL n := by
  unfold binL
  rw [Int.natAbs_natCast]
  refine List.map_congr_left fun c _ => ?_
  rw [if_neg (by decide)]
def tFmtB (te : TE) : TE := fun σ H Q => te σ H fun x H1 => ∃ n : Nat, x = .int (n : Nat) ∧ (binL n).length ≤ 1000 ∧ Q (.str (binText n)) H1
/-- f'{n:b}' -/
theorem pe_fmtB {X : Cx} {e : Expr} {te : TE} {k : Nat} {p1 p2 pos pos2 : Pos} (he : PE X e te) : PE X (.JoinedStr [.FormattedValue e (-1) (some (.JoinedStr [.Constant (.str (PySem.Str.ofString "b")) k p1] p2)) pos] pos2) (tFmtB te) := by
  refine pe_joined1 ⟨fun pins s σ H Q I h => ?_⟩
  refine wpAny_FormattedValue_spec (thn (he.run pins s σ H _ I h) fun v s1 hv => ?_)
  obtain ⟨x, H1, I1, r1, n, rfl, hl, q⟩ := hv
  obtain ⟨t, rfl⟩ := r1
  refine wpAny_JoinedStr_one (thn ((pe_str (X := X) (x := PySem.Str.ofString "b")).run pins s1 σ H1 (fun y H2 => y = .str (PySem.Str.ofString "b") ∧ H2 = H1) I1 ⟨rfl, rfl⟩) fun w s2 hw => ?_)
  obtain ⟨y, H2, I2, r2, rfl, rfl⟩ := hw
  obtain ⟨t2, rfl⟩ := r2
  refine ⟨_, t2, rfl, ?_⟩
  have hz : (binText n).length ≤ sizeLine := by show (binL n).toArray.size ≤ sizeLine; rw [List.size_toArray]; exact Nat.le_trans hl (by decide)
  exact KXf.field_int (spec' := ⟨#[98]⟩) (y := binText n) rfl (by decide) (by decide) (fun u => meets_b n (binL n) (binText n) t u (decide_eq_false (by omega)) (bin_digits n) (binL_ne n) rfl hz) (fun t' k => ⟨.str (binText n), _, I2.tok _, ⟨_, rfl⟩, q⟩)
end Bs

namespace Bs
open PySem PySem.Spec PyProof.Rows L2 HT
open Builtin Builtin.Str StrLaws
/-! ## text.count(one sign); the ones of f'{n:b}' -/
theorem occ_run (x : PySem.Str) (c limit : Nat) : ∀ (k lo : Nat) (A : Array Nat) (free : Nat), free ≤ lo → A.size + k ≤ limit → lo + k = x.length + 1 →
    (forIn (List.range' lo k) (A, free) (occBody x ⟨#[c]⟩ x.length limit)).run.fst.size = A.size + ((x.cps.toList.drop lo).filter (· == c)).length
  | 0, lo, A, free, _, _, h => by
    have : x.cps.toList.drop lo = [] := List.drop_eq_nil_of_le (by show x.cps.toList.length ≤ lo; simp only [PySem.Str.length] at h; simp; omega)
    rw [this]
    simp
  | k + 1, lo, A, free, hf, hl, h => by
    rw [List.range'_succ, List.forIn_cons]
    have hc := subAt_one x c lo
    have hd : ((x.cps.toList.drop lo).filter (· == c)).length = (if x.cps.toList[lo]? = some c then 1 else 0) + ((x.cps.toList.drop (lo + 1)).filter (· == c)).length := by
      by_cases hlt : lo < x.cps.toList.length
      · rw [List.drop_eq_getElem_cons hlt, List.getElem?_eq_getElem hlt]
        by_cases e : x.cps.toList[lo] = c
        · rw [List.filter_cons_of_pos (by simpa using e), if_pos (by rw [e])]
          simp; omega
        · rw [List.filter_cons_of_neg (by simpa using e), if_neg (by simpa using e)]
          simp
      · rw [List.drop_eq_nil_of_le (by omega), List.drop_eq_nil_of_le (by omega), List.getElem?_eq_none (by omega)]
        simp
    unfold occBody
    by_cases e : x.cps.toList[lo]? = some c
    · obtain ⟨h1, h2⟩ := hc.mpr e
      rw [if_pos ⟨⟨⟨by show A.size < limit; omega, hf⟩, h1⟩, h2⟩]
      have ih := occ_run x c limit k (lo + 1) (A.push lo) (lo + 1) (Nat.le_refl _) (by rw [Array.size_push]; omega) (by omega)
      rw [hd, if_pos e]
      refine Eq.trans ih ?_
      rw [Array.size_push]
      omega
    · rw [if_neg (fun q => e (hc.mp ⟨q.1.2, q.2⟩))]
      have ih := occ_run x c limit k (lo + 1) A free (by omega) (by omega) (by omega)
      rw [hd, if_neg e]
      refine Eq.trans ih ?_
      omega
theorem count_one (x : PySem.Str) (c : Nat) : (occurrences x ⟨#[c]⟩ 0 x.length (x.length + 1)).length = (x.cps.toList.filter (· == c)).length := by
  rw [occ_eq, Array.length_toList]
  have := occ_run x c (x.length + 1) (x.length + 1 - 0) 0 #[] 0 (Nat.le_refl _) (by simp) (by omega)
  rw [this]
  simp
/-- how many of the first m bits are set -/
def popF (m n : Nat) : Nat := ((List.range m).filter fun k => n.testBit k).length
theorem popF_succ (m n : Nat) : popF (m + 1) n = n % 2 + popF m (n / 2) := by
  unfold popF
  rw [List.range_succ_eq_map, List.filter_cons]
  have h : ((List.range m).map Nat.succ).filter (fun k => n.testBit k) = ((List.range m).filter fun k => (n / 2).testBit k).map Nat.succ := by
    rw [List.filter_map]
    congr 1
    refine List.filter_congr fun k _ => ?_
    show n.testBit (k + 1) = _
    rw [Nat.testBit_succ]
  rw [h]
  have h0 : n.testBit 0 = decide (n % 2 = 1) := Nat.testBit_zero n
  rw [h0]
  by_cases e : n % 2 = 1
  · rw [if_pos (decide_eq_true e)]
    simp
    omega
  · rw [if_neg (by simpa using e)]
    simp
    omega
theorem popF_zero (m : Nat) : popF m 0 = 0 := by
  unfold popF
  simp
def ones (l : List Char) : Nat := (l.filter fun c => c.toNat == 49).length
theorem ones_digit (n : Nat) (ds : List Char) : ones (Nat.digitChar (n % 2) :: ds) = n % 2 + ones ds := by
  unfold ones
  rcases Nat.mod_two_eq_zero_or_one n with e | e <;> rw [e] <;> simp [Nat.digitChar, List.filter_cons] <;> first | rfl | omega | skip
theorem core_ones : ∀ (fuel m n : Nat) (ds : List Char), n < 2 ^ m → n < fuel → 1 ≤ m → ones (Nat.toDigitsCore 2 fuel n ds) = ones ds + popF m n ∧ (Nat.toDigitsCore 2 fuel n ds).length ≤ ds.length + m
  | 0, _, _, _, _, h, _ => by omega
  | fuel + 1, m, n, ds, hm, hf, h1 => by
    obtain ⟨m, rfl⟩ : ∃ k, m = k + 1 := ⟨m - 1, by omega⟩
    unfold Nat.toDigitsCore
    by_cases h0 : n / 2 = 0
    · simp only [h0, if_true]
      rw [ones_digit, popF_succ, h0, popF_zero]
      refine ⟨by omega, ?_⟩
      rw [List.length_cons]
      omega
    · simp only [h0, if_false]
      have hm1 : 1 ≤ m := by
        cases m with
        | zero => exfalso; apply h0; have : n < 2 := by simpa using hm
                  omega
        | succ m => omega
      have ih := core_ones fuel m (n / 2) (Nat.digitChar (n % 2) :: ds) (by rw [Nat.pow_succ] at hm; omega) (by omega) hm1
      rw [ones_digit, List.length_cons] at ih
      rw [popF_succ]
      exact ⟨by omega, by omega⟩
theorem bin_ones {m n : Nat} (h : n < 2 ^ m) (h1 : 1 ≤ m) : ((binL n).filter (· == 49)).length = popF m n ∧ (binL n).length ≤ m := by
  obtain ⟨a, b⟩ := core_ones (n + 1) m n [] h (Nat.lt_succ_self _) h1
  refine ⟨?_, ?_⟩
  · unfold binL
    rw [List.filter_map, List.length_map]
    have : ones (Nat.toDigits 2 n) = popF m n := by
      show ones (Nat.toDigitsCore 2 (n + 1) n []) = _
      rw [a]; unfold ones; simp
    rw [← this]
    rfl
  · unfold binL
    rw [List.length_map]
    show (Nat.toDigitsCore 2 (n + 1) n []).length ≤ m
    simpa using b
end Bs

namespace Bs
open PySem PySem.Spec PyProof.Rows L2 HT
/-! ## {t: v}, t a tuple -/
section
variable {prog : Program} {w : World} {A : Around} {E : Value → Shared → Prop} {s : Shared} {κ : Type} [DecidableEq κ] {knd : HeapKind prog w κ}
theorem dict_oneH {env : Env} {keys : List (Option Expr)} {values : List Expr} {pos : Pos} {pairs : List (Sem Value × Sem Value)} {Q : Value → Shared → Prop} (hu : knd.room A)
    (hshape : (evalEachOpt keys env).zip ((evalEach values env).map fun v => do let x ← v; standAt pos; pure x) = pairs.map fun p => (some p.1, p.2)) (h0 : pairs ≠ []) (hlen : pairs.length ≤ 15)
    (h : wpAny (model prog w) A (evalPairs pairs) (fun vs s₁ => ∃ ps, CarriesH knd s₁.heap vs ps ∧ s₁.heap.DictOfH knd s.heap.objs.size [] ∧
      ∀ h' tk, h'.DictOfH knd s.heap.objs.size (storedAllH [] ps) → Heap.SameBut s.heap.objs.size s₁.heap h' → Q (.ref s.heap.objs.size) { s₁ with heap := h', toks := tk }) E
      { s with heap := s.heap.push { cls := .type "dict", data := .dict #[] } }) :
    wpAny (model prog w) A (eval (.Dict keys values pos) env) Q E s := by
  rw [arm_eval_Dict, hshape, dictDisplay_pairs pairs h0 (by omega)]
  exact wpAny_bind (wpAny_standAt (wpAny_bind (wpAny_subDictH (knd := knd) (Q := fun d s' => wpAny (model prog w) A (pure (Value.ref d)) Q E s') hu hlen
    (wpAny_mono h (fun vs s₁ h₁ => by obtain ⟨ps, hc, hm, hq⟩ := h₁; exact ⟨ps, hc, hm, fun h' tk a b => wpAny_pure (hq h' tk a b)⟩) fun _ _ e => e))))
end
/-- {t: v}; the new dict stands empty while t and v are made -/
def tDisp1T (tk tv : TE) : TE := fun σ H Q => ∀ p, H p = none → tk σ (upd H p (.dT [])) fun x H1 => tv σ H1 fun y H2 => ∃ (b : Addr) (k : List L2.Key), x = .ref b ∧ H2 b = some (.tup (k.map kV)) ∧ H2 p = some (.dT []) ∧ Q (.ref p) (upd H2 p (.dT [(k, y)]))
theorem pe_disp1T {X : Cx} {pos : Pos} {k v : Expr} {tk tv : TE} (hu : X.A.units + 1 < cLine) (hk : PE X k tk) (hv : PE X v tv) : PE X (.Dict [some k] [v] pos) (tDisp1T tk tv) := by
  refine ⟨fun pins s σ H Q I q => ?_⟩
  have hn := I.hok.fresh (Nat.le_refl s.heap.objs.size)
  have I1 := I.laid (a := s.heap.objs.size) (o := .dT []) (h' := s.heap.push { cls := .type "dict", data := .dict #[] }) (t' := s.toks) (fun _ _ q => Heap.get?_push_of_some _ q) (Nat.le_refl _) (dt_empty s.heap I.big)
  have hl := pairTrees_length [some k] [v] X.env pos rfl rfl
  refine dict_oneH (knd := tupleKind (mixKind X.prog X.w)) (pairs := pairTrees [some k] [v] X.env pos) (show X.A.units < cLine by omega) (zip_pairTrees _ _ _ _ rfl rfl) (fun e => by rw [e] at hl; cases hl) (by rw [hl]; exact (by decide : 1 ≤ 15)) ?_
  refine pairTrees_cons_walk (thn (hk.run pins _ σ _ _ I1 (q _ hn)) fun u s1 ⟨x, H1, I2, rx, q1⟩ => thn (hv.run pins s1 σ H1 _ I2 q1) fun w2 s2 ⟨y, H2, I3, ry, b, ks, ex, hb, hd, q2⟩ => pairTrees_nil_walk ?_)
  subst ex
  cases rx
  obtain ⟨z, hsys, xs, rel, dd⟩ := dt_of I3.hok hd
  cases rel
  refine ⟨[(ks, b, w2)], ⟨rfl, rfl, key_of I3.hok hb, trivial⟩, dd, fun h' tk' dd' hs => ⟨.ref s.heap.objs.size, _, ?_, rfl, q2⟩⟩
  have es : storedAllH [] [(ks, b, w2)] = [(ks, b, w2)] := rfl
  rw [es] at dd'
  obtain ⟨o, es2, ep, hq, h2, h3, h4, _, h5⟩ := dd'
  refine d_write I3 (by rw [hd]; exact True.intro) hs ⟨o, hq⟩ ⟨by rw [sizeLine_eq]; exact (by decide : 1 ≤ 16777216), hsys, [(ks, b, w2)], .cons ⟨rfl, ?_, ry⟩ .nil, o, es2, ep, hq, h2, h3, h4, h5⟩
  rw [upd_ne (ne_of hb hd (fun z => nomatch z))]
  exact hb
end Bs

/-! sorted(t), t a tuple of ints; x not in xs, xs a list of data; a &= b -/
namespace Bs
open PySem PySem.Spec L2 PyProof PyProof.Rows SrtO
section
variable {prog : Program} {w : World} {A : Around} {E : Value → Shared → Prop} {s : Shared}
/-- the items of a tuple, gathered in a new list -/
theorem gather_tup {p : Addr} {vs : List Value} {Q : List Value → Shared → Prop} {o : Obj} {n : Nat} (g : s.heap.get? p = some o) (hc : o.cls = .type "tuple") (hd : o.data = .seq vs.toArray n) (hz : vs.length ≤ sizeLine)
    (k : Q vs { s with heap := (s.heap.push (seqObj "list" #[] 0)).update s.heap.objs.size (Obj.mapSeq (· ++ vs.toArray)) }) : wpAny (model prog w) A (collect (.ref p)) Q E s := by
  have fresh : (s.heap.push (seqObj "list" #[] 0)).get? s.heap.objs.size = some (seqObj "list" #[] 0) := Heap.get?_push_size _ rfl
  have g2 : (s.heap.push (seqObj "list" #[] 0)).get? p = some o := Heap.get?_push_of_some _ g
  unfold collect
  refine wpAny_bind (wpAny_runValue (codeAny_builtin entry_proto_collect' ?_))
  show wpAny _ _ (do again (.builtin "list.__iadd__" ⟨[← newList [], .ref p], []⟩)) _ _ s
  refine wpAny_bind (wpAny_newList (wpAny_pure ⟨Code.quiet_builtin _ (by decide +kernel), codeAny_builtin entry_list_iadd' ?_⟩))
  show wpAny _ _ (Builtin.List.listExtendWith (.ref s.heap.objs.size) (.ref p) (.ref s.heap.objs.size)) _ _ { s with heap := s.heap.push (seqObj "list" #[] 0) }
  unfold Builtin.List.listExtendWith
  refine wpAny_bind (wpAny_typeOf (T := "tuple") ⟨o, g2, hc⟩ ?_)
  rw [if_pos (show (_ || Value.type "tuple" == Value.type "list" || Value.type "tuple" == Value.type "tuple") = true by
    rw [show (Value.type "tuple" == Value.type "tuple") = true from rfl, Bool.or_true])]
  refine wpAny_bind (listItems_at g2 hd (wpAny_bind (listItems_at (xs := #[]) (n := 0) fresh rfl ?_)))
  rw [if_neg (by simp)]
  refine wpAny_bind (listUpdate_at (xs := #[]) (n := 0) fresh rfl (wpAny_pure ?_) (Nat.zero_le _) (by show (#[] ++ vs.toArray).size ≤ sizeLine + 1; simp only [Array.size_append, List.size_toArray, List.length_nil]; omega))
  refine wpAny_bind (wpAny_load (get?_update_seq fresh _) ?_)
  show wpAny _ _ (pure ((#[] : Array Value) ++ vs.toArray).toList) Q E _
  rw [show ((#[] : Array Value) ++ vs.toArray).toList = vs by simp]
  exact wpAny_pure k
theorem sorted_tup {p : Addr} {vs : List Value} {ns : List Int} {Q : Value → Shared → Prop} {o : Obj} {n : Nat} (g : s.heap.get? p = some o) (hc : o.cls = .type "tuple") (hd : o.data = .seq vs.toArray n) (hz : vs.length ≤ sizeLine) (hi : IntsAre vs ns)
    (k : ∀ out : List Value, Srtd ltIv out → Stb ltIv out vs → Q (.ref (s.heap.objs.size + 1)) { s with heap := sortedAll s.heap vs out.toArray }) : wpAny (model prog w) A (call (.builtin "sorted") [.ref p]) Q E s := by
  refine Calls.call_function_entry kind_sorted plain_sorted entry_sorted (args_sorted1 _) ?_
  unfold Builtin.«sorted»
  refine wpAny_bind (m := checkCount "sorted" 1 1 _) (wpAny_pure (wpAny_bind (gather_tup g hc hd hz (wpAny_bind (wpAny_newList ?_ hz)))))
  generalize hT : (s.heap.push (seqObj "list" #[] 0)).update s.heap.objs.size (Obj.mapSeq (· ++ vs.toArray)) = T
  have sz : T.objs.size = s.heap.objs.size + 1 := by rw [← hT, Heap.size_update, size_push']
  have at1 : (T.push (seqObj "list" vs.toArray 0)).get? (s.heap.objs.size + 1) = some (seqObj "list" vs.toArray 0) := by rw [← sz]; exact Heap.get?_push_size _ rfl
  show wpAny _ _ _ _ _ { s with heap := T.push (seqObj "list" vs.toArray 0) }
  rw [sz]
  refine wpAny_bind (wpAny_holding (wpAny_call_entry slot_list_sort ⟨_, at1, rfl⟩ entry_list_sort (list_sort_ord swo_int at1 hz (fun h2 => ints_sortable hi h2) fun out h1 h2 => ⟨_, rfl, wpAny_pure ⟨_, rfl, ?_⟩⟩) (args_list_sort _)))
  have := k out h1 h2
  unfold sortedAll at this
  rw [hT] at this
  exact this
end
section
variable {X : Cx}
def rSortedIT : List V → Hp → VK → Prop := fun vs H Q => ∃ (a : Addr) (ns : List Int), vs = [V.ref a] ∧ H a = some (.tup (ns.map V.int)) ∧
  ∀ (ns' : List Int) (p : Addr), ns'.Perm ns → ns'.Pairwise (· ≤ ·) → H p = none → Q (.ref p) (upd H p (.lst (ns'.map V.int)))
theorem cr_sortedIT : CallR X (.builtin "sorted") rSortedIT := by
  intro pins s σ H vs us Q I r h
  obtain ⟨a, ns, rfl, ha, q⟩ := h
  obtain ⟨hz, its, rv, o, g, hc, n, hd⟩ := I.hok a _ ha
  rw [Vals.ref1 r]
  have hi := rv.ints
  refine sorted_tup (vs := its) g hc hd (by rw [← rv.length]; exact hz) hi fun out h1 h2 => ?_
  obtain ⟨k1, k2, k3⟩ := ints_out hi h1 h2
  obtain ⟨ep, he'⟩ := sortedAll_at s.heap its out.toArray
  have hlen : ((out.map iv).map V.int).length ≤ sizeLine := by
    rw [List.length_map, k2.length_eq, ← List.length_map (as := ns) (f := V.int)]
    exact hz
  exact ⟨.ref _, upd H (s.heap.objs.size + 1) (.lst ((out.map iv).map V.int)), I.laid (t' := s.toks) (fun _ _ => sortedAll_old) (Nat.le_succ _) ⟨hlen, out, ep, vals_of_ints k1, he'⟩, rfl, q _ _ k2 k3 (I.hok.fresh (Nat.le_succ _))⟩
/-- a thing that is in no place of a list of data -/
def rNotInL (K : PySem.W.Frag) : R2 := fun x y H Q => ∃ d ds, Dp K H x d ∧ Dp K H y (.list ds) ∧ SeqAt.shaped d = true ∧ SeqAt.shaped (.list ds) = true ∧ Q (.bl (!ds.any fun z => PyData.eqv z d)) H
theorem op_notInL (hu : X.A.units + 65 < cLine) : OpR X (compareOp .NotIn) (rNotInL X.K) := by
  intro pins s σ H x y v u Q I rx ry ⟨d, ds, hd, he, sd, sl, q⟩
  obtain ⟨as, r1⟩ := Dp.reads I d x v hd rx
  obtain ⟨bs, r2⟩ := Dp.reads I (.list ds) y u he ry
  exact SeqAt.notIn_list_reads r2 r1 (by have := SeqAt.canLay_of_shaped sl; exact this) (SeqAt.canLay_of_shaped sd) (room_in_shaped sd hu) ⟨.bl _, H, I, rfl, q⟩
theorem ip_and : PIp X .BitAnd (rI0 fun i j => .int (Builtin.bitAnd i j)) := fun pins s σ H x y v u Q I rx ry h => iop_and pins s σ H x y v u Q I rx ry h
end
end Bs

namespace Bs
open PySem PySem.Spec L2
def top (i : Nat) : Stmt := PySem.Challenge.pw_silencers_k07_whole_pieces_and_twins.main.body.getD i (.Pass ⟨0, 0, 0, 0⟩)
structure Txt (K : PySem.W.Frag) (mg : Str → Option Value) (C : Addr) : Prop where
  cl : Cls K C
  nSize : NoAttr K C "size"
  nTies : NoAttr K C "ties"
  mg_Web : mg "Web" = some (.ref C)
  mg_MOST_PARTS : ∃ t, mg "MOST_PARTS" = some (.int 24 t)
  xc : PySem.W.findIn K (.ref C) "__class__" = some (some (.builtin "object.__class__"))
  xg : PySem.W.specialIn K (.builtin "object.__class__") "__get__" = some (some (.builtin "getset_descriptor.__get__"))
  xt : PySem.W.takesIn K (.builtin "object.__class__") = some true
  xm : PySem.W.mroIn K C (.type "object") = some true
section
variable {P : Program} {w : World} {K : PySem.W.Frag} {mg : Str → Option Value} {base : Heap} {C : Addr}
def sp_is_integer : Sp := fun vs H Q _ => ∃ i, vs = [.int i] ∧ Q (.bl true) H
abbrev s_is_integer : Stmt := (top 5)
theorem sc_is_integer : FnScope ["thing"] ["thing"] (defScope s_is_integer) := ⟨rfl, rfl, rfl, by decide +kernel, rfl, by decide +kernel, by decide +kernel⟩

theorem ok_is_integer {f : Addr} {fd : FuncData} (F : Fun K "is_integer" "is_integer" s_is_integer f fd) (hm : mg "is_integer" = some (.ref f)) (B : Bl mg) : Cal P w K mg base 1 "is_integer" ["thing"] sp_is_integer := by
  refine ⟨f, fd, F.ok sc_is_integer (fun vs H Q E h => ?_) (fun cdv A outer s H vs Q E hr h => ?_), hm, F.kp, F.binds (ps := ["thing"]) fun _ _ _ _ _ _ us hl => match us, hl with | [_], _ => rfl⟩
  · obtain ⟨i, rfl, _⟩ := h; rfl
  · obtain ⟨i, rfl, k⟩ := h
    refine ⟨_, (pss_one (ps_ret (pe_and (pe_callB call_isi (by rfl) B.isinstance (by decide +kernel) (pa_cons (pv 0) (pa_cons (pe_bltn (v := .ty "int") (by rfl) B.int_ (by decide +kernel) rfl) pa_nil))) (pe_one (pe_not (pe_callB call_isi (by rfl) B.isinstance (by decide +kernel) (pa_cons (pv 0) (pa_cons (pe_bltn (v := .ty "bool") (by rfl) B.bool_ (by decide +kernel) rfl) pa_nil)))))))), ?_⟩
    refine ⟨_, rfl, _, _, _, _, true, rfl, .ty "int", .base (.int i), kit_ty (by decide +kernel), true, rfl, iteT ?_⟩
    refine ⟨_, rfl, _, _, _, _, false, rfl, .ty "bool", .base (.int i), kit_ty (by decide +kernel), false, rfl, ?_⟩
    exact k
def sp_is_number : Sp := fun vs H Q _ => ∃ i a b, vs = [.int i, .int a, .int b] ∧ Q (.bl (decide (a ≤ i ∧ i ≤ b))) H
abbrev s_is_number : Stmt := (top 6)
theorem sc_is_number : FnScope ["thing", "least", "most"] ["thing", "least", "most"] (defScope s_is_number) := ⟨rfl, rfl, rfl, by decide +kernel, rfl, by decide +kernel, by decide +kernel⟩

theorem ok_is_number {f : Addr} {fd : FuncData} (F : Fun K "is_number" "is_number" s_is_number f fd) (hm : mg "is_number" = some (.ref f)) (B : Bl mg) (c_is_integer : Cal P w K mg base 1 "is_integer" ["thing"] sp_is_integer) : Cal P w K mg base 2 "is_number" ["thing", "least", "most"] sp_is_number := by
  refine ⟨f, fd, F.ok sc_is_number (fun vs H Q E h => ?_) (fun cdv A outer s H vs Q E hr h => ?_), hm, F.kp, F.binds (ps := ["thing", "least", "most"]) fun _ _ _ _ _ _ us hl => match us, hl with | [_, _, _], _ => rfl⟩
  · obtain ⟨i, a, b, rfl, _⟩ := h; rfl
  · obtain ⟨i, a, b, rfl, k⟩ := h
    refine ⟨_, (pss_one (ps_ret (pe_and (pe_cal c_is_integer (hr.mono (by first | decide | omega)) (pa_cons (pv 0) pa_nil)) (pe_one (pe_chain op_le op_le (pv 1) (pv 0) (pv 2)))))), ?_⟩
    refine ⟨_, rfl, i, rfl, true, rfl, iteT ?_⟩
    refine ⟨_, rfl, _, rfl, _, _, rfl, rfl, _, rfl, ?_⟩
    by_cases h1 : a ≤ i
    · rw [if_pos (decide_eq_true h1)]
      refine ⟨_, rfl, _, _, rfl, rfl, ?_⟩
      have e : decide (a ≤ i ∧ i ≤ b) = decide (i ≤ b) := by simp [h1]
      rw [e] at k
      exact k
    · rw [if_neg (by simpa using h1)]
      have e : decide (a ≤ i ∧ i ≤ b) = false := by simp [h1]
      rw [e] at k
      exact k
/-- a web at a: its size and its ties -/
structure WebAt (C : Addr) (H : Hp) (a : Addr) (n : Int) (t : Addr) (ps : List (Int × Int)) : Prop where
  ins : ∃ dx fs, H a = some (.ins C dx fs) ∧ fs.lookup ("size" : Str) = some (.int n) ∧ fs.lookup ("ties" : Str) = some (.ref t)
  ties : ∃ xs, H t = some (.tup xs) ∧ Pairs H xs ps
theorem WebAt.same {C : Addr} {H H' : Hp} {a t : Addr} {n : Int} {ps : List (Int × Int)} (h : WebAt C H a n t ps) (e : Same H H') : WebAt C H' a n t ps := by
  obtain ⟨⟨dx, fs, h1, h2⟩, xs, h3, h4⟩ := h
  exact ⟨⟨dx, fs, e _ _ h1, h2⟩, xs, e _ _ h3, h4.tk e.tk⟩
theorem WebAt.exT {C T : Addr} {H H' : Hp} {a t : Addr} {n : Int} {ps : List (Int × Int)} {l : List V} (h : WebAt C H a n t ps) (e : ExT T H H') (hT : H T = some (.lst l)) : WebAt C H' a n t ps := by
  obtain ⟨⟨dx, fs, h1, h2⟩, xs, h3, h4⟩ := h
  exact ⟨⟨dx, fs, e _ _ (ne_of h1 hT (by intro z; cases z)) h1, h2⟩, xs, e.tk hT _ _ h3, h4.tk (e.tk hT)⟩
def sp_is_tie : Sp := fun vs H Q _ => ∃ (n : Int) (a : Addr) (p : Int × Int), vs = [.int n, .ref a] ∧ H a = some (.tup [.int p.1, .int p.2]) ∧ Q (.bl (decide (0 ≤ p.1 ∧ p.1 < p.2 ∧ p.2 < n))) H
abbrev s_is_tie : Stmt := (top 22)
theorem sc_is_tie : FnScope ["size", "thing", "a", "b"] ["size", "thing"] (defScope s_is_tie) := ⟨rfl, rfl, rfl, by decide +kernel, rfl, by decide +kernel, by decide +kernel⟩

theorem ok_is_tie {f : Addr} {fd : FuncData} (F : Fun K "is_tie" "is_tie" s_is_tie f fd) (hm : mg "is_tie" = some (.ref f)) (B : Bl mg) (c_is_number : Cal P w K mg base 2 "is_number" ["thing", "least", "most"] sp_is_number) : Cal P w K mg base 3 "is_tie" ["size", "thing"] sp_is_tie := by
  refine ⟨f, fd, F.ok sc_is_tie (fun vs H Q E h => ?_) (fun cdv A outer s H vs Q E hr h => ?_), hm, F.kp, F.binds (ps := ["size", "thing"]) fun _ _ _ _ _ _ us hl => match us, hl with | [_, _], _ => rfl⟩
  · obtain ⟨n, a, p, rfl, _⟩ := h; rfl
  · obtain ⟨n, a, p, rfl, ha, k⟩ := h
    refine ⟨_, (pss_cons (ps_if (PW.pt (pw_or (pt_not (pt_val (pe_callB call_isi (by rfl) B.isinstance (by decide +kernel) (pa_cons (pv 1) (pa_cons (pe_bltn (v := .ty "tuple") (by rfl) B.tuple_ (by decide +kernel) rfl) pa_nil))))) (pw_or1 (pt_cmpR op_ne (pe_callB call_len_seq (by rfl) B.len (by decide +kernel) (pa_cons (pv 1) pa_nil)) pe_int (nomark _))))) (pss_one (ps_ret pe_bl)) pss_nil)
 (pss_cons (ps_asg (pv 1) (pg_tup (by rfl) (pgs_cons (pg_name (i := 2) sc_is_tie.nd rfl (by first | exact Or.inl rfl | exact Or.inr rfl)) (pgs_cons (pg_name (i := 3) sc_is_tie.nd rfl (by first | exact Or.inl rfl | exact Or.inr rfl)) pgs_nil))))
 (pss_one (ps_ret (pe_and (pe_cal c_is_number (hr.mono (by first | decide | omega)) (pa_cons (pv 2) (pa_cons pe_int (pa_cons (pe_op op_sub (pv 0) pe_int) pa_nil)))) (pe_one (pe_cal c_is_number (hr.mono (by first | decide | omega)) (pa_cons (pv 3) (pa_cons (pe_op op_add (pv 2) pe_int) (pa_cons (pe_op op_sub (pv 0) pe_int) pa_nil)))))))))), ?_⟩
    refine ⟨_, rfl, _, _, _, _, true, rfl, .ty "tuple", .base (.tup ha), kit_ty (by decide +kernel), true, rfl, iteF ?_⟩
    refine ⟨_, rfl, a, _, rfl, .inr (SqT.of ha), rfl, _, rfl, iteNS rfl ?_⟩
    refine ⟨_, rfl, _, _, rfl, SqT.of ha, rfl, _, _, rfl, _, _, rfl, rfl, ?_⟩
    refine ⟨_, rfl, _, rfl, _, _, rfl, rfl, p.1, 0, n - 1, rfl, _, rfl, ?_⟩
    by_cases h1 : 0 ≤ p.1 ∧ p.1 ≤ n - 1
    · rw [if_pos (decide_eq_true h1)]
      refine ⟨_, rfl, _, rfl, _, _, rfl, rfl, _, rfl, _, _, rfl, rfl, p.2, p.1 + 1, n - 1, rfl, ?_⟩
      have e : decide (0 ≤ p.1 ∧ p.1 < p.2 ∧ p.2 < n) = decide (p.1 + 1 ≤ p.2 ∧ p.2 ≤ n - 1) := by
        by_cases h2 : p.1 + 1 ≤ p.2 ∧ p.2 ≤ n - 1
        · rw [decide_eq_true h2]; exact decide_eq_true (by omega)
        · rw [decide_eq_false h2]; exact decide_eq_false (by omega)
      rw [e] at k
      exact k
    · rw [if_neg (by simpa using h1)]
      have e : decide (0 ≤ p.1 ∧ p.1 < p.2 ∧ p.2 < n) = false := decide_eq_false (by omega)
      rw [e] at k
      exact k
/-- ties as they should be -/
structure Good (n : Int) (ps : List (Int × Int)) : Prop where
  ok : ∀ p ∈ ps, 0 ≤ p.1 ∧ p.1 < p.2 ∧ p.2 < n
  up : ps.Pairwise lt2
theorem Good.le {n : Int} {ps : List (Int × Int)} (g : Good n ps) {i : Nat} {p q : Int × Int} (h1 : ps[i]? = some p) (h2 : ps[i + 1]? = some q) : lt2 p q := by
  obtain ⟨a1, e1⟩ := List.getElem?_eq_some_iff.mp h1
  obtain ⟨a2, e2⟩ := List.getElem?_eq_some_iff.mp h2
  rw [← e1, ← e2]
  exact List.pairwise_iff_getElem.mp g.up i (i + 1) a1 a2 (Nat.lt_succ_self i)
def sp_wrong_tie : Sp := fun vs H Q _ => ∃ n t xs ps, vs = [.int n, .ref t] ∧ H t = some (.tup xs) ∧ Pairs H xs ps ∧ Good n ps ∧ ∀ H', Same H H' → Q .non H'
abbrev s_wrong_tie : Stmt := (top 23)
theorem sc_wrong_tie : FnScope ["size", "ties", "last", "at", "pair"] ["size", "ties"] (defScope s_wrong_tie) := ⟨rfl, rfl, rfl, by decide +kernel, rfl, by decide +kernel, by decide +kernel⟩

theorem lexLe_no {p q : Int × Int} (h : lt2 p q) : Ob.lexAt (fun j => decide ([q.1, q.2].getD j 0 = [p.1, p.2].getD j 0)) (fun j => decide ([q.1, q.2].getD j 0 ≤ [p.1, p.2].getD j 0)) (decide ([q.1, q.2].length ≤ [p.1, p.2].length)) 0 (min [q.1, q.2].length [p.1, p.2].length) = false := by
  show (if decide (q.1 = p.1) = true then (if decide (q.2 = p.2) = true then true else decide (q.2 ≤ p.2)) else decide (q.1 ≤ p.1)) = false
  unfold lt2 at h
  rcases h with h | ⟨h1, h2⟩
  · rw [if_neg (by simp; omega)]
    exact decide_eq_false (by omega)
  · rw [if_pos (by simp; omega), if_neg (by simp; omega)]
    exact decide_eq_false (by omega)
theorem ok_wrong_tie {f : Addr} {fd : FuncData} (F : Fun K "wrong_tie" "wrong_tie" s_wrong_tie f fd) (hm : mg "wrong_tie" = some (.ref f)) (B : Bl mg) (c_is_tie : Cal P w K mg base 3 "is_tie" ["size", "thing"] sp_is_tie) : Cal P w K mg base 4 "wrong_tie" ["size", "ties"] sp_wrong_tie := by
  refine ⟨f, fd, F.ok sc_wrong_tie (fun vs H Q E h => ?_) (fun cdv A outer s H vs Q E hr h => ?_), hm, F.kp, F.binds (ps := ["size", "ties"]) fun _ _ _ _ _ _ us hl => match us, hl with | [_, _], _ => rfl⟩
  · obtain ⟨n, t, xs, ps, rfl, _⟩ := h; rfl
  · obtain ⟨n, t, xs, ps, rfl, ht, hp, G, k⟩ := h
    refine ⟨_, (pss_cons (ps_set (i := 2) sc_wrong_tie.nd rfl (by first | exact Or.inl rfl | exact Or.inr rfl) (pe_tup pa_nil))
 (pss_cons (ps_for PassesOwn.never rfl (pi_enumT (by rfl) B.enumerate (pa_cons (pv 1) pa_nil)) (pg_tup (by rfl) (pgs_cons (pg_name (i := 3) sc_wrong_tie.nd rfl (by first | exact Or.inl rfl | exact Or.inr rfl)) (pgs_cons (pg_name (i := 4) sc_wrong_tie.nd rfl (by first | exact Or.inl rfl | exact Or.inr rfl)) pgs_nil)))
  (pss_cons (ps_if (PW.pt (pw_or (pt_not (pt_val (pe_cal c_is_tie (hr.mono (by first | decide | omega)) (pa_cons (pv 0) (pa_cons (pv 4) pa_nil))))) (pw_or1 (pt_cmpR (op_leT hr.units0) (pv 4) (pv 2) (nomark _))))) (pss_one (ps_ret (pv 3))) pss_nil)
 (pss_one (ps_set (i := 2) sc_wrong_tie.nd rfl (by first | exact Or.inl rfl | exact Or.inr rfl) (pv 4)))))
 (pss_one (ps_ret pe_non)))), ?_⟩
    refine ⟨Nat.zero_le _, fun z hz => ?_⟩
    refine ⟨_, rfl, t, xs, rfl, SqT.of ((Same.new hz) _ _ ht), for_it (walk_enumT (K := K) (a := t) (xs := xs)) (fun i σ H' => Same H H' ∧ ∃ (u v : Option V) (l : Addr) (ms : List Int), σ = [some (.int n), some (.ref t), some (.ref l), u, v] ∧ H' l = some (.tup (ms.map V.int)) ∧ (i = 0 → ms = []) ∧ ∀ j q, i = j + 1 → ps[j]? = some q → ms = [q.1, q.2])
      ⟨Same.new hz, none, none, z, [], rfl, upd_same, fun _ => rfl, fun j q e _ => by omega⟩ (fun i σ H' _ p => SqT.of (p.1 _ _ ht)) ?_ ?_⟩
    · rintro i y σ H1 H2 hi ⟨e1, u, v, l, ms, rfl, hl, m0, m1⟩ ⟨A1, y1, y2, rfl, hA, rfl, hy1, hy2⟩
      cases hy1
      obtain ⟨q, hq, a, rfl, hqa⟩ := Paired.get hp hy2
      have e2 : Same H1 (upd H1 A1 (.tup [.int (i : Nat), .ref a])) := Same.new hA
      have hqa2 := e2 _ _ (e1 _ _ hqa)
      refine ⟨A1, _, rfl, SqT.of upd_same, rfl, _, _, rfl, _, _, rfl, rfl, ?_⟩
      refine ⟨_, rfl, _, rfl, n, a, q, rfl, hqa2, _, rfl, ?_⟩
      rw [decide_eq_true (G.ok q (List.mem_of_getElem? hq))]
      refine iteF ?_
      refine ⟨_, rfl, _, rfl, a, l, [q.1, q.2], ms, rfl, rfl, SqT.of hqa2, SqT.of (e2 _ _ hl), ?_⟩
      have no : Ob.lexAt (fun j => decide ([q.1, q.2].getD j 0 = ms.getD j 0)) (fun j => decide ([q.1, q.2].getD j 0 ≤ ms.getD j 0)) (decide ([q.1, q.2].length ≤ ms.length)) 0 (min [q.1, q.2].length ms.length) = false := by
        cases i with
        | zero => rw [m0 rfl]; rfl
        | succ j =>
          have hj : j < ps.length := by
            have := (List.getElem?_eq_some_iff.mp hq).1
            omega
          rw [m1 j ps[j] rfl (List.getElem?_eq_getElem hj)]
          exact lexLe_no (G.le (List.getElem?_eq_getElem hj) hq)
      rw [no]
      refine ⟨_, rfl, iteF ?_⟩
      refine ⟨_, rfl, e1.trans e2, _, _, a, [q.1, q.2], rfl, hqa2, fun e => by omega, fun j q' e h' => ?_⟩
      have : j = i := by omega
      subst this
      rw [hq] at h'
      cases h'
      rfl
    · rintro σ H' ⟨e1, _⟩
      exact k _ e1
end
open PySem PySem.Spec L2
/-! ## ties as data -/
def pD (p : Int × Int) : PyData := .tuple [.int p.1, .int p.2]
theorem pD_lay (z : Int × Int) : (pD z).canLay0 = true := by simp [pD, PyData.canLay0, PyData.canLayAll0]
theorem pD_depth (z : Int × Int) : (pD z).depth = 1 := by simp [pD, PyData.depth, PyData.depthAll]
theorem pDs_lay : ∀ zs : List (Int × Int), PyData.canLayAll0 (zs.map pD) = true
  | [] => by simp [PyData.canLayAll0]
  | z :: zs => by simp [PyData.canLayAll0, pD_lay z, pDs_lay zs]
theorem pDs_depth : ∀ zs : List (Int × Int), PyData.depthAll (zs.map pD) ≤ 1
  | [] => by simp [PyData.depthAll]
  | z :: zs => by
    have h1 := pDs_depth zs
    have h2 := pD_depth z
    simp only [List.map_cons, PyData.depthAll]
    omega
theorem pD_shaped (z : Int × Int) : SeqAt.shaped (pD z) = true := by
  have h := pD_depth z
  show ((pD z).canLay0 && decide ((pD z).depth ≤ 64)) = true
  rw [Bool.and_eq_true]
  exact ⟨pD_lay z, decide_eq_true (by omega)⟩
theorem pDs_shaped (zs : List (Int × Int)) : SeqAt.shaped (.tuple (zs.map pD)) = true := by
  have h1 := pDs_depth zs
  have h2 : PyData.depth (.tuple (zs.map pD)) ≤ 64 := by
    simp only [PyData.depth]
    omega
  show (PyData.canLay0 (.tuple (zs.map pD)) && decide (PyData.depth (.tuple (zs.map pD)) ≤ 64)) = true
  rw [Bool.and_eq_true]
  exact ⟨by simp only [PyData.canLay0]; exact pDs_lay zs, decide_eq_true h2⟩
theorem pDs_shapedL (zs : List (Int × Int)) : SeqAt.shaped (.list (zs.map pD)) = true := by
  have h1 := pDs_depth zs
  have h2 : PyData.depth (.list (zs.map pD)) ≤ 64 := by
    simp only [PyData.depth]
    omega
  show (PyData.canLay0 (.list (zs.map pD)) && decide (PyData.depth (.list (zs.map pD)) ≤ 64)) = true
  rw [Bool.and_eq_true]
  exact ⟨by simp only [PyData.canLay0]; exact pDs_lay zs, decide_eq_true h2⟩
theorem pD_eqv (z w : Int × Int) : PyData.eqv (pD z) (pD w) = decide (z = w) := by
  obtain ⟨a, b⟩ := z
  obtain ⟨a', b'⟩ := w
  have e : PyData.eqv (pD (a, b)) (pD (a', b')) = ((a == a') && ((b == b') && true)) := by simp only [pD, PyData.eqv, PyData.eqvAll]
  rw [e]
  by_cases h : ((a, b) : Int × Int) = (a', b')
  · cases h; simp
  · rw [decide_eq_false h]
    by_cases h1 : a = a'
    · have q : (b == b') = false := beq_eq_false_iff_ne.mpr (fun h2 => h (by rw [h1, h2]))
      rw [q]; simp
    · have q : (a == a') = false := beq_eq_false_iff_ne.mpr h1
      rw [q]; simp
theorem pDs_eqv : ∀ ps qs : List (Int × Int), PyData.eqvAll (ps.map pD) (qs.map pD) = decide (ps = qs)
  | [], [] => by simp [PyData.eqvAll]
  | [], q :: qs => by simp [PyData.eqvAll]
  | p :: ps, [] => by simp [PyData.eqvAll]
  | p :: ps, q :: qs => by
    rw [List.map_cons, List.map_cons]
    simp only [PyData.eqvAll]
    rw [pD_eqv, pDs_eqv ps qs]
    by_cases h1 : p = q
    · by_cases h2 : ps = qs <;> simp [h1, h2]
    · simp [h1]
theorem pDt_eqv (ps qs : List (Int × Int)) : PyData.eqv (.tuple (ps.map pD)) (.tuple (qs.map pD)) = decide (ps = qs) := by
  simp only [PyData.eqv]
  exact pDs_eqv ps qs
section
variable {K : PySem.W.Frag} {H : Hp}
theorem dp_pair {v : V} {p : Int × Int} (h : PairAt H v p) : Dp K H v (pD p) := by
  obtain ⟨a, rfl, h2⟩ := h
  exact .tup (SqT.of h2) (.cons (.int _) (.cons (.int _) .nil))
theorem dp_pairs : ∀ {xs : List V} {ps : List (Int × Int)}, Pairs H xs ps → DpAll K H xs (ps.map pD)
  | _, _, .nil => .nil
  | _, _, .cons r t => .cons (dp_pair r) (dp_pairs t)
theorem dp_ties {t : Addr} {xs : List V} {ps : List (Int × Int)} (h : H t = some (.tup xs)) (hp : Pairs H xs ps) : Dp K H (.ref t) (.tuple (ps.map pD)) := .tup (SqT.of h) (dp_pairs hp)
theorem dp_list {t : Addr} {xs : List V} {ps : List (Int × Int)} (h : H t = some (.lst xs)) (hp : Pairs H xs ps) : Dp K H (.ref t) (.list (ps.map pD)) := .lst (SqL.of h) (dp_pairs hp)
end
/-! ## lists in order -/
theorem lt2_irr {p : Int × Int} : ¬ lt2 p p := by unfold lt2; omega
theorem lt2_trans {p q r : Int × Int} (h1 : lt2 p q) (h2 : lt2 q r) : lt2 p r := by unfold lt2 at *; omega
theorem lt2_of {p q : Int × Int} (h : le2 p q) (n : p ≠ q) : lt2 p q := by
  unfold le2 at h; unfold lt2
  rcases h with h | ⟨h1, h2⟩
  · exact .inl h
  · refine .inr ⟨h1, ?_⟩
    have : p.2 ≠ q.2 := fun e => n (Prod.ext h1 e)
    omega
theorem up_of {ps : List (Int × Int)} (h : ps.Pairwise le2) (n : ps.Nodup) : ps.Pairwise lt2 := by
  induction ps with
  | nil => exact .nil
  | cons p ps ih =>
    obtain ⟨h1, h2⟩ := List.pairwise_cons.mp h
    obtain ⟨n1, n2⟩ := List.nodup_cons.mp n
    refine List.pairwise_cons.mpr ⟨fun q hq => lt2_of (h1 q hq) (fun e => n1 (e ▸ hq)), ih h2 n2⟩
theorem up_ext : ∀ {ps qs : List (Int × Int)}, ps.Pairwise lt2 → qs.Pairwise lt2 → (∀ p, p ∈ ps ↔ p ∈ qs) → ps = qs
  | [], [], _, _, _ => rfl
  | [], q :: qs, _, _, h => by have := (h q).mpr (by simp); simp at this
  | p :: ps, [], _, _, h => by have := (h p).mp (by simp); simp at this
  | p :: ps, q :: qs, hp, hq, h => by
    obtain ⟨p1, p2⟩ := List.pairwise_cons.mp hp
    obtain ⟨q1, q2⟩ := List.pairwise_cons.mp hq
    have e : p = q := by
      rcases List.mem_cons.mp ((h p).mp (by simp)) with e | e
      · exact e
      · rcases List.mem_cons.mp ((h q).mpr (by simp)) with e' | e'
        · exact e'.symm
        · exact absurd (lt2_trans (q1 p e) (p1 q e')) lt2_irr
    subst e
    have : ps = qs := up_ext p2 q2 fun r => by
      constructor
      · intro hr
        rcases List.mem_cons.mp ((h r).mp (by simp [hr])) with e | e
        · subst e; exact absurd (p1 r hr) lt2_irr
        · exact e
      · intro hr
        rcases List.mem_cons.mp ((h r).mpr (by simp [hr])) with e | e
        · subst e; exact absurd (q1 r hr) lt2_irr
        · exact e
    rw [this]
theorem up_nodup {ps : List (Int × Int)} (h : ps.Pairwise lt2) : ps.Nodup := List.Pairwise.imp (fun {a b} (q : lt2 a b) => show a ≠ b from fun e => by subst e; exact lt2_irr q) h
def norm (a b : Int) : Int × Int := (if b < a then b else a, if b > a then b else a)
theorem norm_id {p : Int × Int} (h : p.1 < p.2) : norm p.1 p.2 = p := by
  unfold norm
  rw [if_neg (by omega), if_pos h]
section
variable {P : Program} {w : World} {K : PySem.W.Frag} {mg : Str → Option Value} {base : Heap} {C : Addr}
/-! ## Web -/
def wf (n : Int) (t : Addr) : List (Str × V) := putF "ties" (.ref t) (putF "size" (.int n) [])
theorem ts_ : ¬ (("ties" : Str) = "size") := by decide +kernel
theorem st_ : ¬ (("size" : Str) = "ties") := by decide +kernel
theorem wf_size (n : Int) (t : Addr) : (wf n t).lookup ("size" : Str) = some (.int n) := by
  unfold wf
  rw [lookup_putF, if_neg st_, lookup_putF, if_pos rfl]
theorem wf_ties (n : Int) (t : Addr) : (wf n t).lookup ("ties" : Str) = some (.ref t) := by
  unfold wf
  rw [lookup_putF, if_pos rfl]
theorem wf_len (n : Int) (t : Addr) : (wf n t).length = 2 := by
  show (if ("size" : Str) = "ties" then [(("size" : Str), V.ref t)] else (("size" : Str), V.int n) :: putF "ties" (V.ref t) []).length = 2
  rw [if_neg st_]
  rfl
def sp_Web_init (C : Addr) : Sp := fun vs H Q _ => ∃ x dx n t xs ps, vs = [.ref x, .int n, .ref t] ∧ H x = some (.ins C dx []) ∧ 1 ≤ n ∧ n ≤ 24 ∧ H t = some (.tup xs) ∧ Pairs H xs ps ∧ Good n ps ∧ ∀ H', ExT x H H' → H' x = some (.ins C dx (wf n t)) → Q .non H'
abbrev s_Web_init : Stmt := (inClass (top 21) 0)
theorem sc_Web_init : FnScope ["self", "size", "ties", "wrong"] ["self", "size", "ties"] (defScope s_Web_init) := ⟨rfl, rfl, rfl, by decide +kernel, rfl, by decide +kernel, by decide +kernel⟩

theorem ok_Web_init {f : Addr} {fd : FuncData} (F : Fun K "__init__" "Web.__init__" s_Web_init f fd) (B : Bl mg) (T : Txt K mg C) (c_is_number : Cal P w K mg base 2 "is_number" ["thing", "least", "most"] sp_is_number) (c_wrong_tie : Cal P w K mg base 4 "wrong_tie" ["size", "ties"] sp_wrong_tie) : FnOk P w K mg base CX0 5 f fd ["self", "size", "ties"] (sp_Web_init C) := by
  refine F.ok sc_Web_init (fun vs H Q E h => ?_) (fun cdv A outer s H vs Q E hr h => ?_)
  · obtain ⟨x, dx, n, t, xs, ps, rfl, _⟩ := h; rfl
  · obtain ⟨x, dx, n, t, xs, ps, rfl, hx, n1, n2, ht, hp, G, k⟩ := h
    obtain ⟨t24, h24⟩ := T.mg_MOST_PARTS
    refine ⟨_, (pss_cons (ps_if (pt_not (pt_val (pe_cal c_is_number (hr.mono (by first | decide | omega)) (pa_cons (pv 1) (pa_cons pe_int (pa_cons (pe_glob (v := .int 24) (by rfl) h24 ⟨_, rfl⟩) pa_nil)))))) (pss_one ps_never) pss_nil)
 (pss_cons (ps_if (pt_not (pt_val (pe_callB call_isi (by rfl) B.isinstance (by decide +kernel) (pa_cons (pv 2) (pa_cons (pe_bltn (v := .ty "tuple") (by rfl) B.tuple_ (by decide +kernel) rfl) pa_nil))))) (pss_one ps_never) pss_nil)
 (pss_cons (ps_set (i := 3) sc_Web_init.nd rfl (by first | exact Or.inl rfl | exact Or.inr rfl) (pe_cal c_wrong_tie (hr.mono (by first | decide | omega)) (pa_cons (pv 1) (pa_cons (pv 2) pa_nil))))
 (pss_cons (ps_if (pt_cmpR op_notN (pv 3) pe_non (nomark _)) (pss_one ps_never) pss_nil)
 (pss_cons (ps_fld (pv 0) (pv 1) rfl)
 (pss_one (ps_fld (pv 0) (pv 2) rfl))))))), ?_⟩
    refine ⟨_, rfl, n, 1, 24, rfl, _, rfl, ?_⟩
    rw [decide_eq_true (⟨n1, n2⟩ : 1 ≤ n ∧ n ≤ 24)]
    refine iteF ?_
    refine ⟨_, rfl, _, _, _, _, true, rfl, .ty "tuple", .base (.tup ht), kit_ty (by decide +kernel), true, rfl, iteF ?_⟩
    refine ⟨_, rfl, _, rfl, n, t, xs, ps, rfl, ht, hp, G, fun H1 e1 => ?_⟩
    refine ⟨_, rfl, rfl, _, rfl, iteF ?_⟩
    refine ⟨_, rfl, _, rfl, x, C, dx, [], rfl, e1 _ _ hx, T.cl, T.nSize, (by decide), ?_⟩
    refine ⟨_, rfl, _, rfl, x, C, dx, _, rfl, upd_same, T.cl, T.nTies, (by show 1 < 1000; decide), ?_⟩
    exact k _ (e1.exT.upd.upd) upd_same
/-- Web(size, ties) -/
theorem make_web {H : Hp} {n : Int} {t : Addr} {xs : List V} {ps : List (Int × Int)} {Q : Addr → Hp → Prop} (n1 : 1 ≤ n) (n2 : n ≤ 24) (ht : H t = some (.tup xs)) (hp : Pairs H xs ps) (G : Good n ps)
    (k : ∀ x H', Same H H' → H x = none → WebAt C H' x n t ps → (∃ dx, H' x = some (.ins C dx (wf n t))) → Q x H') :
    ∀ x dx, H x = none → H dx = none → dx ≠ x → sp_Web_init C (.ref x :: ([.int n, .ref t] ++ [])) (upd (upd H dx (.own x)) x (.ins C dx [])) (fun v H2 => v = .non ∧ Q x H2) E0 := by
  intro x dx nx nd ne
  have s0 : Same H (upd (upd H dx (.own x)) x (.ins C dx [])) := fun b o e => by
    rw [upd_ne (ne_of_none e nx), upd_ne (ne_of_none e nd)]
    exact e
  refine ⟨x, dx, n, t, xs, ps, rfl, upd_same, n1, n2, s0 _ _ ht, hp.tk s0.tk, G, fun H' e' h' => ⟨rfl, ?_⟩⟩
  have s1 : Same H H' := fun b o e => e' _ _ (ne_of_none e nx) (s0 _ _ e)
  exact k x H' s1 nx ⟨⟨dx, _, h', wf_size n t, wf_ties n t⟩, xs, s1 _ _ ht, hp.tk s1.tk⟩ ⟨dx, h'⟩
def sp_Web_eq (C : Addr) : Sp := fun vs H Q _ => ∃ a b n m t u ps qs, vs = [.ref a, .ref b] ∧ WebAt C H a n t ps ∧ WebAt C H b m u qs ∧ Q (.bl (decide (n = m ∧ ps = qs))) H
theorem kit_own {C : Addr} : PySem.W.kitOne K (.ref C) (.ref C) = some true := by
  unfold PySem.W.kitOne
  simp
abbrev s_Web_eq : Stmt := (inClass (top 21) 1)
theorem sc_Web_eq : FnScope ["self", "other"] ["self", "other"] (defScope s_Web_eq) := ⟨rfl, rfl, rfl, by decide +kernel, rfl, by decide +kernel, by decide +kernel⟩

theorem ok_Web_eq {f : Addr} {fd : FuncData} (F : Fun K "__eq__" "Web.__eq__" s_Web_eq f fd) (B : Bl mg) (T : Txt K mg C) : FnOk P w K mg base CX0 1 f fd ["self", "other"] (sp_Web_eq C) := by
  refine F.ok sc_Web_eq (fun vs H Q E h => ?_) (fun cdv A outer s H vs Q E hr h => ?_)
  · obtain ⟨a, b, n, m, t, u, ps, qs, rfl, _⟩ := h; rfl
  · obtain ⟨a, b, n, m, t, u, ps, qs, rfl, ⟨⟨dx, fs, h1, h2, h3⟩, xs, h4, h5⟩, ⟨⟨dy, gs, g1, g2, g3⟩, ys, g4, g5⟩, k⟩ := h
    refine ⟨_, (pss_one (ps_ret (pe_and (pe_callB call_isi (by rfl) B.isinstance (by decide +kernel) (pa_cons (pv 1) (pa_cons (pe_globR T.mg_Web) pa_nil))) (pe_and (pe_cmpR op_eq (pe_fld (pv 0) rfl) (pe_fld (pv 1) rfl) (nomark _)) (pe_one (pe_cmpR (op_eqD hr.units) (pe_fld (pv 0) rfl) (pe_fld (pv 1) rfl) (nomark _))))))), ?_⟩
    refine ⟨_, rfl, _, _, _, _, true, rfl, .own C, .base (.ins g1 T.cl T.xc T.xg T.xt T.xm), kit_own, true, rfl, iteT ?_⟩
    refine ⟨_, rfl, a, C, dx, fs, _, rfl, h1, T.cl, T.nSize, h2, _, rfl, b, C, dy, gs, _, rfl, g1, T.cl, T.nSize, g2, rfl, _, rfl, ?_⟩
    by_cases e : n = m
    · rw [if_pos (decide_eq_true (by rw [e]))]
      refine ⟨_, rfl, a, C, dx, fs, _, rfl, h1, T.cl, T.nTies, h3, _, rfl, b, C, dy, gs, _, rfl, g1, T.cl, T.nTies, g3, _, _, dp_ties h4 h5, dp_ties g4 g5, pDs_shaped ps, pDs_shaped qs, ?_⟩
      rw [pDt_eqv]
      have e2 : decide (n = m ∧ ps = qs) = decide (ps = qs) := by simp [e]
      rw [e2] at k
      exact k
    · rw [if_neg (by simpa using e)]
      have e2 : decide (n = m ∧ ps = qs) = false := decide_eq_false fun q => e q.1
      rw [e2] at k
      exact k
end
open PySem PySem.Spec L2
theorem paired_map {α β γ : Type} {F : α → γ → Prop} {g : β → γ} : ∀ {l : List α} {m : List β}, Paired (fun v a => F v (g a)) l m → Paired F l (m.map g)
  | _, _, .nil => .nil
  | _, _, .cons r t => .cons r (paired_map t)
theorem paired_eq {α : Type} {g : α → V} : ∀ {l : List V} {m : List α}, Paired (fun v a => v = g a) l m → l = m.map g
  | _, _, .nil => rfl
  | _, _, .cons r t => by rw [r, paired_eq t]; rfl
theorem filter_yes {α : Type} (l : List α) : l.filter (fun _ => true) = l := List.filter_eq_self.mpr fun _ _ => rfl
theorem paired_at {α : Type} {F : V → α → Prop} {xs : List V} {as : List α} {i : Nat} {x : V} {a : α} (h : Paired F xs as) (hx : xs[i]? = some x) (ha : as[i]? = some a) : F x a := by
  obtain ⟨b, hb, q⟩ := Paired.get h hx
  rw [ha] at hb
  cases hb
  exact q
section
variable {P : Program} {w : World} {K : PySem.W.Frag} {mg : Str → Option Value} {base : Heap} {C : Addr}
def sp_tie_of : Sp := fun vs H Q _ => ∃ a b, vs = [.int a, .int b] ∧ ∀ q, H q = none → Q (.ref q) (upd H q (.tup [.int (norm a b).1, .int (norm a b).2]))
abbrev s_tie_of : Stmt := (top 24)
theorem sc_tie_of : FnScope ["a", "b"] ["a", "b"] (defScope s_tie_of) := ⟨rfl, rfl, rfl, by decide +kernel, rfl, by decide +kernel, by decide +kernel⟩

theorem ok_tie_of {f : Addr} {fd : FuncData} (F : Fun K "tie_of" "tie_of" s_tie_of f fd) (hm : mg "tie_of" = some (.ref f)) (B : Bl mg) : Cal P w K mg base 1 "tie_of" ["a", "b"] sp_tie_of := by
  refine ⟨f, fd, F.ok sc_tie_of (fun vs H Q E h => ?_) (fun cdv A outer s H vs Q E hr h => ?_), hm, F.kp, F.binds (ps := ["a", "b"]) fun _ _ _ _ _ _ us hl => match us, hl with | [_, _], _ => rfl⟩
  · obtain ⟨a, b, rfl, _⟩ := h; rfl
  · obtain ⟨a, b, rfl, k⟩ := h
    refine ⟨_, (pss_one (ps_ret (pe_tup (pa_cons (pe_callB (call_min2 rfl) (by rfl) B.min (by decide +kernel) (pa_cons (pv 0) (pa_cons (pv 1) pa_nil))) (pa_cons (pe_callB (call_max2 rfl) (by rfl) B.max (by decide +kernel) (pa_cons (pv 0) (pa_cons (pv 1) pa_nil))) pa_nil))))), ?_⟩
    refine ⟨_, rfl, _, rfl, _, _, rfl, _, rfl, _, rfl, _, _, rfl, (by show 2 ≤ sizeLine; decide), fun q hq => k q hq⟩
def sp_web_of_any_size (C : Addr) : Sp := fun vs H Q _ => ∃ n l xs ps, vs = [.int n, .ref l] ∧ SqL K H l xs ∧ xs.length ≤ 100000 ∧ Pairs H xs ps ∧ ∀ x t qs H', Same H H' → H x = none → WebAt C H' x n t qs → qs.Perm (ps.map fun p => norm p.1 p.2) → qs.Pairwise le2 → Q (.ref x) H'
abbrev s_web_of_any_size : Stmt := (top 25)
theorem sc_web_of_any_size : FnScope ["size", "ties", "web", "a", "b"] ["size", "ties"] (defScope s_web_of_any_size) := ⟨rfl, rfl, rfl, by decide +kernel, rfl, by decide +kernel, by decide +kernel⟩

theorem ok_web_of_any_size {f : Addr} {fd : FuncData} (F : Fun K "web_of_any_size" "web_of_any_size" s_web_of_any_size f fd) (hm : mg "web_of_any_size" = some (.ref f)) (B : Bl mg) (T : Txt K mg C) (m_Web : Mkc P w K mg base 5 C "Web" ["self", "size", "ties"] (sp_Web_init C)) (c_tie_of : Cal P w K mg base 1 "tie_of" ["a", "b"] sp_tie_of) :
    Cal P w K mg base 7 "web_of_any_size" ["size", "ties"] (sp_web_of_any_size (K := K) C) := by
  refine ⟨f, fd, F.ok sc_web_of_any_size (fun vs H Q E h => ?_) (fun cdv A outer s H vs Q E hr h => ?_), hm, F.kp, F.binds (ps := ["size", "ties"]) fun _ _ _ _ _ _ us hl => match us, hl with | [_, _], _ => rfl⟩
  · obtain ⟨n, l, xs, ps, rfl, _⟩ := h; rfl
  · obtain ⟨n, l, xs, ps, rfl, hl, hlen, hp, k⟩ := h
    refine ⟨_, (pss_cons (ps_set (i := 2) sc_web_of_any_size.nd rfl (by first | exact Or.inl rfl | exact Or.inr rfl) (pe_mkc m_Web (hr.mono (by first | decide | omega)) (pa_cons pe_int (pa_cons (pe_tup pa_nil) pa_nil))))
 (pss_cons (ps_fld (pv 2) (pv 0) rfl)
 (pss_cons (ps_fld (pv 2) (pe_callTy call_tuple_of (by rfl) B.tuple_ (by decide +kernel) (pa_cons (pe_callB cr_sortedPO (by rfl) B.sorted (by decide +kernel) (pa_cons (pe_lc (own := [("a", 3), ("b", 4)]) (g := (gTup K 2 (gCons (gName 3) (gCons (gName 4) gNil)))) (by rfl) sc_web_of_any_size.nd (pi_list (pv 1)) (blkOk_by (own := [("a", 3), ("b", 4)]) (N := ["size", "ties", "web", "a", "b"]) (sc := defScope s_web_of_any_size) (by decide +kernel)) (fun _ _ _ _ _ => (pg_tup (by rfl) (pgs_cons (pg_name (i := 3) sc_web_of_any_size.nd rfl (by first | exact Or.inl rfl | exact Or.inr rfl)) (pgs_cons (pg_name (i := 4) sc_web_of_any_size.nd rfl (by first | exact Or.inl rfl | exact Or.inr rfl)) pgs_nil)))) (fun _ _ _ _ _ => pts_nil) (fun _ _ _ _ _ => (pe_cal c_tie_of (hr.mono (by first | decide | omega)) (pa_cons (pv 3) (pa_cons (pv 4) pa_nil))))) pa_nil)) pa_nil)) rfl)
 (pss_one (ps_ret (pv 2)))))), ?_⟩
    refine ⟨Nat.zero_le _, fun z hz => make_web (xs := []) (ps := []) (by decide) (by decide) upd_same .nil ⟨fun p h => by simp at h, .nil⟩ fun x H1 e1 nx W hx => ?_⟩
    obtain ⟨dx, hx⟩ := hx
    have nx0 : H x = none := L2.Same.free (L2.Same.new hz) nx
    have e0 : Same H H1 := (L2.Same.new hz).trans e1
    refine ⟨_, rfl, _, rfl, x, C, dx, _, rfl, hx, T.cl, T.nSize, (by rw [wf_len]; decide), ?_⟩
    generalize hfs : putF "size" (V.int n) (wf 1 z) = fs
    have hfl : fs.length < 1000 ∧ fs.lookup ("size" : Str) = some (.int n) := by
      subst hfs
      constructor
      · show (putF "size" (V.int n) (putF "ties" (V.ref z) (putF "size" (V.int 1) []))).length < 1000
        have q : putF "ties" (V.ref z) (putF "size" (V.int 1) []) = [(("size" : Str), V.int 1), ("ties", V.ref z)] := by
          show (if ("size" : Str) = "ties" then _ else (("size" : Str), V.int 1) :: putF "ties" (V.ref z) []) = _
          rw [if_neg st_]
          rfl
        rw [q]
        show (if ("size" : Str) = "size" then _ else _ : List (Str × V)).length < 1000
        rw [if_pos rfl]
        show 2 < 1000
        decide
      · rw [lookup_putF, if_pos rfl]
    have e2 : Same H (upd H1 x (.ins C dx fs)) := L2.Same.mut e0 nx0
    generalize hH2 : upd H1 x (.ins C dx fs) = H2 at e2 ⊢
    have hx2 : H2 x = some (.ins C dx fs) := by rw [← hH2]; exact upd_same
    refine ⟨_, rfl, l, rfl, ⟨_, e2.seq hl⟩, fun D hD => lc_data walk_list ps (by rw [Paired.len hp]) (fun _ => true) (fun H v a => PairAt H v (norm a.1 a.2)) (fun _ _ _ _ t q => q.tk t) hD (fun H' e => e.seq (e2.seq hl)) (by rw [← Paired.len hp]; exact Nat.lt_of_le_of_lt hlen (by decide)) ?_ (fun _ _ _ _ _ y => yat_same y) ?_⟩
    · rintro i p v H3 H4 Ny Nn hpi e3 ⟨rfl, hv⟩ kE kN
      obtain ⟨b, rfl, hb⟩ := paired_at hp hv hpi
      have hb3 := e3 _ _ (e2 _ _ hb)
      refine ⟨b, _, rfl, SqT.of hb3, rfl, _, _, rfl, _, _, rfl, rfl, rfl, yes_if ?_⟩
      refine ⟨_, rfl, _, rfl, p.1, p.2, rfl, fun q hq => ?_⟩
      exact kE _ _ rfl (L2.Same.new hq) ⟨q, rfl, upd_same⟩
    · intro ys H3 e3 hys hpr
      rw [filter_yes] at hpr
      have hpr2 := paired_map (F := PairAt H3) (g := fun p : Int × Int => norm p.1 p.2) hpr
      refine ⟨D, ys, pairOf H3, rfl, SqL.of hys, pairs_mem hpr2, fun zs q s1 s2 hq => ?_⟩
      obtain ⟨qs, hz, hperm, hle⟩ := sorted_post hpr2 s1 s2
      refine ⟨q, _, rfl, .inl ⟨SqL.of upd_same, fun t ht => ?_⟩⟩
      have e4 : Same H3 (upd (upd H3 q (.lst zs)) t (.tup zs)) := (L2.Same.new hq).new' ht
      refine ⟨_, rfl, x, C, dx, fs, rfl, e4 _ _ (e3 _ _ hx2), T.cl, T.nTies, hfl.1, ?_⟩
      refine ⟨_, rfl, k x t qs _ (L2.Same.mut (e2.trans (e3.trans e4)) nx0) nx0 ⟨⟨dx, _, upd_same, ?_, ?_⟩, zs, ?_, ?_⟩ hperm hle⟩
      · rw [lookup_putF, if_neg st_]; exact hfl.2
      · rw [lookup_putF, if_pos rfl]
      · have hxt : t ≠ x := fun q' => by
          have := e3 _ _ hx2
          rw [← q'] at this
          have h5 : (upd H3 q (.lst zs)) t = some (.ins C dx fs) := L2.Same.new hq _ _ this
          rw [ht] at h5; cases h5
        rw [upd_ne hxt]; exact upd_same
      · refine hz.tk ((tk_new hq).trans ((tk_new ht).trans (TK.upd ?_)))
        rw [e4 _ _ (e3 _ _ hx2)]
        rfl

theorem inV_pair (k a b : Int) : inV (.int k) [.int a, .int b] = (a == k || b == k) := by
  simp [inV, eqV]
theorem norm_lt {a b : Int} (h : a ≠ b) : (norm a b).1 < (norm a b).2 := by
  unfold norm
  by_cases h1 : b < a
  · rw [if_pos h1, if_neg (by omega)]; exact h1
  · rw [if_neg h1, if_pos (by omega)]; show a < b; omega
theorem norm_in {a b n : Int} (h : a ≠ b) (a1 : 0 ≤ a) (a2 : a < n) (b1 : 0 ≤ b) (b2 : b < n) : 0 ≤ (norm a b).1 ∧ (norm a b).1 < (norm a b).2 ∧ (norm a b).2 < n := by
  unfold norm
  by_cases h1 : b < a
  · rw [if_pos h1, if_neg (by omega)]; exact ⟨b1, h1, a2⟩
  · rw [if_neg h1, if_pos (by omega)]; exact ⟨a1, by show a < b; omega, b2⟩
theorem map_norm {n : Int} {ps : List (Int × Int)} (h : ∀ p ∈ ps, p.1 < p.2) : (ps.map fun p => norm p.1 p.2) = ps := by
  induction ps with
  | nil => rfl
  | cons p ps ih => rw [List.map_cons, norm_id (h p (by simp)), ih fun q hq => h q (by simp [hq])]
theorem good_of {n : Int} {qs rs : List (Int × Int)} (hp : qs.Perm rs) (hl : qs.Pairwise le2) (hn : rs.Nodup) (ok : ∀ p ∈ rs, 0 ≤ p.1 ∧ p.1 < p.2 ∧ p.2 < n) : Good n qs :=
  ⟨fun p h => ok p (hp.mem_iff.mp h), up_of hl (hp.nodup_iff.mpr hn)⟩
end
open PySem PySem.Spec L2
theorem fm0 {a m : Int} (h : 0 < m) : 0 ≤ a.fmod m ∧ a.fmod m < m := by
  rw [Int.fmod_eq_emod_of_nonneg _ (Int.le_of_lt h)]
  exact ⟨Int.emod_nonneg _ (by omega), Int.emod_lt_of_pos _ h⟩
theorem on_if {c : Prop} [Decidable c] {A B : Hp → Prop} {H : Hp} (h1 : c → A H) (h2 : ¬ c → B H) : (fun (b : Bool) (H1 : Hp) => if b = true then A H1 else B H1) (decide c) H := by
  by_cases h : c
  · show (if decide c = true then A H else B H)
    rw [if_pos (decide_eq_true h)]; exact h1 h
  · show (if decide c = true then A H else B H)
    rw [if_neg (by simpa using h)]; exact h2 h
theorem on_ifN {c : Prop} [Decidable c] {A B : Hp → Prop} {H : Hp} (h1 : ¬ c → A H) (h2 : c → B H) : (fun (b : Bool) (H1 : Hp) => if b = true then A H1 else B H1) (!decide c) H := by
  by_cases h : c
  · show (if (!decide c) = true then A H else B H)
    rw [if_neg (by simpa using h)]; exact h2 h
  · show (if (!decide c) = true then A H else B H)
    rw [if_pos (by simpa using h)]; exact h1 h
section
variable {P : Program} {w : World} {K : PySem.W.Frag} {mg : Str → Option Value} {base : Heap} {C : Addr}
def sp_tape (K : PySem.W.Frag) : Sp := fun vs H Q _ => ∃ (a : Addr) (ns : List Int), vs = [.ref a] ∧ SqL K H a (ns.map V.int) ∧ ∀ T L H', Same H H' → H T = none → H L = none → Tp H' T L → Q (.ref T) H'
abbrev s__law_tape : Stmt := (top 33)
theorem sc__law_tape : FnScope ["script"] ["script"] (defScope s__law_tape) := ⟨rfl, rfl, rfl, by decide +kernel, rfl, by decide +kernel, by decide +kernel⟩

theorem ok_law_tape {f : Addr} {fd : FuncData} (F : Fun K "_law_tape" "_law_tape" s__law_tape f fd) (hm : mg "_law_tape" = some (.ref f)) (B : Bl mg) : Cal P w K mg base 1 "_law_tape" ["script"] (sp_tape K) := by
  refine ⟨f, fd, F.ok sc__law_tape (fun vs H Q E h => ?_) (fun cdv A outer s H vs Q E hr h => ?_), hm, F.kp, F.binds (ps := ["script"]) fun _ _ _ _ _ _ us hl => match us, hl with | [_], _ => rfl⟩
  · obtain ⟨a, ns, rfl, _⟩ := h; rfl
  · obtain ⟨a, ns, rfl, hS, k⟩ := h
    refine ⟨_, (pss_one (ps_ret (pe_lst (pa_cons (pe_callTy call_list_of (by rfl) B.list_ (by decide +kernel) (pa_cons (pv 0) pa_nil)) (pa_cons pe_int (pa_cons pe_int (pa_cons pe_int (pa_cons pe_int pa_nil)))))))), ?_⟩
    refine ⟨_, rfl, a, _, rfl, .inl hS, fun l hl => ?_⟩
    refine ⟨by show 5 ≤ sizeLine; decide, fun T hT => ?_⟩
    have e := (L2.Same.new (o := .lst (ns.map V.int)) hl).new' (o := .lst [.ref l, .int 0, .int 0, .int 1, .int 0]) hT
    have ne : l ≠ T := fun q => by rw [← q, upd_same] at hT; cases hT
    exact k T l _ e (L2.Same.free (L2.Same.new hl) hT) hl ⟨⟨ns, 0, 0, 1, 0⟩, upd_same, by rw [upd_ne ne, upd_same], ne, (by show (0 : Int) ≤ 0; decide), (by show (0 : Int) ≤ 1; decide), (by show (1 : Int) < 2147483648; decide)⟩
abbrev s__law_pick : Stmt := (top 34)
theorem sc__law_pick : FnScope ["tape", "many", "digit", "cell", "mixed"] ["tape", "many"] (defScope s__law_pick) := ⟨rfl, rfl, rfl, by decide +kernel, rfl, by decide +kernel, by decide +kernel⟩

theorem ok_law_pick {f : Addr} {fd : FuncData} (F : Fun K "_law_pick" "_law_pick" s__law_pick f fd) (hm : mg "_law_pick" = some (.ref f)) (B : Bl mg) : Cal P w K mg base 1 "_law_pick" ["tape", "many"] spPick := by
  refine ⟨f, fd, F.ok sc__law_pick (fun vs H Q E h => ?_) (fun cdv A outer s H vs Q E hr h => ?_), hm, F.kp, F.binds (ps := ["tape", "many"]) fun _ _ _ _ _ _ us hl => match us, hl with | [_, _], _ => rfl⟩
  · obtain ⟨T, l, m, rfl, _⟩ := h; rfl
  · obtain ⟨T, l, m, rfl, m1, m2, ⟨⟨ns, i1, i2, i3, i4⟩, hT, hl, ne, p1, p3, p4⟩, k⟩ := h
    dsimp only at hT hl ne p1 p3 p4
    have m0 : m ≠ 0 := by omega
    have mN : m.natAbs < 1073741824 := by omega
    refine ⟨_, (pss_cons (ps_if (pt_cmpR op_gt (pe_ix ix_list (pv 0) pe_int (fun _ _ => rfl)) pe_int (nomark _)) (pss_cons (ps_set (i := 2) sc__law_pick.nd rfl (by first | exact Or.inl rfl | exact Or.inr rfl) (pe_op op_modN (pe_callTy call_int1 (by rfl) B.int_ (by decide +kernel) (pa_cons (pe_ix ix_list (pv 0) pe_int (fun _ _ => rfl)) pa_nil)) (pv 1)))
 (pss_cons (ps_asg (pe_op op_fdivN (pe_ix ix_list (pv 0) pe_int (fun _ _ => rfl)) (pv 1)) (pg_sub (pv 0) pe_int set_list))
 (pss_one (ps_ret (pv 2))))) pss_nil)
 (pss_cons (ps_asg (pe_op op_add (pe_ix ix_list (pv 0) pe_int (fun _ _ => rfl)) pe_int) (pg_sub (pv 0) pe_int set_list))
 (pss_cons (ps_set (i := 3) sc__law_pick.nd rfl (by first | exact Or.inl rfl | exact Or.inr rfl) pe_int)
 (Evl.pss_cut (ps_if (pt_cmpR op_lt (pe_ix ix_list (pv 0) pe_int (fun _ _ => rfl)) (pe_callB call_len_seq (by rfl) B.len (by decide +kernel) (pa_cons (pe_ix ix_list (pv 0) pe_int (fun _ _ => rfl)) pa_nil)) (nomark _)) (pss_cons (ps_set (i := 3) sc__law_pick.nd rfl (by first | exact Or.inl rfl | exact Or.inr rfl) (pe_ix ix_list (pe_ix ix_list (pv 0) pe_int (fun _ _ => rfl)) (pe_ix ix_list (pv 0) pe_int (fun _ _ => rfl)) (fun _ _ => rfl)))
 (pss_one (ps_asg (pe_op op_add (pe_ix ix_list (pv 0) pe_int (fun _ _ => rfl)) pe_int) (pg_sub (pv 0) pe_int set_list)))) pss_nil)
 (pss_cons (ps_if (pt_cmpR op_ge (pv 3) (pe_op op_pow pe_int pe_int) (nomark _)) (pss_cons (ps_asg (pe_op op_fdivN (pv 3) (pv 1)) (pg_sub (pv 0) pe_int set_list))
 (pss_one (ps_ret (pe_op op_modN (pe_callTy call_int1 (by rfl) B.int_ (by decide +kernel) (pa_cons (pv 3) pa_nil)) (pv 1))))) pss_nil)
 (pss_cons (ps_set (i := 4) sc__law_pick.nd rfl (by first | exact Or.inl rfl | exact Or.inr rfl) (pe_op op_modN (pe_callTy call_int1 (by rfl) B.int_ (by decide +kernel) (pa_cons (pe_op op_add (pe_op op_add (pe_op op_mul (pe_ix ix_list (pv 0) pe_int (fun _ _ => rfl)) pe_int) (pe_op op_modN (pe_callTy call_int1 (by rfl) B.int_ (by decide +kernel) (pa_cons (pv 3) pa_nil)) pe_int)) (pe_op op_mul (pe_ix ix_list (pv 0) pe_int (fun _ _ => rfl)) pe_int)) pa_nil)) pe_int))
 (pss_cons (ps_set (i := 4) sc__law_pick.nd rfl (by first | exact Or.inl rfl | exact Or.inr rfl) (pe_op op_modN (pe_callTy call_int1 (by rfl) B.int_ (by decide +kernel) (pa_cons (pe_op op_mul (pv 4) (pe_op op_add (pe_op op_fdivN (pv 4) pe_int) pe_int)) pa_nil)) pe_int))
 (pss_cons (ps_asg (pv 4) (pg_sub (pv 0) pe_int set_list))
 (pss_one (ps_ret (pe_op op_modN (pe_callTy call_int1 (by rfl) B.int_ (by decide +kernel) (pa_cons (pe_op op_fdivN (pv 4) pe_int) pa_nil)) (pv 1)))))))))))), ?_⟩
    refine ⟨_, rfl, T, _, 2, _, rfl, rfl, SqL.of hT, rfl, _, _, rfl, rfl, _, rfl, ?_⟩
    refine on_if (fun c => ?_) (fun c => ?_)
    · refine ⟨_, rfl, T, _, 2, _, rfl, rfl, SqL.of hT, rfl, .inl ⟨_, rfl, ?_⟩⟩
      refine ⟨_, rfl, _, _, rfl, rfl, m0, ?_⟩
      refine ⟨_, rfl, T, _, 2, _, rfl, rfl, SqL.of hT, rfl, _, rfl, _, _, rfl, rfl, ⟨m0, mN⟩, ?_⟩
      refine ⟨_, rfl, T, _, 2, 2, rfl, rfl, hT, rfl, ?_⟩
      refine ⟨_, rfl, k _ _ (fm0 m1).1 (fm0 m1).2 ExT.rfl'.upd ⟨⟨ns, i1, i2.fdiv m, i3, i4⟩, upd_same, by rw [upd_ne ne]; exact hl, ne, p1, p3, p4⟩⟩
    · refine ⟨_, rfl, T, _, 4, _, rfl, rfl, SqL.of hT, rfl, _, _, rfl, rfl, ?_⟩
      refine ⟨_, rfl, T, _, 4, 4, rfl, rfl, hT, rfl, ?_⟩
      have e1 : ExT T H (upd H T (.lst ([.ref l, .int i1, .int i2, .int i3, .int i4].set 4 (.int (i4 + 1))))) := ExT.rfl'.upd
      generalize hH1 : upd H T (.lst ([.ref l, .int i1, .int i2, .int i3, .int i4].set 4 (.int (i4 + 1)))) = H1 at e1 ⊢
      have hT1 : H1 T = some (.lst [.ref l, .int i1, .int i2, .int i3, .int (i4 + 1)]) := by rw [← hH1]; exact upd_same
      have hl1 := e1 _ _ ne hl
      refine ⟨fun σ H' => ∃ (cc i1' : Int), σ = [some (.ref T), some (.int m), none, some (.int cc), none] ∧ ExT T H H' ∧ H' T = some (.lst [.ref l, .int i1', .int i2, .int i3, .int (i4 + 1)]) ∧ 0 ≤ i1', ?_, ?_⟩
      · refine ⟨_, rfl, T, _, 1, _, rfl, rfl, SqL.of hT1, rfl, _, rfl, T, _, 0, _, rfl, rfl, SqL.of hT1, rfl, l, _, rfl, .inl (SqL.of hl1), _, _, rfl, rfl, _, rfl, ?_⟩
        refine on_if (fun c2 => ?_) (fun c2 => ?_)
        · rw [List.length_map] at c2
          have hc : ns[i1.toNat]? = some ns[i1.toNat] := List.getElem?_eq_getElem (by omega)
          refine ⟨_, rfl, T, _, 0, _, rfl, rfl, SqL.of hT1, rfl, _, rfl, T, _, 1, _, rfl, rfl, SqL.of hT1, rfl, l, _, i1, .int ns[i1.toNat], rfl, rfl, SqL.of hl1, at_of (j := i1.toNat) (by omega) (by rw [List.getElem?_map, hc]; rfl), ?_⟩
          refine ⟨_, rfl, T, _, 1, _, rfl, rfl, SqL.of hT1, rfl, _, _, rfl, rfl, ?_⟩
          refine ⟨_, rfl, T, _, 1, 1, rfl, rfl, hT1, rfl, ?_⟩
          exact ⟨_, _, rfl, e1.upd, upd_same, by omega⟩
        · exact ⟨_, _, rfl, e1, hT1, p1⟩
      · rintro σ H2 ⟨cc, i1', rfl, e2, hT2, q1⟩
        have hl2 := e2 _ _ ne hl
        refine ⟨_, rfl, _, _, rfl, rfl, ⟨by decide, by decide, by decide⟩, _, _, rfl, rfl, _, rfl, ?_⟩
        refine on_if (fun c3 => ?_) (fun c3 => ?_)
        · refine ⟨_, rfl, _, rfl, _, _, rfl, rfl, ⟨m0, mN⟩, ?_⟩
          refine ⟨_, rfl, T, _, 2, 2, rfl, rfl, hT2, rfl, ?_⟩
          refine ⟨_, rfl, .inl ⟨_, rfl, _, rfl, _, _, rfl, rfl, m0, k _ _ (fm0 m1).1 (fm0 m1).2 e2.upd ⟨⟨ns, i1', cc.fdiv m, i3, i4 + 1⟩, upd_same, by rw [upd_ne ne]; exact hl2, ne, q1, p3, p4⟩⟩⟩
        · refine ⟨_, rfl, T, _, 3, _, rfl, rfl, SqL.of hT2, rfl, _, _, rfl, rfl, .inr ⟨by decide, by decide⟩, ?_⟩
          refine ⟨_, rfl, .inl ⟨_, rfl, _, _, rfl, rfl, (by show (2147483629 : Int) ≠ 0; decide), _, _, rfl, rfl, ?_⟩⟩
          refine ⟨_, rfl, T, _, 4, _, rfl, rfl, SqL.of hT2, rfl, _, _, rfl, rfl, .inr ⟨by decide, by decide⟩, _, _, rfl, rfl, .inl ⟨_, rfl, _, _, rfl, rfl, (by show (2147483647 : Int) ≠ 0; decide), ?_⟩⟩
          dsimp only
          generalize hm1 : (i3 * 48271 + cc.fmod 2147483629 + (i4 + 1) * 69621).fmod 2147483647 = mx
          have b1 : 0 ≤ mx ∧ mx < 2147483647 := by rw [← hm1]; exact fm0 (by decide)
          refine ⟨_, rfl, _, rfl, _, _, rfl, rfl, ⟨by decide, by decide⟩, _, _, rfl, rfl, _, _, rfl, rfl, .inl ⟨by omega, by omega⟩, .inl ⟨_, rfl, _, _, rfl, rfl, (by show (2147483399 : Int) ≠ 0; decide), ?_⟩⟩
          dsimp only
          generalize hm2 : (mx * (mx.fdiv 1009 + 40692)).fmod 2147483399 = my
          have b2 : 0 ≤ my ∧ my < 2147483399 := by rw [← hm2]; exact fm0 (by decide)
          refine ⟨_, rfl, _, rfl, T, _, 3, 3, rfl, rfl, hT2, rfl, ?_⟩
          refine ⟨_, rfl, _, _, rfl, rfl, ⟨by decide, by decide⟩, .inl ⟨_, rfl, _, rfl, _, _, rfl, rfl, m0, ?_⟩⟩
          exact k _ _ (fm0 m1).1 (fm0 m1).2 e2.upd ⟨⟨ns, i1', i2, my, i4 + 1⟩, upd_same, by rw [upd_ne ne]; exact hl2, ne, q1, b2.1, (by show my < 2147483648; omega)⟩
end
open PySem PySem.Spec L2
/-! ## the law's own likeness: the same data on both sides -/
def flat1 : V → Bool
  | .non => true
  | .bl _ => true
  | .int _ => true
  | .str _ => true
  | _ => false
def SameV : Nat → Hp → V → V → Prop
  | 0, _, v, u => v = u ∧ flat1 v = true
  | k + 1, H, v, u => SameV k H v u ∨ (∃ a b xs ys, v = .ref a ∧ u = .ref b ∧ ((H a = some (.tup xs) ∧ H b = some (.tup ys)) ∨ (H a = some (.lst xs) ∧ H b = some (.lst ys))) ∧ xs.length ≤ 100000 ∧ Paired (SameV k H) xs ys)
theorem SameV.same : ∀ {k : Nat} {H H' : Hp} {v u : V}, SameV k H v u → Same H H' → SameV k H' v u
  | 0, _, _, _, _, h, _ => h
  | k + 1, H, H', v, u, h, e => by
    rcases h with h | ⟨a, b, xs, ys, rfl, rfl, h, hl, hp⟩
    · exact .inl (SameV.same h e)
    · refine .inr ⟨a, b, xs, ys, rfl, rfl, ?_, hl, Paired.imp' hp fun _ _ q => SameV.same q e⟩
      rcases h with ⟨h1, h2⟩ | ⟨h1, h2⟩
      · exact .inl ⟨e _ _ h1, e _ _ h2⟩
      · exact .inr ⟨e _ _ h1, e _ _ h2⟩
theorem SameV.up {k : Nat} {H : Hp} {v u : V} (h : SameV k H v u) : SameV (k + 1) H v u := .inl h
theorem paired_ints {k : Nat} {H : Hp} : ∀ (l : List Int), Paired (SameV k H) (l.map V.int) (l.map V.int) := by
  intro l
  have z : ∀ (k : Nat) (i : Int), SameV k H (.int i) (.int i) := by
    intro k i
    induction k with
    | zero => exact ⟨rfl, rfl⟩
    | succ k ih => exact .inl ih
  induction l with
  | nil => exact .nil
  | cons i l ih => exact .cons (z k i) ih
theorem same_int (k : Nat) (H : Hp) (i : Int) : SameV k H (.int i) (.int i) := by
  induction k with
  | zero => exact ⟨rfl, rfl⟩
  | succ k ih => exact .inl ih
theorem same_pairs {k : Nat} {H : Hp} : ∀ {xs ys : List V} {ps : List (Int × Int)}, Pairs H xs ps → Pairs H ys ps → Paired (SameV (k + 1) H) xs ys
  | _, _, _, .nil, .nil => .nil
  | _, _, _, .cons r t, .cons r' t' => by
    refine .cons ?_ (same_pairs t t')
    obtain ⟨a, rfl, ha⟩ := r
    obtain ⟨b, rfl, hb⟩ := r'
    exact .inr ⟨a, b, _, _, rfl, rfl, .inl ⟨ha, hb⟩, (by show 2 ≤ 100000; decide), .cons (same_int _ _ _) (.cons (same_int _ _ _) .nil)⟩
def spSame (k : Nat) : Sp := fun vs H Q _ => ∃ v u, vs = [v, u] ∧ SameV k H v u ∧ ∀ H', Same H H' → Q (.bl true) H'
theorem bl_all : ∀ {l : List V} {m : List (V × V)}, Paired (fun v _ => v = .bl true) l m → l = (m.map fun _ => true).map V.bl
  | _, _, .nil => rfl
  | _, _, .cons r t => by rw [r, bl_all t]; rfl
theorem zip_get {α β : Type} {xs : List α} {ys : List β} {i : Nat} {p : α × β} (h : (xs.zip ys)[i]? = some p) : xs[i]? = some p.1 ∧ ys[i]? = some p.2 := by
  rw [List.getElem?_zip_eq_some] at h
  exact h
section
variable {P : Program} {w : World} {K : PySem.W.Frag} {mg : Str → Option Value} {base : Heap} {C : Addr}
abbrev s__law_is_integer : Stmt := (top 35)
theorem sc__law_is_integer : FnScope ["thing"] ["thing"] (defScope s__law_is_integer) := ⟨rfl, rfl, rfl, by decide +kernel, rfl, by decide +kernel, by decide +kernel⟩

theorem ok_law_is_integer {f : Addr} {fd : FuncData} (F : Fun K "_law_is_integer" "_law_is_integer" s__law_is_integer f fd) (hm : mg "_law_is_integer" = some (.ref f)) (B : Bl mg) : Cal P w K mg base 1 "_law_is_integer" ["thing"] sp_is_integer := by
  refine ⟨f, fd, F.ok sc__law_is_integer (fun vs H Q E h => ?_) (fun cdv A outer s H vs Q E hr h => ?_), hm, F.kp, F.binds (ps := ["thing"]) fun _ _ _ _ _ _ us hl => match us, hl with | [_], _ => rfl⟩
  · obtain ⟨i, rfl, _⟩ := h; rfl
  · obtain ⟨i, rfl, k⟩ := h
    refine ⟨_, (pss_one (ps_ret (pe_and (pe_callB call_isi (by rfl) B.isinstance (by decide +kernel) (pa_cons (pv 0) (pa_cons (pe_bltn (v := .ty "int") (by rfl) B.int_ (by decide +kernel) rfl) pa_nil))) (pe_one (pe_not (pe_callB call_isi (by rfl) B.isinstance (by decide +kernel) (pa_cons (pv 0) (pa_cons (pe_bltn (v := .ty "bool") (by rfl) B.bool_ (by decide +kernel) rfl) pa_nil)))))))), ?_⟩
    refine ⟨_, rfl, _, _, _, _, true, rfl, .ty "int", .base (.int i), kit_ty (by decide +kernel), true, rfl, iteT ?_⟩
    refine ⟨_, rfl, _, _, _, _, false, rfl, .ty "bool", .base (.int i), kit_ty (by decide +kernel), false, rfl, ?_⟩
    exact k
theorem ka2 {t a b : String} {x y : Bool} (h1 : kitB t a = some x) (h2 : kitB t b = some y) : PySem.W.kitAny K (.type t) [.type a, .type b] = some (x || y) :=
  kitAny_cons (kit_ty h1) (fun e => by subst e; exact kitAny_cons (kit_ty h2) (fun e => by subst e; exact kitAny_nil) (fun e => by subst e; rfl)) (fun e => by subst e; rfl)
theorem tyx_flat {H : Hp} {v : V} (h : flat1 v = true) : ∃ t : String, TyX K H v (.type t) ∧ PySem.W.kitAny K (.type t) [.type "list", .type "tuple"] = some false := by
  cases v with
  | non => exact ⟨_, .base .non, ka2 (x := false) (y := false) (by decide +kernel) (by decide +kernel)⟩
  | bl b => exact ⟨_, .base (.bl b), ka2 (x := false) (y := false) (by decide +kernel) (by decide +kernel)⟩
  | int i => exact ⟨_, .base (.int i), ka2 (x := false) (y := false) (by decide +kernel) (by decide +kernel)⟩
  | str z => exact ⟨_, .base (.str z), ka2 (x := false) (y := false) (by decide +kernel) (by decide +kernel)⟩
  | _ => cases h
abbrev s__law_same : Stmt := (top 37)
theorem sc__law_same : FnScope ["told", "due", "one", "other"] ["told", "due"] (defScope s__law_same) := ⟨rfl, rfl, rfl, by decide +kernel, rfl, by decide +kernel, by decide +kernel⟩

theorem fn_law_same0 {f : Addr} {fd : FuncData} (F : Fun K "_law_same" "_law_same" s__law_same f fd) (B : Bl mg) (c__law_is_integer : Cal P w K mg base 1 "_law_is_integer" ["thing"] sp_is_integer) : FnOk P w K mg base CX0 2 f fd ["told", "due"] (spSame 0) := by
  refine F.ok sc__law_same (fun vs H Q E h => ?_) (fun cdv A outer s H vs Q E hr h => ?_)
  · obtain ⟨v, u, rfl, _⟩ := h; rfl
  · obtain ⟨v, u, rfl, ⟨rfl, fl⟩, k⟩ := h
    obtain ⟨ty, h1, h2⟩ := tyx_flat (K := K) (H := H) fl
    refine ⟨_, (pss_cons (ps_if (pt_val (pe_callB call_isiT (by rfl) B.isinstance (by decide +kernel) (pa_cons (pv 1) (pa_cons (pe_tup (pa_cons (pe_bltn (v := .ty "list") (by rfl) B.list_ (by decide +kernel) rfl) (pa_cons (pe_bltn (v := .ty "tuple") (by rfl) B.tuple_ (by decide +kernel) rfl) pa_nil))) pa_nil)))) pss_never pss_nil)
 (pss_cons (ps_if (pt_cmpR op_isN (pv 1) pe_non (nomark _)) (pss_one (ps_ret (pe_cmpR op_isN (pv 0) pe_non (nomark _)))) pss_nil)
 (pss_cons (ps_if (pt_val (pe_callB call_isi (by rfl) B.isinstance (by decide +kernel) (pa_cons (pv 1) (pa_cons (pe_bltn (v := .ty "bool") (by rfl) B.bool_ (by decide +kernel) rfl) pa_nil)))) (pss_one (ps_ret (pe_and (pe_callB call_isi (by rfl) B.isinstance (by decide +kernel) (pa_cons (pv 0) (pa_cons (pe_bltn (v := .ty "bool") (by rfl) B.bool_ (by decide +kernel) rfl) pa_nil))) (pe_one (pe_cmpR op_eq (pv 0) (pv 1) (nomark _)))))) pss_nil)
 (pss_cons (ps_if (pt_val (pe_callB call_isi (by rfl) B.isinstance (by decide +kernel) (pa_cons (pv 1) (pa_cons (pe_bltn (v := .ty "str") (by rfl) B.str_ (by decide +kernel) rfl) pa_nil)))) (pss_one (ps_ret (pe_and (pe_callB call_isi (by rfl) B.isinstance (by decide +kernel) (pa_cons (pv 0) (pa_cons (pe_bltn (v := .ty "str") (by rfl) B.str_ (by decide +kernel) rfl) pa_nil))) (pe_one (pe_cmpR op_eq (pv 0) (pv 1) (nomark _)))))) pss_nil)
 (pss_one (ps_ret (pe_and (pe_cal c__law_is_integer (hr.mono (by first | decide | omega)) (pa_cons (pv 0) pa_nil)) (pe_one (pe_cmpR op_eq (pv 0) (pv 1) (nomark _)))))))))), ?_⟩
    refine ⟨_, rfl, (by show 2 ≤ sizeLine; decide), fun p hp => ?_⟩
    have ep := L2.Same.new (o := .tup [.ty "list", .ty "tuple"]) hp
    obtain ⟨ty, h1, h2⟩ := tyx_flat (K := K) (H := upd H p (.tup [.ty "list", .ty "tuple"])) fl
    refine ⟨_, p, _, _, _, false, rfl, upd_same, .cons (.ty "list") (.cons (.ty "tuple") .nil), h1, h2, false, rfl, iteF ?_⟩
    cases v with
    | non => exact ⟨_, rfl, rfl, _, rfl, iteT ⟨_, rfl, rfl, k _ ep⟩⟩
    | bl b =>
      refine ⟨_, rfl, rfl, _, rfl, iteF ?_⟩
      refine ⟨_, rfl, _, _, _, _, true, rfl, .ty "bool", .base (.bl b), kit_ty (by decide +kernel), true, rfl, iteT ?_⟩
      refine ⟨_, rfl, _, _, _, _, true, rfl, .ty "bool", .base (.bl b), kit_ty (by decide +kernel), true, rfl, iteT ?_⟩
      refine ⟨_, rfl, _, rfl, rfl, ?_⟩
      rw [decide_eq_true rfl]
      exact k _ ep
    | int i =>
      refine ⟨_, rfl, rfl, _, rfl, iteF ?_⟩
      refine ⟨_, rfl, _, _, _, _, false, rfl, .ty "bool", .base (.int i), kit_ty (by decide +kernel), false, rfl, iteF ?_⟩
      refine ⟨_, rfl, _, _, _, _, false, rfl, .ty "str", .base (.int i), kit_ty (by decide +kernel), false, rfl, iteF ?_⟩
      refine ⟨_, rfl, i, rfl, true, rfl, iteT ?_⟩
      refine ⟨_, rfl, _, rfl, rfl, ?_⟩
      rw [decide_eq_true rfl]
      exact k _ ep
    | str z =>
      refine ⟨_, rfl, rfl, _, rfl, iteF ?_⟩
      refine ⟨_, rfl, _, _, _, _, false, rfl, .ty "bool", .base (.str z), kit_ty (by decide +kernel), false, rfl, iteF ?_⟩
      refine ⟨_, rfl, _, _, _, _, true, rfl, .ty "str", .base (.str z), kit_ty (by decide +kernel), true, rfl, iteT ?_⟩
      refine ⟨_, rfl, _, _, _, _, true, rfl, .ty "str", .base (.str z), kit_ty (by decide +kernel), true, rfl, iteT ?_⟩
      refine ⟨_, rfl, _, rfl, rfl, ?_⟩
      rw [decide_eq_true rfl]
      exact k _ ep
    | _ => cases fl
end
open PySem PySem.Spec L2
theorem _root_.L2.FnOk.or {P : Program} {w : World} {K : PySem.W.Frag} {mg : Str → Option Value} {base : Heap} {CX : CXT} {k : Nat} {f : Addr} {fd : FuncData} {ps : List Str} {sp sp' : Sp} (F : FnOk P w K mg base CX k f fd ps sp) (F' : FnOk P w K mg base CX k f fd ps sp') :
    FnOk P w K mg base CX k f fd ps (fun vs H Q E => sp vs H Q E ∨ sp' vs H Q E) :=
  ⟨fun vs H Q E q => q.elim (F.len vs H Q E) (F'.len vs H Q E), fun A outer s H args us vs Q E hr he hb hv hs => hs.elim (F.run A outer s H args us vs Q E hr he hb hv) (F'.run A outer s H args us vs Q E hr he hb hv)⟩
section
variable {P : Program} {w : World} {K : PySem.W.Frag} {mg : Str → Option Value} {base : Heap} {C : Addr}
def spSameR (k : Nat) : Sp := fun vs H Q _ => ∃ a b xs ys, vs = [.ref a, .ref b] ∧ ((H a = some (.tup xs) ∧ H b = some (.tup ys)) ∨ (H a = some (.lst xs) ∧ H b = some (.lst ys))) ∧ xs.length ≤ 100000 ∧ Paired (SameV k H) xs ys ∧ ∀ H', Same H H' → Q (.bl true) H'
theorem fn_law_sameR (k : Nat) {f : Addr} {fd : FuncData} (F : Fun K "_law_same" "_law_same" s__law_same f fd) (B : Bl mg) (c__law_is_integer : Cal P w K mg base 1 "_law_is_integer" ["thing"] sp_is_integer)
    (c__law_same : Cal P w K mg base (k + 2) "_law_same" ["told", "due"] (spSame k)) : FnOk P w K mg base CX0 (k + 3) f fd ["told", "due"] (spSameR k) := by
  refine F.ok sc__law_same (fun vs H Q E h => ?_) (fun cdv A outer s H vs Q E hr h => ?_)
  · obtain ⟨a, b, xs, ys, rfl, _⟩ := h; rfl
  · obtain ⟨a, b, xs, ys, rfl, hab, hlen, hp, k0⟩ := h
    have hzl : (xs.zip ys).length = xs.length := by rw [List.length_zip, Paired.len hp, Nat.min_self]
    refine ⟨_, (pss_cons (ps_if (pt_val (pe_callB call_isiT (by rfl) B.isinstance (by decide +kernel) (pa_cons (pv 1) (pa_cons (pe_tup (pa_cons (pe_bltn (v := .ty "list") (by rfl) B.list_ (by decide +kernel) rfl) (pa_cons (pe_bltn (v := .ty "tuple") (by rfl) B.tuple_ (by decide +kernel) rfl) pa_nil))) pa_nil)))) (pss_cons (ps_if (PW.pt (pw_or (pt_cmpR op_ne (pe_callB call_isi (by rfl) B.isinstance (by decide +kernel) (pa_cons (pv 0) (pa_cons (pe_bltn (v := .ty "list") (by rfl) B.list_ (by decide +kernel) rfl) pa_nil))) (pe_callB call_isi (by rfl) B.isinstance (by decide +kernel) (pa_cons (pv 1) (pa_cons (pe_bltn (v := .ty "list") (by rfl) B.list_ (by decide +kernel) rfl) pa_nil))) (nomark _)) (pw_or1 (pt_not (pt_val (pe_callB call_isiT (by rfl) B.isinstance (by decide +kernel) (pa_cons (pv 0) (pa_cons (pe_tup (pa_cons (pe_bltn (v := .ty "list") (by rfl) B.list_ (by decide +kernel) rfl) (pa_cons (pe_bltn (v := .ty "tuple") (by rfl) B.tuple_ (by decide +kernel) rfl) pa_nil))) pa_nil)))))))) (pss_one (ps_ret pe_bl)) pss_nil)
 (pss_cons (ps_if (pt_cmpR op_ne (pe_callB call_len_seq (by rfl) B.len (by decide +kernel) (pa_cons (pv 0) pa_nil)) (pe_callB call_len_seq (by rfl) B.len (by decide +kernel) (pa_cons (pv 1) pa_nil)) (nomark _)) (pss_one (ps_ret pe_bl)) pss_nil)
 (pss_one (ps_ret (pe_callB (cr_all rfl) (by rfl) B.all (by decide +kernel) (pa_cons (pe_lc (own := [("one", 2), ("other", 3)]) (g := (gTup K 2 (gCons (gName 2) (gCons (gName 3) gNil)))) (by rfl) sc__law_same.nd (RZ.pi_zipA (by rfl) B.zip (pa_cons (pv 0) (pa_cons (pv 1) pa_nil))) (blkOk_by (own := [("one", 2), ("other", 3)]) (N := ["told", "due", "one", "other"]) (sc := defScope s__law_same) (by decide +kernel)) (fun _ _ _ _ _ => (pg_tup (by rfl) (pgs_cons (pg_name (i := 2) sc__law_same.nd rfl (by first | exact Or.inl rfl | exact Or.inr rfl)) (pgs_cons (pg_name (i := 3) sc__law_same.nd rfl (by first | exact Or.inl rfl | exact Or.inr rfl)) pgs_nil)))) (fun _ _ _ _ _ => pts_nil) (fun _ _ _ _ _ => (pe_cal c__law_same (hr.mono (by first | decide | omega)) (pa_cons (pv 2) (pa_cons (pv 3) pa_nil))))) pa_nil)))))) pss_nil)
 (pss_cons (ps_if (pt_cmpR op_isN (pv 1) pe_non (nomark _)) (pss_one (ps_ret (pe_cmpR op_isN (pv 0) pe_non (nomark _)))) pss_nil)
 (pss_cons (ps_if (pt_val (pe_callB call_isi (by rfl) B.isinstance (by decide +kernel) (pa_cons (pv 1) (pa_cons (pe_bltn (v := .ty "bool") (by rfl) B.bool_ (by decide +kernel) rfl) pa_nil)))) (pss_one (ps_ret (pe_and (pe_callB call_isi (by rfl) B.isinstance (by decide +kernel) (pa_cons (pv 0) (pa_cons (pe_bltn (v := .ty "bool") (by rfl) B.bool_ (by decide +kernel) rfl) pa_nil))) (pe_one (pe_cmpR op_eq (pv 0) (pv 1) (nomark _)))))) pss_nil)
 (pss_cons (ps_if (pt_val (pe_callB call_isi (by rfl) B.isinstance (by decide +kernel) (pa_cons (pv 1) (pa_cons (pe_bltn (v := .ty "str") (by rfl) B.str_ (by decide +kernel) rfl) pa_nil)))) (pss_one (ps_ret (pe_and (pe_callB call_isi (by rfl) B.isinstance (by decide +kernel) (pa_cons (pv 0) (pa_cons (pe_bltn (v := .ty "str") (by rfl) B.str_ (by decide +kernel) rfl) pa_nil))) (pe_one (pe_cmpR op_eq (pv 0) (pv 1) (nomark _)))))) pss_nil)
 (pss_one (ps_ret (pe_and (pe_cal c__law_is_integer (hr.mono (by first | decide | omega)) (pa_cons (pv 0) pa_nil)) (pe_one (pe_cmpR op_eq (pv 0) (pv 1) (nomark _)))))))))), ?_⟩
    refine ⟨_, rfl, (by show 2 ≤ sizeLine; decide), fun p hp1 => ?_⟩
    have e1 := L2.Same.new (o := .tup [.ty "list", .ty "tuple"]) hp1
    generalize hH1 : upd H p (.tup [.ty "list", .ty "tuple"]) = H1 at e1 ⊢
    have hp1 : H1 p = some (.tup [.ty "list", .ty "tuple"]) := by rw [← hH1]; exact upd_same
    rcases hab with ⟨ha, hb⟩ | ⟨ha, hb⟩
    · have ha1 := e1 _ _ ha
      have hb1 := e1 _ _ hb
      refine ⟨_, p, _, _, _, true, rfl, hp1, .cons (.ty "list") (.cons (.ty "tuple") .nil), .base (.tup hb1), ka2 (x := false) (y := true) (by decide +kernel) (by decide +kernel), true, rfl, iteT ?_⟩
      refine ⟨_, rfl, _, _, _, _, false, rfl, .ty "list", .base (.tup ha1), kit_ty (by decide +kernel), _, rfl, _, _, _, _, false, rfl, .ty "list", .base (.tup hb1), kit_ty (by decide +kernel), rfl, _, rfl, iteNS rfl ?_⟩
      refine ⟨_, rfl, (by show 2 ≤ sizeLine; decide), fun q hq => ?_⟩
      have e2 := e1.new' (o := .tup [.ty "list", .ty "tuple"]) hq
      have e12 := L2.Same.new (o := .tup [.ty "list", .ty "tuple"]) hq
      generalize hH2 : upd H1 q (.tup [.ty "list", .ty "tuple"]) = H2 at e2 e12 ⊢
      have hq2 : H2 q = some (.tup [.ty "list", .ty "tuple"]) := by rw [← hH2]; exact upd_same
      have ha2 := e2 _ _ ha
      have hb2 := e2 _ _ hb
      refine ⟨_, q, _, _, _, true, rfl, hq2, .cons (.ty "list") (.cons (.ty "tuple") .nil), .base (.tup ha2), ka2 (x := false) (y := true) (by decide +kernel) (by decide +kernel), true, rfl, iteF ?_⟩
      refine ⟨_, rfl, a, _, rfl, .inr (SqT.of ha2), _, rfl, b, _, rfl, .inr (SqT.of hb2), rfl, _, rfl, ?_⟩
      refine on_ifN (fun c => absurd (by rw [Paired.len hp]) c) (fun _ => ?_)
      refine ⟨_, rfl, _, rfl, a, b, xs, ys, rfl, .inr ⟨SqT.of ha2, SqT.of hb2, fun D hD => lc_data (walk_zipT (K := K) (n := xs.length) (by rw [Paired.len hp, Nat.min_self])) (xs.zip ys) hzl (fun _ => true) (fun _ v _ => v = .bl true) (fun _ _ _ _ _ q => q) hD (fun H' e => ⟨SqT.of (e _ _ ha2), SqT.of (e _ _ hb2)⟩) (by rw [hzl]; exact Nat.lt_of_le_of_lt hlen (by decide)) ?_ (fun _ _ _ _ _ y => ypair_same y) ?_⟩⟩
      · rintro i ⟨x, y⟩ v H3 H4 Ny Nn hpi e3 ⟨T, x', y', rfl, hT, rfl, hx, hy⟩ kE kN
        obtain ⟨hx0, hy0⟩ := zip_get hpi
        have sv := ((paired_at hp hx hy).same e2).same e3
        have eT := L2.Same.new (o := .tup [x', y']) hT
        refine ⟨T, _, rfl, SqT.of upd_same, rfl, _, _, rfl, _, _, rfl, rfl, rfl, yes_if ?_⟩
        exact ⟨_, rfl, _, rfl, x', y', rfl, sv.same eT, fun H5 e5 => kE _ _ rfl e5 rfl⟩
      · intro zs H3 e3 hzs hpr
        have ez := bl_all hpr
        refine ⟨D, _, rfl, by rw [← ez]; exact SqL.of hzs, ?_⟩
        have : (((xs.zip ys).filter fun _ => true).map fun _ => true).all id = true := by simp
        rw [this]
        exact k0 _ (e2.trans e3)
    · have ha1 := e1 _ _ ha
      have hb1 := e1 _ _ hb
      refine ⟨_, p, _, _, _, true, rfl, hp1, .cons (.ty "list") (.cons (.ty "tuple") .nil), .base (.lst hb1), ka2 (x := true) (y := false) (by decide +kernel) (by decide +kernel), true, rfl, iteT ?_⟩
      refine ⟨_, rfl, _, _, _, _, true, rfl, .ty "list", .base (.lst ha1), kit_ty (by decide +kernel), _, rfl, _, _, _, _, true, rfl, .ty "list", .base (.lst hb1), kit_ty (by decide +kernel), rfl, _, rfl, iteNS rfl ?_⟩
      refine ⟨_, rfl, (by show 2 ≤ sizeLine; decide), fun q hq => ?_⟩
      have e2 := e1.new' (o := .tup [.ty "list", .ty "tuple"]) hq
      generalize hH2 : upd H1 q (.tup [.ty "list", .ty "tuple"]) = H2 at e2 ⊢
      have hq2 : H2 q = some (.tup [.ty "list", .ty "tuple"]) := by rw [← hH2]; exact upd_same
      have ha2 := e2 _ _ ha
      have hb2 := e2 _ _ hb
      refine ⟨_, q, _, _, _, true, rfl, hq2, .cons (.ty "list") (.cons (.ty "tuple") .nil), .base (.lst ha2), ka2 (x := true) (y := false) (by decide +kernel) (by decide +kernel), true, rfl, iteF ?_⟩
      refine ⟨_, rfl, a, _, rfl, .inl (SqL.of ha2), _, rfl, b, _, rfl, .inl (SqL.of hb2), rfl, _, rfl, ?_⟩
      refine on_ifN (fun c => absurd (by rw [Paired.len hp]) c) (fun _ => ?_)
      refine ⟨_, rfl, _, rfl, a, b, xs, ys, rfl, .inl ⟨SqL.of ha2, SqL.of hb2, fun D hD => lc_data (walk_zip (K := K) (n := xs.length) (by rw [Paired.len hp, Nat.min_self])) (xs.zip ys) hzl (fun _ => true) (fun _ v _ => v = .bl true) (fun _ _ _ _ _ q => q) hD (fun H' e => ⟨SqL.of (e _ _ ha2), SqL.of (e _ _ hb2)⟩) (by rw [hzl]; exact Nat.lt_of_le_of_lt hlen (by decide)) ?_ (fun _ _ _ _ _ y => ypair_same y) ?_⟩⟩
      · rintro i ⟨x, y⟩ v H3 H4 Ny Nn hpi e3 ⟨T, x', y', rfl, hT, rfl, hx, hy⟩ kE kN
        have sv := ((paired_at hp hx hy).same e2).same e3
        have eT := L2.Same.new (o := .tup [x', y']) hT
        refine ⟨T, _, rfl, SqT.of upd_same, rfl, _, _, rfl, _, _, rfl, rfl, rfl, yes_if ?_⟩
        exact ⟨_, rfl, _, rfl, x', y', rfl, sv.same eT, fun H5 e5 => kE _ _ rfl e5 rfl⟩
      · intro zs H3 e3 hzs hpr
        have ez := bl_all hpr
        refine ⟨D, _, rfl, by rw [← ez]; exact SqL.of hzs, ?_⟩
        have : (((xs.zip ys).filter fun _ => true).map fun _ => true).all id = true := by simp
        rw [this]
        exact k0 _ (e2.trans e3)
theorem ok_law_same {f : Addr} {fd : FuncData} (F : Fun K "_law_same" "_law_same" s__law_same f fd) (hm : mg "_law_same" = some (.ref f)) (B : Bl mg) (c__law_is_integer : Cal P w K mg base 1 "_law_is_integer" ["thing"] sp_is_integer) :
    ∀ k, FnOk P w K mg base CX0 (k + 2) f fd ["told", "due"] (spSame k)
  | 0 => fn_law_same0 F B c__law_is_integer
  | k + 1 => by
    have F0 := ok_law_same F hm B c__law_is_integer k
    have c0 : Cal P w K mg base (k + 2) "_law_same" ["told", "due"] (spSame k) := ⟨f, fd, F0, hm, F.kp, F.binds (ps := ["told", "due"]) fun _ _ _ _ _ _ us hl => match us, hl with | [_, _], _ => rfl⟩
    have FR := fn_law_sameR k F B c__law_is_integer c0
    refine ((F0.mono (Nat.le_succ _)).or FR).imp fun vs H Q E h => ?_
    obtain ⟨v, u, rfl, h, q⟩ := h
    rcases h with h | ⟨a, b, xs, ys, rfl, rfl, h⟩
    · exact .inl ⟨v, u, rfl, h, q⟩
    · exact .inr ⟨a, b, xs, ys, rfl, h.1, h.2.1, h.2.2, q⟩
end
open PySem PySem.Spec L2
theorem seq_ix {r : Int} {n : Nat} (h0 : 0 ≤ r) (h1 : r < n) : seqIndex? r n = some r.toNat := by
  unfold seqIndex?
  simp [show ¬ r < 0 by omega, h0, h1]
theorem cons_erase {α : Type} : ∀ {l : List α} {i : Nat} (h : i < l.length), (l[i] :: l.eraseIdx i).Perm l
  | [], _, h => by simp at h
  | a :: l, 0, _ => .refl _
  | a :: l, i + 1, h => by
    have h' : i < l.length := by simpa using h
    exact (List.Perm.swap a l[i] _).trans ((cons_erase h').cons a)
theorem perm_sorted : ∀ {l m : List Int}, l.Perm m → l.Pairwise (· ≤ ·) → m.Pairwise (· < ·) → l = m := by
  intro l m hp hl hm
  have hm' : m.Pairwise (· ≤ ·) := hm.imp fun {a b} h => Int.le_of_lt h
  have key : ∀ {l m : List Int}, l.Perm m → l.Pairwise (· ≤ ·) → m.Pairwise (· ≤ ·) → l = m := by
    intro l
    induction l with
    | nil => intro m hp _ _; exact (List.nil_perm.mp hp).symm
    | cons a l ih =>
      intro m hp hl hm
      cases m with
      | nil => exact absurd hp.length_eq (by simp)
      | cons b m =>
        obtain ⟨l1, l2⟩ := List.pairwise_cons.mp hl
        obtain ⟨m1, m2⟩ := List.pairwise_cons.mp hm
        have e : a = b := by
          have h1 : a ∈ b :: m := hp.mem_iff.mp (by simp)
          have h2 : b ∈ a :: l := hp.mem_iff.mpr (by simp)
          rcases List.mem_cons.mp h1 with h1 | h1
          · exact h1
          · rcases List.mem_cons.mp h2 with h2 | h2
            · exact h2.symm
            · have := l1 b h2; have := m1 a h1; omega
        subst e
        rw [ih (List.Perm.cons_inv hp) l2 m2]
  exact key hp hl hm'
section
variable {P : Program} {w : World} {K : PySem.W.Frag} {mg : Str → Option Value} {base : Heap} {C : Addr}
def sp_mixed : Sp := fun vs H Q _ => ∃ T L l xs, vs = [.ref T, .ref l] ∧ Tp H T L ∧ H l = some (.lst xs) ∧ l ≠ T ∧ xs.length ≤ 1000 ∧ ∀ p ys H', ExT T H H' → Tp H' T L → H p = none → H' p = some (.lst ys) → ys.Perm xs → Q (.ref p) H'
abbrev s__law_mixed : Stmt := (top 38)
theorem sc__law_mixed : FnScope ["tape", "things", "left", "found", "turn"] ["tape", "things"] (defScope s__law_mixed) := ⟨rfl, rfl, rfl, by decide +kernel, rfl, by decide +kernel, by decide +kernel⟩

theorem ok_law_mixed {f : Addr} {fd : FuncData} (F : Fun K "_law_mixed" "_law_mixed" s__law_mixed f fd) (hm : mg "_law_mixed" = some (.ref f)) (B : Bl mg) (c__law_pick : Cal P w K mg base 1 "_law_pick" ["tape", "many"] spPick) : Cal P w K mg base 2 "_law_mixed" ["tape", "things"] sp_mixed := by
  refine ⟨f, fd, F.ok sc__law_mixed (fun vs H Q E h => ?_) (fun cdv A outer s H vs Q E hr h => ?_), hm, F.kp, F.binds (ps := ["tape", "things"]) fun _ _ _ _ _ _ us hl => match us, hl with | [_, _], _ => rfl⟩
  · obtain ⟨T, L, l, xs, rfl, _⟩ := h; rfl
  · obtain ⟨T, L, l, xs, rfl, hT, hl, lT, hlen, k⟩ := h
    refine ⟨_, (pss_cons (ps_set (i := 2) sc__law_mixed.nd rfl (by first | exact Or.inl rfl | exact Or.inr rfl) (pe_callTy call_list_of (by rfl) B.list_ (by decide +kernel) (pa_cons (pv 1) pa_nil)))
 (pss_cons (ps_set (i := 3) sc__law_mixed.nd rfl (by first | exact Or.inl rfl | exact Or.inr rfl) (pe_lst pa_nil))
 (pss_cons (ps_for PassesOwn.never rfl (pi_range1 (by rfl) B.range (pa_cons (pe_callB call_len_seq (by rfl) B.len (by decide +kernel) (pa_cons (pv 1) pa_nil)) pa_nil)) (pg_name (i := 4) sc__law_mixed.nd rfl (by first | exact Or.inl rfl | exact Or.inr rfl))
  (pss_one (ps_expr (pe_bm PySem.F.plainAttrs_list PySem.F.slot_list_append PySem.F.type_list_append mt_append (pv 3) (pa_cons (pe_bm PySem.F.plainAttrs_list PySem.F.slot_list_pop PySem.F.type_list_pop mt_popAt (pv 2) (pa_cons (pe_cal c__law_pick (hr.mono (by first | decide | omega)) (pa_cons (pv 0) (pa_cons (pe_callB call_len_seq (by rfl) B.len (by decide +kernel) (pa_cons (pv 2) pa_nil)) pa_nil))) pa_nil)) pa_nil)))))
 (pss_one (ps_ret (pv 3)))))), ?_⟩
    refine ⟨_, rfl, l, xs, rfl, .inl (SqL.of hl), fun lf hlf => ?_⟩
    refine ⟨Nat.zero_le _, fun fo hfo => ?_⟩
    have nlf := hT.neT hlf
    have nlf2 := hT.neL hlf
    have e1 := L2.Same.new (o := .lst xs) hlf
    have hfo0 := L2.Same.free e1 hfo
    have nfo := hT.neT hfo0
    have nfo2 := hT.neL hfo0
    have nff : lf ≠ fo := fun q => by rw [← q, upd_same] at hfo; cases hfo
    have e2 := e1.new' (o := .lst []) hfo
    have hl2 := e2 _ _ hl
    have hT2 := hT.ext e2
    generalize hH2 : upd (upd H lf (.lst xs)) fo (.lst []) = H2 at e2 hl2 hT2 ⊢
    have hlf2 : H2 lf = some (.lst xs) := by rw [← hH2, upd_ne nff]; exact upd_same
    have hfo2 : H2 fo = some (.lst []) := by rw [← hH2]; exact upd_same
    refine ⟨_, rfl, l, _, rfl, .inl (SqL.of hl2), _, rfl, by omega, by omega, for_range (lo := 0) (n := (xs.length : Int).toNat) (fun i σ H' => ∃ (v : Option V) (zs ws : List V), σ = [some (.ref T), some (.ref l), some (.ref lf), some (.ref fo), v] ∧ ExT T H H' ∧ Tp H' T L ∧ H' lf = some (.lst zs) ∧ H' fo = some (.lst ws) ∧ zs.length + i = xs.length ∧ (ws ++ zs).Perm xs)
      ⟨none, xs, [], rfl, e2.exT, hT2, hlf2, hfo2, rfl, .refl _⟩ ?_ ?_⟩
    · rintro i σ H3 hi ⟨v, zs, ws, rfl, e3, hT3, h1, h2, hn, hp⟩
      have zl : 0 < zs.length := by omega
      refine ⟨_, rfl, .inl ⟨rfl, _, SqL.of h2⟩, _, rfl, .inl ⟨rfl, _, SqL.of h1⟩, _, rfl, _, rfl, lf, _, rfl, .inl (SqL.of h1), T, L, _, rfl, by omega, by omega, hT3, fun r H4 r0 r1 e4 hT4 => ?_⟩
      have h14 := e4 _ _ nlf h1
      have h24 := e4 _ _ nfo h2
      have hr' : r.toNat < zs.length := by omega
      have hz : zs[r.toNat]? = some zs[r.toNat] := List.getElem?_eq_getElem hr'
      refine ⟨lf, zs, r, r.toNat, _, rfl, rfl, h14, by omega, by omega, seq_ix r0 r1, hz, ?_⟩
      have h25 : (upd H4 lf (.lst (zs.eraseIdx r.toNat))) fo = some (.lst ws) := by rw [upd_ne nff.symm]; exact h24
      have hws : ws.length ≤ 1000 := by
        have := hp.length_eq
        rw [List.length_append] at this
        omega
      refine ⟨fo, ws, _, rfl, rfl, h25, Nat.lt_of_le_of_lt hws (by decide), ?_⟩
      refine ⟨_, zs.eraseIdx r.toNat, ws ++ [zs[r.toNat]], rfl, ?_, ?_, ?_, upd_same, ?_, ?_⟩
      · exact ((e3.trans e4).mut hlf).mut hfo0
      · exact (hT4.upd nlf nlf2).upd nfo nfo2
      · rw [upd_ne nff]; exact upd_same
      · rw [List.length_eraseIdx_of_lt hr']; omega
      · refine List.Perm.trans ?_ hp
        rw [List.append_assoc]
        refine List.Perm.append_left ws ?_
        exact cons_erase hr'
    · rintro σ H3 ⟨v, zs, ws, rfl, e3, hT3, h1, h2, hn, hp⟩
      have z0 : zs = [] := List.eq_nil_of_length_eq_zero (by omega)
      subst z0
      rw [List.append_nil] at hp
      exact ⟨_, rfl, k fo ws H3 e3 hT3 hfo0 h2 hp⟩
end
open PySem PySem.Spec L2
theorem onb {c : Prop} [Decidable c] {A B : Prop} (h1 : c → A) (h2 : ¬ c → B) : if decide c = true then A else B := on_if (A := fun _ => A) (B := fun _ => B) (H := fun _ => none) h1 h2
theorem onbN {c : Prop} [Decidable c] {A B : Prop} (h1 : ¬ c → A) (h2 : c → B) : if (!decide c) = true then A else B := on_ifN (A := fun _ => A) (B := fun _ => B) (H := fun _ => none) h1 h2
def unI : V → Int
  | .int i => i
  | _ => 0
theorem ints_of : ∀ {ys : List V} {ns : List Int}, ys.Perm (ns.map V.int) → ys = (ys.map unI).map V.int ∧ (ys.map unI).Perm ns := by
  intro ys ns hp
  have h1 : ∀ y ∈ ys, V.int (unI y) = y := fun y hy => by
    obtain ⟨i, _, rfl⟩ := List.mem_map.mp (hp.mem_iff.mp hy)
    rfl
  refine ⟨?_, ?_⟩
  · rw [List.map_map]
    have : ys.map (V.int ∘ unI) = ys.map id := List.map_congr_left fun y hy => h1 y hy
    rw [this, List.map_id]
  · have h2 := hp.map unI
    rw [List.map_map] at h2
    have : ns.map (unI ∘ V.int) = ns.map id := List.map_congr_left fun y hy => rfl
    rw [this, List.map_id] at h2
    exact h2
/-- names: the numbers below n in some order -/
structure Names (n : Int) (ns : List Int) : Prop where
  len : (ns.length : Int) = n
  nd : ns.Nodup
  ok : ∀ x ∈ ns, 0 ≤ x ∧ x < n
theorem names_of {n : Int} {ns : List Int} (h0 : 0 ≤ n) (h : ns.Perm ((List.range (n - 0).toNat).map fun i => (0 : Int) + (i : Nat))) : Names n ns := by
  refine ⟨?_, ?_, fun x hx => ?_⟩
  · have := h.length_eq
    rw [List.length_map, List.length_range] at this
    omega
  · refine h.nodup_iff.mpr ?_
    refine List.pairwise_map.mpr (List.nodup_range.imp fun {a b} h e => h (by omega))
  · obtain ⟨i, hi, rfl⟩ := List.mem_map.mp (h.mem_iff.mp hx)
    have := List.mem_range.mp hi
    omega
theorem Names.at_ {n : Int} {ns : List Int} (N : Names n ns) {i : Nat} (h : (i : Int) < n) : ns[i]? = some (ns.getD i 0) ∧ 0 ≤ ns.getD i 0 ∧ ns.getD i 0 < n := by
  have hi : i < ns.length := by have := N.len; omega
  have e : ns[i]? = some ns[i] := List.getElem?_eq_getElem hi
  have e2 : ns.getD i 0 = ns[i] := by rw [List.getD_eq_getElem?_getD, e]; rfl
  rw [e2]
  exact ⟨e, N.ok _ (List.getElem_mem hi)⟩
theorem Names.inj {n : Int} {ns : List Int} (N : Names n ns) {i j : Nat} (hi : (i : Int) < n) (hj : (j : Int) < n) (e : ns.getD i 0 = ns.getD j 0) : i = j := by
  have h1 := (N.at_ hi).1
  have h2 := (N.at_ hj).1
  rw [e] at h1
  obtain ⟨a1, b1⟩ := List.getElem?_eq_some_iff.mp h1
  obtain ⟨a2, b2⟩ := List.getElem?_eq_some_iff.mp h2
  exact (List.getElem_inj N.nd).mp (b1.trans b2.symm)
theorem norm_eq {a b c d : Int} (hab : a ≠ b) (hcd : c ≠ d) (h : norm a b = norm c d) : (a = c ∧ b = d) ∨ (a = d ∧ b = c) := by
  unfold norm at h
  have h1 := congrArg Prod.fst h
  have h2 := congrArg Prod.snd h
  dsimp only at h1 h2
  by_cases x : b < a
  · rw [if_pos x, if_neg (show ¬ b > a by omega)] at *
    by_cases y : d < c
    · rw [if_pos y, if_neg (show ¬ d > c by omega)] at *; omega
    · rw [if_neg y, if_pos (show d > c by omega)] at *; omega
  · rw [if_neg x, if_pos (show b > a by omega)] at *
    by_cases y : d < c
    · rw [if_pos y, if_neg (show ¬ d > c by omega)] at *; omega
    · rw [if_neg y, if_pos (show d > c by omega)] at *; omega
/-- the ties so far: of the pairs of numbers ahead of (i, j) -/
structure Ps (ns : List Int) (i j : Nat) (ps : List (Int × Int)) : Prop where
  nd : ps.Nodup
  of : ∀ p ∈ ps, ∃ a b : Nat, b < a ∧ (a < i ∨ (a = i ∧ b < j)) ∧ p = norm (ns.getD a 0) (ns.getD b 0)
theorem Ps.zero {ns : List Int} : Ps ns 0 0 [] := ⟨.nil, fun p h => by simp at h⟩
theorem Ps.next {ns : List Int} {i : Nat} {ps : List (Int × Int)} (h : Ps ns i i ps) : Ps ns (i + 1) 0 ps :=
  ⟨h.nd, fun p hp => let ⟨a, b, h1, h2, h3⟩ := h.of p hp; ⟨a, b, h1, by omega, h3⟩⟩
theorem Ps.skip {ns : List Int} {i j : Nat} {ps : List (Int × Int)} (h : Ps ns i j ps) : Ps ns i (j + 1) ps :=
  ⟨h.nd, fun p hp => let ⟨a, b, h1, h2, h3⟩ := h.of p hp; ⟨a, b, h1, by omega, h3⟩⟩
theorem Ps.put {n : Int} {ns : List Int} (N : Names n ns) {i j : Nat} {ps : List (Int × Int)} (hi : (i : Int) < n) (hj : j < i) (h : Ps ns i j ps) : Ps ns i (j + 1) (ps ++ [norm (ns.getD i 0) (ns.getD j 0)]) := by
  refine ⟨List.nodup_append.mpr ⟨h.nd, by simp, fun q hq r hr e => ?_⟩, fun p hp => ?_⟩
  · simp at hr
    subst hr; subst e
    obtain ⟨a, b, h1, h2, h3⟩ := h.of _ hq
    have ne1 : ns.getD i 0 ≠ ns.getD j 0 := fun e => by have := N.inj hi (by omega) e; omega
    have ne2 : ns.getD a 0 ≠ ns.getD b 0 := fun e => by have := N.inj (i := a) (j := b) (by omega) (by omega) e; omega
    rcases norm_eq ne1 ne2 h3 with ⟨e1, e2⟩ | ⟨e1, e2⟩
    · have := N.inj hi (by omega) e1
      have := N.inj (i := j) (j := b) (by omega) (by omega) e2
      omega
    · have := N.inj hi (by omega) e1
      have := N.inj (i := j) (j := a) (by omega) (by omega) e2
      omega
  · rcases List.mem_append.mp hp with hp | hp
    · obtain ⟨a, b, h1, h2, h3⟩ := h.of p hp
      exact ⟨a, b, h1, by omega, h3⟩
    · simp at hp
      exact ⟨i, j, hj, by omega, hp⟩
theorem Ps.good {n : Int} {ns : List Int} (N : Names n ns) {ps qs : List (Int × Int)} {k : Nat} (hk : (k : Int) = n) (h : Ps ns k 0 ps) (hp : qs.Perm ps) (hl : qs.Pairwise le2) : Good n qs := by
  refine good_of hp hl h.nd fun p hp' => ?_
  obtain ⟨a, b, h1, h2, rfl⟩ := h.of p hp'
  have ha := N.at_ (i := a) (by omega)
  have hb := N.at_ (i := b) (by omega)
  exact norm_in (fun e => by have := N.inj (i := a) (j := b) (by omega) (by omega) e; omega) ha.2.1 ha.2.2 hb.2.1 hb.2.2
section
variable {P : Program} {w : World} {K : PySem.W.Frag} {mg : Str → Option Value} {base : Heap} {C : Addr}
def sp_web : Sp := fun vs H Q _ => ∃ T L m, vs = [.ref T, .int m] ∧ Tp H T L ∧ 1 ≤ m ∧ m ≤ 24 ∧ ∀ p t n xs ps H', ExT T H H' → Tp H' T L → H p = none → H' p = some (.tup [.int n, .ref t]) → H t = none → H' t = some (.tup xs) → Pairs H' xs ps → 1 ≤ n → n ≤ m → Good n ps → Q (.ref p) H'
abbrev s__law_web : Stmt := (top 39)
theorem sc__law_web : FnScope ["tape", "most", "size", "style", "names", "found", "one", "other", "take"] ["tape", "most"] (defScope s__law_web) := ⟨rfl, rfl, rfl, by decide +kernel, rfl, by decide +kernel, by decide +kernel⟩

theorem ok_law_web {f : Addr} {fd : FuncData} (F : Fun K "_law_web" "_law_web" s__law_web f fd) (hm : mg "_law_web" = some (.ref f)) (B : Bl mg) (c__law_pick : Cal P w K mg base 1 "_law_pick" ["tape", "many"] spPick) (c__law_mixed : Cal P w K mg base 2 "_law_mixed" ["tape", "things"] sp_mixed) : Cal P w K mg base 3 "_law_web" ["tape", "most"] sp_web := by
  refine ⟨f, fd, F.ok sc__law_web (fun vs H Q E h => ?_) (fun cdv A outer s H vs Q E hr h => ?_), hm, F.kp, F.binds (ps := ["tape", "most"]) fun _ _ _ _ _ _ us hl => match us, hl with | [_, _], _ => rfl⟩
  · obtain ⟨T, L, m, rfl, _⟩ := h; rfl
  · obtain ⟨T, L, m, rfl, hT, m1, m2, k⟩ := h
    refine ⟨_, (pss_cons (ps_set (i := 2) sc__law_web.nd rfl (by first | exact Or.inl rfl | exact Or.inr rfl) (pe_op op_add pe_int (pe_cal c__law_pick (hr.mono (by first | decide | omega)) (pa_cons (pv 0) (pa_cons (pv 1) pa_nil)))))
 (pss_cons (ps_set (i := 3) sc__law_web.nd rfl (by first | exact Or.inl rfl | exact Or.inr rfl) (pe_cal c__law_pick (hr.mono (by first | decide | omega)) (pa_cons (pv 0) (pa_cons pe_int pa_nil))))
 (pss_cons (ps_set (i := 4) sc__law_web.nd rfl (by first | exact Or.inl rfl | exact Or.inr rfl) (pe_cal c__law_mixed (hr.mono (by first | decide | omega)) (pa_cons (pv 0) (pa_cons (pe_listRg (by rfl) (by rfl) B.list_ (prg_1 (by rfl) B.range (pv 2))) pa_nil))))
 (pss_cons (ps_set (i := 5) sc__law_web.nd rfl (by first | exact Or.inl rfl | exact Or.inr rfl) (pe_lst pa_nil))
 (pss_cons (ps_for PassesOwn.never rfl (pi_range1 (by rfl) B.range (pa_cons (pv 2) pa_nil)) (pg_name (i := 6) sc__law_web.nd rfl (by first | exact Or.inl rfl | exact Or.inr rfl))
  (pss_one (ps_for PassesOwn.never rfl (pi_range1 (by rfl) B.range (pa_cons (pv 6) pa_nil)) (pg_name (i := 7) sc__law_web.nd rfl (by first | exact Or.inl rfl | exact Or.inr rfl))
  (pss_cons (ps_set (i := 8) sc__law_web.nd rfl (by first | exact Or.inl rfl | exact Or.inr rfl) (pe_cmpR op_lt (pe_cal c__law_pick (hr.mono (by first | decide | omega)) (pa_cons (pv 0) (pa_cons pe_int pa_nil))) (pe_op op_sub (pv 3) pe_int) (nomark _)))
 (Evl.pss_cut (ps_if (pt_cmpR op_eq (pv 3) pe_int (nomark _)) (pss_one (ps_set (i := 8) sc__law_web.nd rfl (by first | exact Or.inl rfl | exact Or.inr rfl) (pe_or (pe_cmpR op_eq (pe_op op_add (pv 7) pe_int) (pv 6) (nomark _)) (pe_one (pe_and (pe_cmpR op_eq (pv 7) pe_int (nomark _)) (pe_one (pe_cmpR op_eq (pv 6) (pe_op op_sub (pv 2) pe_int) (nomark _)))))))) pss_nil)
 (Evl.pss_cut (ps_if (pt_cmpR op_eq (pv 3) pe_int (nomark _)) (pss_one (ps_set (i := 8) sc__law_web.nd rfl (by first | exact Or.inl rfl | exact Or.inr rfl) (pe_cmpR op_eq (pe_callTy call_int1 (by rfl) B.int_ (by decide +kernel) (pa_cons (pe_op op_fdivN (pv 6) pe_int) pa_nil)) (pe_callTy call_int1 (by rfl) B.int_ (by decide +kernel) (pa_cons (pe_op op_fdivN (pv 7) pe_int) pa_nil)) (nomark _)))) pss_nil)
 (Evl.pss_cut (ps_if (pt_cmpR op_eq (pv 3) pe_int (nomark _)) (pss_one (ps_set (i := 8) sc__law_web.nd rfl (by first | exact Or.inl rfl | exact Or.inr rfl) (pe_and (pe_cmpR op_ne (pe_op op_modN (pe_callTy call_int1 (by rfl) B.int_ (by decide +kernel) (pa_cons (pv 6) pa_nil)) pe_int) (pe_op op_modN (pe_callTy call_int1 (by rfl) B.int_ (by decide +kernel) (pa_cons (pv 7) pa_nil)) pe_int) (nomark _)) (pe_one (pe_cmpR op_gt (pe_cal c__law_pick (hr.mono (by first | decide | omega)) (pa_cons (pv 0) (pa_cons pe_int pa_nil))) pe_int (nomark _)))))) pss_nil)
 (pss_one (ps_if (pt_val (pv 8)) (pss_one (ps_expr (pe_bm PySem.F.plainAttrs_list PySem.F.slot_list_append PySem.F.type_list_append mt_append (pv 5) (pa_cons (pe_tup (pa_cons (pe_callB (call_min2 rfl) (by rfl) B.min (by decide +kernel) (pa_cons (pe_ix ix_list (pv 4) (pv 6) (fun _ _ => rfl)) (pa_cons (pe_ix ix_list (pv 4) (pv 7) (fun _ _ => rfl)) pa_nil))) (pa_cons (pe_callB (call_max2 rfl) (by rfl) B.max (by decide +kernel) (pa_cons (pe_ix ix_list (pv 4) (pv 6) (fun _ _ => rfl)) (pa_cons (pe_ix ix_list (pv 4) (pv 7) (fun _ _ => rfl)) pa_nil))) pa_nil))) pa_nil)))) pss_nil)))))))))
 (pss_one (ps_ret (pe_tup (pa_cons (pv 2) (pa_cons (pe_callTy call_tuple_of (by rfl) B.tuple_ (by decide +kernel) (pa_cons (pe_callB cr_sortedPO (by rfl) B.sorted (by decide +kernel) (pa_cons (pv 5) pa_nil)) pa_nil)) pa_nil)))))))))), ?_⟩
    refine ⟨_, rfl, _, rfl, T, L, m, rfl, by omega, by omega, hT, fun r H1 r0 r1 e1 hT1 => ?_⟩
    refine ⟨_, _, rfl, rfl, ?_⟩
    have s1 : 1 ≤ 1 + r := by omega
    have s2 : 1 + r ≤ m := by omega
    dsimp only
    generalize 1 + r = n at s1 s2 ⊢
    refine ⟨_, rfl, T, L, 7, rfl, by decide, by decide, hT1, fun st H2 _ _ e2 hT2 => ?_⟩
    have e12 := e1.trans e2
    refine ⟨_, rfl, _, rfl, n, rfl, RgOk.of_le (by decide) (by omega) (by decide) (by omega), fun q hq => ?_⟩
    have e13 := e12.new (o := .lst (rgV 0 n)) hq
    have hT3 := hT2.ext (L2.Same.new (o := .lst (rgV 0 n)) hq)
    refine ⟨T, L, q, _, rfl, hT3, upd_same, hT2.neT hq, (by rw [rgV_length]; omega), fun nm ys H4 e4 hT4 nnm hnm hperm => ?_⟩
    have hperm2 : ys.Perm (((List.range (n - 0).toNat).map fun i => (0 : Int) + (i : Nat)).map V.int) := by
      rw [List.map_map]; exact hperm
    obtain ⟨ey, hns⟩ := ints_of hperm2
    generalize ys.map unI = ns at ey hns
    subst ey
    have N : Names n ns := names_of (by omega) hns
    have e14 := e13.trans e4
    have hqT := hT2.neT hq
    have nmT : nm ≠ T := hT3.neT nnm
    have nnm0 : H nm = none := ExT.free e13 nmT nnm
    refine ⟨Nat.zero_le _, fun fo hfo => ?_⟩
    have foT := hT4.neT hfo
    have foL := hT4.neL hfo
    have hfo0 : H fo = none := ExT.free e14 foT hfo
    have fnm : fo ≠ nm := fun q => by rw [q, hnm] at hfo; cases hfo
    refine ⟨_, rfl, _, rfl, by omega, by omega, for_range (lo := 0) (n := n.toNat) (fun i σ H' => ∃ (v6 v7 v8 : Option V) (ys : List V) (ps : List (Int × Int)), σ = [some (.ref T), some (.int m), some (.int n), some (.int st), some (.ref nm), some (.ref fo), v6, v7, v8] ∧ ExT T H H' ∧ Tp H' T L ∧ H' nm = some (.lst (ns.map V.int)) ∧ H' fo = some (.lst ys) ∧ Pairs H' ys ps ∧ Ps ns i 0 ps ∧ ys.length ≤ 100 * i)
      ⟨none, none, none, [], [], rfl, e14.new hfo, hT4.ext (L2.Same.new hfo), by rw [upd_ne fnm.symm]; exact hnm, upd_same, .nil, .zero, by simp⟩ ?_ ?_⟩
    · rintro i σ H5 hi ⟨v6, v7, v8, ys, ps, rfl, e5, hT5, hnm5, hfo5, hp5, P5, l5⟩
      have hin : (i : Int) < n := by omega
      refine ⟨_, rfl, _, rfl, by omega, by omega, for_range (lo := 0) (n := ((0 : Int) + (i : Nat)).toNat) (fun j σ H' => ∃ (v7 v8 : Option V) (ys : List V) (ps : List (Int × Int)), σ = [some (.ref T), some (.int m), some (.int n), some (.int st), some (.ref nm), some (.ref fo), some (.int (0 + (i : Nat))), v7, v8] ∧ ExT T H H' ∧ Tp H' T L ∧ H' nm = some (.lst (ns.map V.int)) ∧ H' fo = some (.lst ys) ∧ Pairs H' ys ps ∧ Ps ns i j ps ∧ ys.length ≤ 100 * i + j)
        ⟨v7, v8, ys, ps, rfl, e5, hT5, hnm5, hfo5, hp5, P5, l5⟩ ?_ ?_⟩
      · rintro j σ H6 hj ⟨v7, v8, ys, ps, rfl, e6, hT6, hnm6, hfo6, hp6, P6, l6⟩
        have hji : j < i := by omega
        refine ⟨_, rfl, T, L, 6, rfl, by decide, by decide, hT6, fun r H7 _ _ e7 hT7 => ?_⟩
        refine ⟨_, rfl, _, _, rfl, rfl, _, _, rfl, rfl, ?_⟩
        have t7 := hT6.tk e7
        have X7 : ExT T H H7 ∧ Tp H7 T L ∧ H7 nm = some (.lst (ns.map V.int)) ∧ H7 fo = some (.lst ys) ∧ Pairs H7 ys ps := ⟨e6.trans e7, hT7, e7 _ _ nmT hnm6, e7 _ _ foT hfo6, hp6.tk t7⟩
        dsimp only
        generalize decide (r < st - 2) = b0
        -- if style == 0
        refine ⟨fun σ' H' => ∃ b, σ' = [some (.ref T), some (.int m), some (.int n), some (.int st), some (.ref nm), some (.ref fo), some (.int (0 + (i : Nat))), some (.int (0 + (j : Nat))), some (.bl b)] ∧ ExT T H H' ∧ Tp H' T L ∧ H' nm = some (.lst (ns.map V.int)) ∧ H' fo = some (.lst ys) ∧ Pairs H' ys ps, ?_, ?_⟩
        · refine ⟨_, rfl, rfl, _, rfl, on_if (fun _ => ?_) (fun _ => ⟨b0, rfl, X7⟩)⟩
          refine ⟨_, rfl, _, _, rfl, rfl, _, rfl, rfl, _, rfl, onb (fun _ => ⟨_, rfl, X7⟩) (fun _ => ?_)⟩
          refine ⟨_, rfl, rfl, _, rfl, onb (fun _ => ?_) (fun _ => ⟨_, rfl, X7⟩)⟩
          exact ⟨_, rfl, _, rfl, _, _, rfl, rfl, rfl, _, rfl, X7⟩
        rintro σ' H8 ⟨b1, rfl, X8⟩
        -- if style == 1
        refine ⟨fun σ' H' => ∃ b, σ' = [some (.ref T), some (.int m), some (.int n), some (.int st), some (.ref nm), some (.ref fo), some (.int (0 + (i : Nat))), some (.int (0 + (j : Nat))), some (.bl b)] ∧ ExT T H H' ∧ Tp H' T L ∧ H' nm = some (.lst (ns.map V.int)) ∧ H' fo = some (.lst ys) ∧ Pairs H' ys ps, ?_, ?_⟩
        · refine ⟨_, rfl, rfl, _, rfl, on_if (fun _ => ?_) (fun _ => ⟨b1, rfl, X8⟩)⟩
          refine ⟨_, rfl, _, _, rfl, rfl, ⟨by decide, by decide⟩, .inl ⟨_, rfl, ?_⟩⟩
          refine ⟨_, rfl, _, _, rfl, rfl, ⟨by decide, by decide⟩, .inl ⟨_, rfl, rfl, _, rfl, X8⟩⟩
        rintro σ' H9 ⟨b2, rfl, X9⟩
        -- if style == 2
        refine ⟨fun σ' H' => ∃ b, σ' = [some (.ref T), some (.int m), some (.int n), some (.int st), some (.ref nm), some (.ref fo), some (.int (0 + (i : Nat))), some (.int (0 + (j : Nat))), some (.bl b)] ∧ ExT T H H' ∧ Tp H' T L ∧ H' nm = some (.lst (ns.map V.int)) ∧ H' fo = some (.lst ys) ∧ Pairs H' ys ps, ?_, ?_⟩
        · refine ⟨_, rfl, rfl, _, rfl, on_if (fun _ => ?_) (fun _ => ⟨b2, rfl, X9⟩)⟩
          refine ⟨_, rfl, .inl ⟨_, rfl, _, _, rfl, rfl, (by show (2 : Int) ≠ 0; decide), ?_⟩⟩
          refine ⟨_, rfl, .inl ⟨_, rfl, _, _, rfl, rfl, (by show (2 : Int) ≠ 0; decide), rfl, _, rfl, onbN (fun _ => ?_) (fun _ => ⟨_, rfl, X9⟩)⟩⟩
          obtain ⟨a1, a2, a3, a4, a5⟩ := X9
          refine ⟨_, rfl, T, L, 3, rfl, by decide, by decide, a2, fun r3 H10 _ _ e10 hT10 => ?_⟩
          exact ⟨_, _, rfl, rfl, _, rfl, a1.trans e10, hT10, e10 _ _ nmT a3, e10 _ _ foT a4, a5.tk (a2.tk e10)⟩
        rintro σ' H11 ⟨b3, rfl, a1, a2, a3, a4, a5⟩
        have hi' := N.at_ (i := i) hin
        have hj' := N.at_ (i := j) (by omega)
        have ix : ∀ c : Nat, (c : Int) < n → atI (ns.map V.int) (0 + (c : Int)) = some (.int (ns.getD c 0)) := fun c hc => at_of (j := c) (by omega) (by rw [List.getElem?_map, (N.at_ hc).1]; rfl)
        have ixi := ix i hin
        have ixj := ix j (by omega)
        have hyl : ys.length < 100000 := by omega
        refine ⟨_, rfl, b3, rfl, ?_⟩
        cases b3 with
        | true =>
          refine iteT ?_
          refine ⟨_, rfl, .inl ⟨rfl, _, SqL.of a4⟩, ?_⟩
          refine ⟨_, rfl, _, rfl, nm, _, _, _, rfl, rfl, SqL.of a3, ixi, _, rfl, _, rfl, nm, _, _, _, rfl, rfl, SqL.of a3, ixj, _, _, rfl, ?_⟩
          refine ⟨_, rfl, _, rfl, nm, _, _, _, rfl, rfl, SqL.of a3, ixi, _, rfl, _, rfl, nm, _, _, _, rfl, rfl, SqL.of a3, ixj, _, _, rfl, ?_⟩
          refine ⟨(by show 2 ≤ sizeLine; decide), fun c hc => ?_⟩
          have ec := L2.Same.new (o := .tup [.int (if ns.getD j 0 < ns.getD i 0 then ns.getD j 0 else ns.getD i 0), .int (if ns.getD j 0 > ns.getD i 0 then ns.getD j 0 else ns.getD i 0)]) hc
          refine ⟨fo, ys, _, rfl, rfl, ec _ _ a4, Nat.lt_of_lt_of_le hyl (by decide), ?_⟩
          have cf : c ≠ fo := fun q => by rw [q, a4] at hc; cases hc
          refine ⟨_, _, ys ++ [.ref c], ps ++ [norm (ns.getD i 0) (ns.getD j 0)], rfl, ?_, ?_, ?_, upd_same, ?_, P6.put N hin hji, ?_⟩
          · exact (a1.trans ec.exT).mut hfo0
          · exact (a2.ext ec).upd foT foL
          · rw [upd_ne fnm.symm]; exact ec _ _ a3
          · refine Paired.app ((a5.tk ec.tk).tk (tk_lst (ec _ _ a4))) (.cons ⟨c, rfl, ?_⟩ .nil)
            rw [upd_ne cf]; exact upd_same
          · rw [List.length_append, List.length_singleton]; omega
        | false => exact iteF ⟨_, _, ys, ps, rfl, a1, a2, a3, a4, a5, P6.skip, by omega⟩
      · rintro σ H6 ⟨v7, v8, ys, ps, rfl, e6, hT6, hnm6, hfo6, hp6, P6, l6⟩
        have ei : ((0 : Int) + (i : Nat)).toNat = i := by omega
        rw [ei] at P6 l6
        exact ⟨_, _, _, ys, ps, rfl, e6, hT6, hnm6, hfo6, hp6, P6.next, by omega⟩
    · rintro σ H5 ⟨v6, v7, v8, ys, ps, rfl, e5, hT5, hnm5, hfo5, hp5, P5, l5⟩
      refine ⟨_, rfl, _, rfl, fo, ys, pairOf H5, rfl, SqL.of hfo5, pairs_mem hp5, fun zs q s1' s2' hq => ?_⟩
      obtain ⟨qs, hz, hperm', hle⟩ := sorted_post hp5 s1' s2'
      have eq := L2.Same.new (o := .lst zs) hq
      refine ⟨q, _, rfl, .inl ⟨SqL.of upd_same, fun t ht => ?_⟩⟩
      have et := eq.new' (o := .tup zs) ht
      refine ⟨(by show 2 ≤ sizeLine; decide), fun z hz' => ?_⟩
      have ez := et.new' (o := .tup [.int n, .ref t]) hz'
      have ht5 : H5 t = none := L2.Same.free eq ht
      have hz5 : H5 z = none := L2.Same.free et hz'
      exact k z t n zs qs _ (e5.trans ez.exT) (hT5.ext ez) (ExT.free e5 (hT5.neT hz5) hz5) upd_same (ExT.free e5 (hT5.neT ht5) ht5) ((L2.Same.new hz') _ _ upd_same) (hz.tk ez.tk) s1 s2 (P5.good N (by omega) hperm' hle)
end
open PySem PySem.Spec L2
theorem units65 {k : Nat} {A : Around} (r : Room k A) : A.units + 65 < cLine := by have := r.un; omega
def tIfC (t : TT) (x y : V) : TE := fun σ H Q => t σ H fun c H1 => Q (if c = true then x else y) H1
theorem pe_ifC {X : Cx} {c a b : Expr} {pos : Pos} {t : TT} {x y : V} (hc : PT X c t) (ha : PE X a (tC x)) (hb : PE X b (tC y)) : PE X (.IfExp c a b pos) (tIfC t x y) := by
  have h := pe_ifExp (pos := pos) hc ha hb
  have e : tIf t (tC x) (tC y) = tIfC t x y := by
    funext σ H Q
    show t σ H (fun c H1 => if c = true then Q x H1 else Q y H1) = t σ H (fun c H1 => Q (if c = true then x else y) H1)
    have : (fun (c : Bool) (H1 : Hp) => if c = true then Q x H1 else Q y H1) = (fun c H1 => Q (if c = true then x else y) H1) := by
      funext c H1
      cases c <;> simp
    rw [this]
  rw [← e]
  exact h
/-- how many ties there can be -/
theorem up_len : ∀ {l : List Int} {lo hi : Int}, l.Pairwise (· < ·) → (∀ x ∈ l, lo ≤ x ∧ x < hi) → (l.length : Int) ≤ hi - lo ∨ l = []
  | [], _, _, _, _ => .inr rfl
  | x :: l, lo, hi, h, hb => by
    obtain ⟨h1, h2⟩ := List.pairwise_cons.mp h
    have hx := hb x (by simp)
    rcases up_len (lo := x + 1) (hi := hi) h2 (fun y hy => ⟨by have := h1 y hy; omega, (hb y (by simp [hy])).2⟩) with ih | ih
    · left; rw [List.length_cons]; omega
    · subst ih; left; simp; omega
theorem Good.len {n : Int} {ps : List (Int × Int)} (G : Good n ps) (hn : n ≤ 24) : ps.length ≤ 1000 := by
  have h1 : (ps.map fun p => 24 * p.1 + p.2).Pairwise (· < ·) := by
    refine List.pairwise_map.mpr ?_
    have : ps.Pairwise fun p q => lt2 p q ∧ (p ∈ ps ∧ q ∈ ps) := List.Pairwise.imp_of_mem (fun {p q} hp hq h => ⟨h, hp, hq⟩) G.up
    refine this.imp fun {p q} ⟨h, hp, hq⟩ => ?_
    have a := G.ok p hp
    have b := G.ok q hq
    unfold lt2 at h
    omega
  rcases up_len (lo := 0) (hi := 1000) h1 (fun x hx => by
    obtain ⟨p, hp, rfl⟩ := List.mem_map.mp hx
    have a := G.ok p hp
    omega) with h | h
  · rw [List.length_map] at h; omega
  · have := congrArg List.length h
    rw [List.length_map] at this
    simp at this
    simp [this]
theorem norm_comm {a b : Int} (h : a ≠ b) : norm a b = norm b a := by
  unfold norm
  by_cases h1 : b < a
  · rw [if_pos h1, if_neg (by omega), if_neg (by omega), if_pos (by omega)]
  · rw [if_neg h1, if_pos (by omega), if_pos (by omega), if_neg (by omega)]
theorem inV_ints (k : Int) : ∀ l : List Int, inV (.int k) (l.map V.int) = decide (k ∈ l)
  | [] => by simp [inV]
  | a :: l => by
    have ih := inV_ints k l
    unfold inV at ih ⊢
    rw [List.map_cons, List.any_cons, ih]
    by_cases h1 : a = k
    · subst h1; simp [eqV]
    · have : ¬ k = a := fun e => h1 e.symm
      by_cases h2 : k ∈ l <;> simp [eqV, h1, this, h2]
theorem any_pairs (p : Int × Int) : ∀ l : List (Int × Int), ((l.map pD).any fun z => PyData.eqv z (pD p)) = decide (p ∈ l)
  | [] => by simp
  | a :: l => by
    rw [List.map_cons, List.any_cons, any_pairs p l, pD_eqv]
    by_cases h1 : a = p
    · subst h1; simp
    · have : ¬ p = a := fun e => h1 e.symm
      by_cases h2 : p ∈ l <;> simp [h1, this, h2]
theorem flat_ints : ∀ l : List Int, (l.map V.int).all flatV = true
  | [] => rfl
  | a :: l => by rw [List.map_cons, List.all_cons, flat_ints l]; rfl
/-- another part, some parts on -/
theorem other_ne {o r n : Int} (h1 : 0 ≤ o) (h2 : o < n) (h3 : 0 ≤ r) (h4 : r < n - 1) : 0 ≤ (o + 1 + r).fmod n ∧ (o + 1 + r).fmod n < n ∧ o ≠ (o + 1 + r).fmod n := by
  rw [Int.fmod_eq_emod_of_nonneg _ (by omega)]
  by_cases h : o + 1 + r < n
  · rw [Int.emod_eq_of_lt (by omega) h]; omega
  · have e : (o + 1 + r) % n = (o + 1 + r - n) % n := by
      have := Int.sub_emod_right (o + 1 + r) n
      exact this.symm
    rw [e, Int.emod_eq_of_lt (by omega) (by omega)]; omega
section
variable {P : Program} {w : World} {K : PySem.W.Frag} {mg : Str → Option Value} {base : Heap} {C : Addr}
theorem same_ties {H : Hp} {t u : Addr} {xs ys : List V} {ps : List (Int × Int)} (ht : H t = some (.tup xs)) (hp : Pairs H xs ps) (hu : H u = some (.tup ys)) (hq : Pairs H ys ps) (hl : ps.length ≤ 100000) : SameV 2 H (.ref t) (.ref u) :=
  .inr ⟨t, u, xs, ys, rfl, rfl, .inl ⟨ht, hu⟩, by rw [Paired.len hp]; exact hl, same_pairs (k := 0) hp hq⟩
/-- (size, ties) twice -/
theorem same_web {H : Hp} {p q t u : Addr} {n : Int} {xs ys : List V} {ps : List (Int × Int)} (hp' : H p = some (.tup [.int n, .ref t])) (hq' : H q = some (.tup [.int n, .ref u])) (ht : H t = some (.tup xs)) (hp : Pairs H xs ps) (hu : H u = some (.tup ys)) (hq : Pairs H ys ps) (hl : ps.length ≤ 100000) : SameV 3 H (.ref p) (.ref q) :=
  .inr ⟨p, q, _, _, rfl, rfl, .inl ⟨hp', hq'⟩, (by show 2 ≤ 100000; decide), .cons (same_int _ _ _) (.cons (same_ties ht hp hu hq hl) .nil)⟩
theorem same_lots {H : Hp} {p q : Addr} {l : List Int} (hp : H p = some (.tup (l.map V.int))) (hq : H q = some (.tup (l.map V.int))) (hl : l.length ≤ 100000) : SameV 3 H (.ref p) (.ref q) :=
  .inl (.inl (.inr ⟨p, q, _, _, rfl, rfl, .inl ⟨hp, hq⟩, by rw [List.length_map]; exact hl, paired_ints l⟩))
end
open PySem PySem.Spec L2
/-! ## lots -/
structure Lot (n : Int) (l : List Int) : Prop where
  up : l.Pairwise (· < ·)
  ok : ∀ x ∈ l, 0 ≤ x ∧ x < n
theorem lot_len {n : Int} {l : List Int} (h : Lot n l) (h0 : 0 ≤ n) : (l.length : Int) ≤ n := by
  have key : ∀ {l : List Int} {lo hi : Int}, l.Pairwise (· < ·) → (∀ x ∈ l, lo ≤ x ∧ x < hi) → lo ≤ hi → (l.length : Int) ≤ hi - lo := by
    intro l
    induction l with
    | nil => intro lo hi _ _ h; simp; omega
    | cons x l ih =>
      intro lo hi h hb hle
      obtain ⟨h1, h2⟩ := List.pairwise_cons.mp h
      have hx := hb x (by simp)
      have := ih (lo := x + 1) (hi := hi) h2 (fun y hy => ⟨by have := h1 y hy; omega, (hb y (by simp [hy])).2⟩) (by omega)
      rw [List.length_cons]; omega
  have := key h.up h.ok h0
  omega
theorem ups_ext : ∀ {ps qs : List Int}, ps.Pairwise (· < ·) → qs.Pairwise (· < ·) → (∀ p, p ∈ ps ↔ p ∈ qs) → ps = qs
  | [], [], _, _, _ => rfl
  | [], q :: qs, _, _, h => by have := (h q).mpr (by simp); simp at this
  | p :: ps, [], _, _, h => by have := (h p).mp (by simp); simp at this
  | p :: ps, q :: qs, hp, hq, h => by
    obtain ⟨p1, p2⟩ := List.pairwise_cons.mp hp
    obtain ⟨q1, q2⟩ := List.pairwise_cons.mp hq
    have e : p = q := by
      rcases List.mem_cons.mp ((h p).mp (by simp)) with e | e
      · exact e
      · rcases List.mem_cons.mp ((h q).mpr (by simp)) with e' | e'
        · exact e'.symm
        · have := q1 p e; have := p1 q e'; omega
    subst e
    have : ps = qs := ups_ext p2 q2 fun r => by
      constructor
      · intro hr
        rcases List.mem_cons.mp ((h r).mp (by simp [hr])) with e | e
        · subst e; have := p1 r hr; omega
        · exact e
      · intro hr
        rcases List.mem_cons.mp ((h r).mpr (by simp [hr])) with e | e
        · subst e; have := q1 r hr; omega
        · exact e
    rw [this]
/-- a lot's bits -/
def IsLot (l : List Int) (b : Nat) : Prop := (∀ x ∈ l, 0 ≤ x) ∧ l.Pairwise (· < ·) ∧ ∀ k : Nat, (k : Int) ∈ l ↔ b.testBit k = true
def bitsN (l : List Int) : Nat := l.foldl (fun b p => b ||| 2 ^ p.toNat) 0
theorem bitsN_snoc (l : List Int) (p : Int) : bitsN (l ++ [p]) = bitsN l ||| 2 ^ p.toNat := by
  unfold bitsN
  rw [List.foldl_append]
  rfl
theorem bits_fold : ∀ (l : List Int) (b : Nat) (k : Nat), (∀ x ∈ l, 0 ≤ x) → (l.foldl (fun b p => b ||| 2 ^ p.toNat) b).testBit k = (b.testBit k || decide ((k : Int) ∈ l))
  | [], b, k, _ => by simp
  | p :: l, b, k, h => by
    rw [List.foldl_cons, bits_fold l _ k (fun x hx => h x (by simp [hx])), Nat.testBit_or, Nat.testBit_two_pow]
    have h0 := h p (by simp)
    by_cases c : p.toNat = k
    · have : (k : Int) = p := by omega
      simp [c, this]
    · have : ¬ (k : Int) = p := by omega
      simp [c, this]
theorem bitsN_bit {l : List Int} (h : ∀ x ∈ l, 0 ≤ x) (k : Nat) : (bitsN l).testBit k = decide ((k : Int) ∈ l) := by
  unfold bitsN
  rw [bits_fold l 0 k h]
  simp
theorem isLot_bits {n : Int} {l : List Int} (h : Lot n l) : IsLot l (bitsN l) :=
  ⟨fun x hx => (h.ok x hx).1, h.up, fun k => by rw [bitsN_bit fun x hx => (h.ok x hx).1]; simp⟩
theorem take_snoc {α : Type} {l : List α} {i : Nat} {x : α} (h : l[i]? = some x) : l.take (i + 1) = l.take i ++ [x] := by
  rw [List.take_succ, h]; rfl
theorem map_get {l : List Int} {i : Nat} {v : V} (h : (l.map V.int)[i]? = some v) : ∃ x, l[i]? = some x ∧ v = .int x := by
  rw [List.getElem?_map] at h
  cases e : l[i]? with
  | none => rw [e] at h; cases h
  | some x => rw [e] at h; exact ⟨x, rfl, (Option.some.inj h).symm⟩
theorem p2 (k : Nat) : (1 : Int) * 2 ^ ((k : Int)).toNat = ((2 ^ k : Nat) : Int) := by
  rw [Int.toNat_natCast, Int.one_mul, Int.natCast_pow]; rfl
theorem p2i {p : Int} (h : 0 ≤ p) : (1 : Int) * 2 ^ p.toNat = ((2 ^ p.toNat : Nat) : Int) := by
  rw [Int.one_mul, Int.natCast_pow]; rfl
section
variable {P : Program} {w : World} {K : PySem.W.Frag} {mg : Str → Option Value} {base : Heap} {C : Addr}
def sp_lot_of : Sp := fun vs H Q _ => ∃ b : Nat, vs = [.int (b : Int)] ∧ b < 2 ^ 200 ∧ ∀ p l H', Same H H' → H p = none → H' p = some (.tup (l.map V.int)) → IsLot l b → Q (.ref p) H'
abbrev s_lot_of : Stmt := (top 8)
theorem sc_lot_of : FnScope ["bits", "lot", "low"] ["bits"] (defScope s_lot_of) := ⟨rfl, rfl, rfl, by decide +kernel, rfl, by decide +kernel, by decide +kernel⟩

theorem ok_lot_of {f : Addr} {fd : FuncData} (F : Fun K "lot_of" "lot_of" s_lot_of f fd) (hm : mg "lot_of" = some (.ref f)) (B : Bl mg) : Cal P w K mg base 1 "lot_of" ["bits"] sp_lot_of := by
  refine ⟨f, fd, F.ok sc_lot_of (fun vs H Q E h => ?_) (fun cdv A outer s H vs Q E hr h => ?_), hm, F.kp, F.binds (ps := ["bits"]) fun _ _ _ _ _ _ us hl => match us, hl with | [_], _ => rfl⟩
  · obtain ⟨b, rfl, _⟩ := h; rfl
  · obtain ⟨b, rfl, hb, k⟩ := h
    refine ⟨_, (pss_cons (ps_set (i := 1) sc_lot_of.nd rfl (by first | exact Or.inl rfl | exact Or.inr rfl) (pe_lst pa_nil))
 (pss_cons (ps_while PassesOwn.never (pt_truth (pv 0) (by intro _; rfl)) (pss_cons (ps_set (i := 2) sc_lot_of.nd rfl (by first | exact Or.inl rfl | exact Or.inr rfl) (pe_op op_and (pv 0) (pe_un un_neg (pv 0))))
 (pss_cons (ps_expr (pe_bm PySem.F.plainAttrs_list PySem.F.slot_list_append PySem.F.type_list_append mt_append (pv 1) (pa_cons (pe_op op_sub (pe_bits (pv 2)) pe_int) pa_nil)))
 (pss_one (ps_aug (i := 0) sc_lot_of.nd rfl (by first | exact Or.inl rfl | exact Or.inr rfl) (pv 2) ip_xor)))))
 (pss_one (ps_ret (pe_callTy call_tuple_of (by rfl) B.tuple_ (by decide +kernel) (pa_cons (pv 1) pa_nil)))))), ?_⟩
    refine ⟨Nat.zero_le _, fun p hp => ?_⟩
    refine ⟨fun m σ H' => ∃ (c : Nat) (l : List Int) (v : Option V), σ = [some (.int (c : Int)), some (.ref p), v] ∧ c = m ∧ Same H H' ∧ H' p = some (.lst (l.map V.int)) ∧ (∀ x ∈ l, 0 ≤ x ∧ x < 200) ∧ l.Pairwise (· < ·) ∧ (∀ j : Nat, b.testBit j = (decide ((j : Int) ∈ l) || c.testBit j)) ∧ ∀ x ∈ l, ∀ j : Nat, c.testBit j = true → x < j,
      ⟨b, b, [], none, rfl, rfl, L2.Same.new hp, upd_same, by simp, .nil, by simp, by simp⟩, ?_⟩
    · rintro m σ H' ⟨c, l, v, rfl, rfl, e, hl, ok, up, hbit, hlt⟩
      refine ⟨_, rfl, (((c : Int)) != 0), rfl, ?_⟩
      by_cases c0 : c = 0
      · subst c0
        refine iteF ?_
        refine ⟨_, rfl, p, _, rfl, .inl ⟨SqL.of hl, fun q hq => ?_⟩⟩
        exact k q l _ (e.new' hq) (L2.Same.free e hq) upd_same ⟨fun x hx => (ok x hx).1, up, fun j => by rw [hbit j]; simp⟩
      · have hne : (((c : Int)) != 0) = true := by simp [c0]
        rw [hne]
        refine iteT ⟨_, fun σ' H' h => h, ?_⟩
        obtain ⟨kk, k1, k2⟩ := low_ex c0
        have hk : kk < 200 := by
          rcases Nat.lt_or_ge kk 200 with h | h
          · exact h
          · have h3 : b.testBit kk = true := by rw [hbit kk, k1]; simp
            rw [Nat.testBit_lt_two_pow (Nat.lt_of_lt_of_le hb (Nat.pow_le_pow_right (by decide) h))] at h3
            cases h3
        have hlow := low_is k1 k2
        refine ⟨_, rfl, _, rfl, c, rfl, c, -(c : Int), rfl, rfl, ?_⟩
        dsimp only
        rw [hlow]
        refine ⟨_, rfl, .inl ⟨rfl, _, SqL.of hl⟩, _, rfl, _, rfl, _, _, rfl, rfl, ?_⟩
        rw [bits_pow]
        have e1 : ((kk + 1 : Nat) : Int) - 1 = (kk : Int) := by omega
        dsimp only
        rw [e1]
        have hlen : l.length ≤ 1000 := by
          have := lot_len (n := 200) ⟨up, ok⟩ (by decide)
          omega
        refine ⟨p, _, _, rfl, rfl, hl, (by rw [List.length_map]; exact Nat.lt_of_le_of_lt hlen (by decide)), ?_⟩
        refine ⟨_, rfl, _, rfl, _, _, rfl, rfl, ?_⟩
        have e2 : ((2 : Int) ^ kk) = ((2 ^ kk : Nat) : Int) := by rw [Int.natCast_pow]; rfl
        dsimp only
        rw [e2, xor_pp, xor_low k1]
        refine ⟨clr c kk, clr_lt k1, clr c kk, l ++ [(kk : Int)], _, rfl, rfl, L2.Same.mut e hp, ?_, ?_, ?_, fun j => ?_, ?_⟩
        · rw [upd_same, List.map_append]; rfl
        · intro x hx
          rcases List.mem_append.mp hx with h | h
          · exact ok x h
          · simp at h; omega
        · refine List.pairwise_append.mpr ⟨up, by simp, fun x hx y hy => ?_⟩
          simp at hy
          subst hy
          exact hlt x hx kk k1
        · have hmm : decide ((j : Int) ∈ l ++ [(kk : Int)]) = (decide ((j : Int) ∈ l) || decide ((j : Int) = (kk : Int))) := by
            by_cases d : (j : Int) ∈ l <;> simp [d]
          rw [hbit j, clr_bit, hmm]
          by_cases c2 : j = kk
          · subst c2; simp [k1]
          · have : ¬ (j : Int) = (kk : Int) := by omega
            simp [c2, this]
        · intro x hx j hj
          rw [clr_bit] at hj
          simp at hj
          rcases List.mem_append.mp hx with h | h
          · exact hlt x h j hj.1
          · simp at h
            subst h
            have h3 : ¬ j < kk := fun h4 => by rw [k2 j h4] at hj; simp at hj
            omega
end
open PySem PySem.Spec L2
theorem dec_or {p a b : Prop} [Decidable p] [Decidable a] [Decidable b] (h : p ↔ a ∨ b) : decide p = (decide a || decide b) := by
  by_cases ha : a <;> by_cases hb : b <;> simp [h, ha, hb]
theorem dec_iff {p a : Prop} [Decidable p] [Decidable a] (h : p ↔ a) : decide p = decide a := by
  by_cases ha : a <;> simp [h, ha]
def nints (ts : List Nat) : List V := ts.map fun b : Nat => V.int (b : Int)
/-- the bits of what each part is tied to -/
structure Tied (n : Int) (ps : List (Int × Int)) (ts : List Nat) : Prop where
  len : (ts.length : Int) = n
  bit : ∀ i k : Nat, i < ts.length → (ts.getD i 0).testBit k = decide (norm (i : Int) (k : Int) ∈ ps)
theorem nints_get {ts : List Nat} {i : Nat} (h : i < ts.length) : (nints ts)[i]? = some (.int (ts.getD i 0 : Nat)) := by
  unfold nints
  rw [List.getElem?_map, List.getElem?_eq_getElem h, List.getD_eq_getElem?_getD, List.getElem?_eq_getElem h]
  rfl
theorem nints_len (ts : List Nat) : (nints ts).length = ts.length := List.length_map ..
theorem nints_set (ts : List Nat) (i b : Nat) : (nints ts).set i (.int (b : Int)) = nints (ts.set i b) := by
  unfold nints
  rw [List.map_set]
theorem getD_set (ts : List Nat) (i j b : Nat) (h : i < ts.length) : (ts.set i b).getD j 0 = if i = j then b else ts.getD j 0 := by
  rw [List.getD_eq_getElem?_getD, List.getD_eq_getElem?_getD, List.getElem?_set]
  by_cases c : i = j
  · subst c; simp [h]
  · simp [c]
theorem flat_rep (v : V) : ∀ n : Nat, (List.replicate n [v]).flatten = List.replicate n v
  | 0 => rfl
  | n + 1 => by rw [List.replicate_succ, List.flatten_cons, flat_rep v n]; rfl
theorem norm_pair {a b c d : Int} (hab : a < b) : norm c d = (a, b) ↔ (c = a ∧ d = b) ∨ (c = b ∧ d = a) := by
  unfold norm
  constructor
  · intro h
    have h1 := congrArg Prod.fst h
    have h2 := congrArg Prod.snd h
    dsimp only at h1 h2
    by_cases x : d < c
    · rw [if_pos x] at h1; rw [if_neg (show ¬ d > c by omega)] at h2; omega
    · rw [if_neg x] at h1
      by_cases y : d > c
      · rw [if_pos y] at h2; omega
      · rw [if_neg y] at h2; omega
  · rintro (⟨rfl, rfl⟩ | ⟨rfl, rfl⟩)
    · rw [if_neg (by omega), if_pos (by omega)]
    · rw [if_pos (by omega), if_neg (by omega)]
/-- what a part tells -/
def says (ps : List (Int × Int)) (l : List Int) (p : Int) : Bool := l.all fun q => !decide (norm p q ∈ ps)
theorem says_iff {ps : List (Int × Int)} {l : List Int} {p : Int} : says ps l p = true ↔ ∀ q ∈ l, norm p q ∉ ps := by
  unfold says
  rw [List.all_eq_true]
  constructor
  · intro h q hq; simpa using h q hq
  · intro h q hq; simpa using h q hq
/-- tied to none of the stand, by bits -/
theorem says_bits {n : Int} {ps : List (Int × Int)} {ts : List Nat} {l : List Int} {b : Nat} (T : Tied n ps ts) (hb : IsLot l b) {p : Int} (h0 : 0 ≤ p) (h1 : p < n) : decide ((ts.getD p.toNat 0 &&& b) = 0) = says ps l p := by
  have hlt : p.toNat < ts.length := by have := T.len; omega
  have hp : ((p.toNat : Nat) : Int) = p := Int.toNat_of_nonneg h0
  have bit : ∀ k : Nat, (ts.getD p.toNat 0 &&& b).testBit k = (decide (norm p (k : Int) ∈ ps) && decide ((k : Int) ∈ l)) := fun k => by
    rw [Nat.testBit_and, T.bit _ _ hlt, hp]
    have := hb.2.2 k
    cases hc : b.testBit k with
    | true => simp [this.mpr hc]
    | false =>
      have : ¬ (k : Int) ∈ l := fun h => by rw [this.mp h] at hc; cases hc
      simp [this]
  by_cases c : says ps l p = true
  · rw [c]
    refine decide_eq_true (Nat.eq_of_testBit_eq fun k => ?_)
    rw [bit]
    by_cases d : (k : Int) ∈ l
    · have := says_iff.mp c _ d; simp [this]
    · simp [d]
  · rw [eq_false_of_ne_true c]
    refine decide_eq_false fun e => c (says_iff.mpr fun q hq hm => ?_)
    have hq0 := hb.1 q hq
    have := bit q.toNat
    rw [e, Int.toNat_of_nonneg hq0] at this
    simp [hm, hq] at this
/-- the stand behind a call -/
def Behind (n : Int) (ps : List (Int × Int)) (l : List Int) (p : Int) (l' : List Int) : Prop :=
  Lot n l' ∧ ∀ x, x ∈ l' ↔ (if says ps l p = true then x ∈ l ∨ x = p else x ∈ l ∧ x ≠ p)
theorem Behind.uniq {n : Int} {ps : List (Int × Int)} {l l1 l2 : List Int} {p : Int} (h1 : Behind n ps l p l1) (h2 : Behind n ps l p l2) : l1 = l2 :=
  ups_ext h1.1.up h2.1.up fun x => by rw [h1.2, h2.2]
def behB (ps : List (Int × Int)) (l : List Int) (b : Nat) (p : Int) : Nat := if says ps l p = true then b ||| 2 ^ p.toNat else clr b p.toNat
theorem behind_bits {n : Int} {ps : List (Int × Int)} {l l' : List Int} {b : Nat} {p : Int} (hl : Lot n l) (hb : IsLot l b) (h0 : 0 ≤ p) (h1 : p < n) (h' : IsLot l' (behB ps l b p)) : Behind n ps l p l' := by
  have key : ∀ x, x ∈ l' ↔ (if says ps l p = true then x ∈ l ∨ x = p else x ∈ l ∧ x ≠ p) := fun x => by
    by_cases x0 : 0 ≤ x
    · have e : ((x.toNat : Nat) : Int) = x := Int.toNat_of_nonneg x0
      have h2 := h'.2.2 x.toNat
      have h3 := hb.2.2 x.toNat
      rw [e] at h2 h3
      rw [h2]
      unfold behB
      by_cases c : says ps l p = true
      · rw [if_pos c, if_pos c, Nat.testBit_or, Nat.testBit_two_pow, h3]
        have : p.toNat = x.toNat ↔ x = p := by omega
        simp [this]
      · rw [if_neg c, if_neg c, clr_bit, h3]
        have : x.toNat = p.toNat ↔ x = p := by omega
        simp [this]
    · have a1 : ¬ x ∈ l' := fun h => x0 (h'.1 x h)
      have a2 : ¬ x ∈ l := fun h => x0 (hb.1 x h)
      have a3 : ¬ x = p := fun h => x0 (h ▸ h0)
      by_cases c : says ps l p = true <;> simp [c, a1, a2, a3]
  refine ⟨⟨h'.2.1, fun x hx => ?_⟩, key⟩
  have h2 := (key x).mp hx
  by_cases c : says ps l p = true
  · rw [if_pos c] at h2
    rcases h2 with h2 | rfl
    · exact hl.ok x h2
    · exact ⟨h0, h1⟩
  · rw [if_neg c] at h2
    exact hl.ok x h2.1
theorem bits_small {n : Int} {l : List Int} (hl : Lot n l) (hn : n ≤ 200) : bitsN l < 2 ^ 200 := by
  apply Nat.lt_pow_two_of_testBit
  intro k hk
  rw [bitsN_bit fun x hx => (hl.ok x hx).1]
  refine decide_eq_false fun h => ?_
  have := hl.ok _ h
  omega
theorem behB_small {ps : List (Int × Int)} {l : List Int} {b : Nat} {p : Int} (hb : b < 2 ^ 200) (h0 : 0 ≤ p) (h1 : p < 200) : behB ps l b p < 2 ^ 200 := by
  unfold behB
  by_cases c : says ps l p = true
  · rw [if_pos c]
    exact Nat.or_lt_two_pow hb (Nat.pow_lt_pow_right (by decide) (by omega))
  · rw [if_neg c]
    unfold clr
    omega
section
variable {P : Program} {w : World} {K : PySem.W.Frag} {mg : Str → Option Value} {base : Heap} {C : Addr}
def sp_tied_bits (C : Addr) : Sp := fun vs H Q _ => ∃ x n u ps, vs = [.ref x] ∧ WebAt C H x n u ps ∧ Good n ps ∧ 1 ≤ n ∧ n ≤ 200 ∧ ∀ p ts H', Same H H' → H p = none → H' p = some (.lst (nints ts)) → Tied n ps ts → Q (.ref p) H'
abbrev s_tied_bits : Stmt := (top 10)
theorem sc_tied_bits : FnScope ["web", "tied", "a", "b"] ["web"] (defScope s_tied_bits) := ⟨rfl, rfl, rfl, by decide +kernel, rfl, by decide +kernel, by decide +kernel⟩

theorem ok_tied_bits {f : Addr} {fd : FuncData} (F : Fun K "tied_bits" "tied_bits" s_tied_bits f fd) (hm : mg "tied_bits" = some (.ref f)) (B : Bl mg) (T : Txt K mg C) : Cal P w K mg base 1 "tied_bits" ["web"] (sp_tied_bits C) := by
  refine ⟨f, fd, F.ok sc_tied_bits (fun vs H Q E h => ?_) (fun cdv A outer s H vs Q E hr h => ?_), hm, F.kp, F.binds (ps := ["web"]) fun _ _ _ _ _ _ us hl => match us, hl with | [_], _ => rfl⟩
  · obtain ⟨x, n, u, ps, rfl, _⟩ := h; rfl
  · obtain ⟨x, n, u, ps, rfl, W, G, n1, n2, k⟩ := h
    obtain ⟨⟨dx, fs, h1, h2, h3⟩, xs, h4, h5⟩ := id W
    refine ⟨_, (pss_cons (ps_set (i := 1) sc_tied_bits.nd rfl (by first | exact Or.inl rfl | exact Or.inr rfl) (pe_op op_rep (pe_lst (pa_cons pe_int pa_nil)) (pe_fld (pv 0) rfl)))
 (pss_cons (ps_for PassesOwn.never rfl (pi_tup (pe_fld (pv 0) rfl)) (pg_tup (by rfl) (pgs_cons (pg_name (i := 2) sc_tied_bits.nd rfl (by first | exact Or.inl rfl | exact Or.inr rfl)) (pgs_cons (pg_name (i := 3) sc_tied_bits.nd rfl (by first | exact Or.inl rfl | exact Or.inr rfl)) pgs_nil)))
  (pss_cons (ps_augS (pv 1) (pv 2) get_listP (pe_op op_shl pe_int (pv 3)) ip_or set_list)
 (pss_one (ps_augS (pv 1) (pv 3) get_listP (pe_op op_shl pe_int (pv 2)) ip_or set_list))))
 (pss_one (ps_ret (pv 1))))), ?_⟩
    refine ⟨(by show 1 ≤ sizeLine; decide), fun z hz => ?_⟩
    have e1 := L2.Same.new (o := .lst [.int 0]) hz
    refine ⟨_, rfl, x, C, dx, fs, _, rfl, e1 _ _ h1, T.cl, T.nSize, h2, z, n, _, rfl, rfl, upd_same, by omega, by omega, (by show 1 * n.toNat ≤ sizeLine; exact Nat.le_trans (show 1 * n.toNat ≤ 200 by omega) (by decide)), fun p hp => ?_⟩
    rw [flat_rep]
    have e2 := e1.new' (o := .lst (List.replicate n.toNat (V.int 0))) hp
    have e0 : List.replicate n.toNat (V.int 0) = nints (List.replicate n.toNat 0) := by unfold nints; rw [List.map_replicate]; rfl
    rw [e0] at e2 ⊢
    have hp0 := L2.Same.free e1 hp
    generalize hH2 : upd (upd H z (.lst [.int 0])) p (.lst (nints (List.replicate n.toNat 0))) = H2 at e2 ⊢
    have hp2 : H2 p = some (.lst (nints (List.replicate n.toNat 0))) := by rw [← hH2]; exact upd_same
    refine ⟨_, rfl, x, C, dx, fs, _, rfl, e2 _ _ h1, T.cl, T.nTies, h3, u, rfl, ⟨_, SqT.of (e2 _ _ h4)⟩, for_tup (K := K) (a := u) (xs := xs) (fun i σ H' => Same H H' ∧ ∃ (ts : List Nat) (v1 v2 : Option V), σ = [some (.ref x), some (.ref p), v1, v2] ∧ H' p = some (.lst (nints ts)) ∧ (ts.length : Int) = n ∧ ∀ j k : Nat, j < ts.length → (ts.getD j 0).testBit k = decide (norm (j : Int) (k : Int) ∈ ps.take i))
      ⟨e2, _, none, none, rfl, hp2, by rw [List.length_replicate]; omega, fun j k hj => by
        have : (List.replicate n.toNat 0).getD j 0 = 0 := by rw [List.getD_eq_getElem?_getD, List.getElem?_replicate]; split <;> rfl
        rw [this]; simp⟩ (fun i σ H' _ p => SqT.of (p.1 _ _ h4)) ?_ ?_⟩
    · rintro i v σ H' hv ⟨e3, ts, v1, v2, rfl, hts, hlen, hbit⟩
      obtain ⟨q, hq, a, rfl, ha⟩ := Paired.get h5 hv
      have hq2 := G.ok q (List.mem_of_getElem? hq)
      have l1 : q.1.toNat < ts.length := by omega
      have l2 : q.2.toNat < ts.length := by omega
      refine ⟨a, _, rfl, SqT.of (e3 _ _ ha), rfl, _, _, rfl, _, _, rfl, rfl, ?_⟩
      refine ⟨_, rfl, _, rfl, p, _, q.1, _, rfl, rfl, SqL.of hts, hq2.1, nints_get l1, ?_⟩
      refine ⟨_, rfl, _, _, rfl, rfl, ⟨by omega, by omega, by decide⟩, _, _, rfl, rfl, ?_⟩
      dsimp only
      rw [p2i (show 0 ≤ q.2 by omega), or_pp]
      refine ⟨p, _, q.1, q.1.toNat, rfl, rfl, hts, (by unfold ixN; rw [nints_len, if_pos hq2.1, if_pos (by omega)]), ?_⟩
      rw [nints_set]
      have l2' : q.2.toNat < (ts.set q.1.toNat (ts.getD q.1.toNat 0 ||| 2 ^ q.2.toNat)).length := by rw [List.length_set]; exact l2
      refine ⟨_, rfl, _, rfl, p, _, q.2, _, rfl, rfl, SqL.of upd_same, by omega, nints_get l2', ?_⟩
      refine ⟨_, rfl, _, _, rfl, rfl, ⟨by omega, by omega, by decide⟩, _, _, rfl, rfl, ?_⟩
      dsimp only
      rw [p2i hq2.1, or_pp]
      refine ⟨p, _, q.2, q.2.toNat, rfl, rfl, upd_same, (by unfold ixN; rw [nints_len, List.length_set, if_pos (show 0 ≤ q.2 by omega), if_pos (by omega)]), ?_⟩
      rw [nints_set, upd_upd]
      refine ⟨L2.Same.mut e3 hp0, _, _, _, rfl, upd_same, by rw [List.length_set, List.length_set]; exact hlen, fun j k hj => ?_⟩
      rw [List.length_set, List.length_set] at hj
      rw [getD_set _ _ _ _ l2', getD_set _ _ _ _ l1, take_snoc hq]
      have hb := hbit j k hj
      have hb2 := hbit q.2.toNat k l2
      have hmem : (norm (j : Int) (k : Int) ∈ ps.take i ++ [q]) ↔ (norm (j : Int) (k : Int) ∈ ps.take i ∨ ((j : Int) = q.1 ∧ (k : Int) = q.2) ∨ ((j : Int) = q.2 ∧ (k : Int) = q.1)) := by
        rw [List.mem_append, List.mem_singleton, norm_pair (a := q.1) (b := q.2) hq2.2.1]
      have ne12 : ¬ q.1.toNat = q.2.toNat := by omega
      by_cases c2 : q.2.toNat = j
      · rw [if_pos c2, if_neg ne12, Nat.testBit_or, Nat.testBit_two_pow, hb2]
        have ej : ((q.2.toNat : Nat) : Int) = (j : Int) := by omega
        rw [ej]
        have hm2 : (norm (j : Int) (k : Int) ∈ ps.take i ∨ ((j : Int) = q.1 ∧ (k : Int) = q.2) ∨ ((j : Int) = q.2 ∧ (k : Int) = q.1)) ↔ (norm (j : Int) (k : Int) ∈ ps.take i ∨ q.1.toNat = k) := by
          constructor
          · rintro (h | h | h)
            · exact .inl h
            · omega
            · exact .inr (by omega)
          · rintro (h | h)
            · exact .inl h
            · exact .inr (.inr (by omega))
        exact (dec_or (hmem.trans hm2)).symm
      · rw [if_neg c2, getD_set _ _ _ _ l1]
        by_cases c1 : q.1.toNat = j
        · rw [if_pos c1, Nat.testBit_or, Nat.testBit_two_pow, c1, hb]
          have hm2 : (norm (j : Int) (k : Int) ∈ ps.take i ∨ ((j : Int) = q.1 ∧ (k : Int) = q.2) ∨ ((j : Int) = q.2 ∧ (k : Int) = q.1)) ↔ (norm (j : Int) (k : Int) ∈ ps.take i ∨ q.2.toNat = k) := by
            constructor
            · rintro (h | h | h)
              · exact .inl h
              · exact .inr (by omega)
              · omega
            · rintro (h | h)
              · exact .inl h
              · exact .inr (.inl (by omega))
          exact (dec_or (hmem.trans hm2)).symm
        · rw [if_neg c1, hb]
          refine dec_iff (Iff.trans ⟨fun h => .inl h, ?_⟩ hmem.symm)
          rintro (h | h | h)
          · exact h
          · omega
          · omega
    · rintro σ H' ⟨e3, ts, v1, v2, rfl, hts, hlen, hbit⟩
      refine ⟨_, rfl, k p ts H' e3 hp0 hts ⟨hlen, fun i k hi => ?_⟩⟩
      have := hbit i k hi
      rw [Paired.len h5, List.take_length] at this
      exact this
end
section
variable {P : Program} {w : World} {K : PySem.W.Frag} {mg : Str → Option Value} {base : Heap} {C : Addr}
/-- the lot that bits are -/
def lotL (b : Nat) : List Int := ((List.range (b + 1)).filter fun k => b.testBit k).map fun k : Nat => (k : Int)
theorem isLot_L (b : Nat) : IsLot (lotL b) b := by
  refine ⟨fun x hx => ?_, ?_, fun k => ?_⟩
  · obtain ⟨k, _, rfl⟩ := List.mem_map.mp hx
    omega
  · refine List.pairwise_map.mpr (((List.pairwise_lt_range).sublist List.filter_sublist).imp fun {a b} h => by omega)
  · constructor
    · intro h
      obtain ⟨j, hj, e⟩ := List.mem_map.mp h
      have : j = k := by omega
      subst this
      exact (List.mem_filter.mp hj).2
    · intro h
      refine List.mem_map.mpr ⟨k, List.mem_filter.mpr ⟨List.mem_range.mpr ?_, h⟩, rfl⟩
      rcases Nat.lt_or_ge k (b + 1) with c | c
      · exact c
      · have h2 : b < 2 ^ k := Nat.lt_of_lt_of_le (show b < k by omega) (Nat.le_of_lt Nat.lt_two_pow_self)
        rw [Nat.testBit_lt_two_pow h2] at h
        cases h
theorem lot_one {l m : List Int} {b : Nat} (h : IsLot l b) (h' : IsLot m b) : l = m := ups_ext h.2.1 h'.2.1 fun z => by
  by_cases z0 : 0 ≤ z
  · have ez : ((z.toNat : Nat) : Int) = z := Int.toNat_of_nonneg z0
    have h1 := h.2.2 z.toNat
    have h2 := h'.2.2 z.toNat
    rw [ez] at h1 h2
    rw [h1, h2]
  · exact ⟨fun q => absurd (h.1 z q) z0, fun q => absurd (h'.1 z q) z0⟩
end
section
variable {P : Program} {w : World} {K : PySem.W.Frag} {mg : Str → Option Value} {base : Heap} {C : Addr}
theorem norm_sym (a b : Int) : norm a b = norm b a := by
  by_cases h : a = b
  · rw [h]
  · exact norm_comm h
theorem sub_len : ∀ {A B : List Int}, A.Nodup → (∀ x ∈ A, x ∈ B) → A.length ≤ B.length
  | [], B, _, _ => Nat.zero_le _
  | a :: A, B, hn, hs => by
    have ha := hs a List.mem_cons_self
    have h2 := sub_len (A := A) (B := B.erase a) (List.nodup_cons.mp hn).2 fun x hx => by
      refine (List.mem_erase_of_ne (fun e => ?_)).mpr (hs x (List.mem_cons_of_mem _ hx))
      subst e
      exact (List.nodup_cons.mp hn).1 hx
    rw [List.length_erase_of_mem ha] at h2
    have := List.length_pos_of_mem ha
    rw [List.length_cons]
    omega
theorem upi_nodup {l : List Int} (h : l.Pairwise (· < ·)) : l.Nodup := h.imp fun h => by omega
end
section
variable {P : Program} {w : World} {K : PySem.W.Frag} {mg : Str → Option Value} {base : Heap} {C : Addr}
theorem upi_of {l' m : List Int} (h : l'.Perm m) (h1 : l'.Pairwise (· ≤ ·)) (h2 : m.Nodup) : l'.Pairwise (· < ·) :=
  (h1.and (h.nodup_iff.mpr h2)).imp fun {a b} h => by have h3 : a ≠ b := h.2; have := h.1; omega
end
end Bs

namespace Bs
open PySem PySem.Spec L2
theorem norm_self {n : Int} {ps : List (Int × Int)} (G : Good n ps) (p : Int) : norm p p ∉ ps := fun h => by
  have := (G.ok _ h).2.1
  unfold norm at this
  simp at this
open PySem PySem.Spec L2
/-! ## x & ~y -/
theorem add_or {a b : Nat} (h : a &&& b = 0) : a + b = a ||| b := by
  have ha : a < 2 ^ (a + b + 1) := Nat.lt_of_le_of_lt (show a ≤ a + b + 1 by omega) Nat.lt_two_pow_self
  have hb : b < 2 ^ (a + b + 1) := Nat.lt_of_le_of_lt (show b ≤ a + b + 1 by omega) Nat.lt_two_pow_self
  have hab : a + b < 2 ^ (a + b + 1) := Nat.lt_of_le_of_lt (show a + b ≤ a + b + 1 by omega) Nat.lt_two_pow_self
  have h2 : BitVec.ofNat (a + b + 1) a &&& BitVec.ofNat (a + b + 1) b = 0#(a + b + 1) := by
    apply BitVec.eq_of_toNat_eq
    rw [BitVec.toNat_and, BitVec.toNat_ofNat, BitVec.toNat_ofNat, Nat.mod_eq_of_lt ha, Nat.mod_eq_of_lt hb, h]
    simp
  have h3 := congrArg BitVec.toNat (BitVec.add_eq_or_of_and_eq_zero _ _ h2)
  rw [BitVec.toNat_add, BitVec.toNat_or, BitVec.toNat_ofNat, BitVec.toNat_ofNat, Nat.mod_eq_of_lt ha, Nat.mod_eq_of_lt hb, Nat.mod_eq_of_lt hab] at h3
  exact h3
def andn (x y : Nat) : Nat := x ^^^ (x &&& y)
theorem andn_bit (x y k : Nat) : (andn x y).testBit k = (x.testBit k && !y.testBit k) := by
  unfold andn
  rw [Nat.testBit_xor, Nat.testBit_and]
  cases x.testBit k <;> cases y.testBit k <;> rfl
theorem andn_sub (x y : Nat) : x - (x &&& y) = andn x y := by
  have h : (x &&& y) &&& andn x y = 0 := Nat.eq_of_testBit_eq fun k => by
    rw [Nat.testBit_and, Nat.testBit_and, andn_bit]
    cases x.testBit k <;> cases y.testBit k <;> simp
  have h2 : (x &&& y) ||| andn x y = x := Nat.eq_of_testBit_eq fun k => by
    rw [Nat.testBit_or, Nat.testBit_and, andn_bit]
    cases x.testBit k <;> cases y.testBit k <;> rfl
  have := add_or h
  omega
theorem and_inv (x y : Nat) : Builtin.bitAnd (x : Int) (Builtin.bitNot (y : Int)) = ((andn x y : Nat) : Int) := by
  unfold Builtin.bitAnd
  rw [decide_eq_true (Int.natCast_nonneg x), decide_eq_false (show ¬ 0 ≤ Builtin.bitNot (y : Int) by unfold Builtin.bitNot; omega)]
  show (x : Int) - (((x : Int).toNat &&& (Builtin.bitNot (Builtin.bitNot (y : Int))).toNat : Nat) : Int) = _
  have e : (Builtin.bitNot (Builtin.bitNot (y : Int))).toNat = y := by
    unfold Builtin.bitNot
    omega
  rw [e, Int.toNat_natCast, ← andn_sub]
  have : x &&& y ≤ x := Nat.and_le_left
  omega
/-! ## sets of parts as bits -/
abbrev Has (b k : Nat) : Prop := b.testBit k = true
def InN (n : Int) (b : Nat) : Prop := ∀ k, Has b k → (k : Int) < n
theorem InN.small {n : Int} {b : Nat} (h : InN n b) (hn : n ≤ 200) : b < 2 ^ 200 := Nat.lt_pow_two_of_testBit _ fun k hk => by
  cases c : b.testBit k with
  | false => rfl
  | true => have := h k c; omega
abbrev T (ps : List (Int × Int)) (q k : Nat) : Prop := norm (q : Int) (k : Int) ∈ ps
theorem T.symm {ps : List (Int × Int)} {q k : Nat} (h : T ps q k) : T ps k q := by
  show norm (k : Int) (q : Int) ∈ ps
  rw [norm_sym]; exact h
theorem T.lt {n : Int} {ps : List (Int × Int)} (G : Good n ps) {q k : Nat} (h : T ps q k) : (k : Int) < n := by
  have h1 := G.ok _ h
  unfold norm at h1
  dsimp only at h1
  split at h1 <;> split at h1 <;> omega
theorem T.irr {n : Int} {ps : List (Int × Int)} (G : Good n ps) {q : Nat} : ¬ T ps q q := norm_self G _
theorem bits_ext {a b : Nat} (h : ∀ k, Has a k ↔ Has b k) : a = b := Nat.eq_of_testBit_eq fun k => by
  cases c : a.testBit k with
  | true => exact ((h k).mp c).symm
  | false =>
    cases d : b.testBit k with
    | false => rfl
    | true => rw [(h k).mpr d] at c; cases c
/-- the parts tied to one of b -/
def Near (ps : List (Int × Int)) (b r : Nat) : Prop := ∀ k, Has r k ↔ ∃ q, Has b q ∧ T ps q k
theorem Near.uniq {ps : List (Int × Int)} {b r r' : Nat} (h : Near ps b r) (h' : Near ps b r') : r = r' := bits_ext fun k => (h k).trans (h' k).symm
/-- what hangs together with s inside i -/
structure Hull (ps : List (Int × Int)) (s i c : Nat) : Prop where
  seed : ∀ k, Has s k → Has c k
  sub : ∀ k, Has c k → Has i k
  shut : ∀ q k, Has c q → Has i k → T ps q k → Has c k
  least : ∀ X : Nat → Prop, (∀ k, Has s k → X k) → (∀ q k, X q → Has i k → T ps q k → X k) → ∀ k, Has c k → X k
theorem Hull.uniq {ps : List (Int × Int)} {s i c d : Nat} (h : Hull ps s i c) (h' : Hull ps s i d) : c = d :=
  bits_ext fun k => ⟨h.least (Has d) h'.seed (fun q k a b t => h'.shut q k a b t) k, h'.least (Has c) h.seed (fun q k a b t => h.shut q k a b t) k⟩
def Low (b k : Nat) : Prop := Has b k ∧ ∀ j, j < k → b.testBit j = false
theorem Low.uniq {b k k' : Nat} (h : Low b k) (h' : Low b k') : k = k' := by
  rcases Nat.lt_trichotomy k k' with c | c | c
  · have := h'.2 k c; rw [h.1] at this; cases this
  · exact c
  · have := h.2 k' c; rw [h'.1] at this; cases this
/-- the pieces of i -/
inductive Pieces (ps : List (Int × Int)) : Nat → List Nat → Prop where
  | nil : Pieces ps 0 []
  | cons {i k c : Nat} {cs : List Nat} (h : Low i k) (hc : Hull ps (2 ^ k) i c) (r : Pieces ps (i ^^^ c) cs) : Pieces ps i (c :: cs)
theorem Pieces.uniq {ps : List (Int × Int)} {i : Nat} {cs ds : List Nat} (h : Pieces ps i cs) (h' : Pieces ps i ds) : cs = ds := by
  induction h generalizing ds with
  | nil =>
    cases h' with
    | nil => rfl
    | cons h _ _ => have := h.1; simp [Has] at this
  | cons h hc r ih =>
    cases h' with
    | nil => have := h.1; simp [Has] at this
    | cons h2 hc2 r2 =>
      have e := h.uniq h2
      subst e
      have e2 := hc.uniq hc2
      subst e2
      rw [ih r2]

open PySem PySem.Spec L2
theorem xor_sub {i c k : Nat} (h : ∀ k, Has c k → Has i k) : Has (i ^^^ c) k ↔ Has i k ∧ ¬ Has c k := by
  unfold Has
  rw [Nat.testBit_xor]
  have := h k
  unfold Has at this
  cases hi : i.testBit k <;> cases hc : c.testBit k <;> simp_all
section
variable {n : Int} {ps : List (Int × Int)}
structure PiecesOk (ps : List (Int × Int)) (i : Nat) (cs : List Nat) : Prop where
  cover : ∀ k, Has i k → ∃ c ∈ cs, Has c k
  sub : ∀ c ∈ cs, ∀ k, Has c k → Has i k
  shut : ∀ c ∈ cs, ∀ q k, Has c q → Has i k → T ps q k → Has c k
  hung : ∀ c ∈ cs, ∃ s, Has c s ∧ ∀ X : Nat → Prop, X s → (∀ q k, X q → Has i k → T ps q k → X k) → ∀ k, Has c k → X k
  one : ∀ c ∈ cs, ∀ d ∈ cs, ∀ k, Has c k → Has d k → c = d
theorem Pieces.ok {i : Nat} {cs : List Nat} (h : Pieces ps i cs) : PiecesOk ps i cs := by
  induction h with
  | nil => exact ⟨fun k hk => by simp [Has] at hk, by simp, by simp, by simp, by simp⟩
  | @cons i k c cs hl hc r ih =>
    have hx : ∀ k, Has (i ^^^ c) k ↔ Has i k ∧ ¬ Has c k := fun k => xor_sub hc.sub
    refine ⟨fun j hj => ?_, fun d hd j hj => ?_, fun d hd q j hq hj ht => ?_, fun d hd => ?_, fun d hd e he j h1 h2 => ?_⟩
    · by_cases e : Has c j
      · exact ⟨c, by simp, e⟩
      · obtain ⟨d, hd, h1⟩ := ih.cover j ((hx j).mpr ⟨hj, e⟩)
        exact ⟨d, List.mem_cons_of_mem _ hd, h1⟩
    · rcases List.mem_cons.mp hd with rfl | hd
      · exact hc.sub j hj
      · exact ((hx j).mp (ih.sub d hd j hj)).1
    · rcases List.mem_cons.mp hd with rfl | hd
      · exact hc.shut q j hq hj ht
      · have hq2 := (hx q).mp (ih.sub d hd q hq)
        by_cases e : Has c j
        · exact absurd (hc.shut j q e hq2.1 ht.symm) hq2.2
        · exact ih.shut d hd q j hq ((hx j).mpr ⟨hj, e⟩) ht
    · rcases List.mem_cons.mp hd with rfl | hd
      · have hs : Has d k := hc.seed k (by simp [Has, Nat.testBit_two_pow])
        refine ⟨k, hs, fun X hX hcl j hj => hc.least X (fun j hj => ?_) hcl j hj⟩
        have : j = k := by simp [Has, Nat.testBit_two_pow] at hj; exact hj.symm
        rw [this]; exact hX
      · obtain ⟨s, h1, h2⟩ := ih.hung d hd
        exact ⟨s, h1, fun X hX hcl => h2 X hX fun q j a b t => hcl q j a ((hx j).mp b).1 t⟩
    · rcases List.mem_cons.mp hd with ed | hd'
      · rcases List.mem_cons.mp he with ee | he'
        · exact ed.trans ee.symm
        · subst ed
          exact absurd h1 ((hx j).mp (ih.sub e he' j h2)).2
      · rcases List.mem_cons.mp he with ee | he'
        · subst ee
          exact absurd h2 ((hx j).mp (ih.sub d hd' j h1)).2
        · exact ih.one d hd' e he' j h1 h2
theorem has_or {a b k : Nat} : Has (a ||| b) k ↔ Has a k ∨ Has b k := by unfold Has; rw [Nat.testBit_or]; simp
theorem has_pow {a k : Nat} : Has (2 ^ a) k ↔ k = a := by unfold Has; rw [Nat.testBit_two_pow]; simp [eq_comm]
theorem low_of {c : Nat} (h : ∃ k, Has c k) : ∃ k, Low c k := by
  obtain ⟨k, hk⟩ := h
  have : c ≠ 0 := fun e => by rw [e] at hk; simp [Has] at hk
  obtain ⟨k, h1, h2⟩ := low_ex this
  exact ⟨k, h1, h2⟩
theorem PiecesOk.ne {i : Nat} {cs : List Nat} (h : PiecesOk ps i cs) : ∀ c ∈ cs, ∃ k, Has c k := fun c hc => let ⟨s, h1, _⟩ := h.hung c hc; ⟨s, h1⟩
/-! ## bits as lots -/
theorem mem_lotL {b : Nat} {x : Int} : x ∈ lotL b ↔ 0 ≤ x ∧ Has b x.toNat := by
  have h := isLot_L b
  constructor
  · intro hx
    have h0 := h.1 x hx
    refine ⟨h0, (h.2.2 x.toNat).mp ?_⟩
    rw [Int.toNat_of_nonneg h0]; exact hx
  · rintro ⟨h0, hx⟩
    have := (h.2.2 x.toNat).mpr hx
    rw [Int.toNat_of_nonneg h0] at this
    exact this
theorem lot_lotL {b : Nat} (h : InN n b) : Lot n (lotL b) := ⟨(isLot_L b).2.1, fun x hx => by
  obtain ⟨h0, h1⟩ := mem_lotL.mp hx
  have := h _ h1
  omega⟩
end

open PySem PySem.Spec L2
theorem has_andn {a b k : Nat} : Has (andn a b) k ↔ Has a k ∧ ¬ Has b k := by
  unfold Has
  rw [andn_bit]
  cases a.testBit k <;> cases b.testBit k <;> simp
theorem has_and {a b k : Nat} : Has (a &&& b) k ↔ Has a k ∧ Has b k := by
  unfold Has
  rw [Nat.testBit_and]
  cases a.testBit k <;> cases b.testBit k <;> simp
theorem has_zero {k : Nat} : ¬ Has 0 k := by simp [Has]
theorem has_ex {b : Nat} (h : b ≠ 0) : ∃ k, Has b k := by
  obtain ⟨k, h1, _⟩ := low_ex h
  exact ⟨k, h1⟩
theorem isLot_eq {l : List Int} {b : Nat} (h : IsLot l b) : l = lotL b := by
  have h2 := isLot_L b
  refine ups_ext h.2.1 h2.2.1 fun x => ⟨fun hx => ?_, fun hx => ?_⟩
  · have := (h2.2.2 x.toNat).mpr ((h.2.2 x.toNat).mp (by rw [Int.toNat_of_nonneg (h.1 x hx)]; exact hx))
    rw [Int.toNat_of_nonneg (h.1 x hx)] at this
    exact this
  · have := (h.2.2 x.toNat).mpr ((h2.2.2 x.toNat).mp (by rw [Int.toNat_of_nonneg (h2.1 x hx)]; exact hx))
    rw [Int.toNat_of_nonneg (h2.1 x hx)] at this
    exact this
theorem has_lotL {b k : Nat} : ((k : Int)) ∈ lotL b ↔ Has b k := (isLot_L b).2.2 k
theorem lotL_bits {n : Int} {l : List Int} (h : Lot n l) : lotL (bitsN l) = l := (isLot_eq (isLot_bits h)).symm
theorem Tied.uniq {n : Int} {ps : List (Int × Int)} {ts us : List Nat} (h : Tied n ps ts) (h' : Tied n ps us) : ts = us := by
  have hl : ts.length = us.length := by have := h.len; have := h'.len; omega
  refine List.ext_getElem hl fun i h1 h2 => Nat.eq_of_testBit_eq fun k => ?_
  have a := h.bit i k h1
  have b := h'.bit i k h2
  rw [List.getD_eq_getElem?_getD, List.getElem?_eq_getElem h1] at a
  rw [List.getD_eq_getElem?_getD, List.getElem?_eq_getElem h2] at b
  exact a.trans b.symm
section
variable {n : Int} {ps : List (Int × Int)}
theorem nodup_len {l : List Int} (nd : l.Nodup) (ok : ∀ x ∈ l, 0 ≤ x ∧ x < n) (h0 : 0 ≤ n) : (l.length : Int) ≤ n := by
  have := sub_len nd (B := (List.range n.toNat).map fun k : Nat => (k : Int)) fun x hx => List.mem_map.mpr ⟨x.toNat, List.mem_range.mpr (by have := ok x hx; omega), Int.toNat_of_nonneg (ok x hx).1⟩
  rw [List.length_map, List.length_range] at this
  omega
theorem andn_lt {a b : Nat} (h : (b &&& a) ≠ 0) : andn a (b &&& a) < a := by
  have e1 := andn_sub a (b &&& a)
  have e2 : a &&& (b &&& a) = b &&& a := bits_ext fun k => by rw [has_and, has_and]; exact ⟨fun h => h.2, fun h => ⟨h.2, h⟩⟩
  have : b &&& a ≤ a := Nat.and_le_right
  omega
/-! ## the row that slips to yes -/
end

open PySem PySem.Spec L2
section
variable {n : Int} {ps : List (Int × Int)}
end
section
variable {P : Program} {w : World} {K : PySem.W.Frag} {mg : Str → Option Value} {base : Heap} {C : Addr}
def sp_tied_to_any : Sp := fun vs H Q _ => ∃ (tb : Addr) (ts : List Nat) (n : Int) (ps : List (Int × Int)) (b : Nat), vs = [.ref tb, .int (b : Nat)] ∧ H tb = some (.lst (nints ts)) ∧ Tied n ps ts ∧ Good n ps ∧ n ≤ 200 ∧ InN n b ∧ ∀ (r : Nat) H', Same H H' → Near ps b r → InN n r → Q (.int (r : Nat)) H'
abbrev s_tied_to_any : Stmt := (top 11)
theorem sc_tied_to_any : FnScope ["tied", "bits", "found", "part"] ["tied", "bits"] (defScope s_tied_to_any) := ⟨rfl, rfl, rfl, by decide +kernel, rfl, by decide +kernel, by decide +kernel⟩

theorem ok_tied_to_any {f : Addr} {fd : FuncData} (F : Fun K "tied_to_any" "tied_to_any" s_tied_to_any f fd) (hm : mg "tied_to_any" = some (.ref f)) (B : Bl mg) (c_lot_of : Cal P w K mg base 1 "lot_of" ["bits"] sp_lot_of) : Cal P w K mg base 2 "tied_to_any" ["tied", "bits"] sp_tied_to_any := by
  refine ⟨f, fd, F.ok sc_tied_to_any (fun vs H Q E h => ?_) (fun cdv A outer s H vs Q E hr h => ?_), hm, F.kp, F.binds (ps := ["tied", "bits"]) fun _ _ _ _ _ _ us hl => match us, hl with | [_, _], _ => rfl⟩
  · obtain ⟨tb, ts, n, ps, b, rfl, _⟩ := h; rfl
  · obtain ⟨tb, ts, n, ps, b, rfl, htb, TB, G, n2, hb, k⟩ := h
    refine ⟨_, (pss_cons (ps_set (i := 2) sc_tied_to_any.nd rfl (by first | exact Or.inl rfl | exact Or.inr rfl) pe_int)
 (pss_cons (ps_for PassesOwn.never rfl (pi_tup (pe_cal c_lot_of (hr.mono (by first | decide | omega)) (pa_cons (pv 1) pa_nil))) (pg_name (i := 3) sc_tied_to_any.nd rfl (by first | exact Or.inl rfl | exact Or.inr rfl))
  (pss_one (ps_aug (i := 2) sc_tied_to_any.nd rfl (by first | exact Or.inl rfl | exact Or.inr rfl) (pe_ix ix_list (pv 0) (pv 3) (fun _ _ => rfl)) ip_or)))
 (pss_one (ps_ret (pv 2))))), ?_⟩
    refine ⟨_, rfl, b, rfl, hb.small n2, fun p l H1 e1 np hp hl => ?_⟩
    refine ⟨p, rfl, ⟨_, SqT.of hp⟩, for_tup (K := K) (a := p) (xs := l.map V.int) (fun i σ H' => H' = H1 ∧ ∃ (g : Nat) (v : Option V), σ = [some (.ref tb), some (.int (b : Nat)), some (.int (g : Nat)), v] ∧ ∀ j, Has g j ↔ ∃ q ∈ l.take i, T ps q.toNat j)
      ⟨rfl, 0, none, rfl, fun j => by simp [Has]⟩ (fun i σ H' _ p => by rw [p.1]; exact SqT.of hp) ?_ ?_⟩
    · rintro i v σ H' hv ⟨rfl, g, u, rfl, hg⟩
      obtain ⟨y, hy, rfl⟩ := map_get hv
      have hym := List.mem_of_getElem? hy
      have hy0 := hl.1 y hym
      have hyb : Has b y.toNat := (hl.2.2 _).mp (by rw [Int.toNat_of_nonneg hy0]; exact hym)
      have hlt : y.toNat < ts.length := by have := hb _ hyb; have := TB.len; omega
      refine ⟨_, rfl, _, rfl, _, rfl, tb, _, y, _, rfl, rfl, SqL.of (e1 _ _ htb), at_of (j := y.toNat) (by omega) (nints_get hlt), _, _, rfl, rfl, ?_⟩
      dsimp only
      rw [or_pp]
      refine ⟨rfl, _, _, rfl, fun j => ?_⟩
      rw [has_or, hg, take_snoc hy]
      unfold Has
      rw [TB.bit _ _ hlt, decide_eq_true_eq]
      constructor
      · rintro (⟨q, q1, q2⟩ | h)
        · exact ⟨q, List.mem_append_left _ q1, q2⟩
        · exact ⟨y, by simp, h⟩
      · rintro ⟨q, q1, q2⟩
        rcases List.mem_append.mp q1 with q1 | q1
        · exact .inl ⟨q, q1, q2⟩
        · rw [List.mem_singleton] at q1; subst q1; exact .inr q2
    · rintro σ H' ⟨rfl, g, u, rfl, hg⟩
      rw [show (l.map V.int).length = l.length from List.length_map .., List.take_length] at hg
      have hN : Near ps b g := fun j => by
        rw [hg]
        constructor
        · rintro ⟨q, q1, q2⟩
          exact ⟨q.toNat, (hl.2.2 _).mp (by rw [Int.toNat_of_nonneg (hl.1 q q1)]; exact q1), q2⟩
        · rintro ⟨q, q1, q2⟩
          exact ⟨(q : Int), (hl.2.2 _).mpr q1, by simpa using q2⟩
      exact ⟨_, rfl, k g _ e1 hN fun j hj => by obtain ⟨q, _, t⟩ := (hN j).mp hj; exact t.lt G⟩
theorem xor_and {x c : Nat} (h : ∀ k, Has c k → Has x k) : x ^^^ c = andn x c := bits_ext fun k => by rw [xor_sub h, has_andn]
theorem and_neg {c k : Nat} (h : Low c k) : Builtin.bitAnd (c : Int) (-(c : Int)) = ((2 ^ k : Nat) : Int) := by
  rw [low_is h.1 h.2, Int.natCast_pow]; rfl
structure HInv (ps : List (Int × Int)) (s i found edge : Nat) : Prop where
  seed : ∀ k, Has s k → Has found k
  sub : ∀ k, Has found k → Has i k
  edg : ∀ k, Has edge k → Has found k
  off : ∀ q k, Has found q → ¬ Has edge q → Has i k → T ps q k → Has found k
  least : ∀ X : Nat → Prop, (∀ k, Has s k → X k) → (∀ q k, X q → Has i k → T ps q k → X k) → ∀ k, Has found k → X k
theorem HInv.init {ps : List (Int × Int)} {s i : Nat} (h : ∀ k, Has s k → Has i k) : HInv ps s i s s := ⟨fun k h => h, h, fun k h => h, fun q k h1 h2 => absurd h1 h2, fun X h1 _ => h1⟩
theorem HInv.step {ps : List (Int × Int)} {s i found edge r : Nat} (h : HInv ps s i found edge) (hr : Near ps edge r) : HInv ps s i (found ||| andn (r &&& i) found) (andn (r &&& i) found) := by
  refine ⟨fun k hk => has_or.mpr (.inl (h.seed k hk)), fun k hk => ?_, fun k hk => has_or.mpr (.inr hk), fun q k hq he hi ht => ?_, fun X h1 h2 k hk => ?_⟩
  · rcases has_or.mp hk with hk | hk
    · exact h.sub k hk
    · exact (has_and.mp (has_andn.mp hk).1).2
  · rcases has_or.mp hq with hq | hq
    · by_cases c : Has edge q
      · by_cases d : Has found k
        · exact has_or.mpr (.inl d)
        · exact has_or.mpr (.inr (has_andn.mpr ⟨has_and.mpr ⟨(hr k).mpr ⟨q, c, ht⟩, hi⟩, d⟩))
      · exact has_or.mpr (.inl (h.off q k hq c hi ht))
    · exact absurd hq he
  · rcases has_or.mp hk with hk | hk
    · exact h.least X h1 h2 k hk
    · have h3 := has_and.mp (has_andn.mp hk).1
      obtain ⟨q, q1, q2⟩ := (hr k).mp h3.1
      exact h2 q k (h.least X h1 h2 q (h.edg q q1)) h3.2 q2
theorem HInv.fin {ps : List (Int × Int)} {s i found : Nat} (h : HInv ps s i found 0) : Hull ps s i found := ⟨h.seed, h.sub, fun q k hq hi ht => h.off q k hq has_zero hi ht, h.least⟩
theorem or_more {a b : Nat} (h : b ≠ 0) : a < a ||| andn b a ∨ andn b a = 0 := by
  by_cases c : andn b a = 0
  · exact .inr c
  · refine .inl ?_
    have : a &&& andn b a = 0 := bits_ext fun k => by
      rw [has_and, has_andn]
      exact ⟨fun h => absurd h.1 h.2.2, fun h => absurd h has_zero⟩
    have := add_or this
    omega
def sp_hanging : Sp := fun vs H Q _ => ∃ (tb : Addr) (ts : List Nat) (n : Int) (ps : List (Int × Int)) (s i : Nat), vs = [.ref tb, .int (s : Nat), .int (i : Nat)] ∧ H tb = some (.lst (nints ts)) ∧ Tied n ps ts ∧ Good n ps ∧ n ≤ 200 ∧ InN n i ∧ (∀ k, Has s k → Has i k) ∧ ∀ (c : Nat) H', Same H H' → Hull ps s i c → Q (.int (c : Nat)) H'
abbrev s_hanging : Stmt := (top 12)
theorem sc_hanging : FnScope ["tied", "seed", "inside", "found", "edge", "fresh"] ["tied", "seed", "inside"] (defScope s_hanging) := ⟨rfl, rfl, rfl, by decide +kernel, rfl, by decide +kernel, by decide +kernel⟩

theorem ok_hanging {f : Addr} {fd : FuncData} (F : Fun K "hanging" "hanging" s_hanging f fd) (hm : mg "hanging" = some (.ref f)) (B : Bl mg) (c_tied_to_any : Cal P w K mg base 2 "tied_to_any" ["tied", "bits"] sp_tied_to_any) : Cal P w K mg base 3 "hanging" ["tied", "seed", "inside"] sp_hanging := by
  refine ⟨f, fd, F.ok sc_hanging (fun vs H Q E h => ?_) (fun cdv A outer s H vs Q E hr h => ?_), hm, F.kp, F.binds (ps := ["tied", "seed", "inside"]) fun _ _ _ _ _ _ us hl => match us, hl with | [_, _, _], _ => rfl⟩
  · obtain ⟨tb, ts, n, ps, s, i, rfl, _⟩ := h; rfl
  · obtain ⟨tb, ts, n, ps, s0, i, rfl, htb, TB, G, n2, hi, hs, k⟩ := h
    refine ⟨_, (pss_cons (ps_set (i := 3) sc_hanging.nd rfl (by first | exact Or.inl rfl | exact Or.inr rfl) (pv 1))
 (pss_cons (ps_set (i := 4) sc_hanging.nd rfl (by first | exact Or.inl rfl | exact Or.inr rfl) (pv 1))
 (pss_cons (ps_while PassesOwn.never (pt_truth (pv 4) (by intro _; rfl)) (pss_cons (ps_set (i := 5) sc_hanging.nd rfl (by first | exact Or.inl rfl | exact Or.inr rfl) (pe_op op_and (pe_op op_and (pe_cal c_tied_to_any (hr.mono (by first | decide | omega)) (pa_cons (pv 0) (pa_cons (pv 4) pa_nil))) (pv 2)) (pe_un un_inv (pv 3))))
 (pss_cons (ps_aug (i := 3) sc_hanging.nd rfl (by first | exact Or.inl rfl | exact Or.inr rfl) (pv 5) ip_or)
 (pss_one (ps_set (i := 4) sc_hanging.nd rfl (by first | exact Or.inl rfl | exact Or.inr rfl) (pv 5))))))
 (pss_one (ps_ret (pv 3)))))), ?_⟩
    refine ⟨_, rfl, _, rfl, ?_⟩
    refine ⟨fun m σ H' => ∃ (found edge : Nat) (v : Option V), σ = [some (.ref tb), some (.int (s0 : Nat)), some (.int (i : Nat)), some (.int (found : Nat)), some (.int (edge : Nat)), v] ∧ m = 2 * (2 ^ 200 - found) + (if edge = 0 then 0 else 1) ∧ Same H H' ∧ HInv ps s0 i found edge,
      ⟨_, s0, s0, none, rfl, rfl, L2.Same.refl H, HInv.init hs⟩, ?_⟩
    rintro m σ H1 ⟨found, edge, v, rfl, rfl, e1, I⟩
    refine ⟨_, rfl, (((edge : Int)) != 0), rfl, ?_⟩
    by_cases c0 : edge = 0
    · subst c0
      exact iteF ⟨_, rfl, k found H1 e1 I.fin⟩
    · have hne : (((edge : Int)) != 0) = true := by simp [c0]
      rw [hne]
      refine iteT ⟨_, fun σ' H' h => h, ?_⟩
      have hed : InN n edge := fun k hk => hi k (I.sub k (I.edg k hk))
      refine ⟨_, rfl, _, rfl, tb, ts, n, ps, edge, rfl, e1 _ _ htb, TB, G, n2, hed, fun r H2 e2 hr2 hrn => ?_⟩
      refine ⟨_, rfl, _, _, rfl, rfl, _, rfl, _, rfl, _, _, rfl, rfl, ?_⟩
      dsimp only
      rw [and_pp, and_inv]
      refine ⟨_, rfl, _, rfl, _, _, rfl, rfl, ?_⟩
      dsimp only
      rw [or_pp]
      refine ⟨_, rfl, ?_⟩
      have I2 := I.step hr2
      have hsm : (found ||| andn (r &&& i) found) < 2 ^ 200 := (show InN n _ from fun k hk => hi k (I2.sub k hk)).small n2
      refine ⟨_, ?_, _, _, _, rfl, rfl, e1.trans e2, I2⟩
      rcases Nat.eq_zero_or_pos (r &&& i) with hz | hz
      · have : andn (r &&& i) found = 0 := bits_ext fun k => by rw [hz, has_andn]; exact ⟨fun h => h.1, fun h => absurd h has_zero⟩
        rw [this, if_pos rfl, if_neg c0, Nat.or_zero]
        omega
      · rcases or_more (a := found) (b := r &&& i) (by omega) with h | h
        · rw [if_neg c0]
          split <;> omega
        · rw [h, if_pos rfl, if_neg c0, Nat.or_zero]
          omega
end

open PySem PySem.Spec L2
section
variable {P : Program} {w : World} {K : PySem.W.Frag} {mg : Str → Option Value} {base : Heap} {C : Addr}
theorem pow_in {n : Int} {k : Nat} (h : (k : Int) < n) : InN n (2 ^ k) := fun j hj => by rw [has_pow] at hj; subst hj; exact h
def sp_pieces_of : Sp := fun vs H Q _ => ∃ (tb : Addr) (ts : List Nat) (n : Int) (ps : List (Int × Int)) (i : Nat), vs = [.ref tb, .int (i : Nat)] ∧ H tb = some (.lst (nints ts)) ∧ Tied n ps ts ∧ Good n ps ∧ 0 ≤ n ∧ n ≤ 200 ∧ InN n i ∧ ∀ p (cs : List Nat) H', Same H H' → H p = none → H' p = some (.lst (nints cs)) → Pieces ps i cs → Q (.ref p) H'
theorem low_lt {i c : Nat} (h0 : c ≠ 0) (h : ∀ k, Has c k → Has i k) : i ^^^ c < i := by
  have e : c &&& i = c := bits_ext fun k => by rw [has_and]; exact ⟨fun h => h.1, fun hk => ⟨hk, h k hk⟩⟩
  have := andn_lt (a := i) (b := c) (by rw [e]; exact h0)
  rw [e] at this
  rw [xor_and h]
  exact this
abbrev s_pieces_of : Stmt := (top 13)
theorem sc_pieces_of : FnScope ["tied", "inside", "left", "found", "piece"] ["tied", "inside"] (defScope s_pieces_of) := ⟨rfl, rfl, rfl, by decide +kernel, rfl, by decide +kernel, by decide +kernel⟩

theorem ok_pieces_of {f : Addr} {fd : FuncData} (F : Fun K "pieces_of" "pieces_of" s_pieces_of f fd) (hm : mg "pieces_of" = some (.ref f)) (B : Bl mg) (c_hanging : Cal P w K mg base 3 "hanging" ["tied", "seed", "inside"] sp_hanging) : Cal P w K mg base 4 "pieces_of" ["tied", "inside"] sp_pieces_of := by
  refine ⟨f, fd, F.ok sc_pieces_of (fun vs H Q E h => ?_) (fun cdv A outer s H vs Q E hr h => ?_), hm, F.kp, F.binds (ps := ["tied", "inside"]) fun _ _ _ _ _ _ us hl => match us, hl with | [_, _], _ => rfl⟩
  · obtain ⟨tb, ts, n, ps, i, rfl, _⟩ := h; rfl
  · obtain ⟨tb, ts, n, ps, i, rfl, htb, TB, G, n0, n2, hi, k⟩ := h
    refine ⟨_, (pss_cons (ps_set (i := 2) sc_pieces_of.nd rfl (by first | exact Or.inl rfl | exact Or.inr rfl) (pv 1))
 (pss_cons (ps_set (i := 3) sc_pieces_of.nd rfl (by first | exact Or.inl rfl | exact Or.inr rfl) (pe_lst pa_nil))
 (pss_cons (ps_while PassesOwn.never (pt_truth (pv 2) (by intro _; rfl)) (pss_cons (ps_set (i := 4) sc_pieces_of.nd rfl (by first | exact Or.inl rfl | exact Or.inr rfl) (pe_cal c_hanging (hr.mono (by first | decide | omega)) (pa_cons (pv 0) (pa_cons (pe_op op_and (pv 2) (pe_un un_neg (pv 2))) (pa_cons (pv 2) pa_nil)))))
 (pss_cons (ps_expr (pe_bm PySem.F.plainAttrs_list PySem.F.slot_list_append PySem.F.type_list_append mt_append (pv 3) (pa_cons (pv 4) pa_nil)))
 (pss_one (ps_aug (i := 2) sc_pieces_of.nd rfl (by first | exact Or.inl rfl | exact Or.inr rfl) (pv 4) ip_xor)))))
 (pss_one (ps_ret (pv 3)))))), ?_⟩
    refine ⟨_, rfl, ?_⟩
    refine ⟨Nat.zero_le _, fun p hp => ?_⟩
    refine ⟨fun m σ H' => ∃ (left : Nat) (done : List Nat) (v : Option V), σ = [some (.ref tb), some (.int (i : Nat)), some (.int (left : Nat)), some (.ref p), v] ∧ m = left ∧ Same H H' ∧ H' p = some (.lst (nints done)) ∧ (∀ k, Has left k → Has i k) ∧ (∀ cs, Pieces ps left cs → Pieces ps i (done ++ cs)) ∧ done.length + 1 + (lotL left).length ≤ (lotL i).length + 1,
      ⟨i, i, [], none, rfl, rfl, L2.Same.new hp, upd_same, fun k h => h, fun cs h => h, by simp only [List.length_nil]; omega⟩, ?_⟩
    rintro m σ H1 ⟨left, done, v, rfl, rfl, e1, hl, hsub, hcs, hlen⟩
    refine ⟨_, rfl, (((m : Int)) != 0), rfl, ?_⟩
    by_cases c0 : m = 0
    · subst c0
      have := hcs [] .nil
      rw [List.append_nil] at this
      exact iteF ⟨_, rfl, k p done H1 e1 hp hl this⟩
    · have hne : (((m : Int)) != 0) = true := by simp [c0]
      rw [hne]
      refine iteT ⟨_, fun σ' H' h => h, ?_⟩
      obtain ⟨kk, k1, k2⟩ := low_ex c0
      have hlow : Low m kk := ⟨k1, k2⟩
      have hin : InN n m := fun j hj => hi j (hsub j hj)
      refine ⟨_, rfl, _, rfl, _, rfl, _, rfl, _, _, rfl, rfl, ?_⟩
      dsimp only
      rw [and_neg hlow]
      refine ⟨_, rfl, tb, ts, n, ps, 2 ^ kk, m, rfl, e1 _ _ htb, TB, G, n2, hin, fun j hj => by rw [has_pow] at hj; subst hj; exact k1, fun c H2 e2 hc => ?_⟩
      have hcp : Has c kk := hc.seed kk (has_pow.mpr rfl)
      have hc0 : c ≠ 0 := fun e => has_zero (e ▸ hcp)
      have hlenL : (lotL i).length ≤ 200 := by have := lot_len (lot_lotL hi) n0; omega
      refine ⟨_, rfl, .inl ⟨rfl, _, SqL.of (e2 _ _ hl)⟩, _, rfl, p, _, _, rfl, rfl, e2 _ _ hl, (by rw [nints_len]; exact Nat.lt_of_le_of_lt (show done.length ≤ 200 by omega) (by decide)), ?_⟩
      refine ⟨_, rfl, _, rfl, _, _, rfl, rfl, ?_⟩
      dsimp only
      rw [xor_pp]
      have e3 := L2.Same.mut (o := .lst (nints done ++ [V.int (c : Nat)])) (e1.trans e2) hp
      refine ⟨m ^^^ c, low_lt hc0 hc.sub, m ^^^ c, done ++ [c], _, rfl, rfl, e3, ?_, fun j hj => hsub j ((xor_sub hc.sub).mp hj).1, fun cs h => ?_, ?_⟩
      · rw [upd_same]; unfold nints; rw [List.map_append]; rfl
      · rw [List.append_assoc]
        exact hcs _ (.cons hlow hc h)
      · have : (lotL (m ^^^ c)).length < (lotL m).length := by
          have e : lotL (m ^^^ c) = (lotL m).filter fun x => !decide (x ∈ lotL c) := ups_ext (isLot_L _).2.1 ((isLot_L m).2.1.filter _) fun x => by
            rw [List.mem_filter, mem_lotL, mem_lotL, xor_sub hc.sub]
            simp only [Bool.not_eq_true', decide_eq_false_iff_not, mem_lotL]
            constructor
            · rintro ⟨a, b, c⟩; exact ⟨⟨a, b⟩, fun h => c h.2⟩
            · rintro ⟨⟨a, b⟩, c⟩; exact ⟨a, b, fun h => c ⟨a, h⟩⟩
          rw [e]
          exact List.length_filter_lt_length_iff_exists.mpr ⟨(kk : Int), has_lotL.mpr k1, by simpa using has_lotL.mpr hcp⟩
        rw [List.length_append, List.length_singleton]
        omega
end

end Bs

namespace Bs
open PySem PySem.Spec L2
/-! ## lists of lots by their first parts -/
def HeadLt (a b : List Int) : Prop := ∃ x r y s, a = x :: r ∧ b = y :: s ∧ x < y
theorem HeadLt.lex {a b : List Int} (h : HeadLt a b) : HT.lexLt a b = true := by
  obtain ⟨x, r, y, s, rfl, rfl, h⟩ := h
  rw [HT.lexLt_cons, if_neg (by omega)]
  exact decide_eq_true h
theorem heads_nodup {L : List (List Int)} (h : L.Pairwise HeadLt) : L.Nodup := h.imp fun {a b} h => by
  obtain ⟨x, r, y, s, rfl, rfl, h⟩ := h
  intro e
  injection e with e
  omega
theorem heads_anti {L : List (List Int)} (h : L.Pairwise HeadLt) : ∀ a ∈ L, ∀ b ∈ L, a = b ∨ HeadLt a b ∨ HeadLt b a := by
  intro a ha b hb
  obtain ⟨i, hi, rfl⟩ := List.mem_iff_getElem.mp ha
  obtain ⟨j, hj, rfl⟩ := List.mem_iff_getElem.mp hb
  rcases Nat.lt_trichotomy i j with c | c | c
  · exact .inr (.inl (List.pairwise_iff_getElem.mp h i j hi hj c))
  · subst c; exact .inl rfl
  · exact .inr (.inr (List.pairwise_iff_getElem.mp h j i hj hi c))
theorem heads_sorted {L L' : List (List Int)} (h : L.Pairwise HeadLt) (hp : L'.Perm L) (hs : L'.Pairwise fun a b => HT.lexLt b a = false) : L' = L := by
  refine List.Perm.eq_of_pairwise (le := fun a b => HT.lexLt b a = false) (fun a b ha hb h1 h2 => ?_) hs (h.imp fun {a b} hab => ?_) hp
  · rcases heads_anti h a (hp.mem_iff.mp ha) b hb with e | e | e
    · exact e
    · rw [e.lex] at h2; cases h2
    · rw [e.lex] at h1; cases h1
  · obtain ⟨x, r, y, s, rfl, rfl, hl⟩ := hab
    have h1 : ¬ y < x := by omega
    have h2 : ¬ y = x := by omega
    simp [HT.lexLt, h1, h2]
theorem heads_ext {L M : List (List Int)} (h : L.Pairwise HeadLt) (h' : M.Pairwise HeadLt) (hm : ∀ l, l ∈ L ↔ l ∈ M) : L = M := by
  have hp : L.Perm M := (List.perm_ext_iff_of_nodup (heads_nodup h) (heads_nodup h')).mpr hm
  refine heads_sorted h' hp (h.imp fun {a b} hab => ?_)
  obtain ⟨x, r, y, s, rfl, rfl, hl⟩ := hab
  have h1 : ¬ y < x := by omega
  have h2 : ¬ y = x := by omega
  simp [HT.lexLt, h1, h2]
/-! ## pieces: there are some, ascending -/
theorem low_head {c k : Nat} (h : Low c k) : ∃ r, lotL c = (k : Int) :: r := by
  have hm : (k : Int) ∈ lotL c := has_lotL.mpr h.1
  cases e : lotL c with
  | nil => rw [e] at hm; cases hm
  | cons x r =>
    have hx : x ∈ lotL c := by rw [e]; exact List.mem_cons_self
    obtain ⟨x0, hx1⟩ := mem_lotL.mp hx
    have up := (isLot_L c).2.1
    rw [e] at hm up
    rcases List.mem_cons.mp hm with h1 | h1
    · exact ⟨r, by rw [h1]⟩
    · have h2 := (List.pairwise_cons.mp up).1 _ h1
      have h3 := h.2 x.toNat (by omega)
      rw [show c.testBit x.toNat = true from hx1] at h3
      cases h3
theorem Low.sub {i c k : Nat} (h : Low i k) (hk : Has c k) (hs : ∀ j, Has c j → Has i j) : Low c k := ⟨hk, fun j hj => by
  cases e : c.testBit j with
  | false => rfl
  | true => have := h.2 j hj; rw [show i.testBit j = true from hs j e] at this; cases this⟩
section
variable {n : Int} {ps : List (Int × Int)}
theorem Pieces.low {i : Nat} {cs : List Nat} (h : Pieces ps i cs) : ∀ c ∈ cs, ∃ k, Low c k ∧ ∀ j, Has c j → Has i j := by
  induction h with
  | nil => simp
  | @cons i k c cs hl hc r ih =>
    intro d hd
    rcases List.mem_cons.mp hd with e | hd
    · subst e
      exact ⟨k, hl.sub (hc.seed k (has_pow.mpr rfl)) hc.sub, hc.sub⟩
    · obtain ⟨k', h1, h2⟩ := ih d hd
      exact ⟨k', h1, fun j hj => ((xor_sub hc.sub).mp (h2 j hj)).1⟩
theorem Pieces.heads {i : Nat} {cs : List Nat} (h : Pieces ps i cs) : (cs.map lotL).Pairwise HeadLt := by
  induction h with
  | nil => exact .nil
  | @cons i k c cs hl hc r ih =>
    refine List.pairwise_cons.mpr ⟨fun l hl' => ?_, ih⟩
    obtain ⟨d, hd, rfl⟩ := List.mem_map.mp hl'
    obtain ⟨k', h1, h2⟩ := r.low d hd
    have hck : Has c k := hc.seed k (has_pow.mpr rfl)
    obtain ⟨r1, e1⟩ := low_head (hl.sub hck hc.sub)
    obtain ⟨r2, e2⟩ := low_head h1
    refine ⟨_, _, _, _, e1, e2, ?_⟩
    have h3 := (xor_sub hc.sub).mp (h2 k' h1.1)
    rcases Nat.lt_trichotomy k k' with c1 | c1 | c1
    · omega
    · subst c1; exact absurd hck h3.2
    · have := hl.2 k' c1; rw [show i.testBit k' = true from h3.1] at this; cases this
theorem set_bits (p : Nat → Prop) : ∀ m : Nat, ∃ c : Nat, ∀ k, Has c k ↔ k < m ∧ p k
  | 0 => ⟨0, fun k => ⟨fun h => absurd h has_zero, fun h => by omega⟩⟩
  | m + 1 => by
    obtain ⟨c, hc⟩ := set_bits p m
    by_cases hp : p m
    · refine ⟨c ||| 2 ^ m, fun k => ?_⟩
      rw [has_or, has_pow, hc]
      constructor
      · rintro (⟨a, b⟩ | rfl)
        · exact ⟨by omega, b⟩
        · exact ⟨by omega, hp⟩
      · rintro ⟨a, b⟩
        by_cases e : k = m
        · exact .inr e
        · exact .inl ⟨by omega, b⟩
    · refine ⟨c, fun k => ?_⟩
      rw [hc]
      constructor
      · rintro ⟨a, b⟩; exact ⟨by omega, b⟩
      · rintro ⟨a, b⟩
        by_cases e : k = m
        · subst e; exact absurd b hp
        · exact ⟨by omega, b⟩
theorem hull_ex {s i : Nat} (hs : ∀ k, Has s k → Has i k) : ∃ c, Hull ps s i c := by
  obtain ⟨m, hm⟩ : ∃ m, ∀ k, Has i k → k < m := ⟨i, fun k hk => Classical.byContradiction fun h => by
    have : i < 2 ^ k := Nat.lt_of_lt_of_le (show i < 2 ^ i from Nat.lt_two_pow_self) (Nat.pow_le_pow_right (by decide) (by omega))
    unfold Has at hk
    rw [Nat.testBit_lt_two_pow this] at hk; cases hk⟩
  obtain ⟨c, hc⟩ := set_bits (fun k => ∀ X : Nat → Prop, (∀ k, Has s k → X k) → (∀ q k, X q → Has i k → T ps q k → X k) → X k) m
  have hsub : ∀ k, Has c k → Has i k := fun k hk => ((hc k).mp hk).2 (fun k => Has i k) hs (fun q k _ h _ => h)
  refine ⟨c, fun k hk => (hc k).mpr ⟨hm k (hs k hk), fun X h1 _ => h1 k hk⟩, hsub, fun q k hq hi ht => (hc k).mpr ⟨hm k hi, fun X h1 h2 => h2 q k (((hc q).mp hq).2 X h1 h2) hi ht⟩, fun X h1 h2 k hk => ((hc k).mp hk).2 X h1 h2⟩
theorem pieces_ex : ∀ (m : Nat) (i : Nat), i ≤ m → ∃ cs, Pieces ps i cs
  | m, i, hm => by
    by_cases h0 : i = 0
    · subst h0; exact ⟨[], .nil⟩
    · obtain ⟨k, hl⟩ := low_of (has_ex h0)
      obtain ⟨c, hc⟩ := hull_ex (ps := ps) (s := 2 ^ k) (i := i) fun j hj => by rw [has_pow] at hj; subst hj; exact hl.1
      have hck : Has c k := hc.seed k (has_pow.mpr rfl)
      have hlt := low_lt (fun e => has_zero (e ▸ hck)) hc.sub
      match m with
      | 0 => omega
      | m + 1 =>
        obtain ⟨cs, r⟩ := pieces_ex m (i ^^^ c) (by omega)
        exact ⟨c :: cs, .cons hl hc r⟩
/-- hangs together, as great as can be -/
structure Conn (ps : List (Int × Int)) (i c : Nat) : Prop where
  sub : ∀ k, Has c k → Has i k
  shut : ∀ q k, Has c q → Has i k → T ps q k → Has c k
  hung : ∃ s, Has c s ∧ ∀ X : Nat → Prop, X s → (∀ q k, X q → Has i k → T ps q k → X k) → ∀ k, Has c k → X k
theorem PiecesOk.conn {i : Nat} {cs : List Nat} (h : PiecesOk ps i cs) {c : Nat} (hc : c ∈ cs) : Conn ps i c := ⟨h.sub c hc, h.shut c hc, h.hung c hc⟩
theorem Conn.le {i c d e : Nat} (h : Conn ps i c) (h' : Conn ps i d) (h1 : Has c e) (h2 : Has d e) : ∀ k, Has c k → Has d k := by
  obtain ⟨s, hs, hg⟩ := h.hung
  by_cases hd : Has d s
  · exact hg (fun k => Has d k) hd (fun q k hq hi ht => h'.shut q k hq hi ht)
  · have := hg (fun k => Has i k ∧ ¬ Has d k) ⟨h.sub s hs, hd⟩ (fun q k hq hi ht => ⟨hi, fun hk => hq.2 (h'.shut k q hk hq.1 ht.symm)⟩) e h1
    exact absurd h2 this.2
theorem Conn.eq {i c d e : Nat} (h : Conn ps i c) (h' : Conn ps i d) (h1 : Has c e) (h2 : Has d e) : c = d := bits_ext fun k => ⟨h.le h' h1 h2 k, h'.le h h2 h1 k⟩
end
end Bs

namespace Bs
open PySem PySem.Spec L2
def LotAt (H : Hp) (v : V) (l : List Int) : Prop := ∃ a, v = .ref a ∧ H a = some (.tup (l.map V.int))
theorem LotAt.tk {H H' : Hp} {v : V} {l : List Int} (h : LotAt H v l) (e : TK H H') : LotAt H' v l := let ⟨a, h1, h2⟩ := h; ⟨a, h1, e _ _ h2⟩
theorem LotAt.ne {H : Hp} {v : V} {l : List Int} (h : LotAt H v l) : ∃ a, v = .ref a ∧ H a = some (.tup (l.map V.int)) := h
def lotOf (H : Hp) : V → List Int
  | .ref a => match H a with
    | some (.tup ys) => ys.map unI
    | _ => []
  | _ => []
theorem lotOf_at {H : Hp} {v : V} {l : List Int} (h : LotAt H v l) : lotOf H v = l := by
  obtain ⟨a, rfl, h⟩ := h
  unfold lotOf
  simp only [h]
  show (l.map V.int).map unI = l
  rw [List.map_map]
  exact (List.map_congr_left fun x _ => rfl).trans (List.map_id l)
theorem lots_of {H : Hp} : ∀ {xs : List V} {Ls : List (List Int)}, Paired (LotAt H) xs Ls → xs.map (lotOf H) = Ls
  | _, _, .nil => rfl
  | _, _, .cons r t => by rw [List.map_cons, lotOf_at r, lots_of t]
theorem paired_lots {H : Hp} : ∀ {xs : List V}, (∀ x ∈ xs, ∃ l, LotAt H x l) → Paired (LotAt H) xs (xs.map (lotOf H))
  | [], _ => .nil
  | x :: xs, h => by
    obtain ⟨l, hl⟩ := h x List.mem_cons_self
    exact .cons (by rw [lotOf_at hl]; exact hl) (paired_lots fun y hy => h y (List.mem_cons_of_mem _ hy))
theorem paired_all {α β : Type} {F : α → β → Prop} : ∀ {xs : List α} {ys : List β}, Paired F xs ys → ∀ x ∈ xs, ∃ y, F x y
  | _, _, .nil, x, h => by simp at h
  | _, _, .cons r t, x, h => (List.mem_cons.mp h).elim (fun e => ⟨_, e ▸ r⟩) (paired_all t x)
theorem paired_imp {α β : Type} {F G : α → β → Prop} (h : ∀ a b, F a b → G a b) : ∀ {xs : List α} {ys : List β}, Paired F xs ys → Paired G xs ys
  | _, _, .nil => .nil
  | _, _, .cons r t => .cons (h _ _ r) (paired_imp h t)
theorem paired_mapR {α β γ : Type} {F : α → γ → Prop} {g : β → γ} : ∀ {xs : List α} {ys : List β}, Paired (fun a b => F a (g b)) xs ys → Paired F xs (ys.map g)
  | _, _, .nil => .nil
  | _, _, .cons r t => .cons r (paired_mapR t)
/-! ## the defs on webs -/
section
variable {P : Program} {w : World} {K : PySem.W.Frag} {mg : Str → Option Value} {base : Heap} {C : Addr}
theorem every_in {n : Int} (n0 : 0 ≤ n) : InN n (2 ^ n.toNat - 1) := fun k hk => by
  unfold Has at hk
  rw [Nat.testBit_two_pow_sub_one] at hk
  have := of_decide_eq_true hk
  omega
theorem every_has {n : Int} {k : Nat} : Has (2 ^ n.toNat - 1) k ↔ (k : Int) < n := by
  unfold Has
  rw [Nat.testBit_two_pow_sub_one, decide_eq_true_eq]
  omega
def sp_check_number : Sp := fun vs H Q _ => ∃ i a b, vs = [.int i, .int a, .int b] ∧ a ≤ i ∧ i ≤ b ∧ Q .non H
abbrev s_check_number : Stmt := (top 7)
theorem sc_check_number : FnScope ["thing", "least", "most"] ["thing", "least", "most"] (defScope s_check_number) := ⟨rfl, rfl, rfl, by decide +kernel, rfl, by decide +kernel, by decide +kernel⟩

theorem ok_check_number {f : Addr} {fd : FuncData} (F : Fun K "check_number" "check_number" s_check_number f fd) (hm : mg "check_number" = some (.ref f)) (B : Bl mg) (c_is_number : Cal P w K mg base 2 "is_number" ["thing", "least", "most"] sp_is_number) : Cal P w K mg base 3 "check_number" ["thing", "least", "most"] sp_check_number := by
  refine ⟨f, fd, F.ok sc_check_number (fun vs H Q E h => ?_) (fun cdv A outer s H vs Q E hr h => ?_), hm, F.kp, F.binds (ps := ["thing", "least", "most"]) fun _ _ _ _ _ _ us hl => match us, hl with | [_, _, _], _ => rfl⟩
  · obtain ⟨i, a, b, rfl, _⟩ := h; rfl
  · obtain ⟨i, a, b, rfl, h1, h2, k⟩ := h
    refine ⟨_, (pss_one (ps_if (pt_not (pt_val (pe_cal c_is_number (hr.mono (by first | decide | omega)) (pa_cons (pv 0) (pa_cons (pv 1) (pa_cons (pv 2) pa_nil)))))) (pss_one ps_never) pss_nil)), ?_⟩
    refine ⟨_, rfl, _, rfl, _, rfl, i, a, b, rfl, _, rfl, ?_⟩
    rw [decide_eq_true (show a ≤ i ∧ i ≤ b from ⟨h1, h2⟩)]
    exact iteF k
def sp_all_bits (C : Addr) : Sp := fun vs H Q _ => ∃ x n u ps, vs = [.ref x] ∧ WebAt C H x n u ps ∧ 0 ≤ n ∧ n ≤ 200 ∧ Q (.int (2 ^ n.toNat - 1 : Nat)) H
abbrev s_all_bits : Stmt := (top 9)
theorem sc_all_bits : FnScope ["web"] ["web"] (defScope s_all_bits) := ⟨rfl, rfl, rfl, by decide +kernel, rfl, by decide +kernel, by decide +kernel⟩

theorem ok_all_bits {f : Addr} {fd : FuncData} (F : Fun K "all_bits" "all_bits" s_all_bits f fd) (hm : mg "all_bits" = some (.ref f)) (B : Bl mg) (T : Txt K mg C) : Cal P w K mg base 1 "all_bits" ["web"] (sp_all_bits C) := by
  refine ⟨f, fd, F.ok sc_all_bits (fun vs H Q E h => ?_) (fun cdv A outer s H vs Q E hr h => ?_), hm, F.kp, F.binds (ps := ["web"]) fun _ _ _ _ _ _ us hl => match us, hl with | [_], _ => rfl⟩
  · obtain ⟨x, n, u, ps, rfl, _⟩ := h; rfl
  · obtain ⟨x, n, u, ps, rfl, ⟨⟨dx, fs, h1, h2, h3⟩, _⟩, n0, n2, k⟩ := h
    refine ⟨_, (pss_one (ps_ret (pe_op op_sub (pe_op op_shl pe_int (pe_fld (pv 0) rfl)) pe_int))), ?_⟩
    refine ⟨_, rfl, x, C, dx, fs, _, rfl, h1, T.cl, T.nSize, h2, _, _, rfl, rfl, ⟨n0, by omega, by decide⟩, _, _, rfl, rfl, ?_⟩
    dsimp only
    have e2 : (1 : Int) * 2 ^ n.toNat - 1 = ((2 ^ n.toNat - 1 : Nat) : Int) := by
      have : 0 < 2 ^ n.toNat := Nat.pow_pos (by decide)
      rw [p2i n0]; omega
    rw [e2]
    exact k
def sp_pieces (C : Addr) : Sp := fun vs H Q _ => ∃ x n u ps, vs = [.ref x] ∧ WebAt C H x n u ps ∧ Good n ps ∧ 1 ≤ n ∧ n ≤ 200 ∧ ∀ q ys cs H', Same H H' → H q = none → H' q = some (.lst ys) → Paired (LotAt H') ys (cs.map lotL) → Pieces ps (2 ^ n.toNat - 1) cs → Q (.ref q) H'
abbrev s_pieces : Stmt := (top 15)
theorem sc_pieces : FnScope ["web", "piece"] ["web"] (defScope s_pieces) := ⟨rfl, rfl, rfl, by decide +kernel, rfl, by decide +kernel, by decide +kernel⟩

theorem ok_pieces {f : Addr} {fd : FuncData} (F : Fun K "pieces" "pieces" s_pieces f fd) (hm : mg "pieces" = some (.ref f)) (B : Bl mg) (c_pieces_of : Cal P w K mg base 4 "pieces_of" ["tied", "inside"] sp_pieces_of) (c_tied_bits : Cal P w K mg base 1 "tied_bits" ["web"] (sp_tied_bits C)) (c_all_bits : Cal P w K mg base 1 "all_bits" ["web"] (sp_all_bits C)) (c_lot_of : Cal P w K mg base 1 "lot_of" ["bits"] sp_lot_of) : Cal P w K mg base 5 "pieces" ["web"] (sp_pieces C) := by
  refine ⟨f, fd, F.ok sc_pieces (fun vs H Q E h => ?_) (fun cdv A outer s H vs Q E hr h => ?_), hm, F.kp, F.binds (ps := ["web"]) fun _ _ _ _ _ _ us hl => match us, hl with | [_], _ => rfl⟩
  · obtain ⟨x, n, u, ps, rfl, _⟩ := h; rfl
  · obtain ⟨x, n, u, ps, rfl, W, G, n1, n2, k⟩ := h
    refine ⟨_, (pss_one (ps_ret (pe_lc (own := [("piece", 1)]) (by rfl) sc_pieces.nd (pi_list (pe_cal c_pieces_of (hr.mono (by first | decide | omega)) (pa_cons (pe_cal c_tied_bits (hr.mono (by first | decide | omega)) (pa_cons (pv 0) pa_nil)) (pa_cons (pe_cal c_all_bits (hr.mono (by first | decide | omega)) (pa_cons (pv 0) pa_nil)) pa_nil)))) (blkOk_by (own := [("piece", 1)]) (N := ["web", "piece"]) (sc := defScope s_pieces) (by decide +kernel)) (fun _ _ _ _ _ => (pg_name (i := 1) sc_pieces.nd rfl (by first | exact Or.inl rfl | exact Or.inr rfl))) (fun _ _ _ _ _ => pts_nil) (fun _ _ _ _ _ => (pe_cal c_lot_of (hr.mono (by first | decide | omega)) (pa_cons (pv 1) pa_nil)))))), ?_⟩
    refine ⟨_, rfl, x, n, u, ps, rfl, W, G, n1, n2, fun tb ts H1 e1 ntb htb TB => ?_⟩
    refine ⟨_, rfl, x, n, u, ps, rfl, W.same e1, by omega, n2, ?_⟩
    refine ⟨tb, ts, n, ps, _, rfl, htb, TB, G, by omega, n2, every_in (by omega), fun p cs H2 e2 np hp hcs => ?_⟩
    have e12 := e1.trans e2
    have hcl : cs.length ≤ 200 := by
      have h1 := hcs.heads
      have h2 : ((cs.map lotL).map fun l => l.headD 0).Nodup := by
        refine List.nodup_iff_pairwise_ne.mpr (List.pairwise_map.mpr (h1.imp fun {a b} hab => ?_))
        obtain ⟨x, r, y, s, rfl, rfl, hl⟩ := hab
        show x ≠ y
        omega
      have h3 := nodup_len (n := n) h2 (fun z hz => by
        obtain ⟨l, hl, rfl⟩ := List.mem_map.mp hz
        obtain ⟨c, hc, rfl⟩ := List.mem_map.mp hl
        obtain ⟨k, hk, hs⟩ := hcs.low c hc
        obtain ⟨r, er⟩ := low_head hk
        rw [er]
        have := every_in (n := n) (by omega) k (hs k hk.1)
        show (0 : Int) ≤ (k : Int) ∧ (k : Int) < n
        omega) (by omega)
      rw [List.length_map, List.length_map] at h3
      omega
    refine ⟨p, rfl, ⟨_, SqL.of hp⟩, fun D hD => lc_data (walk_list (K := K) (a := p) (xs := nints cs)) cs (nints_len cs).symm (fun _ => true) (fun H' v c => LotAt H' v (lotL c)) (fun _ _ _ _ t q => q.tk t) hD (fun H' e => SqL.of (e _ _ hp)) (Nat.lt_of_le_of_lt hcl (by decide)) ?_ (fun _ _ _ _ _ y => yat_same y) ?_⟩
    · rintro j c v H3 H4 Ny Nn hj e3 ⟨rfl, hv⟩ kE kN
      have hlt : j < cs.length := (List.getElem?_eq_some_iff.mp hj).1
      rw [nints_get hlt] at hv
      have ec : cs.getD j 0 = c := by rw [List.getD_eq_getElem?_getD, hj]; rfl
      rw [ec] at hv
      cases hv
      refine ⟨rfl, yes_if ?_⟩
      have hin : InN n c := fun k hk => every_in (by omega) k ((hcs.low c (List.mem_of_getElem? hj)).choose_spec.2 k hk)
      refine ⟨_, rfl, c, rfl, hin.small n2, fun q l H5 e5 nq hq hl => ?_⟩
      have := isLot_eq hl
      subst this
      exact kE _ _ rfl e5 ⟨q, rfl, hq⟩
    · intro zs H3 e3 hzs hpr
      rw [filter_yes] at hpr
      have g := e12.trans e3
      exact k D zs cs H3 g (L2.Same.free e12 hD) hzs (paired_mapR hpr) hcs
end
end Bs

namespace Bs
open PySem PySem.Spec L2
def rgI (a b : Int) : List Int := (List.range (b - a).toNat).map fun i : Nat => a + (i : Int)
theorem rgV_I (a b : Int) : rgV a b = (rgI a b).map V.int := by unfold rgV rgI; rw [List.map_map]; rfl
theorem mem_rgI {a b x : Int} : x ∈ rgI a b ↔ a ≤ x ∧ x < b := by
  unfold rgI
  constructor
  · intro h
    obtain ⟨i, hi, rfl⟩ := List.mem_map.mp h
    have := List.mem_range.mp hi
    omega
  · rintro ⟨h1, h2⟩
    exact List.mem_map.mpr ⟨(x - a).toNat, List.mem_range.mpr (by omega), by omega⟩
theorem rgI_len (a b : Int) : (rgI a b).length = (b - a).toNat := by unfold rgI; rw [List.length_map, List.length_range]
def prodL (As Bs : List Int) : List (Int × Int) := As.flatMap fun a => Bs.map fun b => (a, b)
theorem mem_prodL {As Bs : List Int} {p : Int × Int} : p ∈ prodL As Bs ↔ p.1 ∈ As ∧ p.2 ∈ Bs := by
  unfold prodL
  rw [List.mem_flatMap]
  constructor
  · rintro ⟨a, ha, h⟩
    obtain ⟨b, hb, rfl⟩ := List.mem_map.mp h
    exact ⟨ha, hb⟩
  · rintro ⟨h1, h2⟩
    exact ⟨p.1, h1, List.mem_map.mpr ⟨p.2, h2, rfl⟩⟩
theorem prodL_snoc {As Bs : List Int} {a : Int} : prodL (As ++ [a]) Bs = prodL As Bs ++ Bs.map fun b => (a, b) := by
  unfold prodL
  rw [List.flatMap_append, List.flatMap_singleton]
theorem prodL_len {Bs : List Int} : ∀ As : List Int, (prodL As Bs).length = As.length * Bs.length
  | [] => by simp [prodL]
  | a :: As => by
    have := prodL_len (Bs := Bs) As
    unfold prodL at this ⊢
    rw [List.flatMap_cons, List.length_append, this, List.length_map, List.length_cons, Nat.succ_mul]
    omega
section
variable {P : Program} {w : World} {K : PySem.W.Frag} {mg : Str → Option Value} {base : Heap} {C : Addr}
def sp_numbers : Sp := fun vs H Q _ => ∃ a b, vs = [.int a, .int b] ∧ 0 ≤ a ∧ 0 ≤ b ∧ a ≤ 10000 ∧ b ≤ 10000 ∧ ∀ q H', Same H H' → H q = none → H' q = some (.lst ((rgI a b).map V.int)) → Q (.ref q) H'
abbrev s_numbers : Stmt := (top 27)
theorem sc_numbers : FnScope ["low", "high"] ["low", "high"] (defScope s_numbers) := ⟨rfl, rfl, rfl, by decide +kernel, rfl, by decide +kernel, by decide +kernel⟩

theorem ok_numbers {f : Addr} {fd : FuncData} (F : Fun K "numbers" "numbers" s_numbers f fd) (hm : mg "numbers" = some (.ref f)) (B : Bl mg) : Cal P w K mg base 1 "numbers" ["low", "high"] sp_numbers := by
  refine ⟨f, fd, F.ok sc_numbers (fun vs H Q E h => ?_) (fun cdv A outer s H vs Q E hr h => ?_), hm, F.kp, F.binds (ps := ["low", "high"]) fun _ _ _ _ _ _ us hl => match us, hl with | [_, _], _ => rfl⟩
  · obtain ⟨a, b, rfl, _⟩ := h; rfl
  · obtain ⟨a, b, rfl, a0, b0, a1, b1, k⟩ := h
    refine ⟨_, (pss_one (ps_ret (pe_listRg (by rfl) (by rfl) B.list_ (prg_2 (by rfl) B.range (pv 0) (pv 1))))), ?_⟩
    refine ⟨_, rfl, _, rfl, a, b, rfl, rfl, RgOk.of_le a0 (by omega) (by omega) b0, fun q hq => ?_⟩
    refine k q _ (L2.Same.new hq) hq ?_
    rw [upd_same, rgV_I]
def sp_moved (C : Addr) : Sp := fun vs H Q _ => ∃ x n u ps d, vs = [.ref x, .int d] ∧ WebAt C H x n u ps ∧ ps.length ≤ 50000 ∧ ∀ q ys H', Same H H' → H q = none → H' q = some (.lst ys) → Pairs H' ys (ps.map fun p => (p.1 + d, p.2 + d)) → Q (.ref q) H'
abbrev s_moved : Stmt := (top 26)
theorem sc_moved : FnScope ["web", "by", "a", "b"] ["web", "by"] (defScope s_moved) := ⟨rfl, rfl, rfl, by decide +kernel, rfl, by decide +kernel, by decide +kernel⟩

theorem ok_moved {f : Addr} {fd : FuncData} (F : Fun K "moved" "moved" s_moved f fd) (hm : mg "moved" = some (.ref f)) (B : Bl mg) (T : Txt K mg C) : Cal P w K mg base 1 "moved" ["web", "by"] (sp_moved C) := by
  refine ⟨f, fd, F.ok sc_moved (fun vs H Q E h => ?_) (fun cdv A outer s H vs Q E hr h => ?_), hm, F.kp, F.binds (ps := ["web", "by"]) fun _ _ _ _ _ _ us hl => match us, hl with | [_, _], _ => rfl⟩
  · obtain ⟨x, n, u, ps, d, rfl, _⟩ := h; rfl
  · obtain ⟨x, n, u, ps, d, rfl, ⟨⟨dx, fs, h1, h2, h3⟩, xs, hu, hps⟩, hlen, k⟩ := h
    refine ⟨_, (pss_one (ps_ret (pe_lc (own := [("a", 2), ("b", 3)]) (g := (gTup K 2 (gCons (gName 2) (gCons (gName 3) gNil)))) (by rfl) sc_moved.nd (pi_tup (pe_fld (pv 0) rfl)) (blkOk_by (own := [("a", 2), ("b", 3)]) (N := ["web", "by", "a", "b"]) (sc := defScope s_moved) (by decide +kernel)) (fun _ _ _ _ _ => (pg_tup (by rfl) (pgs_cons (pg_name (i := 2) sc_moved.nd rfl (by first | exact Or.inl rfl | exact Or.inr rfl)) (pgs_cons (pg_name (i := 3) sc_moved.nd rfl (by first | exact Or.inl rfl | exact Or.inr rfl)) pgs_nil)))) (fun _ _ _ _ _ => pts_nil) (fun _ _ _ _ _ => (pe_tup (pa_cons (pe_op op_add (pv 2) (pv 1)) (pa_cons (pe_op op_add (pv 3) (pv 1)) pa_nil))))))), ?_⟩
    refine ⟨_, rfl, x, C, dx, fs, _, rfl, h1, T.cl, T.nTies, h3, u, rfl, ⟨_, SqT.of hu⟩, fun D hD => lc_data (walk_tup (K := K) (a := u) (xs := xs)) ps (Paired.len hps).symm (fun _ => true) (fun H' v p => PairAt H' v (p.1 + d, p.2 + d)) (fun _ _ _ _ t q => q.tk t) hD (fun H' e => SqT.of (e _ _ hu)) (Nat.lt_of_le_of_lt hlen (by decide)) ?_ (fun _ _ _ _ _ y => yat_same y) ?_⟩
    · rintro j p v H3 H4 Ny Nn hj e3 ⟨rfl, hv⟩ kE kN
      obtain ⟨a, rfl, ha⟩ : PairAt H v p := paired_at hps hv hj
      refine ⟨a, _, rfl, SqT.of (e3 _ _ ha), rfl, _, _, rfl, _, _, rfl, rfl, rfl, yes_if ?_⟩
      refine ⟨_, rfl, _, rfl, _, _, rfl, rfl, _, rfl, _, rfl, _, _, rfl, rfl, (by show 2 ≤ sizeLine; decide), fun c hc => ?_⟩
      exact kE _ _ rfl (L2.Same.new hc) ⟨c, rfl, upd_same⟩
    · intro zs H3 e3 hzs hpr
      rw [filter_yes] at hpr
      exact k D zs H3 e3 hD hzs (paired_mapR hpr)
def sp_across : Sp := fun vs H Q _ => ∃ a b As Bs, vs = [.ref a, .ref b] ∧ H a = some (.lst (As.map V.int)) ∧ H b = some (.lst (Bs.map V.int)) ∧ As.length * Bs.length ≤ 50000 ∧ ∀ q ys H', Same H H' → H q = none → H' q = some (.lst ys) → Pairs H' ys (prodL As Bs) → Q (.ref q) H'
abbrev s_across : Stmt := (top 28)
theorem sc_across : FnScope ["some", "others", "a", "b"] ["some", "others"] (defScope s_across) := ⟨rfl, rfl, rfl, by decide +kernel, rfl, by decide +kernel, by decide +kernel⟩

theorem ok_across {f : Addr} {fd : FuncData} (F : Fun K "across" "across" s_across f fd) (hm : mg "across" = some (.ref f)) (B : Bl mg) : Cal P w K mg base 1 "across" ["some", "others"] sp_across := by
  refine ⟨f, fd, F.ok sc_across (fun vs H Q E h => ?_) (fun cdv A outer s H vs Q E hr h => ?_), hm, F.kp, F.binds (ps := ["some", "others"]) fun _ _ _ _ _ _ us hl => match us, hl with | [_, _], _ => rfl⟩
  · obtain ⟨a, b, As, Bs, rfl, _⟩ := h; rfl
  · obtain ⟨a, b, As, Bs, rfl, ha, hb, hlen, k⟩ := h
    refine ⟨_, (pss_one (ps_ret (pe_lc2 (own := [("a", 2), ("b", 3)]) (vs1 := [3]) (wi1 := (iList K (tVar 1))) (by rfl) sc_across.nd (pi_list (pv 0)) (blkOk_by (own := [("a", 2), ("b", 3)]) (N := ["some", "others", "a", "b"]) (sc := defScope s_across) (by decide +kernel)) (by decide) (fun _ _ _ _ _ => (pg_name (i := 2) sc_across.nd rfl (by first | exact Or.inl rfl | exact Or.inr rfl))) (fun _ _ _ _ _ => pts_nil) (fun _ _ _ _ _ => (pi_list (pv 1))) (fun _ _ _ _ _ => (pg_name (i := 3) sc_across.nd rfl (by first | exact Or.inl rfl | exact Or.inr rfl))) (fun _ _ _ _ _ => pts_nil) (fun _ _ _ _ _ => (pe_tup (pa_cons (pv 2) (pa_cons (pv 3) pa_nil))))))), ?_⟩
    refine ⟨_, rfl, a, rfl, ⟨_, SqL.of ha⟩, fun D hD => ?_⟩
    have wA := walk_list (K := K) (a := a) (xs := As.map V.int)
    have wB := walk_list (K := K) (a := b) (xs := Bs.map V.int)
    refine ⟨fun i m H' => i + m = As.length ∧ Same H H' ∧ ∃ ys, H' D = some (.lst ys) ∧ Pairs H' ys (prodL (As.take i) Bs), ⟨_, Nat.zero_add _, L2.Same.new hD, [], upd_same, .nil⟩, ?_⟩
    rintro i m H1 ⟨him, e1, ys, hys, hp⟩
    rcases Nat.lt_or_ge i As.length with hi | hi
    · refine .inr ⟨wA.goes i H1 (by rw [List.length_map]; exact hi) (SqL.of (e1 _ _ ha)), _, fun H' h => h, fun v H2 hy => ?_⟩
      obtain ⟨rfl, hv⟩ := wA.yields i H1 v H2 (by rw [List.length_map]; exact hi) (SqL.of (e1 _ _ ha)) hy
      obtain ⟨y, hyA, rfl⟩ := map_get hv
      refine ⟨rfl, yes_if ?_⟩
      refine ⟨_, rfl, b, rfl, ⟨_, SqL.of (e1 _ _ hb)⟩, ?_⟩
      refine ⟨fun j k H' => j + k = Bs.length ∧ Same H H' ∧ ∃ ys, H' D = some (.lst ys) ∧ Pairs H' ys (prodL (As.take i) Bs ++ (Bs.take j).map fun z => (y, z)), ⟨_, Nat.zero_add _, e1, ys, hys, by simpa using hp⟩, ?_⟩
      rintro j k1 H3 ⟨hjk, e3, ys3, hys3, hp3⟩
      rcases Nat.lt_or_ge j Bs.length with hj | hj
      · refine .inr ⟨wB.goes j H3 (by rw [List.length_map]; exact hj) (SqL.of (e3 _ _ hb)), _, fun H' h => h, fun v H4 hy4 => ?_⟩
        obtain ⟨rfl, hv4⟩ := wB.yields j H3 v H4 (by rw [List.length_map]; exact hj) (SqL.of (e3 _ _ hb)) hy4
        obtain ⟨z, hzB, rfl⟩ := map_get hv4
        refine ⟨rfl, yes_if ?_⟩
        refine ⟨_, rfl, _, rfl, (by show 2 ≤ sizeLine; decide), fun c hc => ?_⟩
        have ec := L2.Same.new (o := .tup [.int y, .int z]) hc
        have hl3 := Paired.len hp3
        have hbound : ys3.length ≤ 50000 := by
          rw [hl3, List.length_append, prodL_len, List.length_map, List.length_take, List.length_take]
          have h1 : min i As.length ≤ As.length - 1 := by omega
          have h2 : (min i As.length) * Bs.length ≤ (As.length - 1) * Bs.length := Nat.mul_le_mul_right _ h1
          have h3 : As.length * Bs.length = (As.length - 1) * Bs.length + Bs.length := by
            obtain ⟨t, ht⟩ : ∃ t, As.length = t + 1 := ⟨As.length - 1, by omega⟩
            rw [ht, Nat.succ_mul]; simp
          omega
        refine ⟨ys3, ec _ _ hys3, Nat.lt_of_le_of_lt hbound (by decide), k1 - 1, by omega, by omega, (L2.Same.mut (e3.trans ec) hD), ys3 ++ [.ref c], upd_same, ?_⟩
        have cD : c ≠ D := fun q => by rw [q, hys3] at hc; cases hc
        rw [take_snoc hzB, List.map_append, ← List.append_assoc]
        refine Paired.app ((hp3.tk ec.tk).tk (tk_lst (ec _ _ hys3))) (.cons ⟨c, rfl, ?_⟩ .nil)
        rw [upd_ne cD, upd_same]
      · refine .inl ⟨?_, m - 1, by omega, by omega, e3, ys3, hys3, ?_⟩
        · have hjl : j = (Bs.map V.int).length := by rw [List.length_map]; omega
          rw [hjl]
          exact wB.stops H3 (SqL.of (e3 _ _ hb))
        · rw [take_snoc hyA, prodL_snoc]
          rw [List.take_of_length_le hj] at hp3
          exact hp3
    · refine .inl ⟨?_, ?_⟩
      · have hil : i = (As.map V.int).length := by rw [List.length_map]; omega
        rw [hil]
        exact wA.stops H1 (SqL.of (e1 _ _ ha))
      · rw [List.take_of_length_le hi] at hp
        exact k D ys H1 e1 hD hys hp
end
end Bs

namespace Bs
open PySem PySem.Spec L2
def shiftP (d : Int) (p : Int × Int) : Int × Int := (p.1 + d, p.2 + d)
def cop (t a : Int) : List Int := rgI (a * t) ((a + 1) * t)
theorem mem_cop {t a x : Int} (ht : 0 < t) : x ∈ cop t a ↔ x / t = a := by
  unfold cop
  rw [mem_rgI]
  constructor
  · rintro ⟨h1, h2⟩
    refine Int.le_antisymm ?_ ?_
    · have : x / t < a + 1 := Int.ediv_lt_of_lt_mul ht h2
      omega
    · exact Int.le_ediv_of_mul_le ht h1
  · rintro rfl
    have h1 := Int.ediv_mul_le x (show t ≠ 0 by omega)
    have h2 := Int.lt_ediv_add_one_mul_self x ht
    exact ⟨h1, h2⟩
theorem cop_nodup (t a : Int) : (cop t a).Nodup := by
  unfold cop rgI
  exact List.nodup_iff_pairwise_ne.mpr (List.pairwise_map.mpr ((List.pairwise_lt_range).imp fun {x y} h => by omega))
theorem cop_len {t a : Int} : (cop t a).length = t.toNat := by
  unfold cop
  rw [rgI_len, Int.add_mul, Int.one_mul]
  congr 1
  omega
def copP (t : Int) (ps : List (Int × Int)) : List (Int × Int) := ps.flatMap fun p => prodL (cop t p.1) (cop t p.2)
theorem mem_copP {t : Int} (ht : 0 < t) {ps : List (Int × Int)} {p : Int × Int} : p ∈ copP t ps ↔ (p.1 / t, p.2 / t) ∈ ps := by
  unfold copP
  rw [List.mem_flatMap]
  constructor
  · rintro ⟨q, hq, h⟩
    obtain ⟨h1, h2⟩ := mem_prodL.mp h
    rw [(mem_cop ht).mp h1, (mem_cop ht).mp h2]
    exact hq
  · intro h
    exact ⟨_, h, mem_prodL.mpr ⟨(mem_cop ht).mpr rfl, (mem_cop ht).mpr rfl⟩⟩
theorem prodL_nodup {As Bs : List Int} (h1 : As.Nodup) (h2 : Bs.Nodup) : (prodL As Bs).Nodup := by
  unfold prodL
  refine List.nodup_iff_pairwise_ne.mpr (List.pairwise_flatMap.mpr ⟨fun a _ => ?_, ?_⟩)
  · exact List.pairwise_map.mpr (h2.imp fun {x y} h e => h (by injection e))
  · refine h1.imp fun {a b} h x hx y hy e => ?_
    obtain ⟨x', _, rfl⟩ := List.mem_map.mp hx
    obtain ⟨y', _, rfl⟩ := List.mem_map.mp hy
    exact h (by injection e)
theorem copP_nodup {t : Int} (ht : 0 < t) {ps : List (Int × Int)} (h : ps.Nodup) : (copP t ps).Nodup := by
  unfold copP
  refine List.nodup_iff_pairwise_ne.mpr (List.pairwise_flatMap.mpr ⟨fun p _ => prodL_nodup (cop_nodup _ _) (cop_nodup _ _), h.imp fun {p q} hpq x hx y hy e => ?_⟩)
  subst e
  obtain ⟨a1, a2⟩ := mem_prodL.mp hx
  obtain ⟨b1, b2⟩ := mem_prodL.mp hy
  rw [mem_cop ht] at a1 a2 b1 b2
  exact hpq (Prod.ext (a1.symm.trans b1) (a2.symm.trans b2))
theorem copP_ok {n t : Int} (ht : 0 < t) {ps : List (Int × Int)} (G : Good n ps) : ∀ p ∈ copP t ps, 0 ≤ p.1 ∧ p.1 < p.2 ∧ p.2 < n * t := fun p hp => by
  have h := G.ok _ ((mem_copP ht).mp hp)
  dsimp only at h
  have h1 := Int.ediv_mul_le p.1 (show t ≠ 0 by omega)
  have h2 := Int.lt_ediv_add_one_mul_self p.1 ht
  have h3 := Int.ediv_mul_le p.2 (show t ≠ 0 by omega)
  have h4 := Int.lt_ediv_add_one_mul_self p.2 ht
  have h5 : (p.1 / t + 1) * t ≤ p.2 / t * t := Int.mul_le_mul_of_nonneg_right (by omega) (by omega)
  have h6 : (p.2 / t + 1) * t ≤ n * t := Int.mul_le_mul_of_nonneg_right (by omega) (by omega)
  have h7 : 0 ≤ p.1 / t * t := Int.mul_nonneg h.1 (by omega)
  omega
theorem copP_len {t : Int} : ∀ ps : List (Int × Int), (copP t ps).length = ps.length * (t.toNat * t.toNat)
  | [] => by simp [copP]
  | p :: ps => by
    have := copP_len (t := t) ps
    unfold copP at this ⊢
    rw [List.flatMap_cons, List.length_append, this, prodL_len, cop_len, cop_len, List.length_cons, Nat.succ_mul]
    omega
theorem shift_ok {n m : Int} {ps qs : List (Int × Int)} (n0 : 0 ≤ n) (m0 : 0 ≤ m) (G : Good n ps) (G' : Good m qs) : ∀ p ∈ ps ++ qs.map (shiftP n), 0 ≤ p.1 ∧ p.1 < p.2 ∧ p.2 < n + m := fun p hp => by
  rcases List.mem_append.mp hp with h | h
  · have := G.ok p h; omega
  · obtain ⟨q, hq, rfl⟩ := List.mem_map.mp h
    have := G'.ok q hq
    unfold shiftP
    dsimp only
    omega
theorem shift_nodup {n m : Int} {ps qs : List (Int × Int)} (n0 : 0 ≤ n) (G : Good n ps) (G' : Good m qs) : (ps ++ qs.map (shiftP n)).Nodup := by
  refine List.nodup_append.mpr ⟨up_nodup G.up, ?_, fun p hp q hq e => ?_⟩
  · refine List.nodup_iff_pairwise_ne.mpr (List.pairwise_map.mpr ((up_nodup G'.up).imp fun {p q} h e => h ?_))
    have h1 := congrArg Prod.fst e
    have h2 := congrArg Prod.snd e
    unfold shiftP at h1 h2
    dsimp only at h1 h2
    exact Prod.ext (by omega) (by omega)
  · subst e
    obtain ⟨q', hq', rfl⟩ := List.mem_map.mp hq
    have h1 := G.ok _ hp
    have h2 := G'.ok q' hq'
    unfold shiftP at h1
    dsimp only at h1
    omega
section
variable {P : Program} {w : World} {K : PySem.W.Frag} {mg : Str → Option Value} {base : Heap} {C : Addr}
def sp_beside (C : Addr) : Sp := fun vs H Q _ => ∃ x n u ps y m v qs, vs = [.ref x, .ref y] ∧ WebAt C H x n u ps ∧ WebAt C H y m v qs ∧ Good n ps ∧ Good m qs ∧ 0 ≤ n ∧ 0 ≤ m ∧ ps.length ≤ 20000 ∧ qs.length ≤ 20000 ∧ ∀ z t rs H', Same H H' → H z = none → WebAt C H' z (n + m) t rs → Good (n + m) rs → (∀ p, p ∈ rs ↔ p ∈ ps ∨ ∃ q ∈ qs, p = shiftP n q) → Q (.ref z) H'
abbrev s_beside : Stmt := (top 29)
theorem sc_beside : FnScope ["one", "other", "ties"] ["one", "other"] (defScope s_beside) := ⟨rfl, rfl, rfl, by decide +kernel, rfl, by decide +kernel, by decide +kernel⟩

theorem ok_beside {f : Addr} {fd : FuncData} (F : Fun K "beside" "beside" s_beside f fd) (hm : mg "beside" = some (.ref f)) (B : Bl mg) (T : Txt K mg C) (c_moved : Cal P w K mg base 1 "moved" ["web", "by"] (sp_moved C)) (c_web_of_any_size : Cal P w K mg base 7 "web_of_any_size" ["size", "ties"] (sp_web_of_any_size (K := K) C)) : Cal P w K mg base 8 "beside" ["one", "other"] (sp_beside C) := by
  refine ⟨f, fd, F.ok sc_beside (fun vs H Q E h => ?_) (fun cdv A outer s H vs Q E hr h => ?_), hm, F.kp, F.binds (ps := ["one", "other"]) fun _ _ _ _ _ _ us hl => match us, hl with | [_, _], _ => rfl⟩
  · obtain ⟨x, n, u, ps, y, m, v, qs, rfl, _⟩ := h; rfl
  · obtain ⟨x, n, u, ps, y, m, v, qs, rfl, W, W', G, G', n0, m0, l1, l2, k⟩ := h
    obtain ⟨⟨dx, fs, h1, h2, h3⟩, xs, hu, hps⟩ := id W
    obtain ⟨⟨dy, gs, i1, i2, i3⟩, ys, hv, hqs⟩ := id W'
    refine ⟨_, (pss_cons (ps_set (i := 2) sc_beside.nd rfl (by first | exact Or.inl rfl | exact Or.inr rfl) (pe_op op_cat (pe_callTy call_list_of (by rfl) B.list_ (by decide +kernel) (pa_cons (pe_fld (pv 0) rfl) pa_nil)) (pe_cal c_moved (hr.mono (by first | decide | omega)) (pa_cons (pv 1) (pa_cons (pe_fld (pv 0) rfl) pa_nil)))))
 (pss_one (ps_ret (pe_cal c_web_of_any_size (hr.mono (by first | decide | omega)) (pa_cons (pe_op op_add (pe_fld (pv 0) rfl) (pe_fld (pv 1) rfl)) (pa_cons (pv 2) pa_nil)))))), ?_⟩
    refine ⟨_, rfl, x, C, dx, fs, _, rfl, h1, T.cl, T.nTies, h3, u, _, rfl, .inr (SqT.of hu), fun d hd => ?_⟩
    have e1 := L2.Same.new (o := .lst xs) hd
    refine ⟨_, rfl, _, rfl, x, C, dx, fs, _, rfl, e1 _ _ h1, T.cl, T.nSize, h2, y, m, v, qs, n, rfl, W'.same e1, Nat.le_trans l2 (by decide), fun p zs H2 e2 np hp hz => ?_⟩
    have e12 := e1.trans e2
    have hxl := Paired.len hps
    have hzl := Paired.len hz
    rw [List.length_map] at hzl
    refine ⟨d, p, _, _, rfl, rfl, e2 _ _ upd_same, hp, Nat.le_trans (show xs.length + zs.length ≤ 40000 by omega) (by decide), fun g hg => ?_⟩
    have e3 := e12.new' (o := .lst (xs ++ zs)) hg
    refine ⟨_, rfl, x, C, dx, fs, _, rfl, e3 _ _ h1, T.cl, T.nSize, h2, _, rfl, y, C, dy, gs, _, rfl, e3 _ _ i1, T.cl, T.nSize, i2, _, _, rfl, rfl, _, rfl, ?_⟩
    refine ⟨n + m, g, _, ps ++ qs.map (shiftP n), rfl, SqL.of upd_same, (by rw [List.length_append]; exact Nat.le_trans (show xs.length + zs.length ≤ 40000 by omega) (by decide)), Paired.app (hps.tk e3.tk) (hz.tk (L2.Same.new hg).tk), fun z t rs H4 e4 nz W4 hperm hle => ?_⟩
    have ok := shift_ok n0 m0 G G'
    rw [map_norm (n := n + m) fun q hq => (ok q hq).2.1] at hperm
    refine k z t rs H4 (e3.trans e4) (L2.Same.free e3 nz) W4 (good_of hperm hle (shift_nodup n0 G G') ok) fun p => ?_
    rw [hperm.mem_iff, List.mem_append, List.mem_map]
    exact or_congr Iff.rfl ⟨fun ⟨q, a, b⟩ => ⟨q, a, b.symm⟩, fun ⟨q, a, b⟩ => ⟨q, a, b.symm⟩⟩
def sp_copies : Sp := fun vs H Q _ => ∃ a t, vs = [.int a, .int t] ∧ 0 ≤ a ∧ a ≤ 500 ∧ 0 < t ∧ t ≤ 10 ∧ ∀ q H', Same H H' → H q = none → H' q = some (.lst ((cop t a).map V.int)) → Q (.ref q) H'
abbrev s_copies_of : Stmt := (top 30)
theorem sc_copies_of : FnScope ["part", "times"] ["part", "times"] (defScope s_copies_of) := ⟨rfl, rfl, rfl, by decide +kernel, rfl, by decide +kernel, by decide +kernel⟩

theorem ok_copies_of {f : Addr} {fd : FuncData} (F : Fun K "copies_of" "copies_of" s_copies_of f fd) (hm : mg "copies_of" = some (.ref f)) (B : Bl mg) (c_numbers : Cal P w K mg base 1 "numbers" ["low", "high"] sp_numbers) : Cal P w K mg base 2 "copies_of" ["part", "times"] sp_copies := by
  refine ⟨f, fd, F.ok sc_copies_of (fun vs H Q E h => ?_) (fun cdv A outer s H vs Q E hr h => ?_), hm, F.kp, F.binds (ps := ["part", "times"]) fun _ _ _ _ _ _ us hl => match us, hl with | [_, _], _ => rfl⟩
  · obtain ⟨a, t, rfl, _⟩ := h; rfl
  · obtain ⟨a, t, rfl, a0, a1, t0, t1, k⟩ := h
    refine ⟨_, (pss_one (ps_ret (pe_cal c_numbers (hr.mono (by first | decide | omega)) (pa_cons (pe_op op_mul (pv 0) (pv 1)) (pa_cons (pe_op op_mul (pe_op op_add (pv 0) pe_int) (pv 1)) pa_nil))))), ?_⟩
    have h1 : 0 ≤ a * t := Int.mul_nonneg a0 (by omega)
    have h2 : a * t ≤ 500 * 10 := Int.mul_le_mul a1 t1 (by omega) (by decide)
    have h3 : (a + 1) * t = a * t + t := by rw [Int.add_mul, Int.one_mul]
    refine ⟨_, rfl, _, rfl, _, _, rfl, rfl, ?_, _, rfl, _, _, rfl, rfl, _, rfl, _, _, rfl, rfl, ?_, _, _, rfl, h1, by omega, by omega, by omega, fun q H' e nq hq => k q H' e nq hq⟩
    all_goals exact .inr ⟨by omega, by omega⟩
def sp_copied (C : Addr) : Sp := fun vs H Q _ => ∃ x n u ps t, vs = [.ref x, .int t] ∧ WebAt C H x n u ps ∧ Good n ps ∧ 1 ≤ n ∧ n ≤ 24 ∧ 1 ≤ t ∧ t ≤ 6 ∧ ∀ z v rs H', Same H H' → H z = none → WebAt C H' z (n * t) v rs → Good (n * t) rs → (∀ p : Int × Int, p ∈ rs ↔ (p.1 / t, p.2 / t) ∈ ps) → Q (.ref z) H'
abbrev s_copied : Stmt := (top 31)
theorem sc_copied : FnScope ["web", "times", "ties", "a", "b"] ["web", "times"] (defScope s_copied) := ⟨rfl, rfl, rfl, by decide +kernel, rfl, by decide +kernel, by decide +kernel⟩

theorem ok_copied {f : Addr} {fd : FuncData} (F : Fun K "copied" "copied" s_copied f fd) (hm : mg "copied" = some (.ref f)) (B : Bl mg) (T : Txt K mg C) (M : ∃ t, mg "MOST_COPIES" = some (.int 6 t)) (c_check_number : Cal P w K mg base 3 "check_number" ["thing", "least", "most"] sp_check_number) (c_across : Cal P w K mg base 1 "across" ["some", "others"] sp_across) (c_copies_of : Cal P w K mg base 2 "copies_of" ["part", "times"] sp_copies) (c_web_of_any_size : Cal P w K mg base 7 "web_of_any_size" ["size", "ties"] (sp_web_of_any_size (K := K) C)) : Cal P w K mg base 8 "copied" ["web", "times"] (sp_copied C) := by
  refine ⟨f, fd, F.ok sc_copied (fun vs H Q E h => ?_) (fun cdv A outer s H vs Q E hr h => ?_), hm, F.kp, F.binds (ps := ["web", "times"]) fun _ _ _ _ _ _ us hl => match us, hl with | [_, _], _ => rfl⟩
  · obtain ⟨x, n, u, ps, t, rfl, _⟩ := h; rfl
  · obtain ⟨x, n, u, ps, t, rfl, W, G, n1, n2, t1, t2, k⟩ := h
    obtain ⟨⟨dx, fs, h1, h2, h3⟩, xs, hu, hps⟩ := id W
    obtain ⟨tk6, h6⟩ := M
    refine ⟨_, (pss_cons (ps_expr (pe_cal c_check_number (hr.mono (by first | decide | omega)) (pa_cons (pv 1) (pa_cons pe_int (pa_cons (pe_glob (v := .int 6) (by rfl) h6 ⟨_, rfl⟩) pa_nil)))))
 (pss_cons (ps_set (i := 2) sc_copied.nd rfl (by first | exact Or.inl rfl | exact Or.inr rfl) (pe_lst pa_nil))
 (pss_cons (ps_for PassesOwn.never rfl (pi_tup (pe_fld (pv 0) rfl)) (pg_tup (by rfl) (pgs_cons (pg_name (i := 3) sc_copied.nd rfl (by first | exact Or.inl rfl | exact Or.inr rfl)) (pgs_cons (pg_name (i := 4) sc_copied.nd rfl (by first | exact Or.inl rfl | exact Or.inr rfl)) pgs_nil)))
  (pss_one (ps_expr (pe_bm PySem.F.plainAttrs_list PySem.F.slot_list_extend PySem.F.type_list_extend mt_extend (pv 2) (pa_cons (pe_cal c_across (hr.mono (by first | decide | omega)) (pa_cons (pe_cal c_copies_of (hr.mono (by first | decide | omega)) (pa_cons (pv 3) (pa_cons (pv 1) pa_nil))) (pa_cons (pe_cal c_copies_of (hr.mono (by first | decide | omega)) (pa_cons (pv 4) (pa_cons (pv 1) pa_nil))) pa_nil))) pa_nil)))))
 (pss_one (ps_ret (pe_cal c_web_of_any_size (hr.mono (by first | decide | omega)) (pa_cons (pe_op op_mul (pe_fld (pv 0) rfl) (pv 1)) (pa_cons (pv 2) pa_nil)))))))), ?_⟩
    refine ⟨_, rfl, t, 1, 6, rfl, t1, t2, ?_⟩
    refine ⟨Nat.zero_le _, fun d hd => ?_⟩
    have e1 := L2.Same.new (o := .lst []) hd
    have hpl := G.len n2
    have hxl := Paired.len hps
    refine ⟨_, rfl, x, C, dx, fs, _, rfl, e1 _ _ h1, T.cl, T.nTies, h3, u, rfl, ⟨_, SqT.of (e1 _ _ hu)⟩, for_tup (K := K) (a := u) (xs := xs) (fun i σ H' => Same H H' ∧ ∃ (ys : List V) (v3 v4 : Option V), σ = [some (.ref x), some (.int t), some (.ref d), v3, v4] ∧ H' d = some (.lst ys) ∧ Pairs H' ys (copP t (ps.take i)))
      ⟨e1, [], none, none, rfl, upd_same, .nil⟩ (fun i σ H' _ p => SqT.of (p.1 _ _ hu)) ?_ ?_⟩
    · rintro i v σ H1 hv ⟨e, ys, v3, v4, rfl, hys, hp⟩
      obtain ⟨p, hp1, hpa⟩ := Paired.get hps hv
      obtain ⟨a, rfl, ha⟩ := hpa
      have ok := G.ok p (List.mem_of_getElem? hp1)
      refine ⟨a, _, rfl, SqT.of (e _ _ ha), rfl, _, _, rfl, _, _, rfl, rfl, ?_⟩
      refine ⟨_, rfl, .inl ⟨rfl, _, SqL.of hys⟩, _, rfl, _, rfl, p.1, t, rfl, by omega, by omega, by omega, by omega, fun q1 H2 e2 nq1 hq1 => ?_⟩
      refine ⟨_, rfl, _, rfl, p.2, t, rfl, by omega, by omega, by omega, by omega, fun q2 H3 e3 nq2 hq2 => ?_⟩
      have hll : (cop t p.1).length * (cop t p.2).length ≤ 36 := by rw [cop_len, cop_len]; exact Nat.mul_le_mul (show t.toNat ≤ 6 by omega) (show t.toNat ≤ 6 by omega)
      refine ⟨q1, q2, _, _, rfl, e3 _ _ hq1, hq2, Nat.le_trans hll (by decide), fun q3 zs H4 e4 nq3 hq3 hz => ?_⟩
      have e24 := e2.trans (e3.trans e4)
      have hyl := Paired.len hp
      have hzl := Paired.len hz
      rw [copP_len] at hyl
      rw [prodL_len] at hzl
      have hb : ys.length ≤ 36000 := by
        rw [hyl]
        have h1 : (ps.take i).length ≤ 1000 := (by rw [List.length_take]; omega)
        have h2 : t.toNat * t.toNat ≤ 36 := Nat.mul_le_mul (show t.toNat ≤ 6 by omega) (show t.toNat ≤ 6 by omega)
        exact Nat.le_trans (Nat.mul_le_mul h1 h2) (by decide)
      refine ⟨d, q3, ys, zs, rfl, rfl, e24 _ _ hys, hq3, Nat.le_trans (show ys.length + zs.length ≤ 40000 by omega) (by decide), ?_⟩
      have ec : copP t (ps.take (i + 1)) = copP t (ps.take i) ++ prodL (cop t p.1) (cop t p.2) := by
        rw [take_snoc hp1]
        unfold copP
        rw [List.flatMap_append, List.flatMap_singleton]
      refine ⟨L2.Same.mut (e.trans e24) hd, ys ++ zs, _, _, rfl, upd_same, ?_⟩
      rw [ec]
      exact Paired.app ((hp.tk e24.tk).tk (tk_lst (e24 _ _ hys))) (hz.tk (tk_lst (e24 _ _ hys)))
    · rintro σ H1 ⟨e, ys, v3, v4, rfl, hys, hp⟩
      rw [hxl, List.take_length] at hp
      have hyl := Paired.len hp
      rw [copP_len] at hyl
      have hb : ys.length ≤ 36000 := by
        rw [hyl]
        have h2 : t.toNat * t.toNat ≤ 36 := Nat.mul_le_mul (show t.toNat ≤ 6 by omega) (show t.toNat ≤ 6 by omega)
        exact Nat.le_trans (Nat.mul_le_mul hpl h2) (by decide)
      refine ⟨_, rfl, x, C, dx, fs, _, rfl, e _ _ h1, T.cl, T.nSize, h2, _, rfl, _, _, rfl, rfl, .inr ⟨by omega, by omega⟩, _, rfl, ?_⟩
      refine ⟨n * t, d, ys, copP t ps, rfl, SqL.of hys, Nat.le_trans hb (by decide), hp, fun z v rs H4 e4 nz W4 hperm hle => ?_⟩
      have ok := copP_ok (show 0 < t by omega) G
      rw [map_norm (n := n * t) fun q hq => (ok q hq).2.1] at hperm
      exact k z v rs H4 (e.trans e4) (L2.Same.free e nz) W4 (good_of hperm hle (copP_nodup (by omega) (up_nodup G.up)) ok) fun p => by rw [hperm.mem_iff, mem_copP (show 0 < t by omega)]
end
end Bs

namespace Bs
open PySem PySem.Spec L2
/-! ## parts tied alike -/
def clsB (ts : List Nat) (i k : Nat) : List Int := ((List.range i).filter fun j => decide (ts.getD j 0 = k)).map fun j : Nat => (j : Int)
theorem mem_clsB {ts : List Nat} {i k : Nat} {x : Int} : x ∈ clsB ts i k ↔ ∃ j : Nat, x = (j : Int) ∧ j < i ∧ ts.getD j 0 = k := by
  unfold clsB
  rw [List.mem_map]
  constructor
  · rintro ⟨j, hj, rfl⟩
    have := List.mem_filter.mp hj
    exact ⟨j, rfl, List.mem_range.mp this.1, of_decide_eq_true this.2⟩
  · rintro ⟨j, rfl, h1, h2⟩
    exact ⟨j, List.mem_filter.mpr ⟨List.mem_range.mpr h1, decide_eq_true h2⟩, rfl⟩
theorem clsB_same {ts : List Nat} {i k : Nat} (h : ts.getD i 0 = k) : clsB ts (i + 1) k = clsB ts i k ++ [(i : Int)] := by
  unfold clsB
  rw [List.range_succ, List.filter_append, List.map_append]
  have : [i].filter (fun j => decide (ts.getD j 0 = k)) = [i] := by
    rw [List.filter_cons, decide_eq_true h]; rfl
  rw [this]; rfl
theorem clsB_other {ts : List Nat} {i k : Nat} (h : ts.getD i 0 ≠ k) : clsB ts (i + 1) k = clsB ts i k := by
  unfold clsB
  rw [List.range_succ, List.filter_append, List.map_append]
  have : [i].filter (fun j => decide (ts.getD j 0 = k)) = [] := by
    rw [List.filter_cons, decide_eq_false h]; rfl
  rw [this, List.map_nil, List.append_nil]
theorem clsB_up (ts : List Nat) (i k : Nat) : (clsB ts i k).Pairwise (· < ·) := by
  unfold clsB
  exact List.pairwise_map.mpr (((List.pairwise_lt_range).sublist List.filter_sublist).imp fun {a b} h => by omega)
theorem clsB_len (ts : List Nat) (i k : Nat) : (clsB ts i k).length ≤ i := by
  unfold clsB
  rw [List.length_map]
  exact Nat.le_trans (List.length_filter_le _ _) (by rw [List.length_range]; exact Nat.le_refl _)
/-- the lot of the parts tied as part k -/
def clsN (n : Int) (ts : List Nat) (k : Nat) : List Int := clsB ts n.toNat (ts.getD k 0)
def firsts (n : Int) (ts : List Nat) : List Nat := (List.range n.toNat).filter fun k => decide ((clsN n ts k).headD 0 = (k : Int))
/-- the classes, ascending -/
def classL (n : Int) (ts : List Nat) : List (List Int) := (firsts n ts).map (clsN n ts)
theorem cls_head {n : Int} {ts : List Nat} {k : Nat} (hk : (k : Int) < n) : ∃ h : Nat, (∃ r, clsN n ts k = (h : Int) :: r) ∧ (h : Int) < n ∧ ts.getD h 0 = ts.getD k 0 ∧ clsN n ts h = clsN n ts k := by
  have hm : (k : Int) ∈ clsN n ts k := mem_clsB.mpr ⟨k, rfl, by omega, rfl⟩
  cases e : clsN n ts k with
  | nil => rw [e] at hm; cases hm
  | cons x r =>
    have hx : x ∈ clsN n ts k := by rw [e]; exact List.mem_cons_self
    obtain ⟨h, rfl, h1, h2⟩ := mem_clsB.mp hx
    refine ⟨h, ⟨r, rfl⟩, by omega, h2, ?_⟩
    rw [← e]
    unfold clsN
    rw [h2]
theorem firsts_mem {n : Int} {ts : List Nat} {k : Nat} (hk : (k : Int) < n) : ∃ h ∈ firsts n ts, clsN n ts h = clsN n ts k := by
  obtain ⟨h, ⟨r, e1⟩, h1, h2, h3⟩ := cls_head (ts := ts) hk
  refine ⟨h, List.mem_filter.mpr ⟨List.mem_range.mpr (by omega), decide_eq_true ?_⟩, h3⟩
  rw [h3, e1]; rfl
theorem first_ex {n : Int} {ts : List Nat} {k : Nat} (h : k ∈ firsts n ts) : (k : Int) < n ∧ ∃ r, clsN n ts k = (k : Int) :: r := by
  have h1 := List.mem_filter.mp h
  have h2 := of_decide_eq_true h1.2
  have h3 := List.mem_range.mp h1.1
  obtain ⟨h', ⟨r, e⟩, _⟩ := cls_head (ts := ts) (n := n) (k := k) (by omega)
  rw [e] at h2
  have h2' : (h' : Int) = (k : Int) := h2
  exact ⟨by omega, r, by rw [e, h2']⟩
theorem class_heads (n : Int) (ts : List Nat) : (classL n ts).Pairwise HeadLt := by
  unfold classL
  refine List.pairwise_map.mpr ?_
  have : (firsts n ts).Pairwise fun a b => a < b ∧ a ∈ firsts n ts ∧ b ∈ firsts n ts := List.Pairwise.imp_of_mem (fun {a b} ha hb h => ⟨h, ha, hb⟩) ((List.pairwise_lt_range).sublist List.filter_sublist)
  refine this.imp fun {a b} h => ?_
  obtain ⟨_, r, e1⟩ := first_ex h.2.1
  obtain ⟨_, s, e2⟩ := first_ex h.2.2
  have := h.1
  exact ⟨_, _, _, _, e1, e2, by omega⟩
theorem mem_classL {n : Int} {ts : List Nat} {l : List Int} : l ∈ classL n ts ↔ ∃ k : Nat, (k : Int) < n ∧ l = clsN n ts k := by
  unfold classL
  rw [List.mem_map]
  constructor
  · rintro ⟨k, hk, rfl⟩; exact ⟨k, (first_ex hk).1, rfl⟩
  · rintro ⟨k, hk, rfl⟩
    obtain ⟨h, h1, h2⟩ := firsts_mem (ts := ts) hk
    exact ⟨h, h1, h2⟩
/-- groups by what parts are tied to -/
def encG (gs : List (Nat × Addr)) : List (L2.Key × V) := gs.map fun g => (Sum.inl (g.1 : Int), V.ref g.2)
theorem valV_G (k : Nat) : ∀ gs : List (Nat × Addr), (∀ v, valV (encG gs) (Sum.inl (k : Int)) = some v → ∃ g ∈ gs, g.1 = k ∧ v = .ref g.2) ∧ (valV (encG gs) (Sum.inl (k : Int)) = none → ∀ g ∈ gs, g.1 ≠ k)
  | [] => ⟨fun v h => (by cases h), fun _ g hg => (by cases hg)⟩
  | g :: gs => by
    obtain ⟨h1, h2⟩ := valV_G k gs
    by_cases e : g.1 = k
    · have hp : valV (encG (g :: gs)) (Sum.inl (k : Int)) = some (V.ref g.2) := valV_pos (p := (Sum.inl (g.1 : Int), V.ref g.2)) (by rw [e])
      rw [hp]
      refine ⟨fun v h => ⟨g, List.mem_cons_self, e, (Option.some.inj h).symm⟩, fun h => (by cases h)⟩
    · have hp : valV (encG (g :: gs)) (Sum.inl (k : Int)) = valV (encG gs) (Sum.inl (k : Int)) := valV_neg (p := (Sum.inl (g.1 : Int), V.ref g.2)) (fun h => by
        have h' := Sum.inl.inj h
        exact e (by omega))
      rw [hp]
      refine ⟨fun v h => ?_, fun h g' hg' => ?_⟩
      · obtain ⟨g', a, b⟩ := h1 v h
        exact ⟨g', List.mem_cons_of_mem _ a, b⟩
      · rcases List.mem_cons.mp hg' with rfl | hg'
        · exact e
        · exact h2 h g' hg'
structure Grp (H0 H : Hp) (d : Addr) (ts : List Nat) (i : Nat) (gs : List (Nat × Addr)) : Prop where
  nk : (gs.map (·.1)).Nodup
  na : (gs.map (·.2)).Nodup
  at_ : ∀ g ∈ gs, H g.2 = some (.lst ((clsB ts i g.1).map V.int))
  ne : ∀ g ∈ gs, ∃ j, j < i ∧ ts.getD j 0 = g.1
  all : ∀ j, j < i → ∃ g ∈ gs, g.1 = ts.getD j 0
  new : ∀ g ∈ gs, H0 g.2 = none ∧ g.2 ≠ d
theorem Grp.same {H0 H H' : Hp} {d : Addr} {ts : List Nat} {i : Nat} {gs : List (Nat × Addr)} (h : Grp H0 H d ts i gs) (e : ∀ g ∈ gs, H' g.2 = H g.2) : Grp H0 H' d ts i gs :=
  ⟨h.nk, h.na, fun g hg => by rw [e g hg]; exact h.at_ g hg, h.ne, h.all, h.new⟩
theorem nodup_inj {α β : Type} {f : α → β} : ∀ {l : List α}, (l.map f).Nodup → ∀ x ∈ l, ∀ y ∈ l, f x = f y → x = y
  | [], _, x, hx => by cases hx
  | a :: l, h, x, hx => fun y hy e => by
    rw [List.map_cons] at h
    obtain ⟨h1, h2⟩ := List.nodup_cons.mp h
    rcases List.mem_cons.mp hx with ex | hx
    · rcases List.mem_cons.mp hy with ey | hy
      · exact ex.trans ey.symm
      · exact absurd (List.mem_map.mpr ⟨y, hy, by rw [← e, ex]⟩) h1
    · rcases List.mem_cons.mp hy with ey | hy
      · exact absurd (List.mem_map.mpr ⟨x, hx, by rw [e, ey]⟩) h1
      · exact nodup_inj h2 x hx y hy e
theorem Grp.put {H0 H : Hp} {d : Addr} {ts : List Nat} {i : Nat} {gs : List (Nat × Addr)} (h : Grp H0 H d ts i gs) {g : Nat × Addr} (hg : g ∈ gs) (hk : g.1 = ts.getD i 0) : Grp H0 (L2.upd H g.2 (.lst ((clsB ts i g.1).map V.int ++ [V.int (i : Nat)]))) d ts (i + 1) gs := by
  refine ⟨h.nk, h.na, fun g' hg' => ?_, fun g' hg' => ?_, fun j hj => ?_, h.new⟩
  · by_cases e : g'.2 = g.2
    · have e2 := nodup_inj h.na g' hg' g hg e
      subst e2
      rw [upd_same, clsB_same hk.symm, List.map_append]; rfl
    · rw [upd_ne e, h.at_ g' hg', clsB_other]
      intro e2
      exact e (congrArg Prod.snd (nodup_inj h.nk g' hg' g hg (e2.symm.trans hk.symm)))
  · obtain ⟨j, h1, h2⟩ := h.ne g' hg'
    exact ⟨j, by omega, h2⟩
  · by_cases e : j = i
    · subst e; exact ⟨g, hg, hk⟩
    · exact h.all j (by omega)
theorem Grp.add {H0 H : Hp} {d z : Addr} {ts : List Nat} {i : Nat} {gs : List (Nat × Addr)} (h : Grp H0 H d ts i gs) (hno : ∀ g ∈ gs, g.1 ≠ ts.getD i 0) (hz : ∀ g ∈ gs, g.2 ≠ z) (hz0 : H0 z = none) (hzd : z ≠ d) : Grp H0 (L2.upd H z (.lst [V.int (i : Nat)])) d ts (i + 1) (gs ++ [(ts.getD i 0, z)]) := by
  have hcl : clsB ts i (ts.getD i 0) = [] := by
    cases e : clsB ts i (ts.getD i 0) with
    | nil => rfl
    | cons x r =>
      obtain ⟨j, _, h1, h2⟩ := mem_clsB.mp (show x ∈ clsB ts i (ts.getD i 0) by rw [e]; exact List.mem_cons_self)
      obtain ⟨g, hg, h3⟩ := h.all j h1
      exact absurd (h3.trans h2) (hno g hg)
  refine ⟨?_, ?_, fun g' hg' => ?_, fun g' hg' => ?_, fun j hj => ?_, fun g' hg' => ?_⟩
  · rw [List.map_append]
    exact List.nodup_append.mpr ⟨h.nk, by simp, fun a ha b hb e => by
      simp at hb; subst hb; subst e
      obtain ⟨g, hg, h1⟩ := List.mem_map.mp ha
      exact hno g hg h1⟩
  · rw [List.map_append]
    exact List.nodup_append.mpr ⟨h.na, by simp, fun a ha b hb e => by
      simp at hb; subst hb; subst e
      obtain ⟨g, hg, h1⟩ := List.mem_map.mp ha
      exact hz g hg h1⟩
  · rcases List.mem_append.mp hg' with hg' | hg'
    · rw [upd_ne (hz g' hg'), h.at_ g' hg', clsB_other (fun e => hno g' hg' e.symm)]
    · simp at hg'; subst hg'
      rw [upd_same]
      show _ = some (HO.lst ((clsB ts (i + 1) (ts.getD i 0)).map V.int))
      rw [clsB_same rfl, hcl]; rfl
  · rcases List.mem_append.mp hg' with hg' | hg'
    · obtain ⟨j, h1, h2⟩ := h.ne g' hg'
      exact ⟨j, by omega, h2⟩
    · simp at hg'; subst hg'; exact ⟨i, by omega, rfl⟩
  · by_cases e : j = i
    · subst e; exact ⟨_, List.mem_append.mpr (.inr List.mem_cons_self), rfl⟩
    · obtain ⟨g, h1, h2⟩ := h.all j (by omega)
      exact ⟨g, List.mem_append.mpr (.inl h1), h2⟩
  · rcases List.mem_append.mp hg' with hg' | hg'
    · exact h.new g' hg'
    · simp at hg'; subst hg'; exact ⟨hz0, hzd⟩
theorem Grp.classes {H0 H : Hp} {d : Addr} {n : Int} {ts : List Nat} {gs : List (Nat × Addr)} (h : Grp H0 H d ts n.toNat gs) : (gs.map fun g => clsB ts n.toNat g.1).Perm (classL n ts) := by
  refine (List.perm_ext_iff_of_nodup ?_ (heads_nodup (class_heads n ts))).mpr fun l => ?_
  · have h1 : gs.Pairwise fun a b => a.1 ≠ b.1 := List.pairwise_map.mp (List.nodup_iff_pairwise_ne.mp h.nk)
    have h2 : gs.Pairwise fun a b => a.1 ≠ b.1 ∧ a ∈ gs := List.Pairwise.imp_of_mem (fun {a b} ha hb h => ⟨h, ha⟩) h1
    refine List.nodup_iff_pairwise_ne.mpr (List.pairwise_map.mpr (h2.imp fun {a b} hab e => ?_))
    obtain ⟨j, j1, j2⟩ := h.ne a hab.2
    have hm : (j : Int) ∈ clsB ts n.toNat a.1 := mem_clsB.mpr ⟨j, rfl, j1, j2⟩
    rw [e] at hm
    obtain ⟨j', e1, _, e3⟩ := mem_clsB.mp hm
    have : j = j' := by omega
    subst this
    exact hab.1 (j2.symm.trans e3)
  · rw [mem_classL, List.mem_map]
    constructor
    · rintro ⟨g, hg, rfl⟩
      obtain ⟨j, j1, j2⟩ := h.ne g hg
      exact ⟨j, by omega, by unfold clsN; rw [j2]⟩
    · rintro ⟨k, hk, rfl⟩
      obtain ⟨g, hg, e⟩ := h.all k (by omega)
      exact ⟨g, hg, by unfold clsN; rw [e]⟩
end Bs

namespace Bs
open PySem PySem.Spec L2
section
variable {P : Program} {w : World} {K : PySem.W.Frag} {mg : Str → Option Value} {base : Heap} {C : Addr}
def sp_alike (C : Addr) : Sp := fun vs H Q _ => ∃ x n u ps, vs = [.ref x] ∧ WebAt C H x n u ps ∧ Good n ps ∧ 1 ≤ n ∧ n ≤ 200 ∧ ∀ q ys ts H', Same H H' → H q = none → H' q = some (.lst ys) → Tied n ps ts → Paired (LotAt H') ys (classL n ts) → Q (.ref q) H'
abbrev s_alike : Stmt := (top 16)
theorem sc_alike : FnScope ["web", "found", "part", "near", "parts"] ["web"] (defScope s_alike) := ⟨rfl, rfl, rfl, by decide +kernel, rfl, by decide +kernel, by decide +kernel⟩

theorem ok_alike {f : Addr} {fd : FuncData} (F : Fun K "alike" "alike" s_alike f fd) (hm : mg "alike" = some (.ref f)) (B : Bl mg) (c_tied_bits : Cal P w K mg base 1 "tied_bits" ["web"] (sp_tied_bits C)) : Cal P w K mg base 2 "alike" ["web"] (sp_alike C) := by
  refine ⟨f, fd, F.ok sc_alike (fun vs H Q E h => ?_) (fun cdv A outer s H vs Q E hr h => ?_), hm, F.kp, F.binds (ps := ["web"]) fun _ _ _ _ _ _ us hl => match us, hl with | [_], _ => rfl⟩
  · obtain ⟨x, n, u, ps, rfl, _⟩ := h; rfl
  · obtain ⟨x, n, u, ps, rfl, W, G, n1, n2, k⟩ := h
    refine ⟨_, (pss_cons (ps_set (i := 1) sc_alike.nd rfl (by first | exact Or.inl rfl | exact Or.inr rfl) pe_dnewK)
 (pss_cons (ps_for PassesOwn.never rfl (pi_enum (by rfl) B.enumerate (pa_cons (pe_cal c_tied_bits (hr.mono (by first | decide | omega)) (pa_cons (pv 0) pa_nil)) pa_nil)) (pg_tup (by rfl) (pgs_cons (pg_name (i := 2) sc_alike.nd rfl (by first | exact Or.inl rfl | exact Or.inr rfl)) (pgs_cons (pg_name (i := 3) sc_alike.nd rfl (by first | exact Or.inl rfl | exact Or.inr rfl)) pgs_nil)))
  (pss_one (ps_expr (pe_bm PySem.F.plainAttrs_list PySem.F.slot_list_append PySem.F.type_list_append mt_append (pe_dsetd (pv 1) (pv 3) (pe_lst pa_nil) ⟨by rfl, by rfl, by rfl, by rfl⟩) (pa_cons (pv 2) pa_nil)))))
 (pss_one (ps_ret (pe_callB (cr_sortedIt (Nat.lt_of_succ_lt (units65 hr))) (by rfl) B.sorted (by decide +kernel) (pa_cons (pe_lock (pe_lc (own := [("parts", 4)]) (te := (tCB (fun xs H Q => ∃ p ys, xs = [V.ref p] ∧ ((SqL K H p ys ∧ ∀ l, H l = none → Q (.ref l) (upd H l (.tup ys))) ∨ (SqT K H p ys ∧ Q (.ref p) H))) (tCons (tVar 4) tNil))) (by rfl) sc_alike.nd (pi_values (pv 1)) (blkOk_by (own := [("parts", 4)]) (N := ["web", "found", "part", "near", "parts"]) (sc := defScope s_alike) (by decide +kernel)) (fun _ _ _ _ _ => (pg_name (i := 4) sc_alike.nd rfl (by first | exact Or.inl rfl | exact Or.inr rfl))) (fun _ _ _ _ _ => pts_nil) (fun _ _ _ _ _ => (pe_callTy call_tuple_of (by rfl) B.tuple_ (by decide +kernel) (pa_cons (pv 4) pa_nil))))) pa_nil)))))), ?_⟩
    refine fun d hd => ?_
    have e0 := L2.Same.new (o := .dK []) hd
    refine ⟨_, rfl, x, n, u, ps, rfl, W.same e0, G, n1, n2, fun tb ts H1 e1 ntb htb TB => ?_⟩
    have hlen := TB.len
    have e01 := e0.trans e1
    have tbd : tb ≠ d := fun e => by rw [e, upd_same] at ntb; cases ntb
    have hd1 : H1 d = some (.dK []) := e1 _ _ upd_same
    refine ⟨tb, nints ts, rfl, SqL.of htb, for_it (walk_enum (K := K) (a := tb) (xs := nints ts)) (fun i σ H' => Same H H' ∧ H' tb = some (.lst (nints ts)) ∧ ∃ (gs : List (Nat × Addr)) (v2 v3 : Option V), σ = [some (.ref x), some (.ref d), v2, v3, none] ∧ H' d = some (.dK (encG gs)) ∧ Grp H H' d ts i gs ∧ (∀ g ∈ gs, g.2 ≠ tb) ∧ gs.length ≤ i)
      ⟨e01, htb, [], none, none, rfl, hd1, ⟨by simp, by simp, by simp, by simp, fun j hj => by omega, by simp⟩, by simp, by simp⟩ (fun i σ H' _ p => SqL.of p.2.1) ?_ ?_⟩
    · rintro i y σ H2 H3 hi ⟨e2, htb2, gs, v2, v3, rfl, hd2, GG, gtb, glen⟩ ⟨A1, y1, y2, rfl, hA, rfl, hy1, hy2⟩
      cases hy1
      rw [nints_len] at hi
      replace hy2 : (nints ts)[i]? = some y2 := hy2
      rw [nints_get hi] at hy2
      cases hy2
      have e3 : Same H2 (upd H2 A1 (.tup [.int (i : Nat), .int (ts.getD i 0 : Nat)])) := L2.Same.new hA
      refine ⟨A1, _, rfl, SqT.of upd_same, rfl, _, _, rfl, _, _, rfl, rfl, ?_⟩
      have hd3 := e3 _ _ hd2
      have e23 := e2.trans e3
      refine ⟨_, rfl, d, rfl, .inl ⟨_, .inl hd3⟩, _, rfl, Nat.zero_le _, fun z hz => ?_⟩
      have e4 := L2.Same.new (o := .lst []) hz
      have hd4 := e4 _ _ hd3
      have e24 := e3.trans e4
      have zd : z ≠ d := fun e => by rw [e, hd3] at hz; cases hz
      have ztb : z ≠ tb := fun e => by rw [e, e3 _ _ htb2] at hz; cases hz
      have hz0 : H z = none := L2.Same.free e23 hz
      have hz4 : (upd (upd H2 A1 (.tup [.int (i : Nat), .int (ts.getD i 0 : Nat)])) z (.lst [])) z = some (.lst []) := upd_same
      generalize upd (upd H2 A1 (.tup [.int (i : Nat), .int (ts.getD i 0 : Nat)])) z (.lst []) = H4 at e4 hd4 e24 hz4 ⊢
      have e04 := e2.trans e24
      have GG4 : Grp H H4 d ts i gs := GG.same fun g hg => by rw [GG.at_ g hg]; exact e24 _ _ (GG.at_ g hg)
      have gz : ∀ g ∈ gs, g.2 ≠ z := fun g hg e => by
        have := e3 _ _ (GG.at_ g hg)
        rw [e, hz] at this; cases this
      have htb4 := e24 _ _ htb2
      obtain ⟨q1, q2⟩ := valV_G (ts.getD i 0) gs
      have small : ∀ j : Nat, j ≤ 1000 → j < sizeLine := fun j h => Nat.lt_of_le_of_lt h (by decide)
      refine ⟨encG gs, Sum.inl ((ts.getD i 0 : Nat) : Int), hd4, rfl, (by unfold encG; rw [List.length_map]; exact small _ (by omega)), fun v hv => ?_, fun hno => ?_⟩
      · obtain ⟨g, hg, e, rfl⟩ := q1 v hv
        have hga := GG4.at_ g hg
        have hcl := clsB_len ts i g.1
        refine ⟨.inl ⟨rfl, _, SqL.of hga⟩, _, rfl, g.2, _, _, rfl, rfl, hga, (by rw [List.length_map]; exact small _ (by omega)), ?_⟩
        refine ⟨L2.Same.mut e04 (GG4.new g hg).1, (by rw [upd_ne (gtb g hg).symm]; exact htb4), gs, _, _, rfl, (by rw [upd_ne (GG4.new g hg).2.symm]; exact hd4), GG4.put hg e, gtb, by omega⟩
      · have hno' := q2 hno
        have hz5 : (upd H4 d (.dK (putK (encG gs) (Sum.inl ((ts.getD i 0 : Nat) : Int)) (.ref z)))) z = some (.lst []) := by rw [upd_ne zd]; exact hz4
        refine ⟨.inl ⟨rfl, _, SqL.of hz5⟩, _, rfl, z, _, _, rfl, rfl, hz5, small 0 (by omega), ?_⟩
        have eput : putK (encG gs) (Sum.inl ((ts.getD i 0 : Nat) : Int)) (V.ref z) = encG (gs ++ [(ts.getD i 0, z)]) := by
          rw [putK_new _ hno]; unfold encG; rw [List.map_append]; rfl
        rw [eput]
        have GG5 : Grp H (upd H4 d (.dK (encG (gs ++ [(ts.getD i 0, z)])))) d ts i gs := GG4.same fun g hg => by rw [upd_ne (GG4.new g hg).2]
        refine ⟨L2.Same.mut (L2.Same.mut e04 hd) hz0, ?_, gs ++ [(ts.getD i 0, z)], _, _, rfl, ?_, GG5.add hno' gz hz0 zd, fun g hg => ?_, by rw [List.length_append]; simp; omega⟩
        · rw [upd_ne ztb.symm, upd_ne tbd]; exact htb4
        · rw [upd_ne zd.symm]; exact upd_same
        · rcases List.mem_append.mp hg with hg | hg
          · exact gtb g hg
          · simp at hg; subst hg; exact ztb
    · rintro σ H2 ⟨e2, htb2, gs, v2, v3, rfl, hd2, GG, gtb, glen⟩
      rw [nints_len] at GG glen
      have en : ts.length = n.toNat := by omega
      rw [en] at GG glen
      refine ⟨d, _, hd2, trivial, fun od => ?_⟩
      have f2 : Same H (upd H2 d (.frz od (.dK (encG gs)))) := L2.Same.mut e2 hd
      have hd3 : (upd H2 d (.frz od (.dK (encG gs)))) d = some (.frz od (.dK (encG gs))) := upd_same
      have GG3 : Grp H (upd H2 d (.frz od (.dK (encG gs)))) d ts n.toNat gs := GG.same fun g hg => by rw [upd_ne (GG.new g hg).2]
      generalize upd H2 d (.frz od (.dK (encG gs))) = H3 at f2 hd3 GG3 ⊢
      have hgl : (encG gs).length = gs.length := List.length_map ..
      refine ⟨_, rfl, d, od, encG gs, rfl, hd3, fun D hD => lc_data (walk_values (d := d) (o := od) (kvs := encG gs)) gs hgl.symm (fun _ => true) (fun H' v g => LotAt H' v (clsB ts n.toNat g.1)) (fun _ _ _ _ t q => q.tk t) hD (fun H' e => e _ _ hd3) (Nat.lt_of_le_of_lt (show gs.length ≤ 1000 by omega) (by decide)) ?_ (fun _ _ _ _ _ y => by rw [y.1]; exact L2.Same.refl _) ?_⟩
      · rintro j g v H4 H5 Ny Nn hj e4 ⟨rfl, kk, hv⟩ kE kN
        unfold encG at hv
        rw [List.getElem?_map, hj] at hv
        cases hv
        refine ⟨rfl, yes_if ?_⟩
        have hga := e4 _ _ (GG3.at_ g (List.mem_of_getElem? hj))
        refine ⟨_, rfl, g.2, _, rfl, .inl ⟨SqL.of hga, fun q hq => ?_⟩⟩
        exact kE _ _ rfl (L2.Same.new hq) ⟨q, rfl, upd_same⟩
      · intro zs H4 e4 hzs hpr
        rw [filter_yes] at hpr
        have hd4 := e4 _ _ hd3
        refine ⟨hd4, ?_⟩
        have Dd : D ≠ d := fun e => by rw [e, hd3] at hD; cases hD
        have tk4 : TK H4 (upd H4 d (.dK (encG gs))) := TK.upd (by rw [hd4]; rfl)
        have f4 : Same H (upd H4 d (.dK (encG gs))) := L2.Same.mut (f2.trans e4) hd
        have hzs5 : (upd H4 d (.dK (encG gs))) D = some (.lst zs) := by rw [upd_ne Dd]; exact hzs
        generalize upd H4 d (.dK (encG gs)) = H5 at tk4 f4 hzs5 ⊢
        have hpr5 : Paired (LotAt H5) zs (gs.map fun g => clsB ts n.toNat g.1) := paired_mapR (paired_imp (fun _ _ h => LotAt.tk h tk4) hpr)
        refine ⟨D, zs, lotOf H5, rfl, SqL.of hzs5, fun x hx => ?_, .inl fun x hx => ?_, fun ys q hperm hsort hq => ?_⟩
        · obtain ⟨m, hm⟩ := paired_all hpr5 x hx
          obtain ⟨b, e, hb⟩ := id hm
          rw [lotOf_at hm]
          exact ⟨b, e, hb⟩
        · have : lotOf H5 x ∈ zs.map (lotOf H5) := List.mem_map.mpr ⟨x, hx, rfl⟩
          rw [lots_of hpr5] at this
          obtain ⟨g, hg, e⟩ := List.mem_map.mp this
          obtain ⟨j, j1, j2⟩ := GG3.ne g hg
          rw [← e]
          have hm : (j : Int) ∈ clsB ts n.toNat g.1 := mem_clsB.mpr ⟨j, rfl, j1, j2⟩
          exact fun e0 => by rw [e0] at hm; cases hm
        · have e6 := L2.Same.new (o := .lst ys) hq
          have hys : Paired (LotAt H5) ys (ys.map (lotOf H5)) := paired_lots fun y hy => paired_all hpr5 y (hperm.mem_iff.mp hy)
          have hpl : (ys.map (lotOf H5)).Perm (classL n ts) := by
            have := hperm.map (lotOf H5)
            rw [lots_of hpr5] at this
            exact this.trans GG3.classes
          have es : ys.map (lotOf H5) = classL n ts := heads_sorted (class_heads n ts) hpl (List.pairwise_map.mpr hsort)
          rw [es] at hys
          exact k q ys ts _ (f4.trans e6) (L2.Same.free f4 hq) upd_same TB (paired_imp (fun _ _ h => LotAt.tk h e6.tk) hys)
end
end Bs

namespace Bs
open PySem PySem.Spec L2
section
variable {P : Program} {w : World} {K : PySem.W.Frag} {mg : Str → Option Value} {base : Heap} {C : Addr}
def twinsL (n : Int) (ts : List Nat) : List (List Int) := (classL n ts).filter fun l => decide (1 < l.length)
def sp_twins (C : Addr) : Sp := fun vs H Q _ => ∃ x n u ps, vs = [.ref x] ∧ WebAt C H x n u ps ∧ Good n ps ∧ 1 ≤ n ∧ n ≤ 200 ∧ ∀ q ys ts H', Same H H' → H q = none → H' q = some (.lst ys) → Tied n ps ts → Paired (LotAt H') ys (twinsL n ts) → Q (.ref q) H'
abbrev s_twins : Stmt := (top 17)
theorem sc_twins : FnScope ["web", "lot"] ["web"] (defScope s_twins) := ⟨rfl, rfl, rfl, by decide +kernel, rfl, by decide +kernel, by decide +kernel⟩

theorem ok_twins {f : Addr} {fd : FuncData} (F : Fun K "twins" "twins" s_twins f fd) (hm : mg "twins" = some (.ref f)) (B : Bl mg) (c_alike : Cal P w K mg base 2 "alike" ["web"] (sp_alike C)) : Cal P w K mg base 3 "twins" ["web"] (sp_twins C) := by
  refine ⟨f, fd, F.ok sc_twins (fun vs H Q E h => ?_) (fun cdv A outer s H vs Q E hr h => ?_), hm, F.kp, F.binds (ps := ["web"]) fun _ _ _ _ _ _ us hl => match us, hl with | [_], _ => rfl⟩
  · obtain ⟨x, n, u, ps, rfl, _⟩ := h; rfl
  · obtain ⟨x, n, u, ps, rfl, W, G, n1, n2, k⟩ := h
    refine ⟨_, (pss_one (ps_ret (pe_lc (own := [("lot", 1)]) (tt := (tTest (tOp _ (tCB (fun xs H Q => ∃ p ys, xs = [.ref p] ∧ (SqL K H p ys ∨ SqT K H p ys) ∧ Q (.int ys.length) H) (tCons (tVar 1) tNil)) _))) (by rfl) sc_twins.nd (pi_list (pe_cal c_alike (hr.mono (by first | decide | omega)) (pa_cons (pv 0) pa_nil))) (blkOk_by (own := [("lot", 1)]) (N := ["web", "lot"]) (sc := defScope s_twins) (by decide +kernel)) (fun _ _ _ _ _ => (pg_name (i := 1) sc_twins.nd rfl (by first | exact Or.inl rfl | exact Or.inr rfl))) (fun _ _ _ _ _ => (pts_one (pt_cmpR op_gt (pe_callB call_len_seq (by rfl) B.len (by decide +kernel) (pa_cons (pv 1) pa_nil)) pe_int (nomark _)))) (fun _ _ _ _ _ => (pv 1))))), ?_⟩
    refine ⟨_, rfl, x, n, u, ps, rfl, W, G, n1, n2, fun p ys ts H1 e1 np hp TB hys => ?_⟩
    have hl := Paired.len hys
    have hcl : (classL n ts).length ≤ 200 := by
      unfold classL firsts
      rw [List.length_map]
      exact Nat.le_trans (List.length_filter_le _ _) (by rw [List.length_range]; omega)
    refine ⟨p, rfl, ⟨_, SqL.of hp⟩, fun D hD => lc_data (walk_list (K := K) (a := p) (xs := ys)) (classL n ts) hl.symm (fun l => decide (1 < l.length)) (fun H' v l => LotAt H' v l) (fun _ _ _ _ t q => q.tk t) hD (fun H' e => SqL.of (e _ _ hp)) (Nat.lt_of_le_of_lt hcl (by decide)) ?_ (fun _ _ _ _ _ y => yat_same y) ?_⟩
    · rintro j l v H3 H4 Ny Nn hj e3 ⟨rfl, hv⟩ kE kN
      obtain ⟨a, rfl, ha⟩ : LotAt H1 v l := paired_at hys hv hj
      have ha3 := e3 _ _ ha
      refine ⟨rfl, ?_⟩
      refine ⟨_, rfl, a, _, rfl, .inr (SqT.of ha3), _, _, rfl, rfl, _, rfl, ?_⟩
      rw [List.length_map]
      refine onb (fun c => ⟨_, rfl, kE _ _ (decide_eq_true (by omega)) (L2.Same.refl _) ⟨a, rfl, ha3⟩⟩) (fun c => kN _ (decide_eq_false (by omega)) (L2.Same.refl _))
    · intro zs H3 e3 hzs hpr
      exact k D zs ts H3 (e1.trans e3) (L2.Same.free e1 hD) hzs TB hpr
def sp_near : Sp := fun vs H Q _ => ∃ n u xs ps, vs = [.int n, .ref u] ∧ H u = some (.tup xs) ∧ Pairs H xs ps ∧ Good n ps ∧ 1 ≤ n ∧ n ≤ 200 ∧ ∀ p ts H', Same H H' → H p = none → H' p = some (.lst (nints ts)) → Tied n ps ts → Q (.ref p) H'
abbrev s__law_near : Stmt := (top 36)
theorem sc__law_near : FnScope ["size", "ties", "part", "found", "one", "other"] ["size", "ties"] (defScope s__law_near) := ⟨rfl, rfl, rfl, by decide +kernel, rfl, by decide +kernel, by decide +kernel⟩

theorem ok_law_near {f : Addr} {fd : FuncData} (F : Fun K "_law_near" "_law_near" s__law_near f fd) (hm : mg "_law_near" = some (.ref f)) (B : Bl mg) : Cal P w K mg base 1 "_law_near" ["size", "ties"] sp_near := by
  refine ⟨f, fd, F.ok sc__law_near (fun vs H Q E h => ?_) (fun cdv A outer s H vs Q E hr h => ?_), hm, F.kp, F.binds (ps := ["size", "ties"]) fun _ _ _ _ _ _ us hl => match us, hl with | [_, _], _ => rfl⟩
  · obtain ⟨n, u, xs, ps, rfl, _⟩ := h; rfl
  · obtain ⟨n, u, xs, ps, rfl, h4, h5, G, n1, n2, k⟩ := h
    refine ⟨_, (pss_cons (ps_setLc (i := 3) (own := [("part", 2)]) (by rfl) sc__law_near.nd rfl rfl (sw_true rfl rfl rfl (by decide +kernel)) (pi_range1 (by rfl) B.range (pa_cons (pv 0) pa_nil)) (blkOk_by (own := [("part", 2)]) (N := ["size", "ties", "part", "found", "one", "other"]) (sc := defScope s__law_near) (by decide +kernel)) (fun _ _ _ _ _ => (pg_name (i := 2) sc__law_near.nd rfl (by first | exact Or.inl rfl | exact Or.inr rfl))) (fun _ _ _ _ _ => pts_nil) (fun _ _ _ _ _ => pe_int))
 (pss_cons (ps_for PassesOwn.never rfl (pi_tup (pv 1)) (pg_tup (by rfl) (pgs_cons (pg_name (i := 4) sc__law_near.nd rfl (by first | exact Or.inl rfl | exact Or.inr rfl)) (pgs_cons (pg_name (i := 5) sc__law_near.nd rfl (by first | exact Or.inl rfl | exact Or.inr rfl)) pgs_nil)))
  (pss_cons (ps_asg (pe_op op_or (pe_ix ix_list (pv 3) (pv 4) (fun _ _ => rfl)) (pe_op op_shl pe_int (pv 5))) (pg_sub (pv 3) (pv 4) set_list))
 (pss_one (ps_asg (pe_op op_or (pe_ix ix_list (pv 3) (pv 5) (fun _ _ => rfl)) (pe_op op_shl pe_int (pv 4))) (pg_sub (pv 3) (pv 5) set_list)))))
 (pss_one (ps_ret (pv 3))))), ?_⟩
    refine ⟨_, rfl, _, rfl, by omega, by omega, fun p hp => lc_data (walk_range (lo := 0) (n := n.toNat)) (List.range n.toNat) (List.length_range) (fun _ => true) (fun _ v i => v = .int ((0 : Nat) : Int)) (fun _ _ _ _ _ q => q) hp (fun _ _ => trivial) (by rw [List.length_range]; exact Nat.lt_of_le_of_lt (show n.toNat ≤ 1000 by omega) (by decide)) ?_ (fun _ _ _ _ _ y => by rw [y.1]; exact L2.Same.refl _) ?_⟩
    · rintro i a v H5 H6 Ny Nn hai e5 ⟨rfl, rfl⟩ kE kN
      exact ⟨rfl, yes_if (kE _ _ rfl (L2.Same.refl _) rfl)⟩
    intro zs1 H1 e1 hzs1 hpr1
    have ez := paired_eq (g := fun _ : Nat => V.int ((0 : Nat) : Int)) hpr1
    subst ez
    rw [filter_yes] at hzs1
    have e0 : (List.range n.toNat).map (fun _ : Nat => V.int ((0 : Nat) : Int)) = nints (List.replicate n.toNat 0) := by
      unfold nints; rw [List.map_replicate]
      exact List.eq_replicate_iff.mpr ⟨by rw [List.length_map, List.length_range], fun b hb => by obtain ⟨_, _, rfl⟩ := List.mem_map.mp hb; rfl⟩
    rw [e0] at hzs1
    refine ⟨_, rfl, u, rfl, ⟨_, SqT.of (e1 _ _ h4)⟩, for_tup (K := K) (a := u) (xs := xs) (fun i σ H' => Same H H' ∧ ∃ (ts : List Nat) (v1 v2 : Option V), σ = [some (.int n), some (.ref u), none, some (.ref p), v1, v2] ∧ H' p = some (.lst (nints ts)) ∧ (ts.length : Int) = n ∧ ∀ j k : Nat, j < ts.length → (ts.getD j 0).testBit k = decide (norm (j : Int) (k : Int) ∈ ps.take i))
      ⟨e1, _, none, none, rfl, hzs1, by rw [List.length_replicate]; omega, fun j k hj => by
        have : (List.replicate n.toNat 0).getD j 0 = 0 := by rw [List.getD_eq_getElem?_getD, List.getElem?_replicate]; split <;> rfl
        rw [this]; simp⟩ (fun i σ H' _ p => SqT.of (p.1 _ _ h4)) ?_ ?_⟩
    · rintro i v σ H' hv ⟨e3, ts, v1, v2, rfl, hts, hlen, hbit⟩
      obtain ⟨q, hq, a, rfl, ha⟩ := Paired.get h5 hv
      have hq2 := G.ok q (List.mem_of_getElem? hq)
      have l1 : q.1.toNat < ts.length := by omega
      have l2 : q.2.toNat < ts.length := by omega
      refine ⟨a, _, rfl, SqT.of (e3 _ _ ha), rfl, _, _, rfl, _, _, rfl, rfl, ?_⟩
      refine ⟨_, rfl, _, rfl, p, _, q.1, _, rfl, rfl, SqL.of hts, at_of (j := q.1.toNat) (by omega) (nints_get l1), ?_⟩
      refine ⟨_, rfl, _, _, rfl, rfl, ⟨by omega, by omega, by decide⟩, _, _, rfl, rfl, ?_⟩
      dsimp only
      rw [p2i (show 0 ≤ q.2 by omega), or_pp]
      refine ⟨_, rfl, _, rfl, p, _, q.1, q.1.toNat, rfl, rfl, hts, (by unfold ixN; rw [nints_len, if_pos hq2.1, if_pos (by omega)]), ?_⟩
      rw [nints_set]
      have l2' : q.2.toNat < (ts.set q.1.toNat (ts.getD q.1.toNat 0 ||| 2 ^ q.2.toNat)).length := by rw [List.length_set]; exact l2
      refine ⟨_, rfl, _, rfl, p, _, q.2, _, rfl, rfl, SqL.of upd_same, at_of (j := q.2.toNat) (by omega) (nints_get l2'), ?_⟩
      refine ⟨_, rfl, _, _, rfl, rfl, ⟨by omega, by omega, by decide⟩, _, _, rfl, rfl, ?_⟩
      dsimp only
      rw [p2i hq2.1, or_pp]
      refine ⟨_, rfl, _, rfl, p, _, q.2, q.2.toNat, rfl, rfl, upd_same, (by unfold ixN; rw [nints_len, List.length_set, if_pos (show 0 ≤ q.2 by omega), if_pos (by omega)]), ?_⟩
      rw [nints_set, upd_upd]
      refine ⟨L2.Same.mut e3 hp, _, _, _, rfl, upd_same, by rw [List.length_set, List.length_set]; exact hlen, fun j k hj => ?_⟩
      rw [List.length_set, List.length_set] at hj
      rw [getD_set _ _ _ _ l2', getD_set _ _ _ _ l1, take_snoc hq]
      have hb := hbit j k hj
      have hb2 := hbit q.2.toNat k l2
      have hmem : (norm (j : Int) (k : Int) ∈ ps.take i ++ [q]) ↔ (norm (j : Int) (k : Int) ∈ ps.take i ∨ ((j : Int) = q.1 ∧ (k : Int) = q.2) ∨ ((j : Int) = q.2 ∧ (k : Int) = q.1)) := by
        rw [List.mem_append, List.mem_singleton, norm_pair (a := q.1) (b := q.2) hq2.2.1]
      have ne12 : ¬ q.1.toNat = q.2.toNat := by omega
      by_cases c2 : q.2.toNat = j
      · rw [if_pos c2, if_neg ne12, Nat.testBit_or, Nat.testBit_two_pow, hb2]
        have ej : ((q.2.toNat : Nat) : Int) = (j : Int) := by omega
        rw [ej]
        have hm2 : (norm (j : Int) (k : Int) ∈ ps.take i ∨ ((j : Int) = q.1 ∧ (k : Int) = q.2) ∨ ((j : Int) = q.2 ∧ (k : Int) = q.1)) ↔ (norm (j : Int) (k : Int) ∈ ps.take i ∨ q.1.toNat = k) := by
          constructor
          · rintro (h | h | h)
            · exact .inl h
            · omega
            · exact .inr (by omega)
          · rintro (h | h)
            · exact .inl h
            · exact .inr (.inr (by omega))
        exact (dec_or (hmem.trans hm2)).symm
      · rw [if_neg c2, getD_set _ _ _ _ l1]
        by_cases c1 : q.1.toNat = j
        · rw [if_pos c1, Nat.testBit_or, Nat.testBit_two_pow, c1, hb]
          have hm2 : (norm (j : Int) (k : Int) ∈ ps.take i ∨ ((j : Int) = q.1 ∧ (k : Int) = q.2) ∨ ((j : Int) = q.2 ∧ (k : Int) = q.1)) ↔ (norm (j : Int) (k : Int) ∈ ps.take i ∨ q.2.toNat = k) := by
            constructor
            · rintro (h | h | h)
              · exact .inl h
              · exact .inr (by omega)
              · omega
            · rintro (h | h)
              · exact .inl h
              · exact .inr (.inl (by omega))
          exact (dec_or (hmem.trans hm2)).symm
        · rw [if_neg c1, hb]
          refine dec_iff (Iff.trans ⟨fun h => .inl h, ?_⟩ hmem.symm)
          rintro (h | h | h)
          · exact h
          · omega
          · omega
    · rintro σ H' ⟨e3, ts, v1, v2, rfl, hts, hlen, hbit⟩
      refine ⟨_, rfl, k p ts H' e3 hp hts ⟨hlen, fun i k hi => ?_⟩⟩
      have := hbit i k hi
      rw [Paired.len h5, List.take_length] at this
      exact this
end
end Bs

namespace Bs
open PySem PySem.Spec L2
def tw (n : Int) (ts : List Nat) (k : Nat) : Bool := decide (1 < (clsN n ts k).length) && decide ((clsN n ts k).headD 0 = (k : Int))
theorem twinsL_eq (n : Int) (ts : List Nat) : twinsL n ts = ((List.range n.toNat).filter (tw n ts)).map (clsN n ts) := by
  unfold twinsL classL firsts
  rw [List.filter_map, List.filter_filter]
  rfl
section
variable {P : Program} {w : World} {K : PySem.W.Frag} {mg : Str → Option Value} {base : Heap} {C : Addr}
def sp_ltwins : Sp := fun vs H Q _ => ∃ n u xs ps, vs = [.int n, .ref u] ∧ H u = some (.tup xs) ∧ Pairs H xs ps ∧ Good n ps ∧ 1 ≤ n ∧ n ≤ 200 ∧ ∀ q ys ts H', Same H H' → H q = none → H' q = some (.lst ys) → Tied n ps ts → Paired (LotAt H') ys (twinsL n ts) → Q (.ref q) H'
abbrev s__law_twins : Stmt := (top 41)
theorem sc__law_twins : FnScope ["size", "ties", "near", "found", "part", "other", "lot"] ["size", "ties"] (defScope s__law_twins) := ⟨rfl, rfl, rfl, by decide +kernel, rfl, by decide +kernel, by decide +kernel⟩

theorem ok_law_twins {f : Addr} {fd : FuncData} (F : Fun K "_law_twins" "_law_twins" s__law_twins f fd) (hm : mg "_law_twins" = some (.ref f)) (B : Bl mg) (c__law_near : Cal P w K mg base 1 "_law_near" ["size", "ties"] sp_near) : Cal P w K mg base 2 "_law_twins" ["size", "ties"] sp_ltwins := by
  refine ⟨f, fd, F.ok sc__law_twins (fun vs H Q E h => ?_) (fun cdv A outer s H vs Q E hr h => ?_), hm, F.kp, F.binds (ps := ["size", "ties"]) fun _ _ _ _ _ _ us hl => match us, hl with | [_, _], _ => rfl⟩
  · obtain ⟨n, u, xs, ps, rfl, _⟩ := h; rfl
  · obtain ⟨n, u, xs, ps, rfl, h4, h5, G, n1, n2, k⟩ := h
    refine ⟨_, (pss_cons (ps_set (i := 2) sc__law_twins.nd rfl (by first | exact Or.inl rfl | exact Or.inr rfl) (pe_cal c__law_near (hr.mono (by first | decide | omega)) (pa_cons (pv 0) (pa_cons (pv 1) pa_nil))))
 (pss_cons (ps_set (i := 3) sc__law_twins.nd rfl (by first | exact Or.inl rfl | exact Or.inr rfl) (pe_lst pa_nil))
 (pss_cons (ps_for PassesOwn.never rfl (pi_range1 (by rfl) B.range (pa_cons (pv 0) pa_nil)) (pg_name (i := 4) sc__law_twins.nd rfl (by first | exact Or.inl rfl | exact Or.inr rfl))
  (pss_cons (ps_set (i := 6) sc__law_twins.nd rfl (by first | exact Or.inl rfl | exact Or.inr rfl) (pe_callTy call_tuple_of (by rfl) B.tuple_ (by decide +kernel) (pa_cons (pe_lc (own := [("other", 5)]) (tt := (tTest (tOp _ (tOp (rIxL K) _ _) (tOp (rIxL K) _ _)))) (by rfl) sc__law_twins.nd (pi_range1 (by rfl) B.range (pa_cons (pv 0) pa_nil)) (blkOk_by (own := [("other", 5)]) (N := ["size", "ties", "near", "found", "part", "other", "lot"]) (sc := defScope s__law_twins) (by decide +kernel)) (fun _ _ _ _ _ => (pg_name (i := 5) sc__law_twins.nd rfl (by first | exact Or.inl rfl | exact Or.inr rfl))) (fun _ _ _ _ _ => (pts_one (pt_cmpR op_eq (pe_ix ix_list (pv 2) (pv 5) (fun _ _ => rfl)) (pe_ix ix_list (pv 2) (pv 4) (fun _ _ => rfl)) (nomark _)))) (fun _ _ _ _ _ => (pv 5))) pa_nil)))
 (pss_one (ps_if (PW.pt (pw_and (pt_cmpR op_gt (pe_callB call_len_seq (by rfl) B.len (by decide +kernel) (pa_cons (pv 6) pa_nil)) pe_int (nomark _)) (pw_and1 (pt_cmpR op_eq (pe_ix ix_tup (pv 6) pe_int (fun _ _ => rfl)) (pv 4) (nomark _))))) (pss_one (ps_expr (pe_bm PySem.F.plainAttrs_list PySem.F.slot_list_append PySem.F.type_list_append mt_append (pv 3) (pa_cons (pv 6) pa_nil)))) pss_nil))))
 (pss_one (ps_ret (pv 3)))))), ?_⟩
    refine ⟨_, rfl, _, rfl, n, u, xs, ps, rfl, h4, h5, G, n1, n2, fun tb ts H1 e1 ntb htb TB => ?_⟩
    have hlen := TB.len
    refine ⟨Nat.zero_le _, fun fo hfo => ?_⟩
    have e2 := e1.new' (o := .lst []) hfo
    have hfo0 := L2.Same.free e1 hfo
    refine ⟨_, rfl, _, rfl, by omega, by omega, for_range (lo := 0) (n := n.toNat) (fun i σ H' => Same H H' ∧ H' tb = some (.lst (nints ts)) ∧ ∃ (ys : List V) (v4 v5 v6 : Option V), σ = [some (.int n), some (.ref u), some (.ref tb), some (.ref fo), v4, v5, v6] ∧ H' fo = some (.lst ys) ∧ Paired (LotAt H') ys (((List.range i).filter (tw n ts)).map (clsN n ts)))
      ⟨e2, (L2.Same.new hfo) _ _ htb, [], none, none, none, rfl, upd_same, .nil⟩ ?_ ?_⟩
    · rintro i σ H2 hi ⟨g2, htb2, ys, v4, v5, v6, rfl, hys, hp⟩
      rw [show (0 : Int) + (i : Nat) = (i : Nat) from Int.zero_add _]
      have hi2 : i < ts.length := by omega
      refine ⟨_, rfl, _, rfl, by omega, by omega, fun D hD => lc_data (walk_range (lo := 0) (n := n.toNat)) (List.range n.toNat) (List.length_range) (fun j => decide (ts.getD j 0 = ts.getD i 0)) (fun _ v j => v = .int (j : Nat)) (fun _ _ _ _ _ q => q) hD (fun _ _ => trivial) (by rw [List.length_range]; exact Nat.lt_of_le_of_lt (show n.toNat ≤ 1000 by omega) (by decide)) ?_ (fun _ _ _ _ _ y => by rw [y.1]; exact L2.Same.refl _) ?_⟩
      · rintro j a v H5 H6 Ny Nn hai e5 ⟨rfl, rfl⟩ kE kN
        have ea : a = j := by
          rw [List.getElem?_range (by have := (List.getElem?_eq_some_iff.mp hai).1; rw [List.length_range] at this; exact this)] at hai
          exact (Option.some.inj hai).symm
        subst ea
        have ha : a < n.toNat := by have := (List.getElem?_eq_some_iff.mp hai).1; rw [List.length_range] at this; exact this
        have e0 : V.int ((0 : Int) + (a : Nat)) = V.int (a : Nat) := by rw [Int.zero_add]
        show gName 5 (V.int ((0 : Int) + (a : Nat))) _ _ _
        rw [e0]
        refine ⟨rfl, ?_⟩
        have ht5 := e5 _ _ htb2
        refine ⟨_, rfl, _, rfl, tb, _, (a : Int), _, rfl, rfl, SqL.of ht5, at_of (j := a) rfl (nints_get (by omega)), _, rfl, _, rfl, tb, _, (i : Int), _, rfl, rfl, SqL.of ht5, at_of (j := i) rfl (nints_get hi2), rfl, _, rfl, ?_⟩
        have ed : decide (V.int (ts.getD a 0 : Nat) = V.int (ts.getD i 0 : Nat)) = decide (ts.getD a 0 = ts.getD i 0) := dec_iff ⟨fun h => by injection h with h; omega, fun h => by rw [h]⟩
        rw [ed]
        exact onb (fun c => ⟨_, rfl, kE _ _ (decide_eq_true c) (L2.Same.refl _) rfl⟩) (fun c => kN _ (decide_eq_false c) (L2.Same.refl _))
      intro zs H3 e3 hzs hpr
      have ez := paired_eq (g := fun j : Nat => V.int (j : Nat)) hpr
      subst ez
      have ec : ((List.range n.toNat).filter fun j => decide (ts.getD j 0 = ts.getD i 0)).map (fun j : Nat => V.int (j : Nat)) = (clsN n ts i).map V.int := by
        unfold clsN clsB
        rw [List.map_map]; rfl
      rw [ec] at hzs
      refine ⟨D, _, rfl, .inl ⟨SqL.of hzs, fun t ht => ?_⟩⟩
      have e4 := e3.new' (o := .tup ((clsN n ts i).map V.int)) ht
      have g4 := g2.trans e4
      have ht4 : (upd H3 t (.tup ((clsN n ts i).map V.int))) t = some (.tup ((clsN n ts i).map V.int)) := upd_same
      generalize upd H3 t (.tup ((clsN n ts i).map V.int)) = H4 at e4 g4 ht4 ⊢
      obtain ⟨h, ⟨r, er⟩, _⟩ := cls_head (ts := ts) (n := n) (k := i) (by omega)
      have hnext : ∀ b, tw n ts i = b → ((List.range (i + 1)).filter (tw n ts)).map (clsN n ts) = ((List.range i).filter (tw n ts)).map (clsN n ts) ++ (if b = true then [clsN n ts i] else []) := fun b hb => by
        rw [List.range_succ, List.filter_append, List.map_append]
        congr 1
        rw [List.filter_cons, hb]
        cases b <;> rfl
      refine ⟨_, rfl, t, _, rfl, .inr (SqT.of ht4), _, _, rfl, rfl, _, rfl, ?_⟩
      rw [List.length_map]
      have skip : tw n ts i = false → Paired (LotAt H4) ys (((List.range (i + 1)).filter (tw n ts)).map (clsN n ts)) := fun hb => by
        rw [hnext _ hb, if_neg (by decide), List.append_nil]
        exact paired_imp (fun _ _ h => LotAt.tk h e4.tk) hp
      have ht4' : H4 t = some (.tup (V.int (h : Int) :: r.map V.int)) := by rw [ht4, er]; rfl
      refine onb (fun c => ?_) (fun c => ⟨g4, e4 _ _ htb2, ys, _, _, _, rfl, e4 _ _ hys, skip (by unfold tw; rw [decide_eq_false (by omega)]; rfl)⟩)
      refine ⟨_, rfl, t, _, 0, V.int (h : Int), rfl, rfl, SqT.of ht4', at_of (j := 0) rfl rfl, ?_⟩
      refine ⟨_, rfl, rfl, _, rfl, ?_⟩
      have ed : decide (V.int (h : Int) = V.int (i : Nat)) = decide ((clsN n ts i).headD 0 = (i : Int)) := by
        rw [er]
        exact dec_iff ⟨fun q => by injection q, fun q => congrArg V.int q⟩
      rw [ed]
      refine onb (fun c2 => ?_) (fun c2 => ⟨g4, e4 _ _ htb2, ys, _, _, _, rfl, e4 _ _ hys, skip (by unfold tw; rw [decide_eq_false c2, Bool.and_false])⟩)
      have hys4 := e4 _ _ hys
      have hyl := Paired.len hp
      have hyb : ys.length ≤ 200 := by
        rw [hyl, List.length_map]
        exact Nat.le_trans (List.length_filter_le _ _) (by rw [List.length_range]; omega)
      refine ⟨_, rfl, .inl ⟨rfl, _, SqL.of hys4⟩, _, rfl, fo, _, _, rfl, rfl, hys4, Nat.lt_of_le_of_lt hyb (by decide), ?_⟩
      have ftb : fo ≠ tb := fun e => by rw [e, htb] at hfo; cases hfo
      refine ⟨L2.Same.mut g4 hfo0, (by rw [upd_ne ftb.symm]; exact e4 _ _ htb2), ys ++ [.ref t], _, _, _, rfl, upd_same, ?_⟩
      have hb : tw n ts i = true := by unfold tw; rw [decide_eq_true (by omega), decide_eq_true c2]; rfl
      rw [hnext _ hb, if_pos rfl]
      have tk5 : TK H4 (upd H4 fo (.lst (ys ++ [.ref t]))) := tk_lst hys4
      exact Paired.app (paired_imp (fun _ _ h => LotAt.tk h (e4.tk.trans tk5)) hp) (.cons ⟨t, rfl, tk5 _ _ ht4⟩ .nil)
    · rintro σ H2 ⟨g2, htb2, ys, v4, v5, v6, rfl, hys, hp⟩
      rw [← twinsL_eq] at hp
      exact ⟨_, rfl, k fo ys ts H2 g2 hfo0 hys TB hp⟩
end
end Bs

namespace Bs
open PySem PySem.Spec L2
/-! ## names that run along ties -/
section
variable {n : Int} {ps : List (Int × Int)} {cs : List Nat}
structure Lab (n : Int) (cs : List Nat) (ns : List Nat) : Prop where
  len : (ns.length : Int) = n
  inn : ∀ i, i < ns.length → ∃ c ∈ cs, Has c i ∧ Has c (ns.getD i 0)
def Stl (cs : List Nat) (ns : List Nat) (i : Nat) : Prop := ∃ c ∈ cs, Has c i ∧ Low c (ns.getD i 0)
def stepN (ns : List Nat) (a b : Nat) : List Nat := (ns.set a (min (ns.getD a 0) (ns.getD b 0))).set b (min (ns.getD a 0) (ns.getD b 0))
theorem stepN_len (ns : List Nat) (a b : Nat) : (stepN ns a b).length = ns.length := by unfold stepN; rw [List.length_set, List.length_set]
theorem stepN_get {ns : List Nat} {a b : Nat} (ha : a < ns.length) (hb : b < ns.length) (i : Nat) : (stepN ns a b).getD i 0 = if i = a ∨ i = b then min (ns.getD a 0) (ns.getD b 0) else ns.getD i 0 := by
  unfold stepN
  rw [getD_set _ _ _ _ (by rw [List.length_set]; exact hb), getD_set _ _ _ _ ha]
  by_cases e1 : b = i
  · subst e1; simp
  · by_cases e2 : a = i
    · subst e2; simp [e1]
    · have h1 : ¬ i = a := fun e => e2 e.symm
      have h2 : ¬ i = b := fun e => e1 e.symm
      simp [e1, e2, h1, h2]
theorem low_least {c k j : Nat} (h : Low c k) (hj : Has c j) : k ≤ j := by
  rcases Nat.lt_or_ge j k with h1 | h1
  · have := h.2 j h1; rw [show c.testBit j = true from hj] at this; cases this
  · exact h1
theorem tie_step {i0 : Nat} (PK : PiecesOk ps i0 cs) {ns : List Nat} (L : Lab n cs ns) {a b : Nat} (ha : a < ns.length) (hb : b < ns.length) (hbi : Has i0 b) (ht : T ps a b) :
    Lab n cs (stepN ns a b) ∧ (∀ i, Stl cs ns i → Stl cs (stepN ns a b) i) ∧ (Stl cs ns a ∨ Stl cs ns b → Stl cs (stepN ns a b) a ∧ Stl cs (stepN ns a b) b) := by
  obtain ⟨c, hc, hca, hna⟩ := L.inn a ha
  obtain ⟨c', hc', hcb', hnb'⟩ := L.inn b hb
  have hcb : Has c b := PK.shut c hc a b hca hbi ht
  have e := PK.one c' hc' c hc b hcb' hcb
  subst e
  have hmin : Has c' (min (ns.getD a 0) (ns.getD b 0)) := by
    rcases Nat.le_total (ns.getD a 0) (ns.getD b 0) with h | h
    · rw [Nat.min_eq_left h]; exact hna
    · rw [Nat.min_eq_right h]; exact hnb'
  have lowmin : (Low c' (ns.getD a 0) ∨ Low c' (ns.getD b 0)) → Low c' (min (ns.getD a 0) (ns.getD b 0)) := by
    rintro (h | h)
    · rw [Nat.min_eq_left (low_least h hnb')]; exact h
    · rw [Nat.min_eq_right (low_least h hna)]; exact h
  have ofS : Stl cs ns a ∨ Stl cs ns b → Low c' (min (ns.getD a 0) (ns.getD b 0)) := by
    rintro (⟨d, hd, h1, h2⟩ | ⟨d, hd, h1, h2⟩)
    · have e := PK.one d hd c' hc' a h1 hca
      subst e; exact lowmin (.inl h2)
    · have e := PK.one d hd c' hc' b h1 hcb
      subst e; exact lowmin (.inr h2)
  have get := stepN_get ha hb
  refine ⟨⟨by rw [stepN_len]; exact L.len, fun i hi => ?_⟩, fun i hs => ?_, fun h => ⟨⟨c', hc', hca, ?_⟩, ⟨c', hc', hcb, ?_⟩⟩⟩
  · rw [stepN_len] at hi
    rw [get]
    by_cases e : i = a ∨ i = b
    · rw [if_pos e]
      rcases e with rfl | rfl
      · exact ⟨c', hc', hca, hmin⟩
      · exact ⟨c', hc', hcb, hmin⟩
    · rw [if_neg e]; exact L.inn i hi
  · unfold Stl
    rw [get]
    by_cases e : i = a ∨ i = b
    · rw [if_pos e]
      rcases e with rfl | rfl
      · exact ⟨c', hc', hca, ofS (.inl hs)⟩
      · exact ⟨c', hc', hcb, ofS (.inr hs)⟩
    · rw [if_neg e]; exact hs
  · rw [get, if_pos (.inl rfl)]; exact ofS h
  · rw [get, if_pos (.inr rfl)]; exact ofS h
/-- a round over all ties -/
structure Round (n : Int) (ps : List (Int × Int)) (cs : List Nat) (ns0 : List Nat) (j : Nat) (ns : List Nat) : Prop where
  lab : Lab n cs ns
  mono : ∀ i, Stl cs ns0 i → Stl cs ns i
  done : ∀ m, m < j → ∀ q, ps[m]? = some q → Stl cs ns0 q.1.toNat ∨ Stl cs ns0 q.2.toNat → Stl cs ns q.1.toNat ∧ Stl cs ns q.2.toNat
theorem Round.step {i0 : Nat} (PK : PiecesOk ps i0 cs) (hi0 : ∀ k : Nat, Has i0 k ↔ (k : Int) < n) (G : Good n ps) {ns0 ns : List Nat} {j : Nat} (R : Round n ps cs ns0 j ns) {q : Int × Int} (hq : ps[j]? = some q) : Round n ps cs ns0 (j + 1) (stepN ns q.1.toNat q.2.toNat) := by
  have ok := G.ok q (List.mem_of_getElem? hq)
  have hl := R.lab.len
  have ht : T ps q.1.toNat q.2.toNat := by
    show norm _ _ ∈ ps
    rw [(norm_pair (a := q.1) (b := q.2) ok.2.1).mpr (.inl ⟨by omega, by omega⟩)]
    exact List.mem_of_getElem? hq
  obtain ⟨h1, h2, h3⟩ := tie_step PK R.lab (a := q.1.toNat) (b := q.2.toNat) (by omega) (by omega) ((hi0 _).mpr (by omega)) ht
  refine ⟨h1, fun i hi => h2 i (R.mono i hi), fun m hm q' hq' hs => ?_⟩
  by_cases e : m = j
  · subst e
    rw [hq] at hq'
    cases hq'
    exact h3 (hs.imp (R.mono _) (R.mono _))
  · obtain ⟨a, b⟩ := R.done m (by omega) q' hq' hs
    exact ⟨h2 _ a, h2 _ b⟩
noncomputable def cnt (n : Int) (cs ns : List Nat) : Nat := ((List.range n.toNat).filter fun i => @decide (Stl cs ns i) (Classical.propDecidable _)).length
theorem round_more {i0 : Nat} (PK : PiecesOk ps i0 cs) (hi0 : ∀ k : Nat, Has i0 k ↔ (k : Int) < n) {ns0 ns : List Nat} (R : Round n ps cs ns0 ps.length ns) (hroot : ∀ c ∈ cs, ∀ k, Low c k → Stl cs ns0 k) (hno : ¬ ∀ i : Nat, (i : Int) < n → Stl cs ns0 i) : cnt n cs ns0 < cnt n cs ns := by
  obtain ⟨i, hi, hs⟩ : ∃ i : Nat, (i : Int) < n ∧ ¬ Stl cs ns0 i := Classical.byContradiction fun h => hno fun i hi => Classical.byContradiction fun hs => h ⟨i, hi, hs⟩
  obtain ⟨c, hc, hci⟩ := PK.cover i ((hi0 i).mpr hi)
  obtain ⟨k, hk⟩ := low_of (PK.ne c hc)
  have hks := hroot c hc k hk
  obtain ⟨s, hcs, hg⟩ := PK.hung c hc
  obtain ⟨q, j, hq, hqs, hj, hjs, ht⟩ : ∃ q j : Nat, Has c q ∧ Stl cs ns0 q ∧ Has i0 j ∧ ¬ Stl cs ns0 j ∧ T ps q j := Classical.byContradiction fun hn => by
    by_cases hss : Stl cs ns0 s
    · have := hg (fun x => Has c x ∧ Stl cs ns0 x) ⟨hcs, hss⟩ (fun q x hq hx ht => ⟨PK.shut c hc q x hq.1 hx ht, Classical.byContradiction fun hxs => hn ⟨q, x, hq.1, hq.2, hx, hxs, ht⟩⟩) i hci
      exact hs this.2
    · have := hg (fun x => Has c x ∧ ¬ Stl cs ns0 x) ⟨hcs, hss⟩ (fun q x hq hx ht => by
        have hcx := PK.shut c hc q x hq.1 hx ht
        exact ⟨hcx, fun hxs => hn ⟨x, q, hcx, hxs, PK.sub c hc q hq.1, hq.2, ht.symm⟩⟩) k hk.1
      exact this.2 hks
  have hjn := (hi0 j).mp hj
  have hjs' : Stl cs ns j := by
    obtain ⟨m, hm, em⟩ := List.mem_iff_getElem.mp ht
    have hd := R.done m hm (norm (q : Int) (j : Int)) (by rw [List.getElem?_eq_getElem hm, em])
    unfold norm at hd
    dsimp only at hd
    by_cases h1 : (j : Int) < (q : Int)
    · have h2 : ¬ (j : Int) > (q : Int) := by omega
      rw [if_pos h1, if_neg h2, Int.toNat_natCast, Int.toNat_natCast] at hd
      exact (hd (.inr hqs)).1
    · by_cases h2 : (j : Int) > (q : Int)
      · rw [if_neg h1, if_pos h2, Int.toNat_natCast, Int.toNat_natCast] at hd
        exact (hd (.inl hqs)).2
      · have : j = q := by omega
        subst this; exact absurd hqs hjs
  unfold cnt
  have e : (List.range n.toNat).filter (fun i => @decide (Stl cs ns0 i) (Classical.propDecidable _)) = ((List.range n.toNat).filter (fun i => @decide (Stl cs ns i) (Classical.propDecidable _))).filter (fun i => @decide (Stl cs ns0 i) (Classical.propDecidable _)) := by
    rw [List.filter_filter]
    refine List.filter_congr fun x _ => ?_
    by_cases h : Stl cs ns0 x
    · simp [h, R.mono x h]
    · simp [h]
  rw [e]
  exact List.length_filter_lt_length_iff_exists.mpr ⟨j, List.mem_filter.mpr ⟨List.mem_range.mpr (by omega), by simp [hjs']⟩, by simp [hjs]⟩
theorem cnt_all {ns : List Nat} (h : n.toNat ≤ cnt n cs ns) : ∀ i : Nat, (i : Int) < n → Stl cs ns i := fun i hi => Classical.byContradiction fun hs => by
  have : ((List.range n.toNat).filter fun i => @decide (Stl cs ns i) (Classical.propDecidable _)).length < (List.range n.toNat).length := List.length_filter_lt_length_iff_exists.mpr ⟨i, List.mem_range.mpr (by omega), by simp [hs]⟩
  rw [List.length_range] at this
  unfold cnt at h
  omega
/-- the parts of one name -/
def labL (n : Int) (ns : List Nat) (m : Nat) : List Int := ((List.range n.toNat).filter fun i => decide (ns.getD i 0 = m)).map fun i : Nat => (i : Int)
theorem mem_labL {ns : List Nat} {m : Nat} {x : Int} : x ∈ labL n ns m ↔ ∃ i : Nat, x = (i : Int) ∧ (i : Int) < n ∧ ns.getD i 0 = m := by
  unfold labL
  rw [List.mem_map]
  constructor
  · rintro ⟨i, hi, rfl⟩
    have := List.mem_filter.mp hi
    have h2 := List.mem_range.mp this.1
    exact ⟨i, rfl, by omega, of_decide_eq_true this.2⟩
  · rintro ⟨i, rfl, h1, h2⟩
    exact ⟨i, List.mem_filter.mpr ⟨List.mem_range.mpr (by omega), decide_eq_true h2⟩, rfl⟩
theorem labL_piece {i0 : Nat} (PK : PiecesOk ps i0 cs) (hi0 : ∀ k : Nat, Has i0 k ↔ (k : Int) < n) {ns : List Nat} (hall : ∀ i : Nat, (i : Int) < n → Stl cs ns i) {c m : Nat} (hc : c ∈ cs) (hm : Low c m) : labL n ns m = lotL c := by
  refine ups_ext ?_ (isLot_L c).2.1 fun x => ?_
  · unfold labL
    exact List.pairwise_map.mpr (((List.pairwise_lt_range).sublist List.filter_sublist).imp fun {a b} h => by omega)
  · rw [mem_labL, mem_lotL]
    constructor
    · rintro ⟨i, rfl, h1, h2⟩
      obtain ⟨d, hd, h3, h4⟩ := hall i h1
      rw [h2] at h4
      have e := PK.one d hd c hc m h4.1 hm.1
      subst e
      exact ⟨by omega, by simpa using h3⟩
    · rintro ⟨x0, hx⟩
      have h1 := (hi0 _).mp (PK.sub c hc _ hx)
      obtain ⟨d, hd, h3, h4⟩ := hall x.toNat h1
      have e := PK.one d hd c hc x.toNat h3 hx
      subst e
      exact ⟨x.toNat, by omega, h1, h4.uniq hm⟩
theorem labs_pieces {i0 : Nat} (HC : Pieces ps i0 cs) (hi0 : ∀ k : Nat, Has i0 k ↔ (k : Int) < n) {ns : List Nat} (hall : ∀ i : Nat, (i : Int) < n → Stl cs ns i) :
    ((List.range n.toNat).filter fun m => decide (0 < (labL n ns m).length)).map (labL n ns) = cs.map lotL := by
  have PK := HC.ok
  have key : ∀ m, 0 < (labL n ns m).length → ∃ c ∈ cs, Low c m := fun m hm => by
    obtain ⟨x, hx⟩ := List.exists_mem_of_length_pos hm
    obtain ⟨i, rfl, h1, h2⟩ := mem_labL.mp hx
    obtain ⟨d, hd, _, h4⟩ := hall i h1
    rw [h2] at h4
    exact ⟨d, hd, h4⟩
  refine heads_ext ?_ HC.heads fun l => ?_
  · refine List.pairwise_map.mpr ?_
    have : ((List.range n.toNat).filter fun m => decide (0 < (labL n ns m).length)).Pairwise fun a b => a < b ∧ 0 < (labL n ns a).length ∧ 0 < (labL n ns b).length := List.Pairwise.imp_of_mem (fun {a b} ha hb h => ⟨h, of_decide_eq_true (List.mem_filter.mp ha).2, of_decide_eq_true (List.mem_filter.mp hb).2⟩) ((List.pairwise_lt_range).sublist List.filter_sublist)
    refine this.imp fun {a b} h => ?_
    obtain ⟨c, hc, h1⟩ := key a h.2.1
    obtain ⟨d, hd, h2⟩ := key b h.2.2
    rw [labL_piece PK hi0 hall hc h1, labL_piece PK hi0 hall hd h2]
    obtain ⟨r, e1⟩ := low_head h1
    obtain ⟨s, e2⟩ := low_head h2
    exact ⟨_, _, _, _, e1, e2, by have := h.1; omega⟩
  · rw [List.mem_map, List.mem_map]
    constructor
    · rintro ⟨m, hm, rfl⟩
      obtain ⟨c, hc, h1⟩ := key m (of_decide_eq_true (List.mem_filter.mp hm).2)
      exact ⟨c, hc, (labL_piece PK hi0 hall hc h1).symm⟩
    · rintro ⟨c, hc, rfl⟩
      obtain ⟨k, hk⟩ := low_of (PK.ne c hc)
      have e := labL_piece PK hi0 hall hc hk
      refine ⟨k, List.mem_filter.mpr ⟨List.mem_range.mpr (by have := (hi0 k).mp (PK.sub c hc k hk.1); omega), decide_eq_true ?_⟩, e⟩
      rw [e]
      obtain ⟨r, er⟩ := low_head hk
      rw [er]; simp
end
end Bs

namespace Bs
open PySem PySem.Spec L2
theorem lab_init {n : Int} {ps : List (Int × Int)} {cs : List Nat} {i0 : Nat} (PK : PiecesOk ps i0 cs) (hi0 : ∀ k : Nat, Has i0 k ↔ (k : Int) < n) (n0 : 0 ≤ n) : Lab n cs (List.range n.toNat) ∧ ∀ c ∈ cs, ∀ k, Low c k → Stl cs (List.range n.toNat) k := by
  have get : ∀ i : Nat, (i : Int) < n → (List.range n.toNat).getD i 0 = i := fun i hi => by
    rw [List.getD_eq_getElem?_getD, List.getElem?_range (by omega)]; rfl
  refine ⟨⟨by rw [List.length_range]; omega, fun i hi => ?_⟩, fun c hc k hk => ?_⟩
  · rw [List.length_range] at hi
    obtain ⟨c, hc, h⟩ := PK.cover i ((hi0 i).mpr (by omega))
    exact ⟨c, hc, h, by rw [get i (by omega)]; exact h⟩
  · exact ⟨c, hc, hk.1, by rw [get k ((hi0 k).mp (PK.sub c hc k hk.1))]; exact hk⟩
section
variable {P : Program} {w : World} {K : PySem.W.Frag} {mg : Str → Option Value} {base : Heap} {C : Addr}
def sp_lpieces : Sp := fun vs H Q _ => ∃ n u xs ps, vs = [.int n, .ref u] ∧ H u = some (.tup xs) ∧ Pairs H xs ps ∧ Good n ps ∧ 1 ≤ n ∧ n ≤ 200 ∧ ∀ q ys cs H', Same H H' → H q = none → H' q = some (.lst ys) → Paired (LotAt H') ys (cs.map lotL) → Pieces ps (2 ^ n.toNat - 1) cs → Q (.ref q) H'
abbrev s__law_pieces : Stmt := (top 40)
theorem sc__law_pieces : FnScope ["size", "ties", "names", "turn", "one", "other", "least", "found", "name", "part", "lot"] ["size", "ties"] (defScope s__law_pieces) := ⟨rfl, rfl, rfl, by decide +kernel, rfl, by decide +kernel, by decide +kernel⟩

theorem ok_law_pieces {f : Addr} {fd : FuncData} (F : Fun K "_law_pieces" "_law_pieces" s__law_pieces f fd) (hm : mg "_law_pieces" = some (.ref f)) (B : Bl mg) : Cal P w K mg base 1 "_law_pieces" ["size", "ties"] sp_lpieces := by
  refine ⟨f, fd, F.ok sc__law_pieces (fun vs H Q E h => ?_) (fun cdv A outer s H vs Q E hr h => ?_), hm, F.kp, F.binds (ps := ["size", "ties"]) fun _ _ _ _ _ _ us hl => match us, hl with | [_, _], _ => rfl⟩
  · obtain ⟨n, u, xs, ps, rfl, _⟩ := h; rfl
  · obtain ⟨n, u, xs, ps, rfl, h4, h5, G, n1, n2, k⟩ := h
    obtain ⟨cs, HC⟩ := pieces_ex (ps := ps) _ (2 ^ n.toNat - 1) (Nat.le_refl _)
    have PK := HC.ok
    have hi0 : ∀ k : Nat, Has (2 ^ n.toNat - 1) k ↔ (k : Int) < n := fun k => every_has
    obtain ⟨lab0, root0⟩ := lab_init PK hi0 (by omega)
    refine ⟨_, (pss_cons (ps_set (i := 2) sc__law_pieces.nd rfl (by first | exact Or.inl rfl | exact Or.inr rfl) (pe_listRg (by rfl) (by rfl) B.list_ (prg_1 (by rfl) B.range (pv 0))))
 (pss_cons (ps_for PassesOwn.never rfl (pi_range1 (by rfl) B.range (pa_cons (pv 0) pa_nil)) (pg_name (i := 3) sc__law_pieces.nd rfl (by first | exact Or.inl rfl | exact Or.inr rfl))
  (pss_one (ps_for PassesOwn.never rfl (pi_tup (pv 1)) (pg_tup (by rfl) (pgs_cons (pg_name (i := 4) sc__law_pieces.nd rfl (by first | exact Or.inl rfl | exact Or.inr rfl)) (pgs_cons (pg_name (i := 5) sc__law_pieces.nd rfl (by first | exact Or.inl rfl | exact Or.inr rfl)) pgs_nil)))
  (pss_cons (ps_set (i := 6) sc__law_pieces.nd rfl (by first | exact Or.inl rfl | exact Or.inr rfl) (pe_callB (call_min2 rfl) (by rfl) B.min (by decide +kernel) (pa_cons (pe_ix ix_list (pv 2) (pv 4) (fun _ _ => rfl)) (pa_cons (pe_ix ix_list (pv 2) (pv 5) (fun _ _ => rfl)) pa_nil))))
 (pss_cons (ps_asg (pv 6) (pg_sub (pv 2) (pv 4) set_list))
 (pss_one (ps_asg (pv 6) (pg_sub (pv 2) (pv 5) set_list))))))))
 (pss_cons (ps_set (i := 7) sc__law_pieces.nd rfl (by first | exact Or.inl rfl | exact Or.inr rfl) (pe_lst pa_nil))
 (pss_cons (ps_for PassesOwn.never rfl (pi_range1 (by rfl) B.range (pa_cons (pv 0) pa_nil)) (pg_name (i := 8) sc__law_pieces.nd rfl (by first | exact Or.inl rfl | exact Or.inr rfl))
  (pss_cons (ps_set (i := 10) sc__law_pieces.nd rfl (by first | exact Or.inl rfl | exact Or.inr rfl) (pe_callTy call_tuple_of (by rfl) B.tuple_ (by decide +kernel) (pa_cons (pe_lc (own := [("part", 9)]) (tt := (tTest (tOp _ (tOp (rIxL K) _ _) _))) (by rfl) sc__law_pieces.nd (pi_range1 (by rfl) B.range (pa_cons (pv 0) pa_nil)) (blkOk_by (own := [("part", 9)]) (N := ["size", "ties", "names", "turn", "one", "other", "least", "found", "name", "part", "lot"]) (sc := defScope s__law_pieces) (by decide +kernel)) (fun _ _ _ _ _ => (pg_name (i := 9) sc__law_pieces.nd rfl (by first | exact Or.inl rfl | exact Or.inr rfl))) (fun _ _ _ _ _ => (pts_one (pt_cmpR op_eq (pe_ix ix_list (pv 2) (pv 9) (fun _ _ => rfl)) (pv 8) (nomark _)))) (fun _ _ _ _ _ => (pv 9))) pa_nil)))
 (pss_one (ps_if (pt_cmpR op_gt (pe_callB call_len_seq (by rfl) B.len (by decide +kernel) (pa_cons (pv 10) pa_nil)) pe_int (nomark _)) (pss_one (ps_expr (pe_bm PySem.F.plainAttrs_list PySem.F.slot_list_append PySem.F.type_list_append mt_append (pv 7) (pa_cons (pv 10) pa_nil)))) pss_nil))))
 (pss_one (ps_ret (pe_callB (cr_sortedIt (Nat.lt_of_succ_lt (units65 hr))) (by rfl) B.sorted (by decide +kernel) (pa_cons (pv 7) pa_nil)))))))), ?_⟩
    refine ⟨_, rfl, n, rfl, ⟨by omega, by omega, by omega, by omega, by omega⟩, fun nm hnm => ?_⟩
    have eV : rgV 0 n = nints (List.range n.toNat) := by
      unfold rgV nints
      rw [Int.sub_zero]
      exact List.map_congr_left fun i _ => by rw [Int.zero_add]
    rw [eV]
    have e1 := L2.Same.new (o := .lst (nints (List.range n.toNat))) hnm
    have xl := Paired.len h5
    refine ⟨_, rfl, _, rfl, by omega, by omega, for_range (lo := 0) (n := n.toNat) (fun t σ H' => Same H H' ∧ ∃ (ns : List Nat) (v3 v4 v5 v6 : Option V), σ = [some (.int n), some (.ref u), some (.ref nm), v3, v4, v5, v6, none, none, none, none] ∧ H' nm = some (.lst (nints ns)) ∧ Lab n cs ns ∧ (∀ c ∈ cs, ∀ k, Low c k → Stl cs ns k) ∧ (t ≤ cnt n cs ns ∨ ∀ i : Nat, (i : Int) < n → Stl cs ns i))
      ⟨e1, _, none, none, none, none, rfl, upd_same, lab0, root0, .inl (Nat.zero_le _)⟩ ?_ ?_⟩
    · rintro t σ H1 ht ⟨g1, ns0, v3, v4, v5, v6, rfl, hns, lab, root, hcnt⟩
      refine ⟨_, rfl, u, rfl, ⟨_, SqT.of (g1 _ _ h4)⟩, for_tup (K := K) (a := u) (xs := xs) (fun j σ H' => Same H H' ∧ ∃ (ns : List Nat) (v4 v5 v6 : Option V), σ = [some (.int n), some (.ref u), some (.ref nm), some (.int (0 + (t : Nat))), v4, v5, v6, none, none, none, none] ∧ H' nm = some (.lst (nints ns)) ∧ Round n ps cs ns0 j ns)
        ⟨g1, ns0, v4, v5, v6, rfl, hns, ⟨lab, fun _ h => h, fun m hm => by omega⟩⟩ (fun i σ H' _ p => SqT.of (p.1 _ _ h4)) ?_ ?_⟩
      · rintro j v σ H2 hv ⟨g2, ns, v4, v5, v6, rfl, hns2, R⟩
        obtain ⟨q, hq, a, rfl, ha⟩ := Paired.get h5 hv
        have hq2 := G.ok q (List.mem_of_getElem? hq)
        have hl := R.lab.len
        have l1 : q.1.toNat < ns.length := by omega
        have l2 : q.2.toNat < ns.length := by omega
        refine ⟨a, _, rfl, SqT.of (g2 _ _ ha), rfl, _, _, rfl, _, _, rfl, rfl, ?_⟩
        refine ⟨_, rfl, _, rfl, nm, _, q.1, _, rfl, rfl, SqL.of hns2, at_of (j := q.1.toNat) (by omega) (nints_get l1), _, rfl, _, rfl, nm, _, q.2, _, rfl, rfl, SqL.of hns2, at_of (j := q.2.toNat) (by omega) (nints_get l2), _, _, rfl, ?_⟩
        have emin : (if ((ns.getD q.2.toNat 0 : Nat) : Int) < ((ns.getD q.1.toNat 0 : Nat) : Int) then ((ns.getD q.2.toNat 0 : Nat) : Int) else ((ns.getD q.1.toNat 0 : Nat) : Int)) = ((min (ns.getD q.1.toNat 0) (ns.getD q.2.toNat 0) : Nat) : Int) := by
          rcases Nat.lt_or_ge (ns.getD q.2.toNat 0) (ns.getD q.1.toNat 0) with h | h
          · rw [if_pos (by omega), Nat.min_eq_right (by omega)]
          · rw [if_neg (by omega), Nat.min_eq_left (by omega)]
        rw [emin]
        refine ⟨_, rfl, _, rfl, _, rfl, nm, _, q.1, q.1.toNat, rfl, rfl, hns2, (by unfold ixN; rw [nints_len, if_pos hq2.1, if_pos (by omega)]), ?_⟩
        rw [nints_set]
        refine ⟨_, rfl, _, rfl, _, rfl, nm, _, q.2, q.2.toNat, rfl, rfl, upd_same, (by unfold ixN; rw [nints_len, List.length_set, if_pos (show 0 ≤ q.2 by omega), if_pos (by omega)]), ?_⟩
        rw [nints_set, upd_upd]
        exact ⟨L2.Same.mut g2 hnm, _, _, _, _, rfl, upd_same, R.step PK hi0 G hq⟩
      · rintro σ H2 ⟨g2, ns, v4, v5, v6, rfl, hns2, R⟩
        rw [xl] at R
        refine ⟨g2, ns, _, _, _, _, rfl, hns2, R.lab, fun c hc k hk => R.mono k (root c hc k hk), ?_⟩
        by_cases hall : ∀ i : Nat, (i : Int) < n → Stl cs ns0 i
        · exact .inr fun i hi => R.mono i (hall i hi)
        · have := round_more PK hi0 R root hall
          rcases hcnt with h | h
          · exact .inl (by omega)
          · exact absurd h hall
    · rintro σ H1 ⟨g1, ns, v3, v4, v5, v6, rfl, hns, lab, root, hcnt⟩
      have hall : ∀ i : Nat, (i : Int) < n → Stl cs ns i := hcnt.elim cnt_all id
      have hlen := lab.len
      refine ⟨Nat.zero_le _, fun fo hfo => ?_⟩
      have g2 := g1.new' (o := .lst []) hfo
      have hfo0 := L2.Same.free g1 hfo
      have fnm : fo ≠ nm := fun e => by rw [e, hns] at hfo; cases hfo
      refine ⟨_, rfl, _, rfl, by omega, by omega, for_range (lo := 0) (n := n.toNat) (fun i σ H' => Same H H' ∧ H' nm = some (.lst (nints ns)) ∧ ∃ (ys : List V) (v8 v10 : Option V), σ = [some (.int n), some (.ref u), some (.ref nm), v3, v4, v5, v6, some (.ref fo), v8, none, v10] ∧ H' fo = some (.lst ys) ∧ Paired (LotAt H') ys (((List.range i).filter fun m => decide (0 < (labL n ns m).length)).map (labL n ns)))
        ⟨g2, by rw [upd_ne fnm.symm]; exact hns, [], none, none, rfl, upd_same, .nil⟩ ?_ ?_⟩
      · rintro i σ H2 hi ⟨g3, hns2, ys, v8, v10, rfl, hys, hp⟩
        rw [show (0 : Int) + (i : Nat) = (i : Nat) from Int.zero_add _]
        refine ⟨_, rfl, _, rfl, by omega, by omega, fun D hD => lc_data (walk_range (lo := 0) (n := n.toNat)) (List.range n.toNat) (List.length_range) (fun j => decide (ns.getD j 0 = i)) (fun _ v j => v = .int (j : Nat)) (fun _ _ _ _ _ q => q) hD (fun _ _ => trivial) (by rw [List.length_range]; exact Nat.lt_of_le_of_lt (show n.toNat ≤ 1000 by omega) (by decide)) ?_ (fun _ _ _ _ _ y => by rw [y.1]; exact L2.Same.refl _) ?_⟩
        · rintro j a v H5 H6 Ny Nn hai e5 ⟨rfl, rfl⟩ kE kN
          have ea : a = j := by
            rw [List.getElem?_range (by have := (List.getElem?_eq_some_iff.mp hai).1; rw [List.length_range] at this; exact this)] at hai
            exact (Option.some.inj hai).symm
          subst ea
          have ha : a < n.toNat := by have := (List.getElem?_eq_some_iff.mp hai).1; rw [List.length_range] at this; exact this
          have e0 : V.int ((0 : Int) + (a : Nat)) = V.int (a : Nat) := by rw [Int.zero_add]
          show gName 9 (V.int ((0 : Int) + (a : Nat))) _ _ _
          rw [e0]
          refine ⟨rfl, ?_⟩
          have ht5 := e5 _ _ hns2
          refine ⟨_, rfl, _, rfl, nm, _, (a : Int), _, rfl, rfl, SqL.of ht5, at_of (j := a) rfl (nints_get (by omega)), _, rfl, rfl, _, rfl, ?_⟩
          have ed : decide (V.int (ns.getD a 0 : Nat) = V.int (i : Nat)) = decide (ns.getD a 0 = i) := dec_iff ⟨fun h => by injection h with h; omega, fun h => by rw [h]⟩
          rw [ed]
          exact onb (fun c => ⟨_, rfl, kE _ _ (decide_eq_true c) (L2.Same.refl _) rfl⟩) (fun c => kN _ (decide_eq_false c) (L2.Same.refl _))
        intro zs H3 e3 hzs hpr
        have ez := paired_eq (g := fun j : Nat => V.int (j : Nat)) hpr
        subst ez
        have ec : ((List.range n.toNat).filter fun j => decide (ns.getD j 0 = i)).map (fun j : Nat => V.int (j : Nat)) = (labL n ns i).map V.int := by
          unfold labL
          rw [List.map_map]; rfl
        rw [ec] at hzs
        refine ⟨D, _, rfl, .inl ⟨SqL.of hzs, fun t ht => ?_⟩⟩
        have e4 := e3.new' (o := .tup ((labL n ns i).map V.int)) ht
        have g4 := g3.trans e4
        have ht4 : (upd H3 t (.tup ((labL n ns i).map V.int))) t = some (.tup ((labL n ns i).map V.int)) := upd_same
        generalize upd H3 t (.tup ((labL n ns i).map V.int)) = H4 at e4 g4 ht4 ⊢
        have hnext : ∀ b, decide (0 < (labL n ns i).length) = b → ((List.range (i + 1)).filter fun m => decide (0 < (labL n ns m).length)).map (labL n ns) = ((List.range i).filter fun m => decide (0 < (labL n ns m).length)).map (labL n ns) ++ (if b = true then [labL n ns i] else []) := fun b hb => by
          rw [List.range_succ, List.filter_append, List.map_append]
          congr 1
          rw [List.filter_cons, hb]
          cases b <;> rfl
        refine ⟨_, rfl, t, _, rfl, .inr (SqT.of ht4), _, _, rfl, rfl, _, rfl, ?_⟩
        rw [List.length_map]
        have hys4 := e4 _ _ hys
        refine onb (fun c => ?_) (fun c => ⟨g4, e4 _ _ hns2, ys, _, _, rfl, hys4, ?_⟩)
        · have hyl := Paired.len hp
          have hyb : ys.length ≤ 200 := by
            rw [hyl, List.length_map]
            exact Nat.le_trans (List.length_filter_le _ _) (by rw [List.length_range]; omega)
          refine ⟨_, rfl, .inl ⟨rfl, _, SqL.of hys4⟩, _, rfl, fo, _, _, rfl, rfl, hys4, Nat.lt_of_le_of_lt hyb (by decide), ?_⟩
          refine ⟨L2.Same.mut g4 hfo0, (by rw [upd_ne fnm.symm]; exact e4 _ _ hns2), ys ++ [.ref t], _, _, rfl, upd_same, ?_⟩
          rw [hnext _ (decide_eq_true (by omega)), if_pos rfl]
          have tk5 : TK H4 (upd H4 fo (.lst (ys ++ [.ref t]))) := tk_lst hys4
          exact Paired.app (paired_imp (fun _ _ h => LotAt.tk h (e4.tk.trans tk5)) hp) (.cons ⟨t, rfl, tk5 _ _ ht4⟩ .nil)
        · rw [hnext _ (decide_eq_false (by omega)), if_neg (by decide), List.append_nil]
          exact paired_imp (fun _ _ h => LotAt.tk h e4.tk) hp
      · rintro σ H2 ⟨g3, hns2, ys, v8, v10, rfl, hys, hp⟩
        rw [labs_pieces HC hi0 hall] at hp
        refine ⟨_, rfl, fo, ys, lotOf H2, rfl, SqL.of hys, fun x hx => ?_, .inl fun x hx => ?_, fun zs q hperm hsort hq => ?_⟩
        · obtain ⟨m, hm⟩ := paired_all hp x hx
          obtain ⟨b, e, hb⟩ := id hm
          rw [lotOf_at hm]
          exact ⟨b, e, hb⟩
        · have : lotOf H2 x ∈ ys.map (lotOf H2) := List.mem_map.mpr ⟨x, hx, rfl⟩
          rw [lots_of hp] at this
          obtain ⟨c, hc, e⟩ := List.mem_map.mp this
          rw [← e]
          obtain ⟨kk, hk⟩ := low_of (PK.ne c hc)
          obtain ⟨r, er⟩ := low_head hk
          rw [er]; simp
        · have e6 := L2.Same.new (o := .lst zs) hq
          have hzs : Paired (LotAt H2) zs (zs.map (lotOf H2)) := paired_lots fun y hy => paired_all hp y (hperm.mem_iff.mp hy)
          have hpl : (zs.map (lotOf H2)).Perm (cs.map lotL) := by
            have := hperm.map (lotOf H2)
            rw [lots_of hp] at this
            exact this
          have es : zs.map (lotOf H2) = cs.map lotL := heads_sorted HC.heads hpl (List.pairwise_map.mpr hsort)
          rw [es] at hzs
          exact k q zs cs _ (g3.trans e6) (L2.Same.free g3 hq) upd_same (paired_imp (fun _ _ h => LotAt.tk h e6.tk) hzs) HC
end
end Bs

namespace Bs
open PySem PySem.Spec L2
/-! ## webs beside one another, copies of parts -/
theorem mem_pieces {ps : List (Int × Int)} {i : Nat} {cs : List Nat} (h : Pieces ps i cs) {c : Nat} : c ∈ cs ↔ Conn ps i c := by
  have PK := h.ok
  refine ⟨fun hc => PK.conn hc, fun hc => ?_⟩
  obtain ⟨s, hs, _⟩ := hc.hung
  obtain ⟨d, hd, hds⟩ := PK.cover s (hc.sub s hs)
  have := hc.eq (PK.conn hd) hs hds
  subst this; exact hd
theorem norm_shift {a b d : Int} {p : Int × Int} : norm a b = shiftP d p ↔ p = norm (a - d) (b - d) := by
  constructor
  · intro h
    have h1 := congrArg Prod.fst h
    have h2 := congrArg Prod.snd h
    unfold norm shiftP at h1 h2
    unfold norm
    dsimp only at h1 h2
    refine Prod.ext ?_ ?_
    · dsimp only
      split at h1 <;> split <;> omega
    · dsimp only
      split at h2 <;> split <;> omega
  · rintro rfl
    unfold norm shiftP
    refine Prod.ext ?_ ?_
    · dsimp only
      split <;> split <;> omega
    · dsimp only
      split <;> split <;> omega
def up (n : Nat) (d : Nat) : Nat := d <<< n
theorem has_up {n d k : Nat} : Has (up n d) k ↔ n ≤ k ∧ Has d (k - n) := by
  unfold Has up
  rw [Nat.testBit_shiftLeft]
  simp
theorem lot_up (n d : Nat) : lotL (up n d) = (lotL d).map (· + (n : Int)) := by
  refine ups_ext (isLot_L _).2.1 (List.pairwise_map.mpr ((isLot_L d).2.1.imp fun {a b} h => by omega)) fun x => ?_
  rw [mem_lotL, List.mem_map]
  constructor
  · rintro ⟨h0, h⟩
    obtain ⟨h1, h2⟩ := has_up.mp h
    refine ⟨x - n, mem_lotL.mpr ⟨by omega, ?_⟩, by omega⟩
    rw [show (x - (n : Int)).toNat = x.toNat - n by omega]
    exact h2
  · rintro ⟨y, hy, rfl⟩
    obtain ⟨h0, h⟩ := mem_lotL.mp hy
    refine ⟨by omega, has_up.mpr ⟨by omega, ?_⟩⟩
    rw [show (y + (n : Int)).toNat - n = y.toNat by omega]
    exact h
section
variable {n m : Nat} {ps qs rs : List (Int × Int)}
structure Beside (n m : Nat) (ps qs rs : List (Int × Int)) : Prop where
  ga : Good (n : Int) ps
  gb : Good (m : Int) qs
  mem : ∀ p, p ∈ rs ↔ p ∈ ps ∨ ∃ q ∈ qs, p = shiftP n q
theorem Beside.one (h : Beside n m ps qs rs) {q k : Nat} (ht : T rs q k) (hq : q < n ∨ k < n) : T ps q k := by
  rcases (h.mem _).mp ht with h1 | ⟨p, hp, e⟩
  · exact h1
  · have e2 := norm_shift.mp e
    have h3 := h.gb.ok p hp
    rw [e2] at h3
    unfold norm at h3
    dsimp only at h3
    split at h3 <;> split at h3 <;> omega
theorem Beside.two (h : Beside n m ps qs rs) {q k : Nat} (ht : T rs q k) (hq : n ≤ q) : n ≤ k ∧ T qs (q - n) (k - n) := by
  rcases (h.mem _).mp ht with h1 | ⟨p, hp, e⟩
  · have h2 := T.lt h.ga (T.symm (show T ps q k from h1))
    omega
  · have e2 := norm_shift.mp e
    have h3 := h.gb.ok p hp
    rw [e2] at h3
    have hk : n ≤ k := by
      unfold norm at h3
      dsimp only at h3
      split at h3 <;> split at h3 <;> omega
    refine ⟨hk, ?_⟩
    show norm ((q - n : Nat) : Int) ((k - n : Nat) : Int) ∈ qs
    rw [show ((q - n : Nat) : Int) = (q : Int) - n by omega, show ((k - n : Nat) : Int) = (k : Int) - n by omega, ← e2]
    exact hp
theorem Beside.mk2 (h : Beside n m ps qs rs) {q k : Nat} (ht : T qs q k) : T rs (q + n) (k + n) := by
  refine (h.mem _).mpr (.inr ⟨_, ht, norm_shift.mpr ?_⟩)
  rw [show (((q + n : Nat) : Int) - n) = q by omega, show (((k + n : Nat) : Int) - n) = k by omega]
theorem Beside.connA (h : Beside n m ps qs rs) {i j c : Nat} (hi : ∀ k, Has i k ↔ k < n) (hj : ∀ k, Has j k ↔ k < n + m) (hc : Conn ps i c) : Conn rs j c := by
  obtain ⟨s, hs, hg⟩ := hc.hung
  refine ⟨fun k hk => (hj k).mpr (by have := (hi k).mp (hc.sub k hk); omega), fun q k hq hk ht => ?_, s, hs, fun X hX hst => hg X hX fun q k hq hk ht => hst q k hq ((hj k).mpr (by have := (hi k).mp hk; omega)) ((h.mem _).mpr (.inl ht))⟩
  have h1 := h.one ht (.inl ((hi q).mp (hc.sub q hq)))
  have h2 := T.lt h.ga h1
  exact hc.shut q k hq ((hi k).mpr (by omega)) h1
theorem Beside.connB (h : Beside n m ps qs rs) {i j c : Nat} (hi : ∀ k, Has i k ↔ k < m) (hj : ∀ k, Has j k ↔ k < n + m) (hc : Conn qs i c) : Conn rs j (up n c) := by
  obtain ⟨s, hs, hg⟩ := hc.hung
  refine ⟨fun k hk => (hj k).mpr (by obtain ⟨a, b⟩ := has_up.mp hk; have := (hi _).mp (hc.sub _ b); omega), fun q k hq hk ht => ?_, s + n, has_up.mpr ⟨by omega, by rw [Nat.add_sub_cancel]; exact hs⟩, fun X hX hst k hk => ?_⟩
  · obtain ⟨a, b⟩ := has_up.mp hq
    obtain ⟨h1, h2⟩ := h.two ht a
    have h3 := T.lt h.gb h2
    exact has_up.mpr ⟨h1, hc.shut _ _ b ((hi _).mpr (by omega)) h2⟩
  · obtain ⟨a, b⟩ := has_up.mp hk
    have := hg (fun x => X (x + n)) hX (fun q x hq hx ht => hst _ _ hq ((hj _).mpr (by have := (hi x).mp hx; omega)) (h.mk2 ht)) _ b
    rw [show k - n + n = k by omega] at this
    exact this
theorem Beside.pieces (h : Beside n m ps qs rs) {i j k : Nat} {cs ds es : List Nat} (hi : ∀ x, Has i x ↔ x < n) (hj : ∀ x, Has j x ↔ x < m) (hk : ∀ x, Has k x ↔ x < n + m) (C1 : Pieces ps i cs) (C2 : Pieces qs j ds) (C3 : Pieces rs k es) : es.map lotL = cs.map lotL ++ (ds.map lotL).map fun l => l.map (· + (n : Int)) := by
  have up_of : ∀ d, (lotL d).map (· + (n : Int)) = lotL (up n d) := fun d => (lot_up n d).symm
  have hA : ∀ c ∈ cs, up n 0 = 0 ∧ c ∈ es := fun c hc => ⟨by simp [up], (mem_pieces C3).mpr (h.connA hi hk ((mem_pieces C1).mp hc))⟩
  have hB : ∀ d ∈ ds, up n d ∈ es := fun d hd => (mem_pieces C3).mpr (h.connB hj hk ((mem_pieces C2).mp hd))
  refine heads_ext C3.heads (List.pairwise_append.mpr ⟨C1.heads, List.pairwise_map.mpr (C2.heads.imp fun {a b} hab => ?_), fun a ha b hb => ?_⟩) fun l => ?_
  · obtain ⟨x, r, y, s, rfl, rfl, hl⟩ := hab
    exact ⟨_, _, _, _, rfl, rfl, (by show x + (n : Int) < y + (n : Int); omega)⟩
  · obtain ⟨c, hc, rfl⟩ := List.mem_map.mp ha
    obtain ⟨l, hl, rfl⟩ := List.mem_map.mp hb
    obtain ⟨d, hd, rfl⟩ := List.mem_map.mp hl
    obtain ⟨x, hx, hs⟩ := C1.low c hc
    obtain ⟨y, hy, _⟩ := C2.low d hd
    obtain ⟨r, er⟩ := low_head hx
    obtain ⟨s, es⟩ := low_head hy
    rw [er, es]
    exact ⟨_, _, _, _, rfl, rfl, (by have := (hi x).mp (hs x hx.1); show (x : Int) < (y : Int) + (n : Int); omega)⟩
  · rw [List.mem_append, List.mem_map]
    constructor
    · rintro ⟨e, he, rfl⟩
      have ce := (mem_pieces C3).mp he
      obtain ⟨s, hs, _⟩ := ce.hung
      have hs2 := (hk s).mp (ce.sub s hs)
      by_cases hn : s < n
      · obtain ⟨c, hc, hcs⟩ := C1.ok.cover s ((hi s).mpr hn)
        have := ce.eq ((mem_pieces C3).mp (hA c hc).2) hs hcs
        subst this
        exact .inl (List.mem_map.mpr ⟨e, hc, rfl⟩)
      · obtain ⟨d, hd, hds⟩ := C2.ok.cover (s - n) ((hj _).mpr (by omega))
        have := ce.eq ((mem_pieces C3).mp (hB d hd)) hs (has_up.mpr ⟨by omega, hds⟩)
        subst this
        exact .inr (List.mem_map.mpr ⟨_, List.mem_map.mpr ⟨d, hd, rfl⟩, up_of d⟩)
    · rintro (hl | hl)
      · obtain ⟨c, hc, rfl⟩ := List.mem_map.mp hl
        exact ⟨c, (hA c hc).2, rfl⟩
      · obtain ⟨l', hl', rfl⟩ := List.mem_map.mp hl
        obtain ⟨d, hd, rfl⟩ := List.mem_map.mp hl'
        exact ⟨_, hB d hd, (up_of d).symm⟩
end
/-! ## copies -/
theorem norm_div {a b t : Int} (ht : 0 < t) : ((norm a b).1 / t, (norm a b).2 / t) = norm (a / t) (b / t) := by
  have mono : ∀ x y : Int, x ≤ y → x / t ≤ y / t := fun x y h => Int.ediv_le_ediv ht h
  unfold norm
  refine Prod.ext ?_ ?_
  · dsimp only
    by_cases h : b < a
    · rw [if_pos h]
      have := mono b a (by omega)
      split <;> omega
    · rw [if_neg h]
      have := mono a b (by omega)
      split <;> omega
  · dsimp only
    by_cases h : b > a
    · rw [if_pos h]
      have := mono a b (by omega)
      split <;> omega
    · rw [if_neg h]
      have := mono b a (by omega)
      split <;> omega
theorem cop_alike {N t : Int} {ps rs : List (Int × Int)} {ts : List Nat} (ht : 0 < t) (hr : ∀ p : Int × Int, p ∈ rs ↔ (p.1 / t, p.2 / t) ∈ ps) (TB : Tied N rs ts) {i j : Nat} (hi : i < ts.length) (hj : j < ts.length) (e : (i : Int) / t = (j : Int) / t) : ts.getD i 0 = ts.getD j 0 := by
  refine Nat.eq_of_testBit_eq fun k => ?_
  rw [TB.bit i k hi, TB.bit j k hj]
  refine dec_iff ?_
  rw [hr, hr, norm_div ht, norm_div ht, e]
theorem filter_one {α : Type} {p : α → Bool} {a : α} : ∀ {l : List α}, l.Nodup → a ∈ l → p a = true → (∀ b ∈ l, p b = true → b = a) → l.filter p = [a]
  | [], _, h, _, _ => by cases h
  | x :: l, hn, h, h1, h2 => by
    obtain ⟨n1, n2⟩ := List.nodup_cons.mp hn
    by_cases hx : p x = true
    · have e := h2 x List.mem_cons_self hx
      subst e
      rw [List.filter_cons, if_pos hx]
      congr 1
      refine List.filter_eq_nil_iff.mpr fun b hb hpb => ?_
      have := h2 b (List.mem_cons_of_mem _ hb) hpb
      subst this; exact n1 hb
    · rw [List.filter_cons, if_neg hx]
      rcases List.mem_cons.mp h with e | h
      · subst e; exact absurd h1 hx
      · exact filter_one n2 h h1 fun b hb => h2 b (List.mem_cons_of_mem _ hb)
theorem two_len {l : List Int} {a b : Int} (ha : a ∈ l) (hb : b ∈ l) (h : a ≠ b) : 1 < l.length := by
  match l, ha, hb with
  | [], ha, _ => cases ha
  | [x], ha, hb => simp at ha hb; exact absurd (ha.trans hb.symm) h
  | _ :: _ :: _, _, _ => simp
theorem cop_twins {N : Int} {n t : Int} {ps rs : List (Int × Int)} {ts : List Nat} (ht : 2 ≤ t) (hN : N = n * t) (hr : ∀ p : Int × Int, p ∈ rs ↔ (p.1 / t, p.2 / t) ∈ ps) (TB : Tied N rs ts) {k : Int} (k0 : 0 ≤ k) (k1 : k < n) :
    ∃ l, (twinsL N ts).filter (fun l => decide (k * t ∈ l)) = [l] ∧ ∀ i, 0 ≤ i → i < t → k * t + i ∈ l := by
  have h1 : 0 ≤ k * t := Int.mul_nonneg k0 (by omega)
  have h2 : (k + 1) * t ≤ n * t := Int.mul_le_mul_of_nonneg_right (by omega) (by omega)
  rw [Int.add_mul, Int.one_mul] at h2
  have hlen := TB.len
  have hx : ((k * t).toNat : Int) = k * t := by omega
  have hall : ∀ i, 0 ≤ i → i < t → k * t + i ∈ clsN N ts (k * t).toNat := fun i i0 i1 => by
    refine mem_clsB.mpr ⟨(k * t + i).toNat, by omega, by omega, cop_alike (by omega) hr TB (by omega) (by omega) ?_⟩
    rw [hx, show ((k * t + i).toNat : Int) = k * t + i by omega]
    rw [Int.mul_ediv_cancel _ (by omega)]
    rw [Int.add_comm, Int.add_mul_ediv_right _ _ (by omega), Int.ediv_eq_zero_of_lt i0 i1, Int.zero_add]
  refine ⟨clsN N ts (k * t).toNat, filter_one ((heads_nodup (class_heads N ts)).sublist List.filter_sublist) (List.mem_filter.mpr ⟨mem_classL.mpr ⟨_, by omega, rfl⟩, decide_eq_true (two_len (hall 0 (by omega) (by omega)) (hall 1 (by omega) (by omega)) (by omega))⟩) (decide_eq_true (by have := hall 0 (by omega) (by omega); rwa [Int.add_zero] at this)) fun l hl hm => ?_, hall⟩
  obtain ⟨j, _, rfl⟩ := mem_classL.mp (List.mem_filter.mp hl).1
  obtain ⟨x, e1, _, e2⟩ := mem_clsB.mp (of_decide_eq_true hm)
  unfold clsN
  have : x = (k * t).toNat := by omega
  rw [← this, e2]
/-! ## None in a list of lots -/
theorem iD_lay : ∀ zs : List Int, PyData.canLayAll0 (zs.map PyData.int) = true
  | [] => by simp [PyData.canLayAll0]
  | z :: zs => by simp [PyData.canLayAll0, PyData.canLay0, iD_lay zs]
theorem iD_depth : ∀ zs : List Int, PyData.depthAll (zs.map PyData.int) = 0
  | [] => by simp [PyData.depthAll]
  | z :: zs => by simp [PyData.depthAll, PyData.depth, iD_depth zs]
theorem dp_ints {K : PySem.W.Frag} {H : Hp} : ∀ l : List Int, DpAll K H (l.map V.int) (l.map PyData.int)
  | [] => .nil
  | a :: l => .cons (.int a) (dp_ints l)
theorem dp_lot {K : PySem.W.Frag} {H : Hp} {t : Addr} {l : List Int} (h : H t = some (.tup (l.map V.int))) : Dp K H (.ref t) (.tuple (l.map PyData.int)) := .tup (SqT.of h) (dp_ints l)
def tD (l : List Int) : PyData := .tuple (l.map PyData.int)
theorem tD_lay (l : List Int) : (tD l).canLay0 = true := by unfold tD; simp only [PyData.canLay0]; exact iD_lay l
theorem tD_depth (l : List Int) : (tD l).depth = 1 := by
  have := iD_depth l
  unfold tD
  simp only [PyData.depth]
  omega
theorem tDs_lay : ∀ Ls : List (List Int), PyData.canLayAll0 (Ls.map tD) = true
  | [] => by simp [PyData.canLayAll0]
  | l :: Ls => by simp [PyData.canLayAll0, tD_lay l, tDs_lay Ls]
theorem tDs_depth : ∀ Ls : List (List Int), PyData.depthAll (Ls.map tD) ≤ 1
  | [] => by simp [PyData.depthAll]
  | l :: Ls => by
    have h1 := tDs_depth Ls
    have h2 := tD_depth l
    simp only [List.map_cons, PyData.depthAll]
    omega
theorem tDs_shaped (Ls : List (List Int)) : SeqAt.shaped (.list (Ls.map tD)) = true := by
  have h1 := tDs_depth Ls
  have h2 : PyData.depth (.list (Ls.map tD)) ≤ 64 := by
    simp only [PyData.depth]
    omega
  show (PyData.canLay0 (.list (Ls.map tD)) && decide (PyData.depth (.list (Ls.map tD)) ≤ 64)) = true
  rw [Bool.and_eq_true]
  exact ⟨by simp only [PyData.canLay0]; exact tDs_lay Ls, decide_eq_true h2⟩
theorem dp_lots {K : PySem.W.Frag} {H : Hp} : ∀ {xs : List V} {Ls : List (List Int)}, Paired (LotAt H) xs Ls → DpAll K H xs (Ls.map tD)
  | _, _, .nil => .nil
  | _, _, .cons ⟨a, e, h⟩ t => .cons (e ▸ dp_lot h) (dp_lots t)
section
variable {X : Cx}
/-- a thing that is in some place of a list of data -/
def rInL (K : PySem.W.Frag) : R2 := fun x y H Q => ∃ d ds, Dp K H x d ∧ Dp K H y (.list ds) ∧ SeqAt.shaped d = true ∧ SeqAt.shaped (.list ds) = true ∧ Q (.bl (ds.any fun z => PyData.eqv z d)) H
theorem op_inL (hu : X.A.units + 65 < cLine) : OpR X (compareOp .In) (rInL X.K) := by
  intro pins s σ H x y v u Q I rx ry ⟨d, ds, hd, he, sd, sl, q⟩
  obtain ⟨as, r1⟩ := Dp.reads I d x v hd rx
  obtain ⟨bs, r2⟩ := Dp.reads I (.list ds) y u he ry
  exact SeqAt.in_list_reads r2 r1 (by have := SeqAt.canLay_of_shaped sl; exact this) (SeqAt.canLay_of_shaped sd) (PyProof.Rows.room_in_shaped sd hu) ⟨.bl _, H, I, rfl, q⟩
end
theorem none_in : ∀ Ls : List (List Int), ((Ls.map tD).any fun z => PyData.eqv z .none) = false
  | [] => rfl
  | m :: Ls => by rw [List.map_cons, List.any_cons, none_in Ls]; rfl
end Bs

namespace Bs
open PySem PySem.Spec L2
theorem lots_same {H : Hp} : ∀ {xs ys : List V} {Ls : List (List Int)}, Paired (LotAt H) xs Ls → Paired (LotAt H) ys Ls → (∀ l ∈ Ls, l.length ≤ 1000) → Paired (SameV 2 H) xs ys
  | _, _, _, .nil, .nil, _ => .nil
  | _, _, l :: Ls, .cons ⟨a, e1, h1⟩ t1, .cons ⟨b, e2, h2⟩ t2, h => .cons (.inl (.inr ⟨a, b, _, _, e1, e2, .inl ⟨h1, h2⟩, (by rw [List.length_map]; exact Nat.le_trans (h l List.mem_cons_self) (by decide)), paired_ints l⟩)) (lots_same t1 t2 fun m hm => h m (List.mem_cons_of_mem _ hm))
theorem same_lotsL {H : Hp} {p q : Addr} {xs ys : List V} {Ls : List (List Int)} (hp : H p = some (.lst xs)) (hq : H q = some (.lst ys)) (h1 : Paired (LotAt H) xs Ls) (h2 : Paired (LotAt H) ys Ls) (hl : Ls.length ≤ 1000) (hs : ∀ l ∈ Ls, l.length ≤ 1000) : SameV 3 H (.ref p) (.ref q) :=
  .inr ⟨p, q, xs, ys, rfl, rfl, .inr ⟨hp, hq⟩, (by rw [Paired.len h1]; exact Nat.le_trans hl (by decide)), lots_same h1 h2 hs⟩
theorem pieces_small {n : Int} {ps : List (Int × Int)} {cs : List Nat} (n0 : 0 ≤ n) (n2 : n ≤ 200) (h : Pieces ps (2 ^ n.toNat - 1) cs) : (cs.map lotL).length ≤ 200 ∧ ∀ l ∈ cs.map lotL, l.length ≤ 200 := by
  have h2 : ((cs.map lotL).map fun l => l.headD 0).Nodup := by
    refine List.nodup_iff_pairwise_ne.mpr (List.pairwise_map.mpr (h.heads.imp fun {a b} hab => ?_))
    obtain ⟨x, r, y, s, rfl, rfl, hl⟩ := hab
    show x ≠ y
    omega
  have h3 := nodup_len (n := n) h2 (fun z hz => by
    obtain ⟨l, hl, rfl⟩ := List.mem_map.mp hz
    obtain ⟨c, hc, rfl⟩ := List.mem_map.mp hl
    obtain ⟨k, hk, hs⟩ := h.low c hc
    obtain ⟨r, er⟩ := low_head hk
    rw [er]
    have := every_in (n := n) n0 k (hs k hk.1)
    show (0 : Int) ≤ (k : Int) ∧ (k : Int) < n
    omega) n0
  rw [List.length_map] at h3
  refine ⟨by omega, fun l hl => ?_⟩
  obtain ⟨c, hc, rfl⟩ := List.mem_map.mp hl
  have := lot_len (lot_lotL (n := n) fun k hk => every_in n0 k ((h.low c hc).choose_spec.2 k hk)) n0
  omega
theorem twins_small {n : Int} {ts : List Nat} (n2 : n ≤ 200) : (twinsL n ts).length ≤ 200 ∧ ∀ l ∈ twinsL n ts, l.length ≤ 200 := by
  constructor
  · unfold twinsL classL firsts
    refine Nat.le_trans (List.length_filter_le _ _) ?_
    rw [List.length_map]
    exact Nat.le_trans (List.length_filter_le _ _) (by rw [List.length_range]; omega)
  · intro l hl
    obtain ⟨k, _, rfl⟩ := mem_classL.mp (List.mem_filter.mp hl).1
    exact Nat.le_trans (clsB_len _ _ _) (by omega)
theorem beside_pieces {n m : Int} {ps qs rs : List (Int × Int)} (n0 : 0 ≤ n) (m0 : 0 ≤ m) (G : Good n ps) (G' : Good m qs) (hm : ∀ p, p ∈ rs ↔ p ∈ ps ∨ ∃ q ∈ qs, p = shiftP n q) {cs ds es : List Nat} (C1 : Pieces ps (2 ^ n.toNat - 1) cs) (C2 : Pieces qs (2 ^ m.toNat - 1) ds) (C3 : Pieces rs (2 ^ (n + m).toNat - 1) es) :
    es.map lotL = cs.map lotL ++ (ds.map lotL).map fun l => l.map (· + n) := by
  obtain ⟨N, rfl⟩ := Int.eq_ofNat_of_zero_le n0
  obtain ⟨M, rfl⟩ := Int.eq_ofNat_of_zero_le m0
  exact Beside.pieces (n := N) (m := M) ⟨G, G', hm⟩ (fun x => (every_has (n := (N : Int))).trans (by omega)) (fun x => (every_has (n := (M : Int))).trans (by omega)) (fun x => (every_has (n := (N : Int) + (M : Int))).trans (by omega)) C1 C2 C3
section
variable {P : Program} {w : World} {K : PySem.W.Frag} {mg : Str → Option Value} {base : Heap} {C : Addr}
def sp_law (K : PySem.W.Frag) : Sp := fun vs H Q _ => ∃ (a : Addr) (ns : List Int), vs = [.ref a] ∧ SqL K H a (ns.map V.int) ∧ ∀ H', Q (.bl true) H'
abbrev s_law : Stmt := (top 42)
theorem sc_law : FnScope ["script", "tape", "turn", "size", "ties", "web", "told", "items", "small", "other", "due", "part", "lot", "more", "times", "known", "lots", "at"] ["script"] (defScope s_law) := ⟨rfl, rfl, rfl, by decide +kernel, rfl, by decide +kernel, by decide +kernel⟩

theorem ok_law {f : Addr} {fd : FuncData} (F : Fun K "law" "law" s_law f fd) (B : Bl mg) (T : Txt K mg C) (m_Web : Mkc P w K mg base 5 C "Web" ["self", "size", "ties"] (sp_Web_init C))
    (c_pieces : Cal P w K mg base 5 "pieces" ["web"] (sp_pieces C)) (c_twins : Cal P w K mg base 3 "twins" ["web"] (sp_twins C)) (c_beside : Cal P w K mg base 8 "beside" ["one", "other"] (sp_beside C)) (c_copied : Cal P w K mg base 8 "copied" ["web", "times"] (sp_copied C))
    (c__law_tape : Cal P w K mg base 1 "_law_tape" ["script"] (sp_tape K)) (c__law_pick : Cal P w K mg base 1 "_law_pick" ["tape", "many"] spPick) (c__law_same : Cal P w K mg base 5 "_law_same" ["told", "due"] (spSame 3)) (c__law_web : Cal P w K mg base 3 "_law_web" ["tape", "most"] sp_web)
    (c__law_pieces : Cal P w K mg base 1 "_law_pieces" ["size", "ties"] sp_lpieces) (c__law_twins : Cal P w K mg base 2 "_law_twins" ["size", "ties"] sp_ltwins) :
    FnOk P w K mg base CX0 9 f fd ["script"] (sp_law K) := by
  refine F.ok sc_law (fun vs H Q E h => ?_) (fun cdv A outer s H vs Q E hr h => ?_)
  · obtain ⟨a, ns, rfl, _⟩ := h; rfl
  · obtain ⟨a, ns, rfl, hS, k⟩ := h
    refine ⟨_, (pss_cons (ps_set (i := 1) sc_law.nd rfl (by first | exact Or.inl rfl | exact Or.inr rfl) (pe_cal c__law_tape (hr.mono (by first | decide | omega)) (pa_cons (pv 0) pa_nil)))
 (pss_cons (ps_for PassesOwn.never rfl (pi_range1 (by rfl) B.range (pa_cons pe_int pa_nil)) (pg_name (i := 2) sc_law.nd rfl (by first | exact Or.inl rfl | exact Or.inr rfl))
  (pss_cons (ps_asg (pe_cal c__law_web (hr.mono (by first | decide | omega)) (pa_cons (pv 1) (pa_cons (pe_ifC (pt_cmpR op_eq (pe_cal c__law_pick (hr.mono (by first | decide | omega)) (pa_cons (pv 1) (pa_cons pe_int pa_nil))) pe_int (nomark _)) pe_int pe_int) pa_nil))) (pg_tup (by rfl) (pgs_cons (pg_name (i := 3) sc_law.nd rfl (by first | exact Or.inl rfl | exact Or.inr rfl)) (pgs_cons (pg_name (i := 4) sc_law.nd rfl (by first | exact Or.inl rfl | exact Or.inr rfl)) pgs_nil))))
 (pss_cons (ps_set (i := 5) sc_law.nd rfl (by first | exact Or.inl rfl | exact Or.inr rfl) (pe_mkc m_Web (hr.mono (by first | decide | omega)) (pa_cons (pv 3) (pa_cons (pv 4) pa_nil))))
 (pss_cons (ps_if (PW.pt (pw_or (pt_not (pt_val (pe_cal c__law_same (hr.mono (by first | decide | omega)) (pa_cons (pe_cal c_pieces (hr.mono (by first | decide | omega)) (pa_cons (pv 5) pa_nil)) (pa_cons (pe_cal c__law_pieces (hr.mono (by first | decide | omega)) (pa_cons (pv 3) (pa_cons (pv 4) pa_nil))) pa_nil))))) (pw_or1 (pt_not (pt_val (pe_cal c__law_same (hr.mono (by first | decide | omega)) (pa_cons (pe_cal c_twins (hr.mono (by first | decide | omega)) (pa_cons (pv 5) pa_nil)) (pa_cons (pe_cal c__law_twins (hr.mono (by first | decide | omega)) (pa_cons (pv 3) (pa_cons (pv 4) pa_nil))) pa_nil)))))))) (pss_one (ps_ret pe_bl)) pss_nil)
 (pss_cons (ps_set (i := 6) sc_law.nd rfl (by first | exact Or.inl rfl | exact Or.inr rfl) (pe_lst (pa_cons (pe_cal c_pieces (hr.mono (by first | decide | omega)) (pa_cons (pv 5) pa_nil)) (pa_cons (pe_cal c_twins (hr.mono (by first | decide | omega)) (pa_cons (pv 5) pa_nil)) pa_nil))))
 (pss_cons (ps_for PassesOwn.never rfl (pi_list (pv 6)) (pg_name (i := 7) sc_law.nd rfl (by first | exact Or.inl rfl | exact Or.inr rfl))
  (pss_one (ps_expr (pe_bm PySem.F.plainAttrs_list PySem.F.slot_list_append PySem.F.type_list_append mt_append (pv 7) (pa_cons pe_non pa_nil)))))
 (pss_cons (ps_if (PW.pt (pw_or (pt_cmpR (op_inL (units65 hr)) pe_non (pe_cal c_pieces (hr.mono (by first | decide | omega)) (pa_cons (pv 5) pa_nil)) (by rfl)) (pw_or1 (pt_cmpR (op_inL (units65 hr)) pe_non (pe_cal c_twins (hr.mono (by first | decide | omega)) (pa_cons (pv 5) pa_nil)) (by rfl))))) (pss_one (ps_ret pe_bl)) pss_nil)
 (pss_cons (ps_set (i := 8) sc_law.nd rfl (by first | exact Or.inl rfl | exact Or.inr rfl) (pe_cal c__law_web (hr.mono (by first | decide | omega)) (pa_cons (pv 1) (pa_cons pe_int pa_nil))))
 (pss_cons (ps_set (i := 9) sc_law.nd rfl (by first | exact Or.inl rfl | exact Or.inr rfl) (pe_mkc m_Web (hr.mono (by first | decide | omega)) (pa_cons (pe_ix ix_tup (pv 8) pe_int (fun _ _ => rfl)) (pa_cons (pe_ix ix_tup (pv 8) pe_int (fun _ _ => rfl)) pa_nil))))
 (pss_cons (ps_set (i := 10) sc_law.nd rfl (by first | exact Or.inl rfl | exact Or.inr rfl) (pe_cal c__law_pieces (hr.mono (by first | decide | omega)) (pa_cons (pv 3) (pa_cons (pv 4) pa_nil))))
 (pss_cons (ps_setLc (i := 13) (own := [("lot", 12)]) (te := (tCB (fun xs H Q => ∃ p ys, xs = [V.ref p] ∧ ((SqL K H p ys ∧ ∀ l, H l = none → Q (.ref l) (upd H l (.tup ys))) ∨ (SqT K H p ys ∧ Q (.ref p) H))) (tCons (tLc (iTup K (tVar 12)) (gName 11) tYes (tOp _ (tVar 11) (tVar 3)) [11]) tNil))) (by rfl) sc_law.nd rfl rfl (sw_true rfl rfl rfl (by decide +kernel)) (pi_list (pe_cal c__law_pieces (hr.mono (by first | decide | omega)) (pa_cons (pe_ix ix_tup (pv 8) pe_int (fun _ _ => rfl)) (pa_cons (pe_ix ix_tup (pv 8) pe_int (fun _ _ => rfl)) pa_nil)))) (blkOk_by (own := [("lot", 12)]) (N := ["script", "tape", "turn", "size", "ties", "web", "told", "items", "small", "other", "due", "part", "lot", "more", "times", "known", "lots", "at"]) (sc := defScope s_law) (by decide +kernel)) (fun _ _ _ _ _ => (pg_name (i := 12) sc_law.nd rfl (by first | exact Or.inl rfl | exact Or.inr rfl))) (fun _ _ _ _ _ => pts_nil) (fun _ _ _ _ _ => (pe_callTy call_tuple_of (by rfl) B.tuple_ (by decide +kernel) (pa_cons (pe_lc (own := [("part", 11)]) (by rfl) sc_law.nd (pi_tup (pv 12)) (blkOk_by (own := [("part", 11)]) (N := ["script", "tape", "turn", "size", "ties", "web", "told", "items", "small", "other", "due", "part", "lot", "more", "times", "known", "lots", "at"]) (sc := { kind := .function, names := [(".0", .local), ("lot", .local), ("tuple", .globalImplicit), ("size", .cell)], isGenerator := false, isCoroutine := false }) (by decide +kernel)) (fun _ _ _ _ _ => (pg_name (i := 11) sc_law.nd rfl (by first | exact Or.inl rfl | exact Or.inr rfl))) (fun _ _ _ _ _ => pts_nil) (fun _ _ _ _ _ => (pe_op op_add (pv 11) (pv 3)))) pa_nil))))
 (pss_cons (ps_if (pt_not (pt_val (pe_cal c__law_same (hr.mono (by first | decide | omega)) (pa_cons (pe_cal c_pieces (hr.mono (by first | decide | omega)) (pa_cons (pe_cal c_beside (hr.mono (by first | decide | omega)) (pa_cons (pv 5) (pa_cons (pv 9) pa_nil))) pa_nil)) (pa_cons (pe_op op_cat (pv 10) (pv 13)) pa_nil))))) (pss_one (ps_ret pe_bl)) pss_nil)
 (pss_cons (ps_set (i := 14) sc_law.nd rfl (by first | exact Or.inl rfl | exact Or.inr rfl) (pe_op op_add pe_int (pe_cal c__law_pick (hr.mono (by first | decide | omega)) (pa_cons (pv 1) (pa_cons pe_int pa_nil)))))
 (pss_cons (ps_set (i := 15) sc_law.nd rfl (by first | exact Or.inl rfl | exact Or.inr rfl) (pe_cal c_twins (hr.mono (by first | decide | omega)) (pa_cons (pe_cal c_copied (hr.mono (by first | decide | omega)) (pa_cons (pv 9) (pa_cons (pv 14) pa_nil))) pa_nil)))
 (pss_one (ps_for PassesOwn.never rfl (pi_range1 (by rfl) B.range (pa_cons (pe_ix ix_tup (pv 8) pe_int (fun _ _ => rfl)) pa_nil)) (pg_name (i := 11) sc_law.nd rfl (by first | exact Or.inl rfl | exact Or.inr rfl))
  (pss_cons (ps_set (i := 16) sc_law.nd rfl (by first | exact Or.inl rfl | exact Or.inr rfl) (pe_lc (own := [("lot", 12)]) (tt := (tTest (tOp (rIn K false) _ _))) (by rfl) sc_law.nd (pi_list (pv 15)) (blkOk_by (own := [("lot", 12)]) (N := ["script", "tape", "turn", "size", "ties", "web", "told", "items", "small", "other", "due", "part", "lot", "more", "times", "known", "lots", "at"]) (sc := defScope s_law) (by decide +kernel)) (fun _ _ _ _ _ => (pg_name (i := 12) sc_law.nd rfl (by first | exact Or.inl rfl | exact Or.inr rfl))) (fun _ _ _ _ _ => (pts_one (pt_cmpR op_in_seq (pe_op op_mul (pv 11) (pv 14)) (pv 12) (by rfl)))) (fun _ _ _ _ _ => (pv 12))))
 (pss_one (ps_if (PW.pt (pw_or (pt_cmpR op_ne (pe_callB call_len_seq (by rfl) B.len (by decide +kernel) (pa_cons (pv 16) pa_nil)) pe_int (nomark _)) (pw_or1 (pt_not (pt_val (pe_callB (cr_all rfl) (by rfl) B.all (by decide +kernel) (pa_cons (pe_lc (own := [("at", 17)]) (te := (tOp (rIn K false) _ (tOp (rIxL K) _ _))) (by rfl) sc_law.nd (pi_range1 (by rfl) B.range (pa_cons (pv 14) pa_nil)) (blkOk_by (own := [("at", 17)]) (N := ["script", "tape", "turn", "size", "ties", "web", "told", "items", "small", "other", "due", "part", "lot", "more", "times", "known", "lots", "at"]) (sc := defScope s_law) (by decide +kernel)) (fun _ _ _ _ _ => (pg_name (i := 17) sc_law.nd rfl (by first | exact Or.inl rfl | exact Or.inr rfl))) (fun _ _ _ _ _ => pts_nil) (fun _ _ _ _ _ => (pe_cmpR op_in_seq (pe_op op_add (pe_op op_mul (pv 11) (pv 14)) (pv 17)) (pe_ix ix_list (pv 16) pe_int (fun _ _ => rfl)) (by rfl)))) pa_nil))))))) (pss_one (ps_ret pe_bl)) pss_nil)))))))))))))))))))
 (pss_one (ps_ret pe_bl)))), ?_⟩
    refine ⟨_, rfl, a, ns, rfl, hS, fun TT L H1 e1 nT nL hT1 => ?_⟩
    refine ⟨3, rfl, by decide, by decide, for_range (lo := 0) (n := 3) (fun i σ H' => ∃ v2 v3 v4 v5 v6 v7 v8 v9 v10 v11 v12 v13 v14 v15 v16 v17 : Option V, σ = [some (.ref a), some (.ref TT), v2, v3, v4, v5, v6, v7, v8, v9, v10, v11, v12, v13, v14, v15, v16, v17] ∧ Tp H' TT L)
      ⟨none, none, none, none, none, none, none, none, none, none, none, none, none, none, none, none, rfl, hT1⟩ ?_ (fun σ H' _ => k H')⟩
    rintro i σ H2 hi ⟨v2, v3, v4, v5, v6, v7, v8, v9, v10, v11, v12, v13, v14, v15, v16, v17, rfl, hT2⟩
    refine ⟨_, rfl, _, rfl, TT, L, 8, rfl, by decide, by decide, hT2, fun r H3 _ _ _ hT3 => ⟨rfl, _, rfl, ?_⟩⟩
    have hm : ∃ m : Int, 1 ≤ m ∧ m ≤ 24 ∧ (if decide (V.int r = V.int 0) = true then V.int 24 else V.int 10) = .int m := by
      by_cases c : V.int r = V.int 0
      · exact ⟨24, by decide, by decide, by rw [if_pos (decide_eq_true c)]⟩
      · exact ⟨10, by decide, by decide, by rw [if_neg (by simpa using c)]⟩
    obtain ⟨m, m1, m2, hm⟩ := hm
    dsimp only
    rw [hm]
    refine ⟨TT, L, m, rfl, hT3, m1, m2, fun p t n xs ps H4 e4 hT4 np hp nt ht hP n1 nm G => ?_⟩
    have n2 : n ≤ 24 := by omega
    have n3 : n ≤ 200 := by omega
    have hlen := G.len n2
    refine ⟨p, _, rfl, SqT.of hp, rfl, _, _, rfl, _, _, rfl, rfl, ?_⟩
    refine ⟨_, rfl, _, rfl, make_web (C := C) n1 n2 ht hP G fun x H5 e5 nx W hx => ?_⟩
    have hT5 := hT4.ext e5
    have ht5 := e5 _ _ ht
    have hP5 := hP.tk e5.tk
    -- pieces
    refine ⟨_, rfl, x, n, t, ps, rfl, W, G, n1, n3, fun q1 ys1 cs H6 e6 nq1 hq1 hys1 HC => ?_⟩
    refine ⟨_, rfl, _, rfl, n, t, xs, ps, rfl, e6 _ _ ht5, hP5.tk e6.tk, G, n1, n3, fun q2 ys2 cs2 H7 e7 nq2 hq2 hys2 HC2 => ?_⟩
    have ec := HC2.uniq HC
    subst ec
    obtain ⟨hc1, hc2⟩ := pieces_small (by omega) n3 HC
    refine ⟨.ref q1, .ref q2, rfl, same_lotsL (e7 _ _ hq1) hq2 (paired_imp (fun _ _ h => LotAt.tk h e7.tk) hys1) hys2 (by omega) (fun l hl => Nat.le_trans (hc2 l hl) (by decide)), fun H8 e8 => ⟨true, rfl, iteF ?_⟩⟩
    have e58 := e6.trans (e7.trans e8)
    -- twins
    refine ⟨_, rfl, x, n, t, ps, rfl, W.same e58, G, n1, n3, fun q3 ys3 ts H9 e9 nq3 hq3 TB hys3 => ?_⟩
    have e59 := e58.trans e9
    refine ⟨_, rfl, _, rfl, n, t, xs, ps, rfl, e59 _ _ ht5, hP5.tk e59.tk, G, n1, n3, fun q4 ys4 ts2 Ha ea nq4 hq4 TB2 hys4 => ?_⟩
    have et := TB2.uniq TB
    subst et
    obtain ⟨ht1, ht2⟩ := twins_small (n := n) (ts := ts2) n3
    refine ⟨.ref q3, .ref q4, rfl, same_lotsL (ea _ _ hq3) hq4 (paired_imp (fun _ _ h => LotAt.tk h ea.tk) hys3) hys4 (by omega) (fun l hl => Nat.le_trans (ht2 l hl) (by decide)), fun Hb eb => ⟨true, rfl, iteF ?_⟩⟩
    have e5b := e59.trans (ea.trans eb)
    -- told
    refine ⟨_, rfl, x, n, t, ps, rfl, W.same e5b, G, n1, n3, fun i1 zs1 ds1 Hc ec1 ni1 hi1 hzs1 HD1 => ?_⟩
    have e5c := e5b.trans ec1
    refine ⟨_, rfl, x, n, t, ps, rfl, W.same e5c, G, n1, n3, fun i2 zs2 us2 Hd ed1 ni2 hi2 TBd hzs2 => ?_⟩
    have e5d := e5c.trans ed1
    refine ⟨(by show 2 ≤ sizeLine; decide), fun fr hfr => ?_⟩
    have s1 := L2.Same.new (o := .lst [.ref i1, .ref i2]) hfr
    have e5e := e5d.trans s1
    have n51 : H5 i1 = none := L2.Same.free e5b ni1
    have n52 : H5 i2 = none := L2.Same.free e5c ni2
    have hi1d := ed1 _ _ hi1
    have f1r : i1 ≠ fr := fun e => by rw [e, hfr] at hi1d; cases hi1d
    have f2r : i2 ≠ fr := fun e => by rw [e, hfr] at hi2; cases hi2
    have hz1 := (pieces_small (by omega) n3 HD1).1
    have hz2 := (twins_small (n := n) (ts := us2) n3).1
    rw [← Paired.len hzs1] at hz1
    rw [← Paired.len hzs2] at hz2
    refine ⟨_, rfl, fr, rfl, ⟨_, SqL.of upd_same⟩, for_list (K := K) (a := fr) (xs := [.ref i1, .ref i2]) (fun j σ H' => Same H5 H' ∧ H' fr = some (.lst [.ref i1, .ref i2]) ∧ (∃ zs, H' i1 = some (.lst zs) ∧ zs.length ≤ 200 + j) ∧ (∃ zs, H' i2 = some (.lst zs) ∧ zs.length ≤ 200 + j) ∧ ∃ u7 : Option V, σ = [some (.ref a), some (.ref TT), some (.int (0 + (i : Nat))), some (.int n), some (.ref t), some (.ref x), some (.ref fr), u7, v8, v9, v10, v11, v12, v13, v14, v15, v16, v17])
      ⟨e5e, upd_same, ⟨_, s1 _ _ hi1d, by omega⟩, ⟨_, s1 _ _ hi2, by omega⟩, v7, rfl⟩ (fun i σ H' _ p => SqL.of p.2.1) ?_ ?_⟩
    · rintro j v σ Hf hv ⟨f1, f2, ⟨z1, f3, f4⟩, ⟨z2, f5, f6⟩, u7, rfl⟩
      obtain ⟨q, zs, rfl, hq, hl, hqfr, hq0⟩ : ∃ q zs, v = .ref q ∧ Hf q = some (.lst zs) ∧ zs.length ≤ 200 + j ∧ q ≠ fr ∧ H5 q = none := by
        match j, hv with
        | 0, hv => exact ⟨i1, z1, (Option.some.inj hv).symm, f3, f4, f1r, n51⟩
        | 1, hv => exact ⟨i2, z2, (Option.some.inj hv).symm, f5, f6, f2r, n52⟩
        | j + 2, hv => cases hv
      have hj : j < 2 := by
        have := (List.getElem?_eq_some_iff.mp hv).1
        simpa using this
      refine ⟨_, rfl, .inl ⟨rfl, _, SqL.of hq⟩, q, zs, _, rfl, rfl, hq, Nat.lt_of_le_of_lt (show zs.length ≤ 300 by omega) (by decide), ?_⟩
      have key : ∀ q' zs', Hf q' = some (.lst zs') → zs'.length ≤ 200 + j → ∃ z, (upd Hf q (.lst (zs ++ [.non]))) q' = some (.lst z) ∧ z.length ≤ 200 + (j + 1) := fun q' zs' h1 h2 => by
        by_cases e : q' = q
        · subst e
          exact ⟨_, upd_same, by rw [List.length_append]; show zs.length + 1 ≤ _; omega⟩
        · exact ⟨zs', by rw [upd_ne e]; exact h1, by omega⟩
      exact ⟨L2.Same.mut f1 hq0, by rw [upd_ne hqfr.symm]; exact f2, key _ _ f3 f4, key _ _ f5 f6, _, rfl⟩
    rintro σ Hf ⟨f1, f2, f3, f4, u7, rfl⟩
    -- None in pieces, None in twins
    refine ⟨_, rfl, x, n, t, ps, rfl, W.same f1, G, n1, n3, fun i3 zs3 ds3 Hg eg ni3 hi3 hzs3 HD3 => ?_⟩
    refine ⟨.none, (ds3.map lotL).map tD, .non, .lst (SqL.of hi3) (dp_lots hzs3), by decide +kernel, tDs_shaped _, _, rfl, ?_⟩
    rw [none_in]
    refine iteF ?_
    have f5g := f1.trans eg
    refine ⟨_, rfl, x, n, t, ps, rfl, W.same f5g, G, n1, n3, fun i4 zs4 us4 Hh eh ni4 hi4 TB4 hzs4 => ?_⟩
    refine ⟨.none, (twinsL n us4).map tD, .non, .lst (SqL.of hi4) (dp_lots hzs4), by decide +kernel, tDs_shaped _, _, rfl, ?_⟩
    rw [none_in]
    refine iteF ?_
    have f5h := f5g.trans eh
    have hTh := hT5.ext f5h
    -- small, other
    refine ⟨_, rfl, TT, L, 5, rfl, hTh, by decide, by decide, fun p2 t2 m xs2 qs Hi ei hTi np2 hp2 nt2 ht2 hP2 k1 k2 G2 => ?_⟩
    obtain ⟨lh, hlh⟩ := hTh.lst
    have Wi := (W.same f5h).exT ei hlh
    have tki := hTh.tk ei
    have hpsl := hP5.tk f5h.tk
    have hPi : Pairs Hi xs ps := hpsl.tk tki
    have hti := tki _ _ (f5h _ _ ht5)
    have k3 : m ≤ 24 := by omega
    have k4 : m ≤ 200 := by omega
    refine ⟨_, rfl, p2, _, 0, V.int m, rfl, rfl, SqT.of hp2, at_of (j := 0) rfl rfl, ?_⟩
    refine ⟨_, rfl, p2, _, 1, V.ref t2, rfl, rfl, SqT.of hp2, at_of (j := 1) rfl rfl, ?_⟩
    refine make_web (C := C) k1 k3 ht2 hP2 G2 fun y Hj ej ny W2 hy => ?_
    have hTj := hTi.ext ej
    have hp2j := ej _ _ hp2
    have ht2j := ej _ _ ht2
    have hP2j := hP2.tk ej.tk
    have Wj := Wi.same ej
    have htj := ej _ _ hti
    have hPj := hPi.tk ej.tk
    -- due
    refine ⟨_, rfl, _, rfl, n, t, xs, ps, rfl, htj, hPj, G, n1, n3, fun du dys cs5 Hk ek ndu hdu hdys HC5 => ?_⟩
    -- more
    refine ⟨_, rfl, p2, _, 0, V.int m, rfl, rfl, SqT.of (ek _ _ hp2j), at_of (j := 0) rfl rfl, ?_⟩
    refine ⟨_, rfl, p2, _, 1, V.ref t2, rfl, rfl, SqT.of (ek _ _ hp2j), at_of (j := 1) rfl rfl, ?_⟩
    refine ⟨m, t2, xs2, qs, rfl, ek _ _ ht2j, hP2j.tk ek.tk, G2, k1, k4, fun lp lys ds Hl el nlp hlp hlys HD => ?_⟩
    have ejl := ek.trans el
    obtain ⟨hd1, hd2⟩ := pieces_small (by omega) k4 HD
    refine ⟨lp, rfl, ⟨_, SqL.of hlp⟩, fun D hD => lc_data (walk_list (K := K) (a := lp) (xs := lys)) (ds.map lotL) (Paired.len hlys).symm (fun _ => true) (fun H' v l => LotAt H' v (l.map (· + n))) (fun _ _ _ _ t q => q.tk t) hD (fun H' e => SqL.of (e _ _ hlp)) (Nat.lt_of_le_of_lt hd1 (by decide)) ?_ (fun _ _ _ _ _ y => yat_same y) ?_⟩
    · rintro j l v Hp Hq Ny Nn hj e9 ⟨rfl, hv⟩ kE kN
      obtain ⟨b, rfl, hb⟩ : LotAt Hl v l := paired_at hlys hv hj
      have hl := hd2 l (List.mem_of_getElem? hj)
      have hb9 := e9 _ _ hb
      refine ⟨rfl, yes_if ?_⟩
      refine ⟨_, rfl, b, rfl, ⟨_, SqT.of hb9⟩, fun D2 hD2 => lc_data (walk_tup (K := K) (a := b) (xs := l.map V.int)) l (by rw [List.length_map]) (fun _ => true) (fun _ v x => v = .int (x + n)) (fun _ _ _ _ _ q => q) hD2 (fun H' e => SqT.of (e _ _ hb9)) (Nat.lt_of_le_of_lt hl (by decide)) ?_ (fun _ _ _ _ _ y => yat_same y) ?_⟩
      · rintro jj x' v' Hp' Hq' Ny' Nn' hx e10 ⟨rfl, hv'⟩ kE' kN'
        obtain ⟨x'', hx'', rfl⟩ := map_get hv'
        rw [hx] at hx''
        cases hx''
        refine ⟨rfl, yes_if ?_⟩
        refine ⟨_, rfl, _, rfl, _, _, rfl, rfl, ?_⟩
        exact kE' _ _ rfl (L2.Same.refl _) rfl
      intro zs Hr er hzs hpr
      have ez := paired_eq (g := fun x : Int => V.int (x + n)) hpr
      subst ez
      rw [filter_yes] at hzs
      refine ⟨D2, _, rfl, .inl ⟨SqL.of hzs, fun q hq => ?_⟩⟩
      exact kE _ _ rfl (er.trans (L2.Same.new hq)) ⟨q, rfl, by rw [upd_same, List.map_map]; rfl⟩
    intro zs Hm em hzs hpr
    rw [filter_yes] at hpr
    have hmore : Paired (LotAt Hm) zs ((ds.map lotL).map fun l => l.map (· + n)) := paired_mapR hpr
    have ejm := ejl.trans em
    -- pieces(beside(web, other))
    refine ⟨_, rfl, _, rfl, x, n, t, ps, y, m, t2, qs, rfl, Wj.same ejm, W2.same ejm, G, G2, by omega, by omega, Nat.le_trans hlen (by decide), Nat.le_trans (G2.len k3) (by decide), fun z t3 rs Hn en nz Wz Grs hmem => ?_⟩
    refine ⟨z, n + m, t3, rs, rfl, Wz, Grs, by omega, by omega, fun q5 ys5 es Ho eo nq5 hq5 hys5 HE => ?_⟩
    have emo := en.trans eo
    have hdu' := (el.trans (em.trans emo)) _ _ hdu
    have hzs' := emo _ _ hzs
    have ld := Paired.len hdys
    have lz := Paired.len hmore
    rw [List.length_map] at lz
    obtain ⟨he1, he2⟩ := pieces_small (by omega) (show n + m ≤ 200 by omega) HE
    have hc5 := (pieces_small (by omega) n3 HC5).1
    refine ⟨_, rfl, _, rfl, du, D, dys, zs, rfl, rfl, hdu', hzs', Nat.le_trans (show dys.length + zs.length ≤ 1000 by omega) (by decide), fun g hg => ?_⟩
    have s2 := L2.Same.new (o := .lst (dys ++ zs)) hg
    have eB := beside_pieces (by omega) (by omega) G G2 hmem HC5 HD HE
    have hdys' := paired_imp (fun _ _ h => LotAt.tk h ((el.trans (em.trans emo)).trans s2).tk) hdys
    have hmore' := paired_imp (fun _ _ h => LotAt.tk h (emo.trans s2).tk) hmore
    refine ⟨.ref q5, .ref g, rfl, same_lotsL (s2 _ _ hq5) upd_same (paired_imp (fun _ _ h => LotAt.tk h s2.tk) hys5) (by rw [eB]; exact Paired.app hdys' hmore') (by omega) (fun l hl => Nat.le_trans (he2 l hl) (by decide)), fun Hq eq => ⟨true, rfl, iteF ?_⟩⟩
    have ejq := ejm.trans (emo.trans (s2.trans eq))
    have hTq := hTj.ext ejq
    -- times
    refine ⟨_, rfl, TT, L, 2, rfl, by decide, by decide, hTq, fun r2 Hr r20 r21 er hTr => ⟨_, _, rfl, rfl, ?_⟩⟩
    have tkr := hTq.tk er
    obtain ⟨lq, hlq⟩ := hTq.lst
    have W2r := (W2.same ejq).exT er hlq
    have b1 : 1 ≤ 2 + r2 := by omega
    have b2 : 2 + r2 ≤ 3 := by omega
    have b3 : 2 ≤ 2 + r2 := by omega
    have p2r := tkr _ _ (ejq _ _ hp2j)
    have c1 : 1 ≤ m * (2 + r2) := by have := Int.mul_le_mul k1 b1 (by decide) (by omega); omega
    have c2 : m * (2 + r2) ≤ 15 := by have := Int.mul_le_mul k2 b2 (by omega) (by decide); omega
    have c3 : m * (2 + r2) ≤ 200 := by omega
    -- known
    refine ⟨_, rfl, _, rfl, y, m, t2, qs, (2 + r2), rfl, W2r, G2, k1, k3, b1, by omega, fun z2 vz rs2 Hs es2 nz2 Wz2 Grs2 hmem2 => ?_⟩
    refine ⟨z2, m * (2 + r2), vz, rs2, rfl, Wz2, Grs2, c1, c3, fun kq kys kts Ht et nkq hkq TBk hkys => ?_⟩
    have est := es2.trans et
    have hTt := hTr.ext est
    have p2t := est _ _ p2r
    -- for part in range(small[0])
    refine ⟨_, rfl, p2, _, 0, V.int m, rfl, rfl, SqT.of p2t, at_of (j := 0) rfl rfl, m, rfl, by omega, by omega, for_range (lo := 0) (n := m.toNat) (fun j σ H' => Same Ht H' ∧ ∃ u11 u16 : Option V, σ = [some (.ref a), some (.ref TT), some (.int (0 + (i : Nat))), some (.int n), some (.ref t), some (.ref x), some (.ref fr), u7, some (.ref p2), some (.ref y), some (.ref du), u11, v12, some (.ref D), some (.int (2 + r2)), some (.ref kq), u16, v17])
      ⟨L2.Same.refl _, _, _, rfl⟩ ?_ ?_⟩
    · rintro j σ Hu hj ⟨eu, u11, u16, rfl⟩
      obtain ⟨lt, hlt1, hlt2⟩ := cop_twins (N := m * (2 + r2)) (n := m) (t := 2 + r2) (ps := qs) (rs := rs2) (ts := kts) b3 rfl hmem2 TBk (k := 0 + (j : Nat)) (by omega) (by omega)
      have hku := eu _ _ hkq
      have hkyu := paired_imp (fun _ _ h => LotAt.tk h eu.tk) hkys
      obtain ⟨g1, g2⟩ := twins_small (n := m * (2 + r2)) (ts := kts) c3
      have kk0 : (0 : Int) ≤ 0 + (j : Nat) := by omega
      have kk1 : (0 : Int) + (j : Nat) < 5 := by omega
      generalize hkk : (0 : Int) + (j : Nat) = kk at hlt1 hlt2 kk0 kk1 ⊢
      refine ⟨_, rfl, kq, rfl, ⟨_, SqL.of hku⟩, fun D3 hD3 => lc_data (walk_list (K := K) (a := kq) (xs := kys)) (twinsL (m * (2 + r2)) kts) (Paired.len hkys).symm (fun l => decide (kk * (2 + r2) ∈ l)) (fun H' v l => LotAt H' v l) (fun _ _ _ _ t q => q.tk t) hD3 (fun H' e => SqL.of (e _ _ hku)) (Nat.lt_of_le_of_lt g1 (by decide)) ?_ (fun _ _ _ _ _ y => yat_same y) ?_⟩
      · rintro jj l v Hp' Hq' Ny Nn hjl e9 ⟨rfl, hv⟩ kE kN
        obtain ⟨b, rfl, hb⟩ : LotAt Hu v l := paired_at hkyu hv hjl
        have hb9 := e9 _ _ hb
        refine ⟨rfl, ?_⟩
        refine ⟨_, rfl, _, rfl, _, _, rfl, rfl, .inr ⟨by omega, by omega⟩, _, rfl, b, _, rfl, .inr (SqT.of hb9), rfl, flat_ints _, _, rfl, ?_⟩
        show (if (inV (V.int (kk * (2 + r2))) (l.map V.int)) = true then _ else _)
        rw [inV_ints]
        exact onb (fun c => ⟨_, rfl, kE _ _ (decide_eq_true c) (L2.Same.refl _) ⟨b, rfl, hb9⟩⟩) (fun c => kN _ (decide_eq_false c) (L2.Same.refl _))
      intro zs3 Hv ev hzs3 hpr3
      rw [hlt1] at hpr3
      obtain ⟨vl, rfl, b, rfl, hb⟩ : ∃ vl, zs3 = [vl] ∧ LotAt Hv vl lt := by
        cases hpr3 with
        | cons h tl => cases tl with
          | nil => exact ⟨_, rfl, h⟩
      refine ⟨_, rfl, D3, _, rfl, .inl (SqL.of hzs3), rfl, _, rfl, iteNS rfl ?_⟩
      refine ⟨_, rfl, _, rfl, by omega, by omega, fun D4 hD4 => lc_data (walk_range (lo := 0) (n := (2 + r2).toNat)) (List.range (2 + r2).toNat) (List.length_range) (fun _ => true) (fun _ v _ => v = .bl true) (fun _ _ _ _ _ q => q) hD4 (fun _ _ => trivial) (by rw [List.length_range]; exact Nat.lt_of_le_of_lt (show (2 + r2).toNat ≤ 1000 by omega) (by decide)) ?_ (fun _ _ _ _ _ y => by rw [y.1]; exact L2.Same.refl _) ?_⟩
      · rintro jj a' v Hp' Hq' Ny Nn hai e10 ⟨rfl, rfl⟩ kE kN
        have ha' : jj < (2 + r2).toNat := by have := (List.getElem?_eq_some_iff.mp hai).1; rw [List.length_range] at this; exact this
        have hin := hlt2 (0 + (jj : Nat)) (by omega) (by omega)
        refine ⟨rfl, yes_if ?_⟩
        refine ⟨_, rfl, _, rfl, _, _, rfl, rfl, .inr ⟨by omega, by omega⟩, _, rfl, _, _, rfl, rfl, _, rfl, D3, _, 0, .ref b, rfl, rfl, SqL.of (e10 _ _ hzs3), at_of (j := 0) rfl rfl, b, _, rfl, .inr (SqT.of (e10 _ _ hb)), rfl, flat_ints _, ?_⟩
        refine kE _ _ rfl (L2.Same.refl _) ?_
        show V.bl (inV (V.int (kk * (2 + r2) + (0 + (jj : Nat)))) (lt.map V.int)) = V.bl true
        rw [inV_ints, decide_eq_true hin]
      intro zs4 Hw ew hzs4 hpr4
      have ez := paired_eq (g := fun _ : Nat => V.bl true) hpr4
      subst ez
      rw [filter_yes] at hzs4
      refine ⟨D4, (List.range (2 + r2).toNat).map fun _ => true, rfl, (by rw [List.map_map]; exact SqL.of hzs4), ?_⟩
      have hall : ((List.range (2 + r2).toNat).map fun _ => true).all id = true := by rw [List.all_map, List.all_eq_true]; intro _ _; rfl
      rw [hall]
      refine ⟨true, rfl, iteF ?_⟩
      exact ⟨eu.trans (ev.trans ew), _, _, rfl⟩
    · rintro σ Hu ⟨eu, u11, u16, rfl⟩
      exact ⟨_, _, _, _, _, _, _, _, _, _, _, _, _, _, _, _, rfl, hTt.ext eu⟩
end
end Bs

namespace Bs
open PySem PySem.Spec L2
theorem all_mk {l : PySem.W.OpenLaw} {w : World} {K : PySem.W.Frag} {h : Heap} {mg : Str → Option Value} {fa C_Web : Addr} {tk tk2 : Tok} (X : K.In h) (G : h.Ns mainGlobals mg) (hfa : mg "law" = some (.ref fa))
    {f_is_integer : Addr} {oc_is_integer kV_is_integer dc_is_integer pm_is_integer cd_is_integer ct_is_integer : Value} {od_is_integer an_is_integer : Option Addr} {sl_is_integer : Array (Option Value)}
    {f_is_number : Addr} {oc_is_number kV_is_number dc_is_number pm_is_number cd_is_number ct_is_number : Value} {od_is_number an_is_number : Option Addr} {sl_is_number : Array (Option Value)}
    {f_check_number : Addr} {oc_check_number kV_check_number dc_check_number pm_check_number cd_check_number ct_check_number : Value} {od_check_number an_check_number : Option Addr} {sl_check_number : Array (Option Value)}
    {f_lot_of : Addr} {oc_lot_of kV_lot_of dc_lot_of pm_lot_of cd_lot_of ct_lot_of : Value} {od_lot_of an_lot_of : Option Addr} {sl_lot_of : Array (Option Value)}
    {f_all_bits : Addr} {oc_all_bits kV_all_bits dc_all_bits pm_all_bits cd_all_bits ct_all_bits : Value} {od_all_bits an_all_bits : Option Addr} {sl_all_bits : Array (Option Value)}
    {f_tied_bits : Addr} {oc_tied_bits kV_tied_bits dc_tied_bits pm_tied_bits cd_tied_bits ct_tied_bits : Value} {od_tied_bits an_tied_bits : Option Addr} {sl_tied_bits : Array (Option Value)}
    {f_tied_to_any : Addr} {oc_tied_to_any kV_tied_to_any dc_tied_to_any pm_tied_to_any cd_tied_to_any ct_tied_to_any : Value} {od_tied_to_any an_tied_to_any : Option Addr} {sl_tied_to_any : Array (Option Value)}
    {f_hanging : Addr} {oc_hanging kV_hanging dc_hanging pm_hanging cd_hanging ct_hanging : Value} {od_hanging an_hanging : Option Addr} {sl_hanging : Array (Option Value)}
    {f_pieces_of : Addr} {oc_pieces_of kV_pieces_of dc_pieces_of pm_pieces_of cd_pieces_of ct_pieces_of : Value} {od_pieces_of an_pieces_of : Option Addr} {sl_pieces_of : Array (Option Value)}
    {f_pieces : Addr} {oc_pieces kV_pieces dc_pieces pm_pieces cd_pieces ct_pieces : Value} {od_pieces an_pieces : Option Addr} {sl_pieces : Array (Option Value)}
    {f_alike : Addr} {oc_alike kV_alike dc_alike pm_alike cd_alike ct_alike : Value} {od_alike an_alike : Option Addr} {sl_alike : Array (Option Value)}
    {f_twins : Addr} {oc_twins kV_twins dc_twins pm_twins cd_twins ct_twins : Value} {od_twins an_twins : Option Addr} {sl_twins : Array (Option Value)}
    {f_is_tie : Addr} {oc_is_tie kV_is_tie dc_is_tie pm_is_tie cd_is_tie ct_is_tie : Value} {od_is_tie an_is_tie : Option Addr} {sl_is_tie : Array (Option Value)}
    {f_wrong_tie : Addr} {oc_wrong_tie kV_wrong_tie dc_wrong_tie pm_wrong_tie cd_wrong_tie ct_wrong_tie : Value} {od_wrong_tie an_wrong_tie : Option Addr} {sl_wrong_tie : Array (Option Value)}
    {f_tie_of : Addr} {oc_tie_of kV_tie_of dc_tie_of pm_tie_of cd_tie_of ct_tie_of : Value} {od_tie_of an_tie_of : Option Addr} {sl_tie_of : Array (Option Value)}
    {f_web_of_any_size : Addr} {oc_web_of_any_size kV_web_of_any_size dc_web_of_any_size pm_web_of_any_size cd_web_of_any_size ct_web_of_any_size : Value} {od_web_of_any_size an_web_of_any_size : Option Addr} {sl_web_of_any_size : Array (Option Value)}
    {f_moved : Addr} {oc_moved kV_moved dc_moved pm_moved cd_moved ct_moved : Value} {od_moved an_moved : Option Addr} {sl_moved : Array (Option Value)}
    {f_numbers : Addr} {oc_numbers kV_numbers dc_numbers pm_numbers cd_numbers ct_numbers : Value} {od_numbers an_numbers : Option Addr} {sl_numbers : Array (Option Value)}
    {f_across : Addr} {oc_across kV_across dc_across pm_across cd_across ct_across : Value} {od_across an_across : Option Addr} {sl_across : Array (Option Value)}
    {f_beside : Addr} {oc_beside kV_beside dc_beside pm_beside cd_beside ct_beside : Value} {od_beside an_beside : Option Addr} {sl_beside : Array (Option Value)}
    {f_copies_of : Addr} {oc_copies_of kV_copies_of dc_copies_of pm_copies_of cd_copies_of ct_copies_of : Value} {od_copies_of an_copies_of : Option Addr} {sl_copies_of : Array (Option Value)}
    {f_copied : Addr} {oc_copied kV_copied dc_copied pm_copied cd_copied ct_copied : Value} {od_copied an_copied : Option Addr} {sl_copied : Array (Option Value)}
    {f__law_tape : Addr} {oc__law_tape kV__law_tape dc__law_tape pm__law_tape cd__law_tape ct__law_tape : Value} {od__law_tape an__law_tape : Option Addr} {sl__law_tape : Array (Option Value)}
    {f__law_pick : Addr} {oc__law_pick kV__law_pick dc__law_pick pm__law_pick cd__law_pick ct__law_pick : Value} {od__law_pick an__law_pick : Option Addr} {sl__law_pick : Array (Option Value)}
    {f__law_is_integer : Addr} {oc__law_is_integer kV__law_is_integer dc__law_is_integer pm__law_is_integer cd__law_is_integer ct__law_is_integer : Value} {od__law_is_integer an__law_is_integer : Option Addr} {sl__law_is_integer : Array (Option Value)}
    {f__law_near : Addr} {oc__law_near kV__law_near dc__law_near pm__law_near cd__law_near ct__law_near : Value} {od__law_near an__law_near : Option Addr} {sl__law_near : Array (Option Value)}
    {f__law_same : Addr} {oc__law_same kV__law_same dc__law_same pm__law_same cd__law_same ct__law_same : Value} {od__law_same an__law_same : Option Addr} {sl__law_same : Array (Option Value)}
    {f__law_mixed : Addr} {oc__law_mixed kV__law_mixed dc__law_mixed pm__law_mixed cd__law_mixed ct__law_mixed : Value} {od__law_mixed an__law_mixed : Option Addr} {sl__law_mixed : Array (Option Value)}
    {f__law_web : Addr} {oc__law_web kV__law_web dc__law_web pm__law_web cd__law_web ct__law_web : Value} {od__law_web an__law_web : Option Addr} {sl__law_web : Array (Option Value)}
    {f__law_pieces : Addr} {oc__law_pieces kV__law_pieces dc__law_pieces pm__law_pieces cd__law_pieces ct__law_pieces : Value} {od__law_pieces an__law_pieces : Option Addr} {sl__law_pieces : Array (Option Value)}
    {f__law_twins : Addr} {oc__law_twins kV__law_twins dc__law_twins pm__law_twins cd__law_twins ct__law_twins : Value} {od__law_twins an__law_twins : Option Addr} {sl__law_twins : Array (Option Value)}
    {f_law : Addr} {oc_law kV_law dc_law pm_law cd_law ct_law : Value} {od_law an_law : Option Addr} {sl_law : Array (Option Value)}
    {f_Web_init : Addr} {oc_Web_init kV_Web_init dc_Web_init pm_Web_init cd_Web_init ct_Web_init : Value} {od_Web_init an_Web_init : Option Addr} {sl_Web_init : Array (Option Value)}
    (a_Web : PySem.W.nsIn K mainGlobals "Web" = some (some (.ref C_Web)))
    (a_MP : PySem.W.nsIn K mainGlobals "MOST_PARTS" = some (some (.int 24 tk)))
    (pg : PySem.W.plainGet K C_Web Str.empty = true)
    (hd : PySem.W.hasDictIn K C_Web = true)
    (po : PySem.W.plainOver K C_Web = true)
    (sa : PySem.W.findIn K (.ref C_Web) "__setattr__" = some (some (.builtin "object.__setattr__")))
    (mk : PySem.W.makesIn K C_Web = true)
    (kc : PySem.W.keepIn K (.ref C_Web) = true)
    (nS : PySem.W.findIn K (.ref C_Web) "size" = some none)
    (nT : PySem.W.findIn K (.ref C_Web) "ties" = some none)
    (xc : PySem.W.findIn K (.ref C_Web) "__class__" = some (some (.builtin "object.__class__")))
    (xg : PySem.W.specialIn K (.builtin "object.__class__") "__get__" = some (some (.builtin "getset_descriptor.__get__")))
    (xt : PySem.W.takesIn K (.builtin "object.__class__") = some true)
    (xm : PySem.W.mroIn K C_Web (.type "object") = some true)
    (a_MC : PySem.W.nsIn K mainGlobals "MOST_COPIES" = some (some (.int 6 tk2)))
    (a_is_integer : PySem.W.nsIn K mainGlobals "is_integer" = some (some (.ref f_is_integer)))
    (l_is_integer : K.lookup f_is_integer = some ⟨oc_is_integer, od_is_integer, .func (PySem.W.fnOf "is_integer" "is_integer" (defArgs s_is_integer) (defBody s_is_integer) (defScope s_is_integer) .none kV_is_integer dc_is_integer pm_is_integer an_is_integer cd_is_integer ct_is_integer), sl_is_integer⟩)
    (c_is_integer : PySem.W.codeIn K cd_is_integer "is_integer" = true)
    (k_is_integer : PySem.W.keepIn K (.ref f_is_integer) = true)
    (a_is_number : PySem.W.nsIn K mainGlobals "is_number" = some (some (.ref f_is_number)))
    (l_is_number : K.lookup f_is_number = some ⟨oc_is_number, od_is_number, .func (PySem.W.fnOf "is_number" "is_number" (defArgs s_is_number) (defBody s_is_number) (defScope s_is_number) .none kV_is_number dc_is_number pm_is_number an_is_number cd_is_number ct_is_number), sl_is_number⟩)
    (c_is_number : PySem.W.codeIn K cd_is_number "is_number" = true)
    (k_is_number : PySem.W.keepIn K (.ref f_is_number) = true)
    (a_check_number : PySem.W.nsIn K mainGlobals "check_number" = some (some (.ref f_check_number)))
    (l_check_number : K.lookup f_check_number = some ⟨oc_check_number, od_check_number, .func (PySem.W.fnOf "check_number" "check_number" (defArgs s_check_number) (defBody s_check_number) (defScope s_check_number) .none kV_check_number dc_check_number pm_check_number an_check_number cd_check_number ct_check_number), sl_check_number⟩)
    (c_check_number : PySem.W.codeIn K cd_check_number "check_number" = true)
    (k_check_number : PySem.W.keepIn K (.ref f_check_number) = true)
    (a_lot_of : PySem.W.nsIn K mainGlobals "lot_of" = some (some (.ref f_lot_of)))
    (l_lot_of : K.lookup f_lot_of = some ⟨oc_lot_of, od_lot_of, .func (PySem.W.fnOf "lot_of" "lot_of" (defArgs s_lot_of) (defBody s_lot_of) (defScope s_lot_of) .none kV_lot_of dc_lot_of pm_lot_of an_lot_of cd_lot_of ct_lot_of), sl_lot_of⟩)
    (c_lot_of : PySem.W.codeIn K cd_lot_of "lot_of" = true)
    (k_lot_of : PySem.W.keepIn K (.ref f_lot_of) = true)
    (a_all_bits : PySem.W.nsIn K mainGlobals "all_bits" = some (some (.ref f_all_bits)))
    (l_all_bits : K.lookup f_all_bits = some ⟨oc_all_bits, od_all_bits, .func (PySem.W.fnOf "all_bits" "all_bits" (defArgs s_all_bits) (defBody s_all_bits) (defScope s_all_bits) .none kV_all_bits dc_all_bits pm_all_bits an_all_bits cd_all_bits ct_all_bits), sl_all_bits⟩)
    (c_all_bits : PySem.W.codeIn K cd_all_bits "all_bits" = true)
    (k_all_bits : PySem.W.keepIn K (.ref f_all_bits) = true)
    (a_tied_bits : PySem.W.nsIn K mainGlobals "tied_bits" = some (some (.ref f_tied_bits)))
    (l_tied_bits : K.lookup f_tied_bits = some ⟨oc_tied_bits, od_tied_bits, .func (PySem.W.fnOf "tied_bits" "tied_bits" (defArgs s_tied_bits) (defBody s_tied_bits) (defScope s_tied_bits) .none kV_tied_bits dc_tied_bits pm_tied_bits an_tied_bits cd_tied_bits ct_tied_bits), sl_tied_bits⟩)
    (c_tied_bits : PySem.W.codeIn K cd_tied_bits "tied_bits" = true)
    (k_tied_bits : PySem.W.keepIn K (.ref f_tied_bits) = true)
    (a_tied_to_any : PySem.W.nsIn K mainGlobals "tied_to_any" = some (some (.ref f_tied_to_any)))
    (l_tied_to_any : K.lookup f_tied_to_any = some ⟨oc_tied_to_any, od_tied_to_any, .func (PySem.W.fnOf "tied_to_any" "tied_to_any" (defArgs s_tied_to_any) (defBody s_tied_to_any) (defScope s_tied_to_any) .none kV_tied_to_any dc_tied_to_any pm_tied_to_any an_tied_to_any cd_tied_to_any ct_tied_to_any), sl_tied_to_any⟩)
    (c_tied_to_any : PySem.W.codeIn K cd_tied_to_any "tied_to_any" = true)
    (k_tied_to_any : PySem.W.keepIn K (.ref f_tied_to_any) = true)
    (a_hanging : PySem.W.nsIn K mainGlobals "hanging" = some (some (.ref f_hanging)))
    (l_hanging : K.lookup f_hanging = some ⟨oc_hanging, od_hanging, .func (PySem.W.fnOf "hanging" "hanging" (defArgs s_hanging) (defBody s_hanging) (defScope s_hanging) .none kV_hanging dc_hanging pm_hanging an_hanging cd_hanging ct_hanging), sl_hanging⟩)
    (c_hanging : PySem.W.codeIn K cd_hanging "hanging" = true)
    (k_hanging : PySem.W.keepIn K (.ref f_hanging) = true)
    (a_pieces_of : PySem.W.nsIn K mainGlobals "pieces_of" = some (some (.ref f_pieces_of)))
    (l_pieces_of : K.lookup f_pieces_of = some ⟨oc_pieces_of, od_pieces_of, .func (PySem.W.fnOf "pieces_of" "pieces_of" (defArgs s_pieces_of) (defBody s_pieces_of) (defScope s_pieces_of) .none kV_pieces_of dc_pieces_of pm_pieces_of an_pieces_of cd_pieces_of ct_pieces_of), sl_pieces_of⟩)
    (c_pieces_of : PySem.W.codeIn K cd_pieces_of "pieces_of" = true)
    (k_pieces_of : PySem.W.keepIn K (.ref f_pieces_of) = true)
    (a_pieces : PySem.W.nsIn K mainGlobals "pieces" = some (some (.ref f_pieces)))
    (l_pieces : K.lookup f_pieces = some ⟨oc_pieces, od_pieces, .func (PySem.W.fnOf "pieces" "pieces" (defArgs s_pieces) (defBody s_pieces) (defScope s_pieces) .none kV_pieces dc_pieces pm_pieces an_pieces cd_pieces ct_pieces), sl_pieces⟩)
    (c_pieces : PySem.W.codeIn K cd_pieces "pieces" = true)
    (k_pieces : PySem.W.keepIn K (.ref f_pieces) = true)
    (a_alike : PySem.W.nsIn K mainGlobals "alike" = some (some (.ref f_alike)))
    (l_alike : K.lookup f_alike = some ⟨oc_alike, od_alike, .func (PySem.W.fnOf "alike" "alike" (defArgs s_alike) (defBody s_alike) (defScope s_alike) .none kV_alike dc_alike pm_alike an_alike cd_alike ct_alike), sl_alike⟩)
    (c_alike : PySem.W.codeIn K cd_alike "alike" = true)
    (k_alike : PySem.W.keepIn K (.ref f_alike) = true)
    (a_twins : PySem.W.nsIn K mainGlobals "twins" = some (some (.ref f_twins)))
    (l_twins : K.lookup f_twins = some ⟨oc_twins, od_twins, .func (PySem.W.fnOf "twins" "twins" (defArgs s_twins) (defBody s_twins) (defScope s_twins) .none kV_twins dc_twins pm_twins an_twins cd_twins ct_twins), sl_twins⟩)
    (c_twins : PySem.W.codeIn K cd_twins "twins" = true)
    (k_twins : PySem.W.keepIn K (.ref f_twins) = true)
    (a_is_tie : PySem.W.nsIn K mainGlobals "is_tie" = some (some (.ref f_is_tie)))
    (l_is_tie : K.lookup f_is_tie = some ⟨oc_is_tie, od_is_tie, .func (PySem.W.fnOf "is_tie" "is_tie" (defArgs s_is_tie) (defBody s_is_tie) (defScope s_is_tie) .none kV_is_tie dc_is_tie pm_is_tie an_is_tie cd_is_tie ct_is_tie), sl_is_tie⟩)
    (c_is_tie : PySem.W.codeIn K cd_is_tie "is_tie" = true)
    (k_is_tie : PySem.W.keepIn K (.ref f_is_tie) = true)
    (a_wrong_tie : PySem.W.nsIn K mainGlobals "wrong_tie" = some (some (.ref f_wrong_tie)))
    (l_wrong_tie : K.lookup f_wrong_tie = some ⟨oc_wrong_tie, od_wrong_tie, .func (PySem.W.fnOf "wrong_tie" "wrong_tie" (defArgs s_wrong_tie) (defBody s_wrong_tie) (defScope s_wrong_tie) .none kV_wrong_tie dc_wrong_tie pm_wrong_tie an_wrong_tie cd_wrong_tie ct_wrong_tie), sl_wrong_tie⟩)
    (c_wrong_tie : PySem.W.codeIn K cd_wrong_tie "wrong_tie" = true)
    (k_wrong_tie : PySem.W.keepIn K (.ref f_wrong_tie) = true)
    (a_tie_of : PySem.W.nsIn K mainGlobals "tie_of" = some (some (.ref f_tie_of)))
    (l_tie_of : K.lookup f_tie_of = some ⟨oc_tie_of, od_tie_of, .func (PySem.W.fnOf "tie_of" "tie_of" (defArgs s_tie_of) (defBody s_tie_of) (defScope s_tie_of) .none kV_tie_of dc_tie_of pm_tie_of an_tie_of cd_tie_of ct_tie_of), sl_tie_of⟩)
    (c_tie_of : PySem.W.codeIn K cd_tie_of "tie_of" = true)
    (k_tie_of : PySem.W.keepIn K (.ref f_tie_of) = true)
    (a_web_of_any_size : PySem.W.nsIn K mainGlobals "web_of_any_size" = some (some (.ref f_web_of_any_size)))
    (l_web_of_any_size : K.lookup f_web_of_any_size = some ⟨oc_web_of_any_size, od_web_of_any_size, .func (PySem.W.fnOf "web_of_any_size" "web_of_any_size" (defArgs s_web_of_any_size) (defBody s_web_of_any_size) (defScope s_web_of_any_size) .none kV_web_of_any_size dc_web_of_any_size pm_web_of_any_size an_web_of_any_size cd_web_of_any_size ct_web_of_any_size), sl_web_of_any_size⟩)
    (c_web_of_any_size : PySem.W.codeIn K cd_web_of_any_size "web_of_any_size" = true)
    (k_web_of_any_size : PySem.W.keepIn K (.ref f_web_of_any_size) = true)
    (a_moved : PySem.W.nsIn K mainGlobals "moved" = some (some (.ref f_moved)))
    (l_moved : K.lookup f_moved = some ⟨oc_moved, od_moved, .func (PySem.W.fnOf "moved" "moved" (defArgs s_moved) (defBody s_moved) (defScope s_moved) .none kV_moved dc_moved pm_moved an_moved cd_moved ct_moved), sl_moved⟩)
    (c_moved : PySem.W.codeIn K cd_moved "moved" = true)
    (k_moved : PySem.W.keepIn K (.ref f_moved) = true)
    (a_numbers : PySem.W.nsIn K mainGlobals "numbers" = some (some (.ref f_numbers)))
    (l_numbers : K.lookup f_numbers = some ⟨oc_numbers, od_numbers, .func (PySem.W.fnOf "numbers" "numbers" (defArgs s_numbers) (defBody s_numbers) (defScope s_numbers) .none kV_numbers dc_numbers pm_numbers an_numbers cd_numbers ct_numbers), sl_numbers⟩)
    (c_numbers : PySem.W.codeIn K cd_numbers "numbers" = true)
    (k_numbers : PySem.W.keepIn K (.ref f_numbers) = true)
    (a_across : PySem.W.nsIn K mainGlobals "across" = some (some (.ref f_across)))
    (l_across : K.lookup f_across = some ⟨oc_across, od_across, .func (PySem.W.fnOf "across" "across" (defArgs s_across) (defBody s_across) (defScope s_across) .none kV_across dc_across pm_across an_across cd_across ct_across), sl_across⟩)
    (c_across : PySem.W.codeIn K cd_across "across" = true)
    (k_across : PySem.W.keepIn K (.ref f_across) = true)
    (a_beside : PySem.W.nsIn K mainGlobals "beside" = some (some (.ref f_beside)))
    (l_beside : K.lookup f_beside = some ⟨oc_beside, od_beside, .func (PySem.W.fnOf "beside" "beside" (defArgs s_beside) (defBody s_beside) (defScope s_beside) .none kV_beside dc_beside pm_beside an_beside cd_beside ct_beside), sl_beside⟩)
    (c_beside : PySem.W.codeIn K cd_beside "beside" = true)
    (k_beside : PySem.W.keepIn K (.ref f_beside) = true)
    (a_copies_of : PySem.W.nsIn K mainGlobals "copies_of" = some (some (.ref f_copies_of)))
    (l_copies_of : K.lookup f_copies_of = some ⟨oc_copies_of, od_copies_of, .func (PySem.W.fnOf "copies_of" "copies_of" (defArgs s_copies_of) (defBody s_copies_of) (defScope s_copies_of) .none kV_copies_of dc_copies_of pm_copies_of an_copies_of cd_copies_of ct_copies_of), sl_copies_of⟩)
    (c_copies_of : PySem.W.codeIn K cd_copies_of "copies_of" = true)
    (k_copies_of : PySem.W.keepIn K (.ref f_copies_of) = true)
    (a_copied : PySem.W.nsIn K mainGlobals "copied" = some (some (.ref f_copied)))
    (l_copied : K.lookup f_copied = some ⟨oc_copied, od_copied, .func (PySem.W.fnOf "copied" "copied" (defArgs s_copied) (defBody s_copied) (defScope s_copied) .none kV_copied dc_copied pm_copied an_copied cd_copied ct_copied), sl_copied⟩)
    (c_copied : PySem.W.codeIn K cd_copied "copied" = true)
    (k_copied : PySem.W.keepIn K (.ref f_copied) = true)
    (a__law_tape : PySem.W.nsIn K mainGlobals "_law_tape" = some (some (.ref f__law_tape)))
    (l__law_tape : K.lookup f__law_tape = some ⟨oc__law_tape, od__law_tape, .func (PySem.W.fnOf "_law_tape" "_law_tape" (defArgs s__law_tape) (defBody s__law_tape) (defScope s__law_tape) .none kV__law_tape dc__law_tape pm__law_tape an__law_tape cd__law_tape ct__law_tape), sl__law_tape⟩)
    (c__law_tape : PySem.W.codeIn K cd__law_tape "_law_tape" = true)
    (k__law_tape : PySem.W.keepIn K (.ref f__law_tape) = true)
    (a__law_pick : PySem.W.nsIn K mainGlobals "_law_pick" = some (some (.ref f__law_pick)))
    (l__law_pick : K.lookup f__law_pick = some ⟨oc__law_pick, od__law_pick, .func (PySem.W.fnOf "_law_pick" "_law_pick" (defArgs s__law_pick) (defBody s__law_pick) (defScope s__law_pick) .none kV__law_pick dc__law_pick pm__law_pick an__law_pick cd__law_pick ct__law_pick), sl__law_pick⟩)
    (c__law_pick : PySem.W.codeIn K cd__law_pick "_law_pick" = true)
    (k__law_pick : PySem.W.keepIn K (.ref f__law_pick) = true)
    (a__law_is_integer : PySem.W.nsIn K mainGlobals "_law_is_integer" = some (some (.ref f__law_is_integer)))
    (l__law_is_integer : K.lookup f__law_is_integer = some ⟨oc__law_is_integer, od__law_is_integer, .func (PySem.W.fnOf "_law_is_integer" "_law_is_integer" (defArgs s__law_is_integer) (defBody s__law_is_integer) (defScope s__law_is_integer) .none kV__law_is_integer dc__law_is_integer pm__law_is_integer an__law_is_integer cd__law_is_integer ct__law_is_integer), sl__law_is_integer⟩)
    (c__law_is_integer : PySem.W.codeIn K cd__law_is_integer "_law_is_integer" = true)
    (k__law_is_integer : PySem.W.keepIn K (.ref f__law_is_integer) = true)
    (a__law_near : PySem.W.nsIn K mainGlobals "_law_near" = some (some (.ref f__law_near)))
    (l__law_near : K.lookup f__law_near = some ⟨oc__law_near, od__law_near, .func (PySem.W.fnOf "_law_near" "_law_near" (defArgs s__law_near) (defBody s__law_near) (defScope s__law_near) .none kV__law_near dc__law_near pm__law_near an__law_near cd__law_near ct__law_near), sl__law_near⟩)
    (c__law_near : PySem.W.codeIn K cd__law_near "_law_near" = true)
    (k__law_near : PySem.W.keepIn K (.ref f__law_near) = true)
    (a__law_same : PySem.W.nsIn K mainGlobals "_law_same" = some (some (.ref f__law_same)))
    (l__law_same : K.lookup f__law_same = some ⟨oc__law_same, od__law_same, .func (PySem.W.fnOf "_law_same" "_law_same" (defArgs s__law_same) (defBody s__law_same) (defScope s__law_same) .none kV__law_same dc__law_same pm__law_same an__law_same cd__law_same ct__law_same), sl__law_same⟩)
    (c__law_same : PySem.W.codeIn K cd__law_same "_law_same" = true)
    (k__law_same : PySem.W.keepIn K (.ref f__law_same) = true)
    (a__law_mixed : PySem.W.nsIn K mainGlobals "_law_mixed" = some (some (.ref f__law_mixed)))
    (l__law_mixed : K.lookup f__law_mixed = some ⟨oc__law_mixed, od__law_mixed, .func (PySem.W.fnOf "_law_mixed" "_law_mixed" (defArgs s__law_mixed) (defBody s__law_mixed) (defScope s__law_mixed) .none kV__law_mixed dc__law_mixed pm__law_mixed an__law_mixed cd__law_mixed ct__law_mixed), sl__law_mixed⟩)
    (c__law_mixed : PySem.W.codeIn K cd__law_mixed "_law_mixed" = true)
    (k__law_mixed : PySem.W.keepIn K (.ref f__law_mixed) = true)
    (a__law_web : PySem.W.nsIn K mainGlobals "_law_web" = some (some (.ref f__law_web)))
    (l__law_web : K.lookup f__law_web = some ⟨oc__law_web, od__law_web, .func (PySem.W.fnOf "_law_web" "_law_web" (defArgs s__law_web) (defBody s__law_web) (defScope s__law_web) .none kV__law_web dc__law_web pm__law_web an__law_web cd__law_web ct__law_web), sl__law_web⟩)
    (c__law_web : PySem.W.codeIn K cd__law_web "_law_web" = true)
    (k__law_web : PySem.W.keepIn K (.ref f__law_web) = true)
    (a__law_pieces : PySem.W.nsIn K mainGlobals "_law_pieces" = some (some (.ref f__law_pieces)))
    (l__law_pieces : K.lookup f__law_pieces = some ⟨oc__law_pieces, od__law_pieces, .func (PySem.W.fnOf "_law_pieces" "_law_pieces" (defArgs s__law_pieces) (defBody s__law_pieces) (defScope s__law_pieces) .none kV__law_pieces dc__law_pieces pm__law_pieces an__law_pieces cd__law_pieces ct__law_pieces), sl__law_pieces⟩)
    (c__law_pieces : PySem.W.codeIn K cd__law_pieces "_law_pieces" = true)
    (k__law_pieces : PySem.W.keepIn K (.ref f__law_pieces) = true)
    (a__law_twins : PySem.W.nsIn K mainGlobals "_law_twins" = some (some (.ref f__law_twins)))
    (l__law_twins : K.lookup f__law_twins = some ⟨oc__law_twins, od__law_twins, .func (PySem.W.fnOf "_law_twins" "_law_twins" (defArgs s__law_twins) (defBody s__law_twins) (defScope s__law_twins) .none kV__law_twins dc__law_twins pm__law_twins an__law_twins cd__law_twins ct__law_twins), sl__law_twins⟩)
    (c__law_twins : PySem.W.codeIn K cd__law_twins "_law_twins" = true)
    (k__law_twins : PySem.W.keepIn K (.ref f__law_twins) = true)
    (a_law : PySem.W.nsIn K mainGlobals "law" = some (some (.ref f_law)))
    (l_law : K.lookup f_law = some ⟨oc_law, od_law, .func (PySem.W.fnOf "law" "law" (defArgs s_law) (defBody s_law) (defScope s_law) .none kV_law dc_law pm_law an_law cd_law ct_law), sl_law⟩)
    (c_law : PySem.W.codeIn K cd_law "law" = true)
    (k_law : PySem.W.keepIn K (.ref f_law) = true)
    (a_Web_init : PySem.W.findIn K (.ref C_Web) "__init__" = some (some (.ref f_Web_init)))
    (i_Web_init : PySem.W.isFn K (.ref f_Web_init) = true)
    (l_Web_init : K.lookup f_Web_init = some ⟨oc_Web_init, od_Web_init, .func (PySem.W.fnOf "__init__" "Web.__init__" (defArgs s_Web_init) (defBody s_Web_init) (defScope s_Web_init) .none kV_Web_init dc_Web_init pm_Web_init an_Web_init cd_Web_init ct_Web_init), sl_Web_init⟩)
    (c_Web_init : PySem.W.codeIn K cd_Web_init "Web.__init__" = true)
    (k_Web_init : PySem.W.keepIn K (.ref f_Web_init) = true)
    (z_isinstance : PySem.W.nsIn K mainGlobals "isinstance" = some none)
    (z_len : PySem.W.nsIn K mainGlobals "len" = some none)
    (z_sorted : PySem.W.nsIn K mainGlobals "sorted" = some none)
    (z_min : PySem.W.nsIn K mainGlobals "min" = some none)
    (z_max : PySem.W.nsIn K mainGlobals "max" = some none)
    (z_all : PySem.W.nsIn K mainGlobals "all" = some none)
    (z_zip : PySem.W.nsIn K mainGlobals "zip" = some none)
    (z_range : PySem.W.nsIn K mainGlobals "range" = some none)
    (z_enumerate : PySem.W.nsIn K mainGlobals "enumerate" = some none)
    (z_int : PySem.W.nsIn K mainGlobals "int" = some none)
    (z_bool : PySem.W.nsIn K mainGlobals "bool" = some none)
    (z_str : PySem.W.nsIn K mainGlobals "str" = some none)
    (z_list : PySem.W.nsIn K mainGlobals "list" = some none)
    (z_tuple : PySem.W.nsIn K mainGlobals "tuple" = some none) :
    ∃ fd : FuncData, (∀ (s : Shared) (v : Value), BindsTo s fd ⟨[v], []⟩ [("script", v)]) ∧ ∀ base : Heap, K.In base → base.Ns mainGlobals mg → FnOk l.prog w K mg base CX0 9 fa fd ["script"] (sp_law (K := K)) := by
  have e := hfa.symm.trans (PySem.W.mg_of X G a_law)
  cases e
  have B : Bl mg := ⟨PySem.W.mg_none_of X G z_isinstance, PySem.W.mg_none_of X G z_len, PySem.W.mg_none_of X G z_sorted, PySem.W.mg_none_of X G z_min, PySem.W.mg_none_of X G z_max, PySem.W.mg_none_of X G z_all, PySem.W.mg_none_of X G z_zip, PySem.W.mg_none_of X G z_range, PySem.W.mg_none_of X G z_enumerate, PySem.W.mg_none_of X G z_int, PySem.W.mg_none_of X G z_bool, PySem.W.mg_none_of X G z_str, PySem.W.mg_none_of X G z_list, PySem.W.mg_none_of X G z_tuple⟩
  have T : Txt K mg C_Web := ⟨⟨pg, hd, po, sa⟩, nS, nT, PySem.W.mg_of X G a_Web, ⟨_, PySem.W.mg_of X G a_MP⟩, xc, xg, xt, xm⟩
  have M : ∃ t, mg "MOST_COPIES" = some (.int 6 t) := ⟨_, PySem.W.mg_of X G a_MC⟩
  have F_is_integer := fun_mk (st := s_is_integer) l_is_integer c_is_integer k_is_integer
  have m_is_integer := PySem.W.mg_of X G a_is_integer
  have F_is_number := fun_mk (st := s_is_number) l_is_number c_is_number k_is_number
  have m_is_number := PySem.W.mg_of X G a_is_number
  have F_check_number := fun_mk (st := s_check_number) l_check_number c_check_number k_check_number
  have m_check_number := PySem.W.mg_of X G a_check_number
  have F_lot_of := fun_mk (st := s_lot_of) l_lot_of c_lot_of k_lot_of
  have m_lot_of := PySem.W.mg_of X G a_lot_of
  have F_all_bits := fun_mk (st := s_all_bits) l_all_bits c_all_bits k_all_bits
  have m_all_bits := PySem.W.mg_of X G a_all_bits
  have F_tied_bits := fun_mk (st := s_tied_bits) l_tied_bits c_tied_bits k_tied_bits
  have m_tied_bits := PySem.W.mg_of X G a_tied_bits
  have F_tied_to_any := fun_mk (st := s_tied_to_any) l_tied_to_any c_tied_to_any k_tied_to_any
  have m_tied_to_any := PySem.W.mg_of X G a_tied_to_any
  have F_hanging := fun_mk (st := s_hanging) l_hanging c_hanging k_hanging
  have m_hanging := PySem.W.mg_of X G a_hanging
  have F_pieces_of := fun_mk (st := s_pieces_of) l_pieces_of c_pieces_of k_pieces_of
  have m_pieces_of := PySem.W.mg_of X G a_pieces_of
  have F_pieces := fun_mk (st := s_pieces) l_pieces c_pieces k_pieces
  have m_pieces := PySem.W.mg_of X G a_pieces
  have F_alike := fun_mk (st := s_alike) l_alike c_alike k_alike
  have m_alike := PySem.W.mg_of X G a_alike
  have F_twins := fun_mk (st := s_twins) l_twins c_twins k_twins
  have m_twins := PySem.W.mg_of X G a_twins
  have F_is_tie := fun_mk (st := s_is_tie) l_is_tie c_is_tie k_is_tie
  have m_is_tie := PySem.W.mg_of X G a_is_tie
  have F_wrong_tie := fun_mk (st := s_wrong_tie) l_wrong_tie c_wrong_tie k_wrong_tie
  have m_wrong_tie := PySem.W.mg_of X G a_wrong_tie
  have F_tie_of := fun_mk (st := s_tie_of) l_tie_of c_tie_of k_tie_of
  have m_tie_of := PySem.W.mg_of X G a_tie_of
  have F_web_of_any_size := fun_mk (st := s_web_of_any_size) l_web_of_any_size c_web_of_any_size k_web_of_any_size
  have m_web_of_any_size := PySem.W.mg_of X G a_web_of_any_size
  have F_moved := fun_mk (st := s_moved) l_moved c_moved k_moved
  have m_moved := PySem.W.mg_of X G a_moved
  have F_numbers := fun_mk (st := s_numbers) l_numbers c_numbers k_numbers
  have m_numbers := PySem.W.mg_of X G a_numbers
  have F_across := fun_mk (st := s_across) l_across c_across k_across
  have m_across := PySem.W.mg_of X G a_across
  have F_beside := fun_mk (st := s_beside) l_beside c_beside k_beside
  have m_beside := PySem.W.mg_of X G a_beside
  have F_copies_of := fun_mk (st := s_copies_of) l_copies_of c_copies_of k_copies_of
  have m_copies_of := PySem.W.mg_of X G a_copies_of
  have F_copied := fun_mk (st := s_copied) l_copied c_copied k_copied
  have m_copied := PySem.W.mg_of X G a_copied
  have F__law_tape := fun_mk (st := s__law_tape) l__law_tape c__law_tape k__law_tape
  have m__law_tape := PySem.W.mg_of X G a__law_tape
  have F__law_pick := fun_mk (st := s__law_pick) l__law_pick c__law_pick k__law_pick
  have m__law_pick := PySem.W.mg_of X G a__law_pick
  have F__law_is_integer := fun_mk (st := s__law_is_integer) l__law_is_integer c__law_is_integer k__law_is_integer
  have m__law_is_integer := PySem.W.mg_of X G a__law_is_integer
  have F__law_near := fun_mk (st := s__law_near) l__law_near c__law_near k__law_near
  have m__law_near := PySem.W.mg_of X G a__law_near
  have F__law_same := fun_mk (st := s__law_same) l__law_same c__law_same k__law_same
  have m__law_same := PySem.W.mg_of X G a__law_same
  have F__law_mixed := fun_mk (st := s__law_mixed) l__law_mixed c__law_mixed k__law_mixed
  have m__law_mixed := PySem.W.mg_of X G a__law_mixed
  have F__law_web := fun_mk (st := s__law_web) l__law_web c__law_web k__law_web
  have m__law_web := PySem.W.mg_of X G a__law_web
  have F__law_pieces := fun_mk (st := s__law_pieces) l__law_pieces c__law_pieces k__law_pieces
  have m__law_pieces := PySem.W.mg_of X G a__law_pieces
  have F__law_twins := fun_mk (st := s__law_twins) l__law_twins c__law_twins k__law_twins
  have m__law_twins := PySem.W.mg_of X G a__law_twins
  have F_law := fun_mk (st := s_law) l_law c_law k_law
  have m_law := PySem.W.mg_of X G a_law
  have F_Web_init := fun_mk (st := s_Web_init) l_Web_init c_Web_init k_Web_init
  refine ⟨PySem.W.fnOf "law" "law" (defArgs s_law) (defBody s_law) (defScope s_law) .none kV_law dc_law pm_law an_law cd_law ct_law, fun s v => .of_eq rfl, fun base _ _ => ?_⟩
  have c1 := ok_is_integer (P := l.prog) (w := w) (base := base) F_is_integer m_is_integer B
  have c2 := ok_is_number F_is_number m_is_number B c1
  have c5 := ok_is_tie F_is_tie m_is_tie B c2
  have c6 := ok_wrong_tie F_wrong_tie m_wrong_tie B c5
  have wI := ok_Web_init F_Web_init B T c2 c6
  have bI := F_Web_init.binds (ps := ["self", "size", "ties"]) fun _ _ _ _ _ _ us hl => match us, hl with | [_, _, _], _ => rfl
  have mW : Mkc l.prog w K mg base 5 C_Web "Web" ["self", "size", "ties"] (sp_Web_init C_Web) := ⟨f_Web_init, _, ⟨mk, a_Web_init, i_Web_init, kc⟩, wI, T.mg_Web, bI⟩
  have d0 := ok_tie_of (P := l.prog) (w := w) (base := base) F_tie_of m_tie_of B
  have d1 := ok_web_of_any_size F_web_of_any_size m_web_of_any_size B T mW d0
  have c3 := ok_check_number F_check_number m_check_number B c2
  have b4 := ok_lot_of (P := l.prog) (w := w) (base := base) F_lot_of m_lot_of B
  have b5 := ok_tied_bits (P := l.prog) (w := w) (base := base) F_tied_bits m_tied_bits B T
  have b6 := ok_all_bits (P := l.prog) (w := w) (base := base) F_all_bits m_all_bits B T
  have p1 := ok_tied_to_any F_tied_to_any m_tied_to_any B b4
  have p2 := ok_hanging F_hanging m_hanging B p1
  have p3 := ok_pieces_of F_pieces_of m_pieces_of B p2
  have p4 := ok_pieces F_pieces m_pieces B p3 b5 b6 b4
  have p5 := ok_alike F_alike m_alike B b5
  have p6 := ok_twins F_twins m_twins B p5
  have q1 := ok_numbers (P := l.prog) (w := w) (base := base) F_numbers m_numbers B
  have q2 := ok_moved (P := l.prog) (w := w) (base := base) F_moved m_moved B T
  have q3 := ok_across (P := l.prog) (w := w) (base := base) F_across m_across B
  have q4 := ok_beside F_beside m_beside B T q2 d1
  have q5 := ok_copies_of F_copies_of m_copies_of B q1
  have q6 := ok_copied F_copied m_copied B T M c3 q3 q5 d1
  have t1 := ok_law_tape (P := l.prog) (w := w) (base := base) F__law_tape m__law_tape B
  have t2 := ok_law_pick (P := l.prog) (w := w) (base := base) F__law_pick m__law_pick B
  have t3 := ok_law_is_integer (P := l.prog) (w := w) (base := base) F__law_is_integer m__law_is_integer B
  have t4 : Cal l.prog w K mg base 5 "_law_same" ["told", "due"] (spSame 3) := ⟨_, _, ok_law_same F__law_same m__law_same B t3 3, m__law_same, F__law_same.kp, F__law_same.binds (ps := ["told", "due"]) fun _ _ _ _ _ _ us hl => match us, hl with | [_, _], _ => rfl⟩
  have t5 := ok_law_mixed F__law_mixed m__law_mixed B t2
  have t6 := ok_law_web F__law_web m__law_web B t2 t5
  have e1 := ok_law_near (P := l.prog) (w := w) (base := base) F__law_near m__law_near B
  have e2 := ok_law_twins F__law_twins m__law_twins B e1
  have e3 := ok_law_pieces (P := l.prog) (w := w) (base := base) F__law_pieces m__law_pieces B
  exact ok_law F_law B T mW p4 p6 q4 q6 t1 t2 t4 t6 e3 e2
theorem walk {l : PySem.W.OpenLaw} {q : Program} {loose : List Str} {XP : (Str → Option Value) → Heap → Prop} {YP : World → Heap → Prop} {d : DefRec} {K : Params → PySem.W.Frag} (hn : l.most = some 63) (hdf : d.params.defaults = [])
    (hY : ∀ (w : World) (h : Heap), YP w h → (K w.params).In h)
    (F : ∀ (w : World) (mg : Str → Option Value) (fa : Addr) (h : Heap), (K w.params).In h → h.Ns mainGlobals mg → mg d.name = some (.ref fa) →
      ∃ fd : FuncData, (∀ (s : Shared) (u : Value), BindsTo s fd ⟨[u], []⟩ [("script", u)]) ∧ ∀ base : Heap, (K w.params).In base → base.Ns mainGlobals mg → FnOk l.prog w (K w.params) mg base CX0 9 fa fd ["script"] (sp_law (K w.params))) :
    PySem.W.WalkO q loose XP YP l.row.toRowW d [] (fun f vs => PySem.call f vs) :=
  L2.walk_of (n := 63) (k := 9) (x := "script") (CX := fun _ => CX0) (sp := fun w => sp_law (K w.params)) hn (by decide) hdf ⟨rfl, by decide, by decide⟩ hY F (fun _ _ a ns hl _ hS => ⟨a, ns, rfl, hS, fun _ => rfl⟩) fun _ _ _ _ _ z => z
end Bs

open PySem PySem.W PyProof.Rows in
set_option maxRecDepth 100000 in
set_option maxHeartbeats 0 in
theorem PySem.Challenge.cw_silencers_k07_whole_pieces_and_twins_holds : PySem.Challenge.rw_silencers_k07_whole_pieces_and_twins.Holds := by
  w_on; o_law; k_head; (case hw => w_witness2)
  k_fill
  refine Bs.walk (l := PySem.Challenge.rw_silencers_k07_whole_pieces_and_twins) rfl rfl (fun w h Y => PySem.W.kIn_of Y) ?F
  case F =>
    intro w mg fa h KX G hmg
    refine' Bs.all_mk KX G hmg ?a_Web ?a_MP ?pg ?hd ?po ?sa ?mk ?kc ?nS ?nT ?xc ?xg ?xt ?xm ?a_MC ?a_is_integer ?l_is_integer ?c_is_integer ?k_is_integer ?a_is_number ?l_is_number ?c_is_number ?k_is_number ?a_check_number ?l_check_number ?c_check_number ?k_check_number ?a_lot_of ?l_lot_of ?c_lot_of ?k_lot_of ?a_all_bits ?l_all_bits ?c_all_bits ?k_all_bits ?a_tied_bits ?l_tied_bits ?c_tied_bits ?k_tied_bits ?a_tied_to_any ?l_tied_to_any ?c_tied_to_any ?k_tied_to_any ?a_hanging ?l_hanging ?c_hanging ?k_hanging ?a_pieces_of ?l_pieces_of ?c_pieces_of ?k_pieces_of ?a_pieces ?l_pieces ?c_pieces ?k_pieces ?a_alike ?l_alike ?c_alike ?k_alike ?a_twins ?l_twins ?c_twins ?k_twins ?a_is_tie ?l_is_tie ?c_is_tie ?k_is_tie ?a_wrong_tie ?l_wrong_tie ?c_wrong_tie ?k_wrong_tie ?a_tie_of ?l_tie_of ?c_tie_of ?k_tie_of ?a_web_of_any_size ?l_web_of_any_size ?c_web_of_any_size ?k_web_of_any_size ?a_moved ?l_moved ?c_moved ?k_moved ?a_numbers ?l_numbers ?c_numbers ?k_numbers ?a_across ?l_across ?c_across ?k_across ?a_beside ?l_beside ?c_beside ?k_beside ?a_copies_of ?l_copies_of ?c_copies_of ?k_copies_of ?a_copied ?l_copied ?c_copied ?k_copied ?a__law_tape ?l__law_tape ?c__law_tape ?k__law_tape ?a__law_pick ?l__law_pick ?c__law_pick ?k__law_pick ?a__law_is_integer ?l__law_is_integer ?c__law_is_integer ?k__law_is_integer ?a__law_near ?l__law_near ?c__law_near ?k__law_near ?a__law_same ?l__law_same ?c__law_same ?k__law_same ?a__law_mixed ?l__law_mixed ?c__law_mixed ?k__law_mixed ?a__law_web ?l__law_web ?c__law_web ?k__law_web ?a__law_pieces ?l__law_pieces ?c__law_pieces ?k__law_pieces ?a__law_twins ?l__law_twins ?c__law_twins ?k__law_twins ?a_law ?l_law ?c_law ?k_law ?a_Web_init ?i_Web_init ?l_Web_init ?c_Web_init ?k_Web_init ?z_isinstance ?z_len ?z_sorted ?z_min ?z_max ?z_all ?z_zip ?z_range ?z_enumerate ?z_int ?z_bool ?z_str ?z_list ?z_tuple
    (case a_Web => k_is)
    (case a_MP => k_is)
    (case pg => k_is)
    (case hd => k_is)
    (case po => k_is)
    (case sa => k_is)
    (case mk => k_is)
    (case kc => k_is)
    (case nS => k_is)
    (case nT => k_is)
    (case xc => k_is)
    (case xg => k_is)
    (case xt => k_is)
    (case xm => k_is)
    (case a_MC => k_is)
    (case a_is_integer => k_is)
    (case l_is_integer => k_is)
    (case c_is_integer => k_is)
    (case k_is_integer => k_is)
    (case a_is_number => k_is)
    (case l_is_number => k_is)
    (case c_is_number => k_is)
    (case k_is_number => k_is)
    (case a_check_number => k_is)
    (case l_check_number => k_is)
    (case c_check_number => k_is)
    (case k_check_number => k_is)
    (case a_lot_of => k_is)
    (case l_lot_of => k_is)
    (case c_lot_of => k_is)
    (case k_lot_of => k_is)
    (case a_all_bits => k_is)
    (case l_all_bits => k_is)
    (case c_all_bits => k_is)
    (case k_all_bits => k_is)
    (case a_tied_bits => k_is)
    (case l_tied_bits => k_is)
    (case c_tied_bits => k_is)
    (case k_tied_bits => k_is)
    (case a_tied_to_any => k_is)
    (case l_tied_to_any => k_is)
    (case c_tied_to_any => k_is)
    (case k_tied_to_any => k_is)
    (case a_hanging => k_is)
    (case l_hanging => k_is)
    (case c_hanging => k_is)
    (case k_hanging => k_is)
    (case a_pieces_of => k_is)
    (case l_pieces_of => k_is)
    (case c_pieces_of => k_is)
    (case k_pieces_of => k_is)
    (case a_pieces => k_is)
    (case l_pieces => k_is)
    (case c_pieces => k_is)
    (case k_pieces => k_is)
    (case a_alike => k_is)
    (case l_alike => k_is)
    (case c_alike => k_is)
    (case k_alike => k_is)
    (case a_twins => k_is)
    (case l_twins => k_is)
    (case c_twins => k_is)
    (case k_twins => k_is)
    (case a_is_tie => k_is)
    (case l_is_tie => k_is)
    (case c_is_tie => k_is)
    (case k_is_tie => k_is)
    (case a_wrong_tie => k_is)
    (case l_wrong_tie => k_is)
    (case c_wrong_tie => k_is)
    (case k_wrong_tie => k_is)
    (case a_tie_of => k_is)
    (case l_tie_of => k_is)
    (case c_tie_of => k_is)
    (case k_tie_of => k_is)
    (case a_web_of_any_size => k_is)
    (case l_web_of_any_size => k_is)
    (case c_web_of_any_size => k_is)
    (case k_web_of_any_size => k_is)
    (case a_moved => k_is)
    (case l_moved => k_is)
    (case c_moved => k_is)
    (case k_moved => k_is)
    (case a_numbers => k_is)
    (case l_numbers => k_is)
    (case c_numbers => k_is)
    (case k_numbers => k_is)
    (case a_across => k_is)
    (case l_across => k_is)
    (case c_across => k_is)
    (case k_across => k_is)
    (case a_beside => k_is)
    (case l_beside => k_is)
    (case c_beside => k_is)
    (case k_beside => k_is)
    (case a_copies_of => k_is)
    (case l_copies_of => k_is)
    (case c_copies_of => k_is)
    (case k_copies_of => k_is)
    (case a_copied => k_is)
    (case l_copied => k_is)
    (case c_copied => k_is)
    (case k_copied => k_is)
    (case a__law_tape => k_is)
    (case l__law_tape => k_is)
    (case c__law_tape => k_is)
    (case k__law_tape => k_is)
    (case a__law_pick => k_is)
    (case l__law_pick => k_is)
    (case c__law_pick => k_is)
    (case k__law_pick => k_is)
    (case a__law_is_integer => k_is)
    (case l__law_is_integer => k_is)
    (case c__law_is_integer => k_is)
    (case k__law_is_integer => k_is)
    (case a__law_near => k_is)
    (case l__law_near => k_is)
    (case c__law_near => k_is)
    (case k__law_near => k_is)
    (case a__law_same => k_is)
    (case l__law_same => k_is)
    (case c__law_same => k_is)
    (case k__law_same => k_is)
    (case a__law_mixed => k_is)
    (case l__law_mixed => k_is)
    (case c__law_mixed => k_is)
    (case k__law_mixed => k_is)
    (case a__law_web => k_is)
    (case l__law_web => k_is)
    (case c__law_web => k_is)
    (case k__law_web => k_is)
    (case a__law_pieces => k_is)
    (case l__law_pieces => k_is)
    (case c__law_pieces => k_is)
    (case k__law_pieces => k_is)
    (case a__law_twins => k_is)
    (case l__law_twins => k_is)
    (case c__law_twins => k_is)
    (case k__law_twins => k_is)
    (case a_law => k_is)
    (case l_law => k_is)
    (case c_law => k_is)
    (case k_law => k_is)
    (case a_Web_init => k_is)
    (case i_Web_init => k_is)
    (case l_Web_init => k_is)
    (case c_Web_init => k_is)
    (case k_Web_init => k_is)
    (case z_isinstance => k_is)
    (case z_len => k_is)
    (case z_sorted => k_is)
    (case z_min => k_is)
    (case z_max => k_is)
    (case z_all => k_is)
    (case z_zip => k_is)
    (case z_range => k_is)
    (case z_enumerate => k_is)
    (case z_int => k_is)
    (case z_bool => k_is)
    (case z_str => k_is)
    (case z_list => k_is)
    (case z_tuple => k_is)

