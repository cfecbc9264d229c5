import PyProof.Rows.All
import Wide.All
import OpenK.AllK
import Wide.FinOn
import HandS.ForMost
import HandS.Walk
import HandS.Deep
import HandS.TupAny
import HandS.IsInst
import KE.GoesEnum
import KE.KRevSl
import HandS.Style
import HandS.OwnEq
import HandS.MakeKw
import HandS.Codes
import KE.KCallOwn
import PyProof.InstNe
import HandS.FStr
import HandS.MakeKwOnly
import HandS.TryOnly
import PySem.Challenge.RW_asifalone_k53_cuts_as_values
set_option Elab.async false
set_option linter.all false
set_option maxRecDepth 100000
set_option maxHeartbeats 4000000
/-! rules that the layer lacks: enumerate of a tuple, in over a tuple of data, t[::-1] of a tuple -/
namespace PySem
open Sem (wp)
set_option maxHeartbeats 4000000 in
theorem as_meets_enum {v : Value} {o : Obj} {H : Heap → Prop} (B : Begins v o H) :
    Meets (Builtin.«enumerate.__new__» ⟨[.type "enumerate", v], []⟩) (fun _ R s => H s.heap ∧
      R (.ok (.ret (.ref (s.heap.push o).objs.size))) { s with heap := (s.heap.push o).push { cls := .type "enumerate", data := .fields #[.none, .bool false, .ref s.heap.objs.size, rawInt 0, .none, .none] } }) :=
  .of_wp fun prog w A R s h => by
    obtain ⟨hpk, g, d, tkk, osk⟩ := s; obtain ⟨h1, h⟩ := h
    have hsub := sub_enumerate
    have q1k : ∀ {A' : Around} {E : Value → Shared → Prop} {Q : Value → Shared → Prop}, Q (.ref hpk.objs.size) ⟨hpk.push o, g, d, tkk, osk⟩ → wpAny (model prog w) A' (pyIter v) Q E ⟨hpk, g, d, tkk, osk⟩ :=
      fun q => B.iter prog w _ _ ⟨hpk, g, d, tkk, osk⟩ _ h1 q
    wp_walk using q1k
    refine wpAny_stack_any fun st => wpAny_pure ?_
    split
    · rename_i c _ _ _ _ _
      cases (c == Value.type "enumerate")
      · wp_walk using q1k
        exact ⟨_, rfl, h⟩
      · wp_walk using q1k
        exact ⟨_, rfl, h⟩
    · wp_walk using q1k
      exact ⟨_, rfl, h⟩
section
variable {prog : Program} {w : World} {A : Around} {E : Value → Shared → Prop} {s : Shared}
theorem as_call_enum {v : Value} {o : Obj} {H : Heap → Prop} {Q : Value → Shared → Prop} (B : Begins v o H) (h1 : H s.heap)
    (h : ∀ h', IsEnum h' (s.heap.objs.size + 1) s.heap.objs.size 0 .none → h'.get? s.heap.objs.size = some o → h'.objs.size = s.heap.objs.size + 2 →
      (∀ b o, s.heap.get? b = some o → h'.get? b = some o) → Q (.ref (s.heap.objs.size + 1)) { s with heap := h' }) :
    wpAny (model prog w) A (call (.type "enumerate") [v]) Q E s := by
  refine callType_new F.called_enumerate (by decide) (F.typeCall_enumerate_1 _) (F.newCall_enumerate_1 _) (fun obj => F.args_object_init_2 obj _) F.entry_enumerate_new
    (as_meets_enum B) ⟨h1, ?_⟩
  have hzk : (s.heap.push o).objs.size = s.heap.objs.size + 1 := Heap.size_push ..
  show _ ∧ _
  rw [hzk]
  have hek : IsEnum ((s.heap.push o).push { cls := .type "enumerate", data := .fields #[.none, .bool false, .ref s.heap.objs.size, rawInt 0, .none, .none] }) (s.heap.objs.size + 1) s.heap.objs.size 0 .none := by
    have := Heap.get?_push_size (s.heap.push o) (o := { cls := .type "enumerate", data := .fields #[.none, .bool false, .ref s.heap.objs.size, rawInt 0, .none, .none] }) rfl
    rw [hzk] at this; exact this
  refine ⟨⟨_, hek, rfl⟩, h _ hek (Heap.get?_push_of_some _ (Heap.get?_push_size _ B.free)) (by rw [Heap.size_push, hzk]) fun b o x => Heap.get?_push_of_some _ (Heap.get?_push_of_some _ x)⟩
end
end PySem
namespace L2
open PySem PySem.Spec PyProof.Rows
/-! ### enumerate(tuple) -/
def ItEt (K : PySem.W.Frag) (a : Addr) : It :=
  ⟨fun i H => ∃ (xs : List V) (x : V), SqT K H a xs ∧ xs[i]? = some x, fun i H v H' => ∃ T x, v = .ref T ∧ H T = none ∧ H' = upd H T (.tup [.int (i : Nat), x]) ∧ ∀ xs, SqT K H a xs → xs[i]? = some x, fun i H => ∃ xs : List V, SqT K H a xs ∧ xs.length = i⟩
theorem turn_enumT {P : Program} {w : World} {K : PySem.W.Frag} {elts : List Expr} {kk : Nat} {tpos : Pos} (a e it : Addr) :
    Turn P w K (.Tuple elts kk tpos) (ItEt K a) [e, it] e (fun i h => (∃ oldk, IsEnum h e it ((i : Nat) : Int) oldk) ∧ h.IsTupleIter it a i ∧ e ≠ it ∧ a ≠ it ∧ a ≠ e) where
  mem := by simp
  obj := fun i h st b hbk => by
    obtain ⟨⟨oldk, hek⟩, ⟨o, ho, hc, hd⟩, _⟩ := st
    have ek' : b = e ∨ b = it := by simpa using hbk
    rcases ek' with z | z
    · rw [z]; exact ⟨_, hek, fun v q => nomatch q⟩
    · rw [z]; exact ⟨o, ho, fun v q => by rw [hd] at q; cases q⟩
  keep := fun i h h' st k => let ⟨⟨oldk, hek⟩, hik, hnek⟩ := st; ⟨⟨oldk, k e (by simp) _ hek⟩, hik.at fun o q => k it (by simp) o q, hnek⟩
  item := by
    intro X hPk hwk hKk hc i pinsk s σ H E Ik hfk st hgk
    subst hPk hwk hKk
    obtain ⟨⟨oldk, hek⟩, hitk, hnek, hai, hae⟩ := st
    obtain ⟨xs, x, hqk, hxk⟩ := hgk
    obtain ⟨itsk, rvk, p, hzk⟩ := Ik.tuple hqk
    obtain ⟨u, huk, ruk⟩ := rvk.get hxk
    have helk : e < s.heap.objs.size := Heap.lt_size hek
    have hilk : it < s.heap.objs.size := by obtain ⟨_, q, _⟩ := hitk; exact Heap.lt_size q
    have p' : s.heap.IsTuple a itsk.toArray := p
    have hlt : i < itsk.toArray.size := by
      have := (List.getElem?_eq_some_iff.mp huk).1
      simpa using this
    refine wpAny_pyNext_enum_itemD (Draws.tuple (A := X.A.in1) (Ik.ok.hd hc) it a hai itsk.toArray) hek ⟨hitk, p'⟩ hlt hnek (by simp only [List.mem_cons, List.mem_singleton, List.not_mem_nil, or_false, not_or]; exact ⟨hnek, fun z => hae z.symm⟩) fun x' h' tkk hx' ho st' hTk hszk hkk => ?_
    have exk : x' = u := by
      have q1k : itsk[i]? = some x' := by simpa using hx'
      exact Option.some.inj (q1k.symm.trans huk)
    subst exk
    obtain ⟨hit', _⟩ := st'
    refine ⟨_, rfl, wpAny_letOwnedTupleGo_enum (s := { s with heap := h', toks := tkk + 1 }) ho fun h'' he' sbk => ?_⟩
    have hT2 : h''.get? s.heap.objs.size = some { cls := .type "tuple", data := .seq #[.int i tkk, x'] } := (sbk.2 _ (Nat.ne_of_gt helk)).trans hTk
    have newk : ObjOk X.prog X.w (upd H s.heap.objs.size (.tup [.int (i : Nat), x])) h'' s.heap.objs.size (.tup [.int (i : Nat), x]) :=
      ⟨by show 2 ≤ sizeLine; decide, [.int i tkk, x'], .cons ⟨_, rfl⟩ (.cons ruk .nil), ⟨_, hT2, rfl, _, rfl⟩⟩
    have I1k : Inv X pinsk σ (upd H s.heap.objs.size (.tup [.int (i : Nat), x])) { s with heap := h'', toks := tkk + 1 } :=
      Ik.turnedNew (ch := [e, it]) (fun b ob hbk q => (sbk.2 b (fun z => hbk (by simp [z]))).trans (hkk b ob (fun z => hbk (by simp [z])) (fun z => hbk (by simp [z])) q)) hfk (Nat.le_refl _) newk
    refine ⟨.ref s.heap.objs.size, _, I1k, rfl, ⟨_, x, rfl, Ik.hok.fresh (Nat.le_refl _), rfl, fun ys hy => by rw [Ik.tuple_inj hy hqk]; exact hxk⟩, ⟨⟨x', ?_⟩, hit'.at fun o q => (sbk.2 it (Ne.symm hnek)).trans q, hnek, hai, hae⟩, fun b hbk => ?_⟩
    · have e1 : ((i + 1 : Nat) : Int) = (i : Int) + 1 := by omega
      rw [e1]; exact he'
    · have hbk' : b < s.heap.objs.size := by
        have ek' : b = e ∨ b = it := by simpa using hbk
        rcases ek' with z | z
        · rw [z]; exact helk
        · rw [z]; exact hilk
      rw [upd_ne (Nat.ne_of_lt hbk')]
      exact (hfk b hbk).1
  done := by
    intro X hPk hwk hKk hc i pinsk s σ H E Ik hfk st hgk
    subst hPk hwk hKk
    obtain ⟨⟨oldk, hek⟩, hitk, hnek, hai, hae⟩ := st
    obtain ⟨xs, hqk, hxk⟩ := hgk
    obtain ⟨itsk, rvk, p, hzk⟩ := Ik.tuple hqk
    obtain ⟨f0k, f1k, f2k, f3k, f4k, f5k⟩ := hfk it (by simp)
    have hl := rvk.length
    have hit2 : s.heap.IsTupleIter it a i := hitk
    exact wpAny_pyNext_enum_endD (Draws.tuple (A := X.A.in1) (Ik.ok.hd hc) it a hai itsk.toArray) hek (show s.heap.IsTupleIter it a itsk.toArray.size ∧ s.heap.IsTuple a itsk.toArray from ⟨by
        have e0 : itsk.toArray.size = i := by rw [List.size_toArray]; omega
        rw [e0]; exact hitk, p⟩) fun h' eb => ⟨rfl, Ik.turned (t' := s.toks) (fun b o hbk q => eb b o hbk q) f0k f1k f3k f4k f5k⟩
  self := fun A i s Q E st h => let ⟨⟨_, hek⟩, _⟩ := st; wpAny_pyIter_enum hek h
def iEnumT (K : PySem.W.Frag) (ta : TA) : TI := fun σ H R => ta σ H fun vs H1k => ∃ a xs, vs = [.ref a] ∧ SqT K H1k a xs ∧ R (ItEt K a) H1k
theorem pi_enumT {X : Cx} {e : Expr} {ta : TA} {p pos tpos : Pos} {elts : List Expr} {kk : Nat} (hgk : Gl X "enumerate") (hm : X.mg "enumerate" = none) (ha : PA X [e] ta) (hsk : starEach [e] X.env = [(false, eval e X.env)] := by rfl) :
    PI X (.Tuple elts kk tpos) (.Call (.Name "enumerate" p) [e] [] pos) (iEnumT X.K ta) := by
  refine ⟨fun pinsk s σ H R Ik h => ?_⟩
  refine Call_ (ld_blt Ik hgk hm boot_enumerate (PyProof.Rows.callWith_type1 (thn (ha.run pos pinsk s σ H _ Ik h) fun us s1k ⟨vs, H1k, I1k, r1k, q1k⟩ => ?_) hsk rfl))
  obtain ⟨a, xs, exk, hqk, q⟩ := q1k
  subst exk
  cases r1k with
  | cons r rr =>
    cases rr
    cases r
    obtain ⟨itsk, rvk, p', hzk⟩ := I1k.tuple hqk
    have p2 : s1k.heap.IsTuple a itsk.toArray := p'
    have hal : a < s1k.heap.objs.size := by obtain ⟨o, ho, _⟩ := p2; exact Heap.lt_size ho
    refine as_call_enum (begins_tuple a itsk.toArray) p2 fun h' hek hitk hszk hkk => wpAny_pyIter_enum hek ?_
    have I2k : Inv X pinsk σ H1k { s1k with heap := h' } := I1k.kept (t' := s1k.toks) hkk
    refine ⟨s1k.heap.objs.size + 1, [s1k.heap.objs.size + 1, s1k.heap.objs.size], _, _, H1k, rfl, I2k, turn_enumT a (s1k.heap.objs.size + 1) s1k.heap.objs.size, ⟨⟨.none, hek⟩, ⟨_, hitk, rfl, rfl⟩, Nat.succ_ne_self _, Nat.ne_of_lt hal, Nat.ne_of_lt (Nat.lt_succ_of_lt hal)⟩, fun b hbk => ?_, q⟩
    have ek' : b = s1k.heap.objs.size + 1 ∨ b = s1k.heap.objs.size := by simpa using hbk
    have hlek : s1k.heap.objs.size ≤ b := by
      rcases ek' with z | z
      · rw [z]; exact Nat.le_add_right _ _
      · rw [z]; exact Nat.le_refl _
    exact I1k.fpOk hlek (I1k.hok.fresh hlek)
theorem walk_enumT {K : PySem.W.Frag} {a : Addr} {xs : List V} : Walk (ItEt K a) xs.length (fun H => SqT K H a xs) (YPair (fun i => some (.int (i : Nat))) (fun i => xs[i]?)) where
  goes := fun i H hik h => ⟨xs, xs[i], h, List.getElem?_eq_getElem hik⟩
  stops := fun H h => ⟨xs, h, rfl⟩
  yields := fun i H x H' _ h y => by
    obtain ⟨T, z, e1, e2k, e3k, e4k⟩ := y
    exact ⟨T, _, z, e1, e2k, e3k, rfl, e4k xs h⟩
/-! ### in over a tuple of data -/
section
variable {X : Cx}
def rInDT (K : PySem.W.Frag) : R2 := fun x y H Q => ∃ d ds, Dp K H x d ∧ Dp K H y (.tuple ds) ∧ SeqAt.shaped d = true ∧ SeqAt.shaped (.tuple ds) = true ∧ Q (.bl (ds.any fun z => PyData.eqv z d)) H
def rNotInDT (K : PySem.W.Frag) : R2 := fun x y H Q => ∃ d ds, Dp K H x d ∧ Dp K H y (.tuple ds) ∧ SeqAt.shaped d = true ∧ SeqAt.shaped (.tuple ds) = true ∧ Q (.bl (!ds.any fun z => PyData.eqv z d)) H
theorem op_inDT (huk : X.A.units + 65 < cLine) : OpR X (compareOp .In) (rInDT X.K) := by
  intro pinsk s σ H x y v u Q Ik rxk ryk h
  obtain ⟨d, ds, hd, hek, sdk, sek, q⟩ := h
  obtain ⟨as, r1k⟩ := Dp.reads Ik d x v hd rxk
  obtain ⟨bs, r2⟩ := Dp.reads Ik (.tuple ds) y u hek ryk
  exact SeqAt.in_tuple_reads r2 r1k (SeqAt.canLay_of_shaped sek) (SeqAt.canLay_of_shaped sdk) (room_in_shaped sdk huk) ⟨.bl _, H, Ik, rfl, q⟩
theorem op_notInDT (huk : X.A.units + 65 < cLine) : OpR X (compareOp .NotIn) (rNotInDT X.K) := by
  intro pinsk s σ H x y v u Q Ik rxk ryk h
  obtain ⟨d, ds, hd, hek, sdk, sek, q⟩ := h
  obtain ⟨as, r1k⟩ := Dp.reads Ik d x v hd rxk
  obtain ⟨bs, r2⟩ := Dp.reads Ik (.tuple ds) y u hek ryk
  exact SeqAt.notIn_tuple_reads r2 r1k (SeqAt.canLay_of_shaped sek) (SeqAt.canLay_of_shaped sdk) (room_in_shaped sdk huk) ⟨.bl _, H, Ik, rfl, q⟩
end
end L2

namespace HT
open PySem PySem.Spec PyProof.Rows L2
section
variable {prog : Program} {w : World} {A : Around} {E : Value → Shared → Prop} {s : Shared}
theorem as_adjust_rev (n : Nat) : Builtin.Slice.sliceAdjust none none (-1) (n : Int) = ((n : Int) - 1, -1) := by
  unfold Builtin.Slice.sliceAdjust
  simp
theorem as_places_rev (n : Nat) : Builtin.Slice.slicePlaces ((n : Int) - 1) (-1) (-1) = n := by
  unfold Builtin.Slice.slicePlaces
  have h1 : ¬ ((-1 : Int) > 0) := by omega
  rw [if_neg h1]
  by_cases h : ((n : Int) - 1 > -1)
  · rw [if_pos h]
    have e : -(-1 : Int) = 1 := by omega
    rw [e, Int.ediv_one]
    omega
  · rw [if_neg h]
    omega
theorem as_sliceApplied_rev {sl : Addr} {vlk vuk vs : Value} {n : Nat} {Q : Int × Int × Nat → Shared → Prop} (hsk : s.heap.IsSliceOf sl vlk vuk vs) (pl : IsPart vlk none) (pu : IsPart vuk none) (ps : IsPart vs (some (-1)))
    (h : Q ((n : Int) - 1, -1, n) s) : wpAny (model prog w) A (Builtin.Slice.sliceApplied (.ref sl) (pure (n : Int))) Q E s := by
  obtain ⟨osk, hosk, hcsk, hdsk⟩ := id hsk
  unfold Builtin.Slice.sliceApplied Builtin.Slice.sliceFields
  refine wpAny_bind (wpAny_bind (wpAny_field hosk hdsk (x := vlk) rfl (wpAny_bind (wpAny_field hosk hdsk (x := vuk) rfl (wpAny_bind (wpAny_field hosk hdsk (x := vs) rfl (wpAny_pure ?_)))))))
  refine wpAny_bind (slicePart_ ps ?_)
  show wpAny _ _ (if ((-1 : Int) == 0) = true then _ else _) _ _ s
  rw [if_neg (by decide)]
  refine wpAny_bind (slicePart_ pl (wpAny_bind (slicePart_ pu (wpAny_bind (wpAny_pure ?_)))))
  show wpAny _ _ (match Builtin.Slice.sliceAdjust none none (-1) (n : Int) with | (lo, hik) => pure (lo, (-1 : Int), Builtin.Slice.slicePlaces lo hik (-1))) _ _ s
  rw [as_adjust_rev n]
  show wpAny _ _ (pure ((n : Int) - 1, (-1 : Int), Builtin.Slice.slicePlaces ((n : Int) - 1) (-1) (-1))) _ _ s
  rw [as_places_rev]
  exact wpAny_pure h
theorem as_pick_rev (xs : Array Value) : ((List.range xs.size).filterMap fun (m : Nat) => xs[((xs.size : Int) - 1 + (m : Int) * (-1)).toNat]?).toArray = xs.toList.reverse.toArray := by
  have e : (List.range xs.size).filterMap (fun (m : Nat) => xs[((xs.size : Int) - 1 + (m : Int) * (-1)).toNat]?) = ((List.range xs.size).map fun k => xs.size - 1 - k).filterMap (fun k => xs[k]?) := by
    rw [List.filterMap_map]
    congr 1
    funext m
    have : ((xs.size : Int) - 1 + (m : Int) * (-1)).toNat = xs.size - 1 - m := by omega
    simp only [this, Function.comp]
  rw [e, PySem.W.krv_range, List.filterMap_reverse, PySem.W.krv_all]
theorem as_getItem_rev {t sl : Addr} {items : Array Value} {vlk vuk vs : Value} {Q : Value → Shared → Prop} (htk : IsTup s.heap t items) (hsk : s.heap.IsSliceOf sl vlk vuk vs) (pl : IsPart vlk none) (pu : IsPart vuk none) (ps : IsPart vs (some (-1)))
    (h : Q (.ref s.heap.objs.size) { s with heap := s.heap.push { cls := .type "tuple", data := .seq items.toList.reverse.toArray } })
    (hszk : items.size ≤ sizeLine) : wpAny (model prog w) A (getItem (.ref t) (.ref sl)) Q E s := by
  have htakek : sizeOk (.seq items.toList.reverse.toArray) := by
    show items.toList.reverse.toArray.size ≤ sizeLine
    rw [List.size_toArray, List.length_reverse, Array.length_toList]
    exact hszk
  obtain ⟨osk, hosk, hcsk, hdsk⟩ := id hsk
  have hTsk : s.TypeIs (.ref sl) "slice" := ⟨osk, hosk, hcsk⟩
  unfold getItem
  try with_reducible refine wpAny_holding ?_
  first | refine wpAny_bind (wpAny_pure ?_) | skip
  refine wpAny_bind (wpAny_sequenceKey htk.typeIs (by decide) ?_)
  refine wpAny_bind (wpAny_callSpecial?_slot (name := Str.ofString "__getitem__") htk.typeIs PyProof.Rows.slot_tuple_getitem
    (wpAny_call_entry PyProof.Rows.slot_tuple_getitem htk.typeIs entry_tuple_getitem ?_ (args_tuple_getitem _ _)))
  show wpAny _ _ (Builtin.Tuple.tupleItemsOf (.ref t) >>= _) _ _ s
  refine wpAny_bind (tupleItemsOf_ htk ?_)
  refine wpAny_bind (wpAny_typeOf hTsk ?_)
  rw [if_pos (by decide)]
  refine wpAny_bind (as_sliceApplied_rev hsk pl pu ps ?_)
  have hno : ¬ ((((items.size : Int) - 1) == 0 && (-1 : Int) == 1 && items.size == items.size) = true) := by
    intro q
    rw [Bool.and_eq_true, Bool.and_eq_true] at q
    exact absurd (eq_of_beq q.1.2) (by decide)
  show wpAny _ _ (if (((items.size : Int) - 1) == 0 && (-1 : Int) == 1 && items.size == items.size) = true then _ else _) _ _ s
  rw [if_neg hno, as_pick_rev]
  first
    | exact wpAny_bind (m := Builtin.Tuple.tupleExact _) (wpAny_newObj_type (wpAny_pure ⟨_, rfl, wpAny_pure h⟩) htakek)
    | exact wpAny_bind (m := Builtin.Tuple.tupleExact _) (wpAny_newObj_type (wpAny_bind (wpAny_pure (wpAny_pure ⟨_, rfl, wpAny_pure h⟩))) htakek)
    | exact wpAny_bind (wpAny_bind (m := Builtin.Tuple.tupleExact _) (wpAny_newObj_type (wpAny_pure (wpAny_pure ⟨_, rfl, wpAny_pure h⟩)) htakek))
    | exact wpAny_bind (wpAny_bind (m := Builtin.Tuple.tupleExact _) (wpAny_newObj_type (wpAny_pure ⟨_, rfl, wpAny_pure h⟩) htakek))
end
end HT
namespace L2
open PySem PySem.Spec PyProof.Rows
section
variable {X : Cx}
def tRevT (K : PySem.W.Frag) (te : TE) : TE := fun σ H Q => te σ H fun x H1k => ∃ a xs, x = .ref a ∧ SqT K H1k a xs ∧ ∀ p, H1k p = none → Q (.ref p) (upd H1k p (.tup xs.reverse))
theorem pe_revT {e : Expr} {te : TE} {k : Nat} {p1 p2 p3 pos : Pos} (hek : PE X e te) : PE X (.Subscript e (.Slice none none (some (.UnaryOp .USub (.Constant (.int 1) k p1) p2)) p3) pos) (tRevT X.K te) := by
  refine ⟨fun pinsk s σ H Q Ik h => ?_⟩
  refine Subscript_ (thn (hek.run pinsk s σ H _ Ik h) fun v s1k ⟨x, H1k, I1k, r1k, q1k⟩ => ?_)
  obtain ⟨a, xs, exk, hxk, q⟩ := q1k
  subst exk
  cases r1k
  have hstk : PO X (some (.UnaryOp .USub (.Constant (.int 1) k p1) p2)) (tPart (tUn (rU fun i => .int (-i)) (tC (.int 1)))) := po_some (pe_un un_neg pe_int)
  refine wpAny_Slice (thn (po_none.run pinsk s1k σ H1k (fun o H2k => o = none ∧ H2k = H1k) I1k ⟨rfl, rfl⟩) fun vlk s2k ⟨l, H2k, I2k, pl, elk, e2k⟩ => ?_)
  subst elk e2k
  refine thn (po_none.run pinsk s2k σ H2k (fun o H3k => o = none ∧ H3k = H2k) I2k ⟨rfl, rfl⟩) fun vuk s3k ⟨u, H3k, I3, pu, euk, e3k⟩ => ?_
  subst euk e3k
  refine thn (hstk.run pinsk s3k σ H3k (fun o H4k => o = some (-1) ∧ H4k = H3k) I3 ⟨1, rfl, -1, rfl, rfl, rfl⟩) fun vs s4k ⟨o, H4k, I4, ps, eok, e4k⟩ => ?_
  subst eok e4k
  have I5k : Inv X pinsk σ H4k { s4k with heap := s4k.heap.push { cls := .type "slice", data := .fields #[vlk, vuk, vs] } } := I4.kept (t' := s4k.toks) fun b ob q => Heap.get?_push_of_some _ q
  obtain ⟨itsk, r, htk, hzk⟩ := I5k.tuple hxk
  have hlen := r.length
  show wpAny (model X.prog X.w) X.A (subscriptTail e (.Slice none none (some (.UnaryOp .USub (.Constant (.int 1) k p1) p2)) p3) (.ref a) (.ref s4k.heap.objs.size)) (EP X pinsk σ Q) X.xe { s4k with heap := s4k.heap.push { cls := .type "slice", data := .fields #[vlk, vuk, vs] } }
  refine tail_any (ops := [.ref a, .ref s4k.heap.objs.size]) htk.typeIs (PyProof.Rows.slot_tuple_getitem.lookup) ?_ (by with_unfolding_all rfl)
  refine HT.as_getItem_rev htk (Heap.IsSliceOf.new _ vlk vuk vs) pl pu ps ?_ (by rw [List.size_toArray]; omega)
  refine ⟨.ref _, _, I5k.laid (t' := s4k.toks) (o := .tup xs.reverse) (fun b ob q => Heap.get?_push_of_some _ q) (Nat.le_refl _) ?_, rfl, q _ (I5k.hok.fresh (Nat.le_refl _))⟩
  exact ⟨by rw [List.length_reverse]; exact hzk, _, r.reverse, ⟨_, Heap.get?_push_size _ rfl, rfl, _, rfl⟩⟩
end
end L2

namespace As
open PySem PySem.Spec PyProof.Rows L2
/-! ### heaps: all but the well of draws stays -/
def ExS (st : Addr) (H H' : Hp) : Prop := ∀ a o, a ≠ st → H a = some o → H' a = some o
theorem ExS.refl (st : Addr) (H : Hp) : ExS st H H := fun _ _ _ h => h
theorem ExS.trans {st : Addr} {H H1 H2 : Hp} (a : ExS st H H1) (b : ExS st H1 H2) : ExS st H H2 := fun x o n h => b x o n (a x o n h)
theorem ExS.of {st : Addr} {H H' : Hp} (e : Same H H') : ExS st H H' := fun a o _ h => e a o h
theorem same_new {H : Hp} {p : Addr} {o : HO} (h : H p = none) : Same H (upd H p o) := fun a u e => by
  rw [upd_ne (ne_of_none e h)]
  exact e
theorem ExS.new {st : Addr} {H : Hp} {p : Addr} {o : HO} (h : H p = none) : ExS st H (upd H p o) := .of (same_new h)
theorem ExS.at_ {st : Addr} {H : Hp} {o : HO} : ExS st H (upd H st o) := fun a u n e => by
  rw [upd_ne n]
  exact e
theorem Same.new {H H' : Hp} {p : Addr} {o : HO} (e : Same H H') (h : H' p = none) : Same H (upd H' p o) := Same.trans e (same_new h)
theorem Same.mut {H H' : Hp} {p : Addr} {o : HO} (e : Same H H') (h : H p = none) : Same H (upd H' p o) := fun a u ha => by
  rw [upd_ne (ne_of_none ha h)]
  exact e a u ha
theorem ExS.seq {K : PySem.W.Frag} {st : Addr} {H H' : Hp} {a : Addr} {xs : List V} (n : a ≠ st) (e : ExS st H H') (h : SqL K H a xs) : SqL K H' a xs := by
  rcases h with (h | ⟨o, h⟩) | h
  · exact .inl (.inl (e _ _ n h))
  · exact .inl (.inr ⟨o, e _ _ n h⟩)
  · exact .inr h
/-! ### data -/
inductive D where
  | non
  | bl (b : Bool)
  | int (i : Int)
  | str (z : Str)
  | tup (ds : List D)
  | lst (ds : List D)
  | dct
mutual
inductive TD (st : Addr) (H : Hp) : V → D → Prop
  | non : TD st H .non .non
  | bl (b : Bool) : TD st H (.bl b) (.bl b)
  | int (i : Int) : TD st H (.int i) (.int i)
  | str (z : Str) : TD st H (.str z) (.str z)
  | tup {a : Addr} {xs : List V} {ds : List D} : a ≠ st → H a = some (.tup xs) → TDs st H xs ds → TD st H (.ref a) (.tup ds)
  | lst {a : Addr} {xs : List V} {ds : List D} : a ≠ st → H a = some (.lst xs) → TDs st H xs ds → TD st H (.ref a) (.lst ds)
  | dct {a : Addr} : a ≠ st → H a = some (.dK []) → TD st H (.ref a) .dct
inductive TDs (st : Addr) (H : Hp) : List V → List D → Prop
  | nil : TDs st H [] []
  | cons {v : V} {vs : List V} {d : D} {ds : List D} : TD st H v d → TDs st H vs ds → TDs st H (v :: vs) (d :: ds)
end
mutual
theorem TD.mono {st : Addr} {H H' : Hp} (e : ExS st H H') : ∀ {v : V} {d : D}, TD st H v d → TD st H' v d
  | _, _, .non => .non
  | _, _, .bl b => .bl b
  | _, _, .int i => .int i
  | _, _, .str z => .str z
  | _, _, .tup n h t => .tup n (e _ _ n h) (TDs.mono e t)
  | _, _, .lst n h t => .lst n (e _ _ n h) (TDs.mono e t)
  | _, _, .dct n h => .dct n (e _ _ n h)
theorem TDs.mono {st : Addr} {H H' : Hp} (e : ExS st H H') : ∀ {vs : List V} {ds : List D}, TDs st H vs ds → TDs st H' vs ds
  | _, _, .nil => .nil
  | _, _, .cons h t => .cons (TD.mono e h) (TDs.mono e t)
end
theorem TDs.length {st : Addr} {H : Hp} : ∀ {vs : List V} {ds : List D}, TDs st H vs ds → vs.length = ds.length
  | _, _, .nil => rfl
  | _, _, .cons _ t => congrArg (· + 1) t.length
theorem TDs.get {st : Addr} {H : Hp} : ∀ {vs : List V} {ds : List D} {i : Nat} {v : V}, TDs st H vs ds → vs[i]? = some v → ∃ d, ds[i]? = some d ∧ TD st H v d
  | _, _, i, _, .nil, h => by simp at h
  | _, _, 0, _, .cons h _, e => by
    have e' := Option.some.inj e
    subst e'
    exact ⟨_, rfl, h⟩
  | _, _, i + 1, _, .cons _ t, e => t.get (i := i) e
theorem TDs.append {st : Addr} {H : Hp} : ∀ {vs ws : List V} {ds es : List D}, TDs st H vs ds → TDs st H ws es → TDs st H (vs ++ ws) (ds ++ es)
  | _, _, _, _, .nil, h => h
  | _, _, _, _, .cons h t, r => .cons h (t.append r)
theorem TDs.drop {st : Addr} {H : Hp} : ∀ {vs : List V} {ds : List D} (n : Nat), TDs st H vs ds → TDs st H (vs.drop n) (ds.drop n)
  | _, _, 0, h => h
  | _, _, _ + 1, .nil => .nil
  | _, _, n + 1, .cons _ t => t.drop n
theorem TDs.take {st : Addr} {H : Hp} : ∀ {vs : List V} {ds : List D} (n : Nat), TDs st H vs ds → TDs st H (vs.take n) (ds.take n)
  | _, _, 0, _ => .nil
  | _, _, _ + 1, .nil => .nil
  | _, _, n + 1, .cons h t => .cons h (t.take n)
theorem TDs.rev {st : Addr} {H : Hp} : ∀ {vs : List V} {ds : List D}, TDs st H vs ds → TDs st H vs.reverse ds.reverse
  | _, _, .nil => .nil
  | _, _, .cons h t => by
    rw [List.reverse_cons, List.reverse_cons]
    exact t.rev.append (.cons h .nil)
theorem TDs.rep {st : Addr} {H : Hp} {v : V} {d : D} (h : TD st H v d) : ∀ n : Nat, TDs st H (List.replicate n v) (List.replicate n d)
  | 0 => .nil
  | n + 1 => .cons h (TDs.rep h n)
theorem TDs.cut {st : Addr} {H : Hp} {vs : List V} {ds : List D} (lo hi : Option Int) (h : TDs st H vs ds) : ∃ es, TDs st H (cutV vs lo hi) es := ⟨_, (h.drop _).take _⟩
def tyD : D → String
  | .non => "NoneType"
  | .bl _ => "bool"
  | .int _ => "int"
  | .str _ => "str"
  | .tup _ => "tuple"
  | .lst _ => "list"
  | .dct => "dict"
theorem TD.ty {K : PySem.W.Frag} {st : Addr} {H : Hp} {v : V} {d : D} (h : TD st H v d) : TyX K H v (.type (tyD d)) := by
  cases h with
  | non => exact .base .non
  | bl b => exact .base (.bl b)
  | int i => exact .base (.int i)
  | str z => exact .base (.str z)
  | tup n h t => exact .base (.tup h)
  | lst n h t => exact .base (.lst h)
  | dct n h => exact .base (.dK h)
def isInt : D → Bool
  | .bl _ => true
  | .int _ => true
  | _ => false
def isBool : D → Bool
  | .bl _ => true
  | _ => false
def isStr : D → Bool
  | .str _ => true
  | _ => false
def isTup : D → Bool
  | .tup _ => true
  | _ => false
def isLst : D → Bool
  | .lst _ => true
  | _ => false
theorem kit_int (d : D) : kitB (tyD d) "int" = some (isInt d) := by
  cases d with
  | non => exact (show kitB "NoneType" "int" = some false by decide +kernel)
  | bl _ => exact (show kitB "bool" "int" = some true by decide +kernel)
  | int _ => exact (show kitB "int" "int" = some true by decide +kernel)
  | str _ => exact (show kitB "str" "int" = some false by decide +kernel)
  | tup _ => exact (show kitB "tuple" "int" = some false by decide +kernel)
  | lst _ => exact (show kitB "list" "int" = some false by decide +kernel)
  | dct => exact (show kitB "dict" "int" = some false by decide +kernel)
theorem kit_bool (d : D) : kitB (tyD d) "bool" = some (isBool d) := by
  cases d with
  | non => exact (show kitB "NoneType" "bool" = some false by decide +kernel)
  | bl _ => exact (show kitB "bool" "bool" = some true by decide +kernel)
  | int _ => exact (show kitB "int" "bool" = some false by decide +kernel)
  | str _ => exact (show kitB "str" "bool" = some false by decide +kernel)
  | tup _ => exact (show kitB "tuple" "bool" = some false by decide +kernel)
  | lst _ => exact (show kitB "list" "bool" = some false by decide +kernel)
  | dct => exact (show kitB "dict" "bool" = some false by decide +kernel)
theorem kit_str (d : D) : kitB (tyD d) "str" = some (isStr d) := by
  cases d with
  | non => exact (show kitB "NoneType" "str" = some false by decide +kernel)
  | bl _ => exact (show kitB "bool" "str" = some false by decide +kernel)
  | int _ => exact (show kitB "int" "str" = some false by decide +kernel)
  | str _ => exact (show kitB "str" "str" = some true by decide +kernel)
  | tup _ => exact (show kitB "tuple" "str" = some false by decide +kernel)
  | lst _ => exact (show kitB "list" "str" = some false by decide +kernel)
  | dct => exact (show kitB "dict" "str" = some false by decide +kernel)
theorem kit_tup (d : D) : kitB (tyD d) "tuple" = some (isTup d) := by
  cases d with
  | non => exact (show kitB "NoneType" "tuple" = some false by decide +kernel)
  | bl _ => exact (show kitB "bool" "tuple" = some false by decide +kernel)
  | int _ => exact (show kitB "int" "tuple" = some false by decide +kernel)
  | str _ => exact (show kitB "str" "tuple" = some false by decide +kernel)
  | tup _ => exact (show kitB "tuple" "tuple" = some true by decide +kernel)
  | lst _ => exact (show kitB "list" "tuple" = some false by decide +kernel)
  | dct => exact (show kitB "dict" "tuple" = some false by decide +kernel)
theorem kit_lst (d : D) : kitB (tyD d) "list" = some (isLst d) := by
  cases d with
  | non => exact (show kitB "NoneType" "list" = some false by decide +kernel)
  | bl _ => exact (show kitB "bool" "list" = some false by decide +kernel)
  | int _ => exact (show kitB "int" "list" = some false by decide +kernel)
  | str _ => exact (show kitB "str" "list" = some false by decide +kernel)
  | tup _ => exact (show kitB "tuple" "list" = some false by decide +kernel)
  | lst _ => exact (show kitB "list" "list" = some true by decide +kernel)
  | dct => exact (show kitB "dict" "list" = some false by decide +kernel)
theorem isi {K : PySem.W.Frag} {st : Addr} {H : Hp} {v : V} {d : D} {n : String} {b : Bool} {Q : VK} (h : TD st H v d) (k : kitB (tyD d) n = some b) (q : Q (.bl b) H) : rIsi K [v, .ty n] H Q :=
  ⟨v, .ty n, _, _, b, rfl, .ty n, h.ty, kit_ty k, q⟩
/-! ### steps -/
abbrev Pr := Str × Int
def stepD (p : Pr) : D := .tup [.str p.1, .int p.2]
def wR : Str := "read"
def wW : Str := "write"
def wordB (z : Str) : Bool := decide (z = wR) || decide (z = wW)
def boxB (i : Int) : Bool := decide (0 ≤ i) && decide (i ≤ 100000000)
def asPr : D → Option Pr
  | .tup [.str z, .int i] => if wordB z && boxB i then some (z, i) else none
  | _ => none
def isStep (d : D) : Bool := (asPr d).isSome
theorem asPr_some {d : D} {p : Pr} (h : asPr d = some p) : d = stepD p ∧ wordB p.1 = true ∧ boxB p.2 = true := by
  unfold asPr at h
  split at h
  · split at h
    · rename_i z i hc
      have e := Option.some.inj h
      subst e
      rw [Bool.and_eq_true] at hc
      exact ⟨rfl, hc.1, hc.2⟩
    · cases h
  · cases h
theorem asPr_step {p : Pr} (h1 : wordB p.1 = true) (h2 : boxB p.2 = true) : asPr (stepD p) = some p := by
  show (if (wordB p.1 && boxB p.2) = true then some (p.1, p.2) else none) = some p
  rw [h1, h2]
  rfl
/-- the place of a step among those ahead: what the program asks, and what the law does -/
def mayP (p : Pr) (l : List Pr) : Bool := !decide (p ∈ l) && !decide ((wW, p.2) ∈ l)
def mayL (p : Pr) (l : List Pr) : Bool := !decide (p ∈ l) && !(decide (p.1 = wR) && decide ((wW, p.2) ∈ l))
theorem may_eq {p : Pr} (h : wordB p.1 = true) (l : List Pr) : mayP p l = mayL p l := by
  unfold mayP mayL
  obtain ⟨z, i⟩ := p
  unfold wordB at h
  rw [Bool.or_eq_true, decide_eq_true_eq, decide_eq_true_eq] at h
  rcases h with h | h
  · have h' : z = wR := h
    subst h'
    rw [decide_eq_true (show (wR, i).1 = wR from rfl), Bool.true_and]
  · have h' : z = wW := h
    subst h'
    have n : ¬ (wW = wR) := by decide
    rw [decide_eq_false (show ¬ (wW, i).1 = wR from n), Bool.false_and]
    cases hd : decide ((wW, i) ∈ l) <;> simp_all
/-- the pairs of a list of steps -/
def prs : List D → Option (List Pr)
  | [] => some []
  | d :: ds => match asPr d, prs ds with
    | some p, some l => some (p :: l)
    | _, _ => none
theorem prs_some : ∀ {ds : List D} {l : List Pr}, prs ds = some l → ds = l.map stepD ∧ (∀ p ∈ l, wordB p.1 = true ∧ boxB p.2 = true)
  | [], l, h => by
    have e : [] = l := Option.some.inj h
    subst e
    exact ⟨rfl, fun p hp => by cases hp⟩
  | d :: ds, l, h => by
    unfold prs at h
    split at h
    · rename_i p r h1 h2
      have e := Option.some.inj h
      subst e
      obtain ⟨e1, w1, b1⟩ := asPr_some h1
      obtain ⟨e2, w2⟩ := prs_some h2
      refine ⟨by rw [e1, e2]; rfl, fun q hq => ?_⟩
      rcases List.mem_cons.mp hq with e | e
      · rw [e]; exact ⟨w1, b1⟩
      · exact w2 q e
    · cases h
theorem prs_isSome : ∀ ds : List D, (prs ds).isSome = ds.all isStep
  | [] => rfl
  | d :: ds => by
    have ih := prs_isSome ds
    rw [List.all_cons, ← ih]
    show (match asPr d, prs ds with | some p, some l => some (p :: l) | _, _ => none).isSome = (isStep d && (prs ds).isSome)
    cases h1 : asPr d with
    | none =>
      have e : isStep d = false := by unfold isStep; rw [h1]; rfl
      rw [e, Bool.false_and]
      rfl
    | some p =>
      have e : isStep d = true := by unfold isStep; rw [h1]; rfl
      rw [e, Bool.true_and]
      cases h2 : prs ds with
      | none => rfl
      | some l => rfl
theorem prs_of {l : List Pr} (h : ∀ p ∈ l, wordB p.1 = true ∧ boxB p.2 = true) : prs (l.map stepD) = some l := by
  induction l with
  | nil => rfl
  | cons p l ih =>
    have hp := h p (List.mem_cons_self ..)
    rw [List.map_cons]
    unfold prs
    rw [asPr_step hp.1 hp.2, ih fun q hq => h q (List.mem_cons_of_mem _ hq)]
/-- all places may follow -/
def follow (m : Pr → List Pr → Bool) (l : List Pr) : Bool := (List.range l.length).all fun i => match l[i]? with
  | some p => m p (l.take i)
  | none => true
def isDealing : D → Bool
  | .tup ds => decide (1 ≤ ds.length) && decide (ds.length ≤ 8) && match prs ds with
    | some l => follow mayP l
    | none => false
  | _ => false
def areDealings : D → Bool
  | .lst ds => decide (1 ≤ ds.length) && decide (ds.length ≤ 100) && ds.all isDealing
  | _ => false
/-! ### steps as the library's data -/
def stepP (p : Pr) : PyData := .tuple [.str p.1, .int p.2]
theorem word_ok {z : Str} (h : wordB z = true) : PyData.strOk z = true := by
  unfold wordB at h
  rw [Bool.or_eq_true, decide_eq_true_eq, decide_eq_true_eq] at h
  rcases h with h | h
  · subst h; decide +kernel
  · subst h; decide +kernel
theorem stepP_lay {p : Pr} (h : wordB p.1 = true) : (stepP p).canLay0 = true := by simp [stepP, PyData.canLay0, PyData.canLayAll0, word_ok h]
theorem stepP_depth (p : Pr) : (stepP p).depth = 1 := by simp [stepP, PyData.depth, PyData.depthAll]
theorem stepPs_lay : ∀ {l : List Pr}, (∀ p ∈ l, wordB p.1 = true) → PyData.canLayAll0 (l.map stepP) = true
  | [], _ => by simp [PyData.canLayAll0]
  | p :: l, h => by simp [PyData.canLayAll0, stepP_lay (h p (List.mem_cons_self ..)), stepPs_lay fun q hq => h q (List.mem_cons_of_mem _ hq)]
theorem stepPs_depth : ∀ l : List Pr, PyData.depthAll (l.map stepP) ≤ 1
  | [] => by simp [PyData.depthAll]
  | p :: l => by
    have h1 := stepPs_depth l
    have h2 := stepP_depth p
    simp only [List.map_cons, PyData.depthAll]
    omega
theorem stepP_shaped {p : Pr} (hw : wordB p.1 = true) : SeqAt.shaped (stepP p) = true := by
  have h := stepP_depth p
  show ((stepP p).canLay0 && decide ((stepP p).depth ≤ 64)) = true
  rw [Bool.and_eq_true]
  exact ⟨stepP_lay hw, decide_eq_true (by omega)⟩
theorem stepPs_shapedT {l : List Pr} (hw : ∀ p ∈ l, wordB p.1 = true) : SeqAt.shaped (.tuple (l.map stepP)) = true := by
  have h1 := stepPs_depth l
  have h2 : PyData.depth (.tuple (l.map stepP)) ≤ 64 := by
    simp only [PyData.depth]
    omega
  show (PyData.canLay0 (.tuple (l.map stepP)) && decide (PyData.depth (.tuple (l.map stepP)) ≤ 64)) = true
  rw [Bool.and_eq_true]
  exact ⟨by simp only [PyData.canLay0]; exact stepPs_lay hw, decide_eq_true h2⟩
theorem stepPs_shapedL {l : List Pr} (hw : ∀ p ∈ l, wordB p.1 = true) : SeqAt.shaped (.list (l.map stepP)) = true := by
  have h1 := stepPs_depth l
  have h2 : PyData.depth (.list (l.map stepP)) ≤ 64 := by
    simp only [PyData.depth]
    omega
  show (PyData.canLay0 (.list (l.map stepP)) && decide (PyData.depth (.list (l.map stepP)) ≤ 64)) = true
  rw [Bool.and_eq_true]
  exact ⟨by simp only [PyData.canLay0]; exact stepPs_lay hw, decide_eq_true h2⟩
theorem stepP_eqv (p q : Pr) : PyData.eqv (stepP p) (stepP q) = decide (p = q) := by
  obtain ⟨z, i⟩ := p
  obtain ⟨y, j⟩ := q
  have e : PyData.eqv (stepP (z, i)) (stepP (y, j)) = ((z == y) && ((i == j) && true)) := by simp only [stepP, PyData.eqv, PyData.eqvAll]
  rw [e]
  by_cases h1 : z = y
  · by_cases h2 : i = j
    · subst h1 h2
      simp
    · have q : (i == j) = false := beq_eq_false_iff_ne.mpr h2
      rw [q, Bool.false_and, Bool.and_false, decide_eq_false]
      intro z
      exact h2 (Prod.mk.inj z).2
  · have q : (z == y) = false := beq_eq_false_iff_ne.mpr h1
    rw [q, Bool.false_and, decide_eq_false]
    intro z
    exact h1 (Prod.mk.inj z).1
theorem any_step (l : List Pr) (p : Pr) : ((l.map stepP).any fun z => PyData.eqv z (stepP p)) = decide (p ∈ l) := by
  induction l with
  | nil => simp
  | cons q l ih =>
    rw [List.map_cons, List.any_cons, ih, stepP_eqv]
    by_cases h1 : q = p
    · subst h1
      simp
    · have h1' : ¬ p = q := fun e => h1 e.symm
      rw [decide_eq_false h1, Bool.false_or]
      exact decide_eq_decide.mpr ⟨fun h => List.mem_cons_of_mem _ h, fun h => (List.mem_cons.mp h).resolve_left h1'⟩
theorem TD.stepDp {K : PySem.W.Frag} {st : Addr} {H : Hp} {v : V} {p : Pr} (h : TD st H v (stepD p)) : Dp K H v (stepP p) := by
  cases h with
  | tup n h t =>
    cases t with
    | cons h1 t =>
      cases t with
      | cons h2 t =>
        cases t
        cases h1
        cases h2
        exact .tup (.inl (.inl h)) (.cons (.str _) (.cons (.int _) .nil))
theorem TDs.stepsDp {K : PySem.W.Frag} {st : Addr} {H : Hp} : ∀ {l : List Pr} {vs : List V}, TDs st H vs (l.map stepD) → DpAll K H vs (l.map stepP)
  | [], _, h => by
    cases h
    exact .nil
  | p :: l, _, h => by
    cases h with
    | cons h t => exact .cons h.stepDp t.stepsDp
theorem TD.stepV {st : Addr} {H : Hp} {v : V} {p : Pr} (h : TD st H v (stepD p)) : ∃ b, v = .ref b ∧ b ≠ st ∧ H b = some (.tup [.str p.1, .int p.2]) := by
  cases h with
  | @tup b ys _ n h t =>
    cases t with
    | cons h1 t =>
      cases t with
      | cons h2 t =>
        cases t
        cases h1
        cases h2
        exact ⟨b, rfl, n, h⟩
theorem TDs.stepsT {st : Addr} {H H' : Hp} (e : ∀ a ys, a ≠ st → H a = some (.tup ys) → H' a = some (.tup ys)) : ∀ {l : List Pr} {vs : List V}, TDs st H vs (l.map stepD) → TDs st H' vs (l.map stepD)
  | [], _, h => by
    cases h
    exact .nil
  | p :: l, _, h => by
    cases h with
    | cons h t =>
      obtain ⟨b, rfl, n, hb⟩ := h.stepV
      exact .cons (.tup n (e _ _ n hb) (.cons (.str _) (.cons (.int _) .nil))) (t.stepsT e)
end As

namespace As
open PySem PySem.Spec PyProof.Rows L2
theorem hu65 {A : Around} {k : Nat} (hr : Room k A) : A.units + 65 < cLine := by have := hr.un; omega
theorem sl_of {n : Nat} (h : n ≤ 100000) : n ≤ sizeLine := Nat.le_trans h (by decide)
theorem sl_lt {n : Nat} (h : n < 100000) : n < sizeLine := Nat.lt_of_lt_of_le h (by decide)
def kept (n : Nat) (t : Nat → Bool) (f : Nat → V) : List V := ((List.range n).filter t).map f
theorem kept_succ (n : Nat) (t : Nat → Bool) (f : Nat → V) : kept (n + 1) t f = kept n t f ++ (if t n then [f n] else []) := by
  unfold kept
  rw [List.range_succ, List.filter_append, List.map_append]
  cases h : t n <;> simp [h]
theorem kept_len (n : Nat) (t : Nat → Bool) (f : Nat → V) : (kept n t f).length ≤ n := by
  unfold kept
  rw [List.length_map]
  have h := List.length_filter_le t (List.range n)
  rw [List.length_range] at h
  exact h
theorem kept_all (n : Nat) (f : Nat → V) : kept n (fun _ => true) f = (List.range n).map f := by
  unfold kept
  congr 1
  exact List.filter_eq_self.mpr fun _ _ => rfl
/-- a comprehension that changes nothing that was there: what it keeps -/
theorem lc_kept {J : It} {n : Nat} {G : Hp → Prop} {Y : Nat → Hp → V → Hp → Prop} (w : Walk J n G Y) {g : TG} {tt : TT} {te : TE} {vs : List Nat} {σ : L2.St} {H1 : Hp} {D : Addr} {Qd : Hp → Prop} (t : Nat → Bool) (f : Nat → V) (hD : H1 D = none) (hn : n ≤ 10000) (hG : ∀ H, Same H1 H → G H)
    (hs : ∀ i x H H' (N : Hp → Prop) (R : VK), i < n → Same H1 H → Y i H x H' → (t i = false → ∀ H'', Same H H'' → N H'') → (t i = true → ∀ H'', Same H H'' → R (f i) H'') →
      g x (wipe σ vs) H' fun σ2 H2 => wipe σ2 vs = wipe σ vs ∧ tt σ2 H2 fun b H3 => if b = true then te σ2 H3 R else N H3)
    (hd : ∀ H, Same H1 H → H D = some (.lst (kept n t f)) → Qd H) :
    ∃ W : Nat → Nat → Hp → Prop, (∃ m, W 0 m (upd H1 D (.lst []))) ∧ ∀ i m H, W i m H →
      (J.stop i H ∧ Qd H) ∨ (J.go i H ∧ ∃ Nx : Hp → Prop, (∀ H', Nx H' → ∃ m', m' < m ∧ W (i + 1) m' H') ∧ ∀ x H', J.yld i H x H' → g x (wipe σ vs) H' fun σ2 H2 => wipe σ2 vs = wipe σ vs ∧ tt σ2 H2 fun b H3 =>
        if b = true then te σ2 H3 fun y H4 => ∃ acc, H4 D = some (.lst acc) ∧ acc.length < sizeLine ∧ Nx (upd H4 D (.lst (acc ++ [y]))) else Nx H3) := by
  refine lc_it w (fun i H => Same H1 H ∧ H D = some (.lst (kept i t f))) ⟨same_new hD, upd_same⟩ (fun i H _ p => hG H p.1) (fun i x H H' hi p y => ?_) (fun H p => hd H p.1 p.2)
  obtain ⟨p1, p2⟩ := p
  refine hs i x H H' _ _ hi p1 y (fun ht H'' e => ⟨Same.trans p1 e, ?_⟩) (fun ht H'' e => ⟨kept i t f, e _ _ p2, sl_lt (by have := kept_len i t f; omega), Same.mut (Same.trans p1 e) hD, ?_⟩)
  · rw [kept_succ, ht, if_neg Bool.false_ne_true, List.append_nil]
    exact e _ _ p2
  · rw [kept_succ, ht, if_pos rfl]
    exact upd_same
theorem yesI {te : TE} {σ : L2.St} {H : Hp} {R : VK} {N : Hp → Prop} (h : te σ H R) : tYes σ H fun b H3 => if b = true then te σ H3 R else N H3 := by
  show if true = true then te σ H R else N H
  exact iteT h
theorem isDealing_eq (ds : List D) : isDealing (.tup ds) = (decide (1 ≤ ds.length) && decide (ds.length ≤ 8) && match prs ds with | some l => follow mayP l | none => false) := rfl
theorem areDealings_eq (ds : List D) : areDealings (.lst ds) = (decide (1 ≤ ds.length) && decide (ds.length ≤ 100) && ds.all isDealing) := rfl
end As

/-! own ==, !=, str and membership of instances -/
namespace As
open PySem PySem.Spec PyProof.Rows L2
open AutoSeq1 (wpAny_loadPart')
section
variable {prog : Program} {w : World} {A : Around} {E : Value → Shared → Prop} {s : Shared} {K : PySem.W.Frag} {b l C : Addr} {ox : Obj} {Q : Value → Shared → Prop}
theorem list_no {items : Array Value} (X : K.In s.heap) (hl : s.heap.IsList l items) (hb : s.heap.get? b = some ox) (hc : ox.cls = .ref C) (hs : PySem.W.subIn K (.ref C) (.type "list") = some false) (q : Q .notImplemented s) :
    wpAny (model prog w) A (call (.builtin "list.__eq__") [.ref l, .ref b]) Q E s := by
  obtain ⟨⟨cls, dd, data, sl⟩, ho, hcl, n, hd⟩ := id hl
  simp only at hcl hd
  subst hcl hd
  refine GQ.call_here F.slot_list_eq ⟨_, ho, rfl⟩ F.entry_list_eq (F.args_list_eq_2 _ _) ?_
  have f1 : ∀ {A' : Around} {E' : Value → Shared → Prop} {Q' : Bool → Shared → Prop}, Q' false s → wpAny (model prog w) A' (isSubtype (.ref C) (.type "list")) Q' E' s := fun q' => (PySem.W.looks_subIn X hs).here q'
  obtain ⟨cls, dd2, data2, sl2⟩ := ox
  simp only at hc
  subst hc
  obtain ⟨hp, g, d, tk, os⟩ := s
  wp_walk using wpAny_loadPart' ho, wpAny_loadPart' hb, f1
  exact q
theorem tuple_no {items : Array Value} (X : K.In s.heap) (hl : s.heap.IsTuple l items) (hb : s.heap.get? b = some ox) (hc : ox.cls = .ref C) (hs : PySem.W.subIn K (.ref C) (.type "tuple") = some false) (q : Q .notImplemented s) :
    wpAny (model prog w) A (call (.builtin "tuple.__eq__") [.ref l, .ref b]) Q E s := by
  obtain ⟨⟨cls, dd, data, sl⟩, ho, hcl, n, hd⟩ := id hl
  simp only at hcl hd
  subst hcl hd
  refine GQ.call_here F.slot_tuple_eq ⟨_, ho, rfl⟩ F.entry_tuple_eq (F.args_tuple_eq_2 _ _) ?_
  have f1 : ∀ {A' : Around} {E' : Value → Shared → Prop} {Q' : Bool → Shared → Prop}, Q' false s → wpAny (model prog w) A' (isSubtype (.ref C) (.type "tuple")) Q' E' s := fun q' => (PySem.W.looks_subIn X hs).here q'
  obtain ⟨cls, dd2, data2, sl2⟩ := ox
  simp only at hc
  subst hc
  obtain ⟨hp, g, d, tk, os⟩ := s
  wp_walk using wpAny_loadPart' ho, wpAny_loadPart' hb, f1
  exact q
theorem int_no {i : Int} {t : Tok} (hb : s.heap.get? b = some ox) (hc : ox.cls = .ref C) (hd : ox.data = .plain) (q : Q .notImplemented s) :
    wpAny (model prog w) A (call (.builtin "int.__eq__") [.int i t, .ref b]) Q E s := by
  refine GQ.call_here F.slot_int_eq (typeIs_int _ _ _) F.entry_int_eq (F.args_int_eq_2 _ _) ?_
  obtain ⟨cls, dd2, data2, sl2⟩ := ox
  simp only at hc hd
  subst hc hd
  obtain ⟨hp, g, d, tk, os⟩ := s
  wp_walk using wpAny_loadPart' hb, wpAny_load hb
  exact q
theorem str_no {z : Str} {t : Tok} (hb : s.heap.get? b = some ox) (hc : ox.cls = .ref C) (hd : ox.data = .plain) (q : Q .notImplemented s) :
    wpAny (model prog w) A (call (.builtin "str.__eq__") [.str z t, .ref b]) Q E s := by
  refine GQ.call_here F.slot_str_eq (typeIs_str _ _ _) F.entry_str_eq (F.args_str_eq_2 _ _) ?_
  obtain ⟨cls, dd2, data2, sl2⟩ := ox
  simp only at hc hd
  subst hc hd
  obtain ⟨hp, g, d, tk, os⟩ := s
  wp_walk using wpAny_loadPart' hb, wpAny_load hb
  exact q
theorem none_no (hb : s.heap.get? b = some ox) (q : Q .notImplemented s) :
    wpAny (model prog w) A (call (.builtin "NoneType.__eq__") [.none, .ref b]) Q E s := by
  refine GQ.call_here F.slot_NoneType_eq rfl F.entry_NoneType_eq (F.args_NoneType_eq_2 _ _) ?_
  obtain ⟨hp, g, d, tk, os⟩ := s
  wp_walk using wpAny_loadPart' hb, wpAny_load hb
  exact q
end
end As

namespace As
open PySem PySem.Spec PyProof.Rows L2
open AutoSeq1 (wpAny_loadPart')
section
variable {prog : Program} {w : World} {A : Around} {E : Value → Shared → Prop} {s : Shared} {K : PySem.W.Frag} {x y l C f : Addr} {ox oy : Obj} {od od' : Option Obj} {R : Value → Shared → Prop}
/-- an item that declines, then the instance's own == -/
theorem rc_item {v : Value} {T id : String} (hu : A.units < cLine) (X : K.In s.heap) (hT : s.TypeIs v T) (J : PySem.W.InstAt s.heap x ox C od) (hs : PySem.W.subIn K (.ref C) (.type T) = some false) (slot : Slot T (cmpInfo .Eq).2.1 id)
    (no : ∀ Q : Value → Shared → Prop, Q .notImplemented s → wpAny (model prog w) A (call (.builtin id) [v, .ref x]) Q E s)
    (h1 : PySem.W.findIn K (.ref C) "__eq__" = some (some (.ref f))) (hf : PySem.W.isFn K (.ref f) = true) (h : wpAny (model prog w) A (call (.ref f) [.ref x, v]) (PySem.W.CmpBack R) E s) :
    wpAny (model prog w) A (richCompare .Eq v (.ref x)) R E s := by
  have one : wpAny (model prog w) A (tryCompare (.ref x) (cmpInfo .Eq).2.2 v) (fun r s' => ∃ u, r = some u ∧ R u s') E s := by
    unfold tryCompare
    refine wpAny_bind (PySem.W.ifBound_K X J h1 hf (wpAny_mono h (fun v s' hv => ?_) fun _ _ e => e))
    cases v <;> first | exact hv.elim | exact wpAny_pure ⟨_, rfl, hv⟩
  rcases hi : cmpInfo CmpOp.Eq with ⟨sym, g, r⟩
  rw [hi] at slot one
  simp only [richCompare, hi, hT.oneThing_none]
  refine wpAny_holding ?_
  refine wpAny_bind (wpAny_cRoomFor hu ?_)
  refine wpAny_bind (wpAny_typeOf hT (wpAny_bind (J.type.here ?_)))
  simp only [show (Value.type T != Value.ref C) = true from rfl, if_true]
  refine wpAny_bind ((PySem.W.looks_subIn X hs).here ?_)
  simp only [Bool.false_eq_true, if_false, Bool.not_false, if_true]
  refine wpAny_bind (m := tryCompare v _ (.ref x)) (wpAny_tryCompare_declines hT slot (no _ ⟨rfl, ?_⟩))
  refine wpAny_bind (m := tryCompare (.ref x) _ v) (wpAny_mono one (fun r s' z => ?_) fun _ _ e => e)
  obtain ⟨u, rfl, hq⟩ := z
  exact wpAny_pure hq
theorem eqb_item {v : Value} {Q : Bool → Shared → Prop} (hne : v ≠ .ref x) (h : wpAny (model prog w) A (richCompare .Eq v (.ref x)) (fun u s' => ∃ r, u = .bool r ∧ Q r s') E s) : wpAny (model prog w) A (eqBool v (.ref x)) Q E s := by
  unfold eqBool
  refine wpAny_holding ?_
  refine wpAny_ite_split (fun hab => absurd (eq_of_beq hab) hne) (fun _ => ?_)
  cases v <;> exact wpAny_bind (wpAny_mono h (fun v s' hv => by
    obtain ⟨r, rfl, q⟩ := hv
    exact wpAny_truthy_bool q) fun _ _ x => x)
/-- at each turn the list is read anew -/
def ContI (prog : Program) (w : World) (A : Around) (E : Value → Shared → Prop) (l : Addr) (v : Value) (N : Nat) (P : Nat → Shared → Prop) : Prop :=
  ∀ i s, P i s → ∃ (items : Array Value), s.heap.IsList l items ∧ items.size = N ∧
    ∀ (h1 : i < items.size), wpAny (model prog w) A.in1 (eqBool items[i] v) (fun r s' => r = false ∧ P (i + 1) s') E s
open MeetsSeq MeetsSeq2 MeetsSeq3 SeqRoads2 SeqAt in
theorem cont_loop {R : Result → Shared → Prop} (l : Addr) (v : Value) (N : Nat) (P : Nat → Shared → Prop) (hl : ContI prog w A (fun e s' => R (.error e) s') l v N P) (fin : ∀ s, P N s → R (.ok (.ret (.bool false))) s) (k : Nat) :
    ∀ i : Nat, N - i = k → i ≤ N → ∀ s, P i s →
      wpAny (model prog w) A.in1 (Builtin.«list.__contains__.loop» ⟨[.ref l, v, rawInt i], []⟩) (GQ.FinOf prog w A R) (fun e s' => R (.error e) s') s := by
  induction k with
  | zero =>
    intro i hk hi s h
    obtain ⟨items, hl0, hs1, _⟩ := hl _ _ h
    obtain ⟨⟨cls, dd, data, sl⟩, hl1, hcl, n, hd⟩ := id hl0
    simp only at hcl hd
    subst hcl hd
    have hi' : i = N := by omega
    have hR := fin s (hi' ▸ h)
    obtain ⟨hp, g, d, tk, os⟩ := s
    wp_walk using wpAny_loadPart' hl1
    have hi1 : items[((i : Nat) : Int).toNat]? = none := by simp; omega
    rw [hi1]
    wp_walk
    exact hR
  | succ k ih =>
    intro i hk hi s h
    obtain ⟨items, hl0, hs1, turn⟩ := hl _ _ h
    obtain ⟨⟨cls, dd, data, sl⟩, hl1, hcl, n, hd⟩ := id hl0
    simp only at hcl hd
    subst hcl hd
    have hlt : i < items.size := by omega
    have ht := turn hlt
    obtain ⟨hp, g, d, tk, os⟩ := s
    wp_walk using wpAny_loadPart' hl1
    have hi1 : items[((i : Nat) : Int).toNat]? = some items[i] := by simp [hlt]
    have hc : ((i : Int) + 1) = ((i + 1 : Nat) : Int) := by omega
    rw [hi1]
    refine wpAny_bind (wpAny_mono ht (fun r s2 h2 => ?_) fun _ _ x => x)
    obtain ⟨hr, h2⟩ := h2
    subst hr
    have hrec := ih (i + 1) (by omega) (by omega) s2 h2
    obtain ⟨hp2, g2, d2, tk2, os2⟩ := s2
    wp_walk
    rw [hc]
    exact ⟨plainId_quiet plain_contains_loop _, codeAny_builtin entry_contains_loop (by
      rw [Around.under_plainId plain_contains_loop _]
      exact hrec)⟩
open MeetsSeq MeetsSeq2 MeetsSeq3 SeqRoads2 SeqAt in
theorem in_listG {v : Value} {N : Nat} {Q : Value → Shared → Prop} (P : Nat → Shared → Prop) (hl : ContI prog w A E l v N P) (fin : ∀ s, P N s → Q (.bool false) s) (h : P 0 s) :
    wpAny (model prog w) A (compareOp .In v (.ref l)) Q E s := by
  obtain ⟨items, hl0, hs1, _⟩ := hl _ _ h
  obtain ⟨⟨cls, dd, data, sl⟩, hl1, hcl, n, hd⟩ := id hl0
  simp only at hcl hd
  subst hcl hd
  show wpAny _ A (do return .bool (← contains (.ref l) v)) Q E s
  refine wpAny_bind (wpAny_contains_slot ⟨_, hl1, rfl⟩ F.slot_list_contains (GQ.call_here F.slot_list_contains ⟨_, hl1, rfl⟩ F.entry_list_contains (F.args_list_contains_2 _ _) ?_))
  have hrec := cont_loop (A := A) (R := wants (fun r s' => wpAny (model prog w) A (truthy r) (fun a s' => wpAny (model prog w) A (pure (Value.bool a)) Q E s') E s') E) l v N P hl (fun s' q => wpAny_truthy_bool (wpAny_pure (fin s' q))) _ 0 rfl (Nat.zero_le _) s h
  obtain ⟨hp, g, d, tk, os⟩ := s
  wp_walk using wpAny_loadPart' hl1
  exact ⟨plainId_quiet plain_contains_loop _, codeAny_builtin entry_contains_loop (by
    rw [Around.under_plainId plain_contains_loop _]
    exact hrec)⟩
/-- x != y, by the own == of x -/
theorem ne_own (hu : A.units < cLine) (hu1 : A.in1.units < cLine) (X : K.In s.heap) (J : PySem.W.InstAt s.heap x ox C od) (J' : PySem.W.InstAt s.heap y oy C od') (hn : PySem.W.findIn K (.ref C) "__ne__" = some (some (.builtin "object.__ne__")))
    (ht : PySem.W.subIn K (.ref C) (.type "object") = some true) (h1 : PySem.W.findIn K (.ref C) "__eq__" = some (some (.ref f))) (hf : PySem.W.isFn K (.ref f) = true)
    (h : wpAny (model prog w) A.in1 (call (.ref f) [.ref x, .ref y]) (fun v s' => ∃ b, v = .bool b ∧ R (.bool (!b)) s') E s) :
    wpAny (model prog w) A (richCompare .NotEq (.ref x) (.ref y)) R E s := by
  have entry : wpAny (model prog w) A.in1 (Builtin.«object.__ne__» ⟨[.ref x, .ref y], []⟩) (GQ.FinOf prog w A (wants (fun v s' => ∃ b, v = .bool b ∧ R v s') E)) (fun e s' => wants (fun v s' => ∃ b, v = .bool b ∧ R v s') E (.error e) s') s := by
    unfold Builtin.«object.__ne__»
    repeat (first
      | with_reducible refine wpAny_cRoomFor hu1 ?_
      | (refine wpAny_bind (m := callSpecialIfBound? (.ref x) (Str.ofString "__eq__") [.ref y])
          (PySem.W.ifBound_K X J h1 hf (wpAny_mono h (fun r s' hr => by
            obtain ⟨b, rfl, hq⟩ := hr
            repeat (first | exact ⟨_, rfl, hq⟩ | exact hq | exact wpAny_pure hq | exact wpAny_truthy_bool hq | (refine wpAny_bind (m := truthy (.bool _)) (wpAny_truthy_bool ?_)) | wp_step)) fun _ _ e => e)))
      | wp_step)
  have call1 : wpAny (model prog w) A (call (.builtin "object.__ne__") [.ref x, .ref y]) (fun v s' => ∃ b, v = .bool b ∧ R v s') E s := by
    refine wpAny_call (codeAny_call_builtin F.slot_object_ne.plain F.cmpEntry_ne ?_)
    simp only [checkBuiltinCall, F.cmpKind_ne, F.cmpSplit_ne]
    refine wpAny_bind ?_
    unfold isInstance
    refine wpAny_bind (J.type.here ((PySem.W.looks_subIn X ht).here ?_))
    have ha := F.cmpArgs_ne (.ref x) (.ref y)
    simp only [Bool.not_true, Bool.false_eq_true, if_false]
    cases hsig : Manifest.signature? "object.__ne__" with
    | none => exact wpAny_pure entry
    | some sig =>
      simp only [argsOk, hsig] at ha
      have h2 : Bind.checkArgs "object.__ne__" sig ⟨[.ref x, .ref y], []⟩ = pure () := ha
      show wpAny _ _ (Bind.checkArgs "object.__ne__" sig ⟨[.ref x, .ref y], []⟩) _ _ _
      rw [h2]
      exact wpAny_pure entry
  have one : wpAny (model prog w) A (tryCompare (.ref x) "__ne__" (.ref y)) (fun r s' => ∃ u, r = some u ∧ R u s') E s := by
    simp only [tryCompare, callSpecialIfBound?, bindSpecialIfBound?]
    refine wpAny_bind (wpAny_holding (wpAny_bind (wpAny_bind (wpAny_bind (J.type.here ((PySem.W.looks_findIn X hn).here ?_))))))
    simp only [F.slot_object_ne.bind]
    refine wpAny_bind (wpAny_askSetting (wpAny_ite ?_))
    have fin : wpAny (model prog w) A (call (.builtin "object.__ne__") ([.ref x] ++ [.ref y]) >>= fun v => pure (some v)) (fun r s' => wpAny (model prog w) A (match r with
      | some .notImplemented | none => pure none
      | some v => pure (some v)) (fun r s' => ∃ u, r = some u ∧ R u s') E s') E s :=
      wpAny_bind (wpAny_mono call1 (fun v s' h' => by
        obtain ⟨b, rfl, q⟩ := h'
        exact wpAny_pure (wpAny_pure ⟨_, rfl, q⟩)) fun _ _ h' => h')
    split
    · exact wpAny_bind (wpAny_pure (wpAny_pure fin))
    · exact wpAny_tryCatch (wpAny_bind (wpAny_pure (wpAny_pure fin)))
  unfold richCompare
  simp only [oneThing_ref]
  refine wpAny_holding ?_
  refine wpAny_bind (wpAny_cRoomFor hu ?_)
  rw [cmpInfo_NotEq]
  dsimp only
  refine wpAny_bind (J.type.here (wpAny_bind (J'.type.here ?_)))
  rw [show (Value.ref C != Value.ref C) = false from by simp]
  simp only [Bool.false_eq_true, if_false]
  refine wpAny_bind (wpAny_pure ?_)
  simp only [Bool.false_eq_true, if_false]
  refine wpAny_bind (wpAny_mono one (fun r s' z => ?_) fun _ _ e => e)
  obtain ⟨u, rfl, hq⟩ := z
  exact wpAny_pure hq
end
end As

namespace As
open PySem PySem.Spec PyProof.Rows L2
section
variable {X : Cx} {CX : CXT} {n : Nat} {f C : Addr} {fd : FuncData} {ps : List Str} {sp : Sp} {E : XK}
/-- an own def called from inside a built-in -/
theorem run_below {A : Around} {pins : List (Addr × Obj)} {s : Shared} {σ : L2.St} {H : Hp} {us : List Value} {vs : List V} {Q : VK} (F : FnOk X.prog X.w X.K X.mg X.base CX n f fd ps sp) (hb : Binds X.K fd ps []) (hx : Passes CX X E) (sb : Sub X n A)
    (I : Inv X pins σ H s) (r : Vals vs us) (h : sp vs H Q E) : wpAny (model X.prog X.w) A (call (.ref f) us) (EP X pins σ Q) X.xe s := by
  have e0 : Env0 X.prog X.w X.K X.mg X.base A X.stack s H := by
    have e := I.env0
    exact ⟨by rw [sb.fr]; exact e.frames, e.mod, e.bs, e.bsz, e.funs, e.frf, e.hok, e.bare⟩
  have hl := F.len _ _ _ _ h
  refine wpAny_call (codeAny_mono (F.run A X.stack s H ⟨us, []⟩ us vs _ E sb.room e0 (by
    have := hb s us I.kIn (by rw [List.append_nil, ← r.length, hl])
    simpa using this) r h) fun r s' hq => ?_)
  cases r with
  | error e => exact hx pins σ H s e s' I hq
  | ok fl =>
    cases fl with
    | ret w => exact I.after hq
    | next => exact False.elim hq
    | brk => exact False.elim hq
    | cont => exact False.elim hq
theorem vback {v : V} {u : Value} {R : Value → Shared → Prop} {s : Shared} (r : RelV v u) (q : R u s) : PySem.W.CmpBack R u s := by
  cases u with
  | notImplemented => cases v <;> first | (cases (show Value.notImplemented = _ from r)) | (obtain ⟨_, z⟩ := (show ∃ t, Value.notImplemented = _ from r); cases z)
  | _ => exact q
/-- x == y of two instances -/
def rEqI (C : Addr) (sp : Sp) (E : XK) : R2 := fun x y H Q => ∃ a dx fs b dy gs, x = .ref a ∧ y = .ref b ∧ H a = some (.ins C dx fs) ∧ H b = some (.ins C dy gs) ∧ sp [.ref a, .ref b] H Q E
theorem op_eqI (F : FnOk X.prog X.w X.K X.mg X.base CX n f fd ps sp) (hb : Binds X.K fd ps []) (hx : Passes CX X E) (hr : Room n X.A) (hs : PySem.W.findIn X.K (.ref C) "__eq__" = some (some (.ref f))) (hf : PySem.W.isFn X.K (.ref f) = true) :
    OpR X (compareOp .Eq) (rEqI C sp E) := by
  intro pins s σ H x y v u Q I rx ry h
  obtain ⟨a, dx, fs, b, dy, gs, rfl, rfl, ha, hb', q⟩ := h
  cases (show v = Value.ref a from rx)
  cases (show u = Value.ref b from ry)
  obtain ⟨mA, J, _⟩ := ins_get I.hok ha
  obtain ⟨mB, J', _⟩ := ins_get I.hok hb'
  obtain ⟨od, J, _⟩ := J.look
  obtain ⟨od', J', _⟩ := J'.look
  obtain ⟨m, hF⟩ := I.fr
  show wpAny (model X.prog X.w) X.A (richCompare .Eq (.ref a) (.ref b)) (EP X pins σ Q) X.xe s
  refine PySem.W.cmp_K (op := .Eq) (tb := .ref C) hr.units0 hF I.ok.mod.kin J J'.type (by simp [PySem.W.notFirst]) hs hf ?_
  refine wpAny_mono (run_below (us := [.ref a, .ref b]) (vs := [.ref a, .ref b]) F hb hx ⟨hr, rfl⟩ I (.cons rfl (.cons rfl .nil)) q) (fun w s' z => ?_) fun _ _ x => x
  obtain ⟨z', H', I', rz, qz⟩ := z
  exact vback rz ⟨z', H', I', rz, qz⟩
def rNeI (C : Addr) (sp : Sp) (E : XK) : R2 := fun x y H Q => ∃ a dx fs b dy gs, x = .ref a ∧ y = .ref b ∧ H a = some (.ins C dx fs) ∧ H b = some (.ins C dy gs) ∧ sp [.ref a, .ref b] H (fun z H' => ∃ b, z = .bl b ∧ Q (.bl (!b)) H') E
theorem op_neI (F : FnOk X.prog X.w X.K X.mg X.base CX n f fd ps sp) (hb : Binds X.K fd ps []) (hx : Passes CX X E) (hr : Room (n + 1) X.A) (hs : PySem.W.findIn X.K (.ref C) "__eq__" = some (some (.ref f))) (hf : PySem.W.isFn X.K (.ref f) = true)
    (hn : PySem.W.findIn X.K (.ref C) "__ne__" = some (some (.builtin "object.__ne__"))) (ht : PySem.W.subIn X.K (.ref C) (.type "object") = some true) :
    OpR X (compareOp .NotEq) (rNeI C sp E) := by
  intro pins s σ H x y v u Q I rx ry h
  obtain ⟨a, dx, fs, b, dy, gs, rfl, rfl, ha, hb', q⟩ := h
  cases (show v = Value.ref a from rx)
  cases (show u = Value.ref b from ry)
  obtain ⟨mA, J, _⟩ := ins_get I.hok ha
  obtain ⟨mB, J', _⟩ := ins_get I.hok hb'
  obtain ⟨od, J, _⟩ := J.look
  obtain ⟨od', J', _⟩ := J'.look
  show wpAny (model X.prog X.w) X.A (richCompare .NotEq (.ref a) (.ref b)) (EP X pins σ Q) X.xe s
  have sb : Sub X n X.A.in1 := Sub.in1 ⟨hr, rfl⟩
  refine ne_own hr.units0 sb.room.units0 I.kIn J J' hn ht hs hf ?_
  refine wpAny_mono (run_below (us := [.ref a, .ref b]) (vs := [.ref a, .ref b]) F hb hx sb I (.cons rfl (.cons rfl .nil)) q) (fun w s' z => ?_) fun _ _ x => x
  obtain ⟨z', H', I', rz, c, e, qz⟩ := z
  subst e
  cases (show w = Value.bool c from rz)
  exact ⟨c, rfl, .bl (!c), H', I', rfl, qz⟩
/-- str(x) of an instance -/
def rStrI (C : Addr) (sp : Sp) (E : XK) : List V → Hp → VK → Prop := fun xs H Q => ∃ a dx fs, xs = [V.ref a] ∧ H a = some (.ins C dx fs) ∧ sp [.ref a] H (fun z H' => ∃ t, z = .str t ∧ Q z H') E
theorem call_strI (F : FnOk X.prog X.w X.K X.mg X.base CX n f fd ps sp) (hb : Binds X.K fd ps []) (hx : Passes CX X E) (hr : Room (n + 2) X.A) (hs : PySem.W.findIn X.K (.ref C) "__str__" = some (some (.ref f))) (hf : PySem.W.isFn X.K (.ref f) = true) :
    CallR X (.type "str") (rStrI C sp E) := by
  intro pins s σ H xs us Q I r h
  obtain ⟨a, dx, fs, rfl, ha, q⟩ := h
  obtain ⟨u, rfl, ru⟩ := r.one
  cases (show u = Value.ref a from ru)
  obtain ⟨mA, J, _⟩ := ins_get I.hok ha
  obtain ⟨od, J, _⟩ := J.look
  have sb : Sub X n X.A.in1.in1 := Sub.in1 (Sub.in1 ⟨hr, rfl⟩)
  refine PySem.W.kso_call sb.room.units0 I.kIn J hs hf ?_
  refine wpAny_mono (run_below (us := [.ref a]) (vs := [.ref a]) F hb hx sb I (.cons rfl .nil) q) (fun w s' z => ?_) fun _ _ x => x
  obtain ⟨z', H', I', rz, t, e, qz⟩ := z
  subst e
  obtain ⟨tk, e⟩ := (show ∃ tk, w = Value.str t tk from rz)
  subst e
  exact ⟨.str t, H', I', ⟨tk, rfl⟩, qz⟩
/-- what declines an instance -/
inductive Foe (H : Hp) : V → Prop where
  | non : Foe H .non
  | int (i : Int) : Foe H (.int i)
  | str (z : Str) : Foe H (.str z)
  | tup {a : Addr} {xs : List V} (h : H a = some (.tup xs)) : Foe H (.ref a)
  | lst {a : Addr} {xs : List V} (h : H a = some (.lst xs)) : Foe H (.ref a)
structure NoSubs (K : PySem.W.Frag) (C : Addr) : Prop where
  non : PySem.W.subIn K (.ref C) (.type "NoneType") = some false
  int : PySem.W.subIn K (.ref C) (.type "int") = some false
  str : PySem.W.subIn K (.ref C) (.type "str") = some false
  tup : PySem.W.subIn K (.ref C) (.type "tuple") = some false
  lst : PySem.W.subIn K (.ref C) (.type "list") = some false
/-- x in [...], all of other kinds -/
def rInI (C : Addr) (sp : Sp) (E : XK) : R2 := fun x y H Q => ∃ a dx fs l ys, x = .ref a ∧ y = .ref l ∧ H a = some (.ins C dx fs) ∧ H l = some (.lst ys) ∧ (∀ y ∈ ys, Foe H y) ∧
  (∀ y ∈ ys, ∀ H', Same H H' → sp [.ref a, y] H' (fun z H2 => z = .bl false ∧ Same H' H2) E) ∧ ∀ H', Same H H' → Q (.bl false) H'
theorem Foe.same {H H' : Hp} (e : Same H H') {v : V} (h : Foe H v) : Foe H' v := by
  cases h with
  | non => exact .non
  | int i => exact .int i
  | str z => exact .str z
  | tup h => exact .tup (e _ _ h)
  | lst h => exact .lst (e _ _ h)
theorem op_inI (F : FnOk X.prog X.w X.K X.mg X.base CX n f fd ps sp) (hb : Binds X.K fd ps []) (hx : Passes CX X E) (hr : Room (n + 1) X.A) (hs : PySem.W.findIn X.K (.ref C) "__eq__" = some (some (.ref f))) (hf : PySem.W.isFn X.K (.ref f) = true) (N : NoSubs X.K C) :
    OpR X (compareOp .In) (rInI C sp E) := by
  intro pins s σ H x y v u Q I rx ry h
  obtain ⟨a, dx, fs, l, ys, rfl, rfl, ha, hl, hy, hc, q⟩ := h
  cases (show v = Value.ref a from rx)
  cases (show u = Value.ref l from ry)
  have sb : Sub X n X.A.in1 := Sub.in1 ⟨hr, rfl⟩
  refine in_listG (N := ys.length) (fun _ s' => ∃ H', Inv X pins σ H' s' ∧ Same H H') (fun i s' hp => ?_) (fun s' hp => ?_) ⟨H, I, Same.refl H⟩
  · obtain ⟨H', I', e⟩ := hp
    obtain ⟨its, rv, p, _⟩ := I'.list (SqL.of (K := X.K) (e _ _ hl))
    refine ⟨its.toArray, p.isList, by rw [List.size_toArray, rv.length], fun h1 => ?_⟩
    have hi : i < ys.length := by
      rw [rv.length]
      simpa using h1
    obtain ⟨u, hu, ru⟩ := rv.get (List.getElem?_eq_getElem hi)
    have eu : its.toArray[i] = u := by
      have : its[i]? = some its.toArray[i] := by simp
      exact Option.some.inj (this.symm.trans hu)
    rw [eu]
    have hm : ys[i] ∈ ys := List.getElem_mem hi
    have hfoe := (hy _ hm).same e
    have hq := hc _ hm H' e
    obtain ⟨mA, J, _⟩ := ins_get I'.hok (e _ _ ha)
    obtain ⟨od, J, _⟩ := J.look
    have run : wpAny (model X.prog X.w) X.A.in1 (call (.ref f) [.ref a, u]) (PySem.W.CmpBack (fun z s2 => ∃ r, z = .bool r ∧ r = false ∧ ∃ H2, Inv X pins σ H2 s2 ∧ Same H H2)) X.xe s' := by
      refine wpAny_mono (run_below (us := [.ref a, u]) (vs := [.ref a, ys[i]]) F hb hx sb I' (.cons rfl (.cons ru .nil)) hq) (fun w s2 z => ?_) fun _ _ x => x
      obtain ⟨z', H2, I2, rz, ez, e2⟩ := z
      subst ez
      cases (show w = Value.bool false from rz)
      exact ⟨false, rfl, rfl, H2, I2, Same.trans e e2⟩
    generalize ys[i] = yv at hfoe ru
    have hun := sb.room.units0
    cases hfoe with
    | non =>
      cases (show u = Value.none from ru)
      exact eqb_item (fun z => nomatch z) (rc_item hun I'.kIn rfl J N.non PySem.F.slot_NoneType_eq (fun Q' q' => none_no J.at_ q') hs hf run)
    | int i =>
      obtain ⟨t, z⟩ := (show ∃ t, u = Value.int i t from ru)
      subst z
      exact eqb_item (fun z => nomatch z) (rc_item hun I'.kIn (typeIs_int _ _ _) J N.int PySem.F.slot_int_eq (fun Q' q' => int_no J.at_ J.cls rfl q') hs hf run)
    | str i =>
      obtain ⟨t, z⟩ := (show ∃ t, u = Value.str i t from ru)
      subst z
      exact eqb_item (fun z => nomatch z) (rc_item hun I'.kIn (typeIs_str _ _ _) J N.str PySem.F.slot_str_eq (fun Q' q' => str_no J.at_ J.cls rfl q') hs hf run)
    | @tup b xs h =>
      cases (show u = Value.ref b from ru)
      obtain ⟨its2, rv2, p2, _⟩ := I'.tuple (SqT.of (K := X.K) h)
      have p2' : s'.heap.IsTuple b its2.toArray := p2
      have hne : b ≠ a := fun z => by
        rw [z, e _ _ ha] at h
        cases h
      refine eqb_item (fun z => hne (by injection z)) (rc_item hun I'.kIn ?_ J N.tup PySem.F.slot_tuple_eq (fun Q' q' => tuple_no I'.kIn p2' J.at_ J.cls N.tup q') hs hf run)
      obtain ⟨o, ho, hc, _⟩ := p2'
      exact ⟨o, ho, hc⟩
    | @lst b xs h =>
      cases (show u = Value.ref b from ru)
      obtain ⟨its2, rv2, p2, _⟩ := I'.list (SqL.of (K := X.K) h)
      have hne : b ≠ a := fun z => by
        rw [z, e _ _ ha] at h
        cases h
      refine eqb_item (fun z => hne (by injection z)) (rc_item hun I'.kIn ?_ J N.lst PySem.F.slot_list_eq (fun Q' q' => list_no I'.kIn p2.isList J.at_ J.cls N.lst q') hs hf run)
      obtain ⟨o, ho, hc, _⟩ := p2.isList
      exact ⟨o, ho, hc⟩
  · obtain ⟨H', I', e⟩ := hp
    exact ⟨.bl false, H', I', rfl, q _ e⟩
end
end As

namespace As
open PySem PySem.Spec PyProof.Rows L2 TL
def topS (i : Nat) : Stmt := PySem.Challenge.pw_asifalone_k53_cuts_as_values.main.body.getD i (.Pass ⟨0, 0, 0, 0⟩)
abbrev sRow : Stmt := topS 1
abbrev sInit : Stmt := inClass (topS 2) 0
abbrev sEq : Stmt := inClass (topS 2) 1
abbrev sStr : Stmt := inClass (topS 2) 2
theorem scRow : FnScope ["row", "number"] ["row"] (defScope sRow) := ⟨rfl, rfl, rfl, by decide +kernel, rfl, by decide +kernel, by decide +kernel⟩
theorem scInit : FnScope ["self", "one", "at", "row"] ["self", "one", "at", "row"] (defScope sInit) := ⟨rfl, rfl, rfl, by decide +kernel, rfl, by decide +kernel, by decide +kernel⟩
theorem scEq : FnScope ["self", "other"] ["self", "other"] (defScope sEq) := ⟨rfl, rfl, rfl, by decide +kernel, rfl, by decide +kernel, by decide +kernel⟩
theorem scStr : FnScope ["self"] ["self"] (defScope sStr) := ⟨rfl, rfl, rfl, by decide +kernel, rfl, by decide +kernel, by decide +kernel⟩
/-- what the module's names hold -/
structure Mg (mg : Str → Option Value) : Prop where
  isinstance : mg "isinstance" = none
  int : mg "int" = none
  str : mg "str" = none
  tuple : mg "tuple" = none
  list : mg "list" = none
  len : mg "len" = none
  range : mg "range" = none
  max : mg "max" = none
  min : mg "min" = none
/-- what the class is -/
structure Tx (K : PySem.W.Frag) (mg : Str → Option Value) (C : Addr) : Prop where
  ic : C8.InsC K C
  n1 : NoAttr K C "one"
  n2 : NoAttr K C "at"
  n3 : NoAttr K C "row"
  gC : mg "Cut" = some (.ref C)
  kN : PySem.W.kitOne K (.type "NoneType") (.ref C) = some false
  kI : PySem.W.kitOne K (.type "int") (.ref C) = some false
  kS : PySem.W.kitOne K (.type "str") (.ref C) = some false
  kT : PySem.W.kitOne K (.type "tuple") (.ref C) = some false
  kL : PySem.W.kitOne K (.type "list") (.ref C) = some false
/-! ### texts -/
def sI (i : Int) : Str := (toString i : String)
def comma : Str := ","
theorem sI_len {i : Int} (h0 : 0 ≤ i) (h1 : i ≤ 100) : (sI i).length ≤ 3 := by
  have h : ∀ n : Fin 101, (sI ((n.val : Nat) : Int)).length ≤ 3 := by decide +kernel
  have := h ⟨i.toNat, by omega⟩
  rw [show (((⟨i.toNat, by omega⟩ : Fin 101).val : Nat) : Int) = i from by show ((i.toNat : Nat) : Int) = i; omega] at this
  exact this
theorem log_of {i : Int} (h0 : 0 ≤ i) (h1 : i ≤ 100) : i.natAbs.log2 < 1920 := by
  have h : ∀ n : Fin 101, n.val.log2 < 1920 := by decide +kernel
  have := h ⟨i.natAbs, by omega⟩
  exact this
def rowT (ns : List Int) : Str := Txt.join comma (ns.map sI)
def cutT (a b : Int) (ns : List Int) : Str := sI a ++ "." ++ sI b ++ ":" ++ rowT ns
def okN (ns : List Int) : Prop := ns.length ≤ 7 ∧ ∀ n ∈ ns, 0 ≤ n ∧ n ≤ 100
theorem joinL_le (c : Nat) : ∀ l : List (List Nat), (joinL [c] l).length ≤ (l.map List.length).sum + l.length
  | [] => by simp [joinL]
  | [x] => by simp [joinL]
  | x :: y :: r => by
    have ih := joinL_le c (y :: r)
    simp only [joinL, List.length_append, List.map_cons, List.sum_cons, List.length_cons, List.length_nil] at ih ⊢
    omega
theorem sums : ∀ {ns : List Int}, (∀ n ∈ ns, 0 ≤ n ∧ n ≤ 100) → ((ns.map sI).map (·.length)).sum ≤ 3 * ns.length
  | [], _ => by simp
  | n :: ns, h => by
    have h1 := sums fun m hm => h m (List.mem_cons_of_mem _ hm)
    have h2 := h n (List.mem_cons_self ..)
    have h3 := sI_len h2.1 h2.2
    simp only [List.map_cons, List.sum_cons, List.length_cons] at h1 ⊢
    omega
theorem rowT_len {ns : List Int} (h : okN ns) : (rowT ns).length ≤ 100 := by
  have h1 := sums h.2
  have h2 := joinL_le 44 ((ns.map sI).map tl)
  have h3 := h.1
  unfold rowT
  rw [join_eq, len_tl, tl_join]
  have e : tl comma = [44] := by decide +kernel
  rw [e]
  have e2 : ((ns.map sI).map tl).map List.length = (ns.map sI).map (·.length) := by
    rw [List.map_map]
    exact List.map_congr_left fun z _ => (len_tl z).symm
  rw [e2, List.length_map, List.length_map] at h2
  omega
theorem row_ok {ns : List Int} (h : okN ns) : ((ns.map sI).map (·.length)).sum + (ns.map sI).length * comma.length ≤ 16777216 := by
  have h1 := sums h.2
  have h3 := h.1
  have e : comma.length = 1 := by decide +kernel
  rw [e, List.length_map]
  omega
section
variable {P : Program} {w : World} {K : PySem.W.Frag} {mg : Str → Option Value} {base : Heap}
/-! ### row_text, of a list of numbers -/
def spRow : Sp := fun vs H Q _ => ∃ a ns, vs = [.ref a] ∧ H a = some (.lst (ns.map V.int)) ∧ okN ns ∧ ∀ H', Same H H' → Q (.str (rowT ns)) H'
theorem ok_row {f : Addr} {fd : FuncData} {k : Nat} (F : Fun K "row_text" "row_text" sRow f fd) (M : Mg mg) : FnOk P w K mg base CX0 (k + 1) f fd ["row"] spRow := by
  refine F.ok scRow (fun vs H Q E h => ?_) (fun cdv A outer s H vs Q E hr h => ?_)
  · obtain ⟨a, ns, rfl, _⟩ := h
    rfl
  · obtain ⟨a, ns, rfl, ha, ok, q⟩ := h
    refine ⟨_, pss_cons (ps_if (pt_not (pt_val (pe_callB call_isi (by rfl) M.isinstance (by decide +kernel) (pa_cons (pv 0) (pa_cons (pe_bltn (v := .ty "list") (by rfl) M.list (by decide +kernel) rfl) pa_nil)))))
        (pss_one (ps_ret (pe_callTy call_str_int (by rfl) M.str (by decide +kernel) (pa_cons (pv 0) pa_nil)))) pss_nil)
      (pss_one (ps_ret (pe_join pe_str
        (pe_lc (own := [("number", 1)]) (g := gName 1) (tt := tYes) (by rfl) scRow.nd (pi_list (pv 0)) (blkOk_by (own := [("number", 1)]) (N := ["row", "number"]) (sc := defScope sRow) (by decide +kernel))
        (fun _ _ _ _ _ => pg_name (i := 1) scRow.nd rfl (Or.inl rfl)) (fun _ _ _ _ _ => pts_nil)
        (fun _ _ _ _ _ => pe_callTy call_str_int (by rfl) M.str (by decide +kernel) (pa_cons (pv 1) pa_nil)))))), ?_⟩
    have h7 := ok.1
    refine ⟨.ref a, rfl, .ref a, .ty "list", _, _, _, rfl, .ty _, .base (.lst ha), kit_ty (show kitB "list" "list" = some true by decide +kernel), _, rfl, iteF ?_⟩
    refine ⟨⟨_, rfl⟩, .ref a, rfl, a, rfl, ⟨_, SqL.of ha⟩, fun D1 hD1 => ?_⟩
    refine lc_kept (walk_list (xs := ns.map V.int)) (fun _ => true) (fun i => .str (sI (ns.getD i 0))) hD1 (by rw [List.length_map]; omega) (fun H' e => SqL.of (e _ _ ha)) (fun i x H2 H3 N R hi e2 y hN hR => ?_) (fun H2 e2 hL => ?_)
    · obtain ⟨rfl, hx⟩ := y
      rw [List.length_map] at hi
      rw [List.getElem?_map, List.getElem?_eq_getElem hi] at hx
      cases hx
      have hb := ok.2 _ (List.getElem_mem hi)
      refine ⟨rfl, yesI ⟨_, rfl, ns[i], rfl, log_of hb.1 hb.2, ?_⟩⟩
      have := hR rfl _ (Same.refl _)
      rw [List.getD_eq_getElem?_getD, List.getElem?_eq_getElem hi] at this
      exact this
    · rw [kept_all, List.length_map] at hL
      have e : (List.range ns.length).map (fun i => V.str (sI (ns.getD i 0))) = (ns.map sI).map V.str := by
        apply List.ext_getElem?
        intro i
        by_cases hi : i < ns.length
        · simp [hi]
        · simp [hi]
      rw [e] at hL
      refine ⟨comma, D1, ns.map sI, rfl, rfl, .inl (SqL.of hL), row_ok ok, ?_⟩
      exact q H2 e2
end
end As

namespace As
open PySem PySem.Spec PyProof.Rows L2 TL
/-! ### a cut -/
def flds (o a r : V) : List (Str × V) := [("one", o), ("at", a), ("row", r)]
theorem flds_put (o a r : V) : putF "row" r (putF "at" a (putF "one" o [])) = flds o a r := rfl
theorem flds_1 (o a r : V) : (flds o a r).lookup ("one" : Str) = some o := rfl
theorem flds_2 (o a r : V) : (flds o a r).lookup ("at" : Str) = some a := rfl
theorem flds_3 (o a r : V) : (flds o a r).lookup ("row" : Str) = some r := rfl
/-- what is no list -/
inductive Odd (H : Hp) : V → Prop where
  | non : Odd H .non
  | str (z : Str) : Odd H (.str z)
  | tup {a : Addr} {xs : List V} (h : H a = some (.tup xs)) : Odd H (.ref a)
theorem Odd.ty {K : PySem.W.Frag} {H : Hp} {v : V} (h : Odd H v) : ∃ t, TyX K H v (.type t) ∧ kitB t "list" = some false := by
  cases h with
  | non => exact ⟨_, .base .non, by decide +kernel⟩
  | str z => exact ⟨_, .base (.str z), by decide +kernel⟩
  | tup h => exact ⟨_, .base (.tup h), by decide +kernel⟩
theorem Odd.keep {H H' : Hp} {x C dx : Addr} {fs : List (Str × V)} (hx : H x = some (.ins C dx fs)) (e : ∀ b, b ≠ x → H' b = H b) {v : V} (h : Odd H v) : Odd H' v := by
  cases h with
  | non => exact .non
  | str z => exact .str z
  | @tup a xs h => exact .tup ((e a fun z => by rw [z, hx] at h; cases h).trans h)
section
variable {P : Program} {w : World} {K : PySem.W.Frag} {mg : Str → Option Value} {base : Heap}
def spInit (C : Addr) : Sp := fun vs H Q _ => ∃ x dx o a r, vs = [.ref x, o, a, r] ∧ H x = some (.ins C dx []) ∧
  ((∃ q ys, r = .ref q ∧ H q = some (.lst ys) ∧ ∀ p H', H p = none → (∀ b u, b ≠ x → H b = some u → H' b = some u) → H' x = some (.ins C dx (flds o a (.ref p))) → H' p = some (.lst ys) → Q .non H') ∨
   (Odd H r ∧ ∀ H', (∀ b u, b ≠ x → H b = some u → H' b = some u) → H' x = some (.ins C dx (flds o a r)) → Q .non H'))
theorem ok_init {f C : Addr} {fd : FuncData} {k : Nat} (F : Fun K "__init__" "Cut.__init__" sInit f fd) (M : Mg mg) (T : Tx K mg C) : FnOk P w K mg base CX0 (k + 1) f fd ["self", "one", "at", "row"] (spInit C) := by
  refine F.ok scInit (fun vs H Q E h => ?_) (fun cdv A outer s H vs Q E hr h => ?_)
  · obtain ⟨x, dx, o, a, r, rfl, _⟩ := h
    rfl
  · obtain ⟨x, dx, o, a, r, rfl, hx, h⟩ := h
    refine ⟨_, pss_cons (ps_fld (pv 0) (pv 1) rfl) (pss_cons (ps_fld (pv 0) (pv 2) rfl) (pss_one (ps_fld (pv 0)
      (pe_ifExp (pt_val (pe_callB call_isi (by rfl) M.isinstance (by decide +kernel) (pa_cons (pv 3) (pa_cons (pe_bltn (v := .ty "list") (by rfl) M.list (by decide +kernel) rfl) pa_nil))))
        (pe_callTy call_list_of (by rfl) M.list (by decide +kernel) (pa_cons (pv 3) pa_nil)) (pv 3)) rfl))), ?_⟩
    refine ⟨o, rfl, .ref x, rfl, x, C, dx, _, rfl, hx, T.ic.cl, T.n1, (by show 0 < 1000; decide), a, rfl, .ref x, rfl, x, C, dx, _, rfl, upd_same, T.ic.cl, T.n2, (by show 1 < 1000; decide), r, rfl, ?_⟩
    generalize hH1 : upd (upd H x (.ins C dx (putF "one" o []))) x (.ins C dx (putF "at" a (putF "one" o []))) = H1
    have h1x : H1 x = some (.ins C dx (putF "at" a (putF "one" o []))) := by rw [← hH1]; exact upd_same
    have h1e : ∀ b, b ≠ x → H1 b = H b := fun b hb => by rw [← hH1, upd_ne hb, upd_ne hb]
    rcases h with ⟨q, ys, rfl, hq, k⟩ | ⟨od, k⟩
    · have nq : q ≠ x := fun z => by rw [z, hx] at hq; cases hq
      have h1q := (h1e q nq).trans hq
      refine ⟨.ref q, .ty "list", _, _, _, rfl, .ty _, .base (.lst h1q), kit_ty (show kitB "list" "list" = some true by decide +kernel), _, rfl, iteT ?_⟩
      refine ⟨.ref q, rfl, q, ys, rfl, .inl (SqL.of h1q), fun p np => ?_⟩
      have npx : p ≠ x := (ne_of_none h1x np).symm
      have np0 : H p = none := (h1e p npx).symm.trans np
      refine ⟨.ref x, rfl, x, C, dx, _, rfl, (upd_ne npx.symm).trans h1x, T.ic.cl, T.n3, (by show 2 < 1000; decide), ?_⟩
      refine k p _ np0 (fun b u hb e => ?_) upd_same ?_
      · rw [upd_ne hb, upd_ne (ne_of_none e np0), h1e b hb]
        exact e
      · rw [upd_ne npx, upd_same]
    · obtain ⟨t, ty, hk⟩ := (od.keep hx h1e).ty (K := K)
      refine ⟨r, .ty "list", _, _, _, rfl, .ty _, ty, kit_ty hk, _, rfl, iteF ?_⟩
      refine ⟨r, rfl, .ref x, rfl, x, C, dx, _, rfl, h1x, T.ic.cl, T.n3, (by show 2 < 1000; decide), ?_⟩
      refine k _ (fun b u hb e => ?_) upd_same
      rw [upd_ne hb, h1e b hb]
      exact e
/-! ### == -/
def spEqC (K : PySem.W.Frag) (C : Addr) : Sp := fun vs H Q _ => ∃ x y, vs = [.ref x, y] ∧
  ((∃ b dx dy i1 j1 r1 d1 i2 j2 r2 d2, y = .ref b ∧ H x = some (.ins C dx (flds (.int i1) (.int j1) r1)) ∧ H b = some (.ins C dy (flds (.int i2) (.int j2) r2)) ∧ Dp K H r1 d1 ∧ Dp K H r2 d2 ∧ SeqAt.shaped d1 = true ∧ SeqAt.shaped d2 = true ∧
      Q (.bl (decide (i1 = i2) && decide (j1 = j2) && PyData.eqv d1 d2)) H) ∨
   (Foe H y ∧ Q (.bl false) H))
theorem Foe.no {C : Addr} (T : Tx K mg C) {H : Hp} {v : V} (h : Foe H v) : ∃ t, TyX K H v (.type t) ∧ PySem.W.kitOne K (.type t) (.ref C) = some false := by
  cases h with
  | non => exact ⟨_, .base .non, T.kN⟩
  | int i => exact ⟨_, .base (.int i), T.kI⟩
  | str z => exact ⟨_, .base (.str z), T.kS⟩
  | tup h => exact ⟨_, .base (.tup h), T.kT⟩
  | lst h => exact ⟨_, .base (.lst h), T.kL⟩
theorem ok_eq {f C : Addr} {fd : FuncData} {k : Nat} (F : Fun K "__eq__" "Cut.__eq__" sEq f fd) (M : Mg mg) (T : Tx K mg C) : FnOk P w K mg base CX0 (k + 1) f fd ["self", "other"] (spEqC K C) := by
  refine F.ok scEq (fun vs H Q E h => ?_) (fun cdv A outer s H vs Q E hr h => ?_)
  · obtain ⟨x, y, rfl, _⟩ := h
    rfl
  · obtain ⟨x, y, rfl, h⟩ := h
    have hu : _ + 64 < cLine := Nat.lt_of_le_of_lt (Nat.le_succ _) (hu65 hr)
    refine ⟨_, pss_one (ps_ret (pe_and (pe_callB call_isi (by rfl) M.isinstance (by decide +kernel) (pa_cons (pv 1) (pa_cons (pe_glob (v := .ref C) (by rfl) T.gC rfl) pa_nil)))
      (pe_and (pe_cmpR op_eq (pe_fld (pv 0) rfl) (pe_fld (pv 1) rfl) (nomark _))
      (pe_and (pe_cmpR op_eq (pe_fld (pv 0) rfl) (pe_fld (pv 1) rfl) (nomark _))
      (pe_one (pe_cmpR (op_eqD hu) (pe_fld (pv 0) rfl) (pe_fld (pv 1) rfl) (by rfl))))))), ?_⟩
    refine ⟨y, rfl, ?_⟩
    rcases h with ⟨b, dx, dy, i1, j1, r1, d1, i2, j2, r2, d2, rfl, hx, hb, p1, p2, s1, s2, q⟩ | ⟨fo, q⟩
    · refine ⟨.ref b, .ref C, _, _, _, rfl, .own C, .base (.ins hb T.ic.cl T.ic.ha T.ic.hn T.ic.htk T.ic.hm), T.ic.me, _, rfl, iteT ?_⟩
      refine ⟨.ref x, rfl, x, C, dx, _, _, rfl, hx, T.ic.cl, T.n1, flds_1 _ _ _, .ref b, rfl, b, C, dy, _, _, rfl, hb, T.ic.cl, T.n1, flds_1 _ _ _, rfl, _, rfl, ?_⟩
      have e1 : decide (V.int i1 = V.int i2) = decide (i1 = i2) := decide_eq_decide.mpr ⟨fun z => V.int.inj z, fun z => by rw [z]⟩
      have e2 : decide (V.int j1 = V.int j2) = decide (j1 = j2) := decide_eq_decide.mpr ⟨fun z => V.int.inj z, fun z => by rw [z]⟩
      rw [e1]
      cases h1 : decide (i1 = i2) with
      | false =>
        rw [h1] at q
        exact iteF q
      | true =>
        rw [h1, Bool.true_and] at q
        refine iteT ⟨.ref x, rfl, x, C, dx, _, _, rfl, hx, T.ic.cl, T.n2, flds_2 _ _ _, .ref b, rfl, b, C, dy, _, _, rfl, hb, T.ic.cl, T.n2, flds_2 _ _ _, rfl, _, rfl, ?_⟩
        rw [e2]
        cases h2 : decide (j1 = j2) with
        | false =>
          rw [h2] at q
          exact iteF q
        | true =>
          rw [h2, Bool.true_and] at q
          exact iteT ⟨.ref x, rfl, x, C, dx, _, _, rfl, hx, T.ic.cl, T.n3, flds_3 _ _ _, .ref b, rfl, b, C, dy, _, _, rfl, hb, T.ic.cl, T.n3, flds_3 _ _ _, d1, d2, p1, p2, s1, s2, q⟩
    · obtain ⟨t, ty, hk⟩ := fo.no T
      exact ⟨y, .ref C, _, _, _, rfl, .own C, ty, hk, _, rfl, iteF q⟩
/-! ### str -/
def spStr (C : Addr) : Sp := fun vs H Q _ => ∃ x dx i j p ns, vs = [.ref x] ∧ H x = some (.ins C dx (flds (.int i) (.int j) (.ref p))) ∧ H p = some (.lst (ns.map V.int)) ∧ 0 ≤ i ∧ i ≤ 100 ∧ 0 ≤ j ∧ j ≤ 100 ∧ okN ns ∧ ∀ H', Same H H' → Q (.str (cutT i j ns)) H'
theorem emp_cat (z : Str) : Str.empty ++ z = z := ext_tl (by rw [tl_append]; rfl)
theorem ok_str {f f1 C : Addr} {fd fd1 : FuncData} {k : Nat} (F : Fun K "__str__" "Cut.__str__" sStr f fd) (M : Mg mg) (T : Tx K mg C) (G1 : FnOk P w K mg base CX0 k f1 fd1 ["row"] spRow) (g1 : mg "row_text" = some (.ref f1)) (k1 : PySem.W.keepIn K (.ref f1) = true) (b1 : Binds K fd1 ["row"] []) :
    FnOk P w K mg base CX0 (k + 1) f fd ["self"] (spStr C) := by
  refine F.ok scStr (fun vs H Q E h => ?_) (fun cdv A outer s H vs Q E hr h => ?_)
  · obtain ⟨x, dx, i, j, p, ns, rfl, _⟩ := h
    rfl
  · obtain ⟨x, dx, i, j, p, ns, rfl, hx, hp, i0, i1, j0, j1, ok, q⟩ := h
    refine ⟨_, pss_one (ps_ret (pe_joined (.cons (pe_fmt (pe_fld (pv 0) rfl)) (.cons pe_str (.cons (pe_fmt (pe_fld (pv 0) rfl)) (.cons pe_str (.cons (pe_fmt (pe_call G1 hr (by rfl) g1 k1 b1 .nil pass0 (pa_cons (pe_fld (pv 0) rfl) pa_nil))) .nil))))))), ?_⟩
    have l1 := sI_len i0 i1
    have l2 := sI_len j0 j1
    have l3 := rowT_len ok
    have c1 : ∀ a b : Str, (a ++ b).length = a.length + b.length := fun a b => by rw [len_tl, len_tl, len_tl, tl_append, List.length_append]
    have ld : (("." : Str)).length = 1 := by decide +kernel
    have lc : ((":" : Str)).length = 1 := by decide +kernel
    refine ⟨.ref x, rfl, x, C, dx, _, _, rfl, hx, T.ic.cl, T.n1, flds_1 _ _ _, .inr ⟨i, rfl, log_of i0 i1, sI i, rfl, ?_, ".", rfl, ?_, ?_⟩⟩
    · rw [emp_cat]
      exact sl_of (by omega)
    · rw [emp_cat, c1, ld]
      exact sl_of (by omega)
    refine ⟨.ref x, rfl, x, C, dx, _, _, rfl, hx, T.ic.cl, T.n2, flds_2 _ _ _, .inr ⟨j, rfl, log_of j0 j1, sI j, rfl, ?_, ":", rfl, ?_, ?_⟩⟩
    · rw [emp_cat, c1, c1, ld]
      exact sl_of (by omega)
    · rw [emp_cat, c1, c1, c1, ld, lc]
      exact sl_of (by omega)
    refine ⟨.ref x, rfl, x, C, dx, _, _, rfl, hx, T.ic.cl, T.n3, flds_3 _ _ _, p, ns, rfl, hp, ok, fun H1 e1 => .inl ⟨rowT ns, rfl, sl_of (by omega), rowT ns, rfl, ?_, ?_⟩⟩
    · rw [emp_cat, c1, c1, c1, c1, ld, lc]
      exact sl_of (by omega)
    · rw [emp_cat]
      exact q H1 e1
end
end As

namespace As
open PySem PySem.Spec PyProof.Rows L2 TL
abbrev sCellAt : Stmt := topS 4
abbrev sDigit : Stmt := topS 5
abbrev sParts : Stmt := topS 6
abbrev sOther : Stmt := topS 7
abbrev sText : Stmt := topS 8
theorem scCellAt : FnScope ["_law_script", "_law_k"] ["_law_script", "_law_k"] (defScope sCellAt) := ⟨rfl, rfl, rfl, by decide +kernel, rfl, by decide +kernel, by decide +kernel⟩
theorem scDigit : FnScope ["_law_state", "_law_base", "_law_cell", "_law_found", "_law_number"] ["_law_state", "_law_base"] (defScope sDigit) := ⟨rfl, rfl, rfl, by decide +kernel, rfl, by decide +kernel, by decide +kernel⟩
theorem scParts : FnScope ["_law_state", "_law_numbers", "_law_k"] ["_law_state"] (defScope sParts) := ⟨rfl, rfl, rfl, by decide +kernel, rfl, by decide +kernel, by decide +kernel⟩
theorem scOther : FnScope ["_law_state", "_law_parts_here", "_law_way", "_law_first", "_law_place", "_law_numbers"] ["_law_state", "_law_parts_here"] (defScope sOther) := ⟨rfl, rfl, rfl, by decide +kernel, rfl, by decide +kernel, by decide +kernel⟩
theorem scText : FnScope ["_law_parts_here", "_law_number"] ["_law_parts_here"] (defScope sText) := ⟨rfl, rfl, rfl, by decide +kernel, rfl, by decide +kernel, by decide +kernel⟩
section
variable {P : Program} {w : World} {K : PySem.W.Frag} {mg : Str → Option Value} {base : Heap}
/-! ### cell_at -/
def spCellAt (K : PySem.W.Frag) : Sp := fun vs H Q _ => ∃ (a : Addr) (k : Nat) (ns : List Int), vs = [.ref a, .int (k : Int)] ∧ SqL K H a (ns.map V.int) ∧ ∀ i, Q (.int i) H
theorem ok_cell_at {f : Addr} {fd : FuncData} {k : Nat} (F : Fun K "_law_cell_at" "_law_cell_at" sCellAt f fd) (M : Mg mg) : FnOk P w K mg base CX0 (k + 1) f fd ["_law_script", "_law_k"] (spCellAt K) := by
  refine F.ok scCellAt (fun vs H Q E h => ?_) (fun cdv A outer s H vs Q E hr h => ?_)
  · obtain ⟨a, k, ns, rfl, _⟩ := h
    rfl
  · obtain ⟨a, k, ns, rfl, hS, q⟩ := h
    refine ⟨_, pss_cons (ps_if (pt_cmpR op_lt (pv 1) (pe_callB call_len_seq (by rfl) M.len PySem.boot_len (pa_cons (pv 0) pa_nil)) (nomark _)) (pss_one (ps_ret (pe_ix ix_list (pv 0) (pv 1) (fun _ _ => rfl)))) pss_nil)
      (pss_one (ps_ret pe_int)), ?_⟩
    refine ⟨_, rfl, .ref a, rfl, a, _, rfl, .inl hS, _, _, rfl, rfl, _, rfl, ite2 (fun e => ?_) (fun e => ?_)⟩
    · have e' := of_decide_eq_true e
      have hk : k < ns.length := by
        rw [List.length_map] at e'
        omega
      refine ⟨.ref a, rfl, _, rfl, a, _, k, .int ns[k], rfl, rfl, hS, atI_nat ?_, q _⟩
      rw [List.getElem?_map, List.getElem?_eq_getElem hk]
      rfl
    · exact q 0
/-! ### digit: the state has one cell, or three -/
def Well (st : Addr) (H : Hp) : Prop := (∃ c : Int, H st = some (.lst [.int c])) ∨ ∃ a b c : Int, H st = some (.lst [.int a, .int b, .int c])
theorem Well.same {st : Addr} {H H' : Hp} (e : Same H H') (h : Well st H) : Well st H' := by
  rcases h with ⟨c, h⟩ | ⟨a, b, c, h⟩
  · exact .inl ⟨c, e _ _ h⟩
  · exact .inr ⟨a, b, c, e _ _ h⟩
theorem Well.ne {st p : Addr} {H : Hp} (h : Well st H) (np : H p = none) : p ≠ st := by
  rcases h with ⟨c, h⟩ | ⟨a, b, c, h⟩
  · exact (ne_of_none h np).symm
  · exact (ne_of_none h np).symm
def spDraw : Sp := fun vs H Q _ => ∃ (st : Addr) (b : Int), vs = [.ref st, .int b] ∧ Well st H ∧ 0 < b ∧ b < 1000000000 ∧ ∀ r H', 0 ≤ r → r < b → Well st H' → ExS st H H' → Q (.int r) H'
theorem ok_digit {f : Addr} {fd : FuncData} {k : Nat} (F : Fun K "_law_digit" "_law_digit" sDigit f fd) (M : Mg mg) : FnOk P w K mg base CX0 (k + 1) f fd ["_law_state", "_law_base"] spDraw := by
  refine F.ok scDigit (fun vs H Q E h => ?_) (fun cdv A outer s H vs Q E hr h => ?_)
  · obtain ⟨st, b, rfl, _⟩ := h
    rfl
  · obtain ⟨st, bs, rfl, hW, hb0, hb1, q⟩ := h
    refine ⟨_, C8.pss_cut (ps_if (pt_cmpR op_eq (pe_callB call_len_seq (by rfl) M.len PySem.boot_len (pa_cons (pv 0) pa_nil)) pe_int (nomark _))
        (pss_cons (ps_set (i := 2) scDigit.nd rfl (.inl rfl) (pe_ix ix_list (pv 0) pe_int (fun _ _ => rfl)))
        (pss_cons (ps_asg (pe_ix ix_list (pe_lst (pa_cons pe_int (pa_cons (pv 2) pa_nil))) (pe_callTy call_int1 (by rfl) M.int (by decide +kernel) (pa_cons (pe_cmpR op_ge (pv 2) (pe_op op_pow pe_int pe_int) (nomark _)) pa_nil)) (fun _ _ => rfl)) (pg_sub (pv 0) pe_int set_list))
        (pss_one (ps_expr (pe_bm PySem.F.plainAttrs_list PySem.F.slot_list_extend PySem.F.type_list_extend mt_extend (pv 0) (pa_cons (pe_lst (pa_cons (pe_op op_mod (pv 2) pe_int) (pa_cons pe_int pa_nil))) pa_nil)))))) pss_nil)
      (pss_cons (ps_if (pt_cmpR op_gt (pe_ix ix_list (pv 0) pe_int (fun _ _ => rfl)) pe_int (nomark _))
        (pss_cons (ps_set (i := 3) scDigit.nd rfl (.inl rfl) (pe_op op_mod (pe_ix ix_list (pv 0) pe_int (fun _ _ => rfl)) (pv 1)))
        (pss_cons (ps_asg (pe_op op_fdiv (pe_ix ix_list (pv 0) pe_int (fun _ _ => rfl)) (pv 1)) (pg_sub (pv 0) pe_int set_list))
        (pss_one (ps_ret (pv 3))))) pss_nil)
      (pss_cons (ps_asg (pe_add (pe_ix ix_list (pv 0) pe_int (fun _ _ => rfl)) pe_int) (pg_sub (pv 0) pe_int set_list))
      (pss_cons (ps_set (i := 4) scDigit.nd rfl (.inl rfl) (pe_op op_mod (pe_op op_mul (pe_add (pe_add (pe_ix ix_list (pv 0) pe_int (fun _ _ => rfl)) (pe_op op_mul pe_int (pe_ix ix_list (pv 0) pe_int (fun _ _ => rfl)))) pe_int) pe_int) pe_int))
      (pss_cons (ps_set (i := 4) scDigit.nd rfl (.inl rfl) (pe_op op_mod (pe_op op_mul (pv 4) (pe_add (pe_op op_fdiv (pv 4) pe_int) pe_int)) pe_int))
      (pss_one (ps_ret (pe_op op_mod (pe_op op_mod (pe_op op_mul (pv 4) (pe_add (pe_op op_fdiv (pv 4) pe_int) pe_int)) pe_int) (pv 1)))))))), ?_⟩
    refine ⟨fun σ H1 => ∃ (y2 : Option V) (a b c : Int), σ = [some (.ref st), some (.int bs), y2, none, none] ∧ ExS st H H1 ∧ H1 st = some (.lst [.int a, .int b, .int c]), ?_, ?_⟩
    · rcases hW with ⟨c, h⟩ | ⟨a, b, c, h⟩
      · refine ⟨.ref st, rfl, st, _, rfl, .inl (SqL.of h), rfl, _, rfl, iteT ?_⟩
        refine ⟨.ref st, rfl, st, _, 0, .int c, rfl, rfl, SqL.of h, rfl, .int c, rfl, by show 2 ≤ sizeLine; decide, fun p np => ?_⟩
        have n1 : p ≠ st := (ne_of_none h np).symm
        refine ⟨.int c, rfl, 10, 18, rfl, rfl, ⟨by decide, by decide, by decide⟩, c, _, rfl, rfl, .inr ⟨_, rfl, ?_⟩⟩
        obtain ⟨v, hv⟩ : ∃ v : Int, atI [V.int 0, V.int c] (if decide ((10 : Int) ^ (18 : Int).toNat ≤ c) then 1 else 0) = some (.int v) := by
          cases decide ((10 : Int) ^ (18 : Int).toNat ≤ c)
          · exact ⟨0, rfl⟩
          · exact ⟨c, rfl⟩
        refine ⟨p, [.int 0, .int c], _, .int v, rfl, rfl, SqL.of upd_same, hv, .ref st, rfl, st, _, 0, 0, rfl, rfl, (upd_ne n1.symm).trans h, rfl, ?_⟩
        refine ⟨.ref st, rfl, .inl ⟨rfl, _, SqL.of upd_same⟩, .int c, rfl, c, 2147483647, rfl, rfl, (show (0 : Int) < 2147483647 by decide), by show 2 ≤ sizeLine; decide, fun p2 np2 => ?_⟩
        have n2 : p2 ≠ st := (ne_of_none upd_same np2).symm
        refine ⟨st, p2, [.int v], [.int (c % 2147483647), .int 0], rfl, rfl, (upd_ne n2.symm).trans upd_same, upd_same, by show 3 ≤ sizeLine; decide, ?_⟩
        refine ⟨some (.int c), v, c % 2147483647, 0, rfl, fun x o nx hx => ?_, upd_same⟩
        have nxp : x ≠ p := ne_of_none hx np
        have hx1 : (upd (upd H p (.lst [.int 0, .int c])) st (.lst [.int v])) x = some o := by rw [upd_ne nx, upd_ne nxp]; exact hx
        rw [upd_ne nx, upd_ne (ne_of_none hx1 np2)]
        exact hx1
      · refine ⟨.ref st, rfl, st, _, rfl, .inl (SqL.of h), rfl, _, rfl, iteF ?_⟩
        exact ⟨none, a, b, c, rfl, ExS.refl _ _, h⟩
    rintro σ H1 ⟨y2, a, b, c, rfl, e1, h⟩
    refine ⟨.ref st, rfl, st, _, 0, .int a, rfl, rfl, SqL.of h, rfl, a, 0, rfl, rfl, _, rfl, ite2 (fun e => ?_) (fun e => ?_)⟩
    · refine ⟨.ref st, rfl, st, _, 0, .int a, rfl, rfl, SqL.of h, rfl, .int bs, rfl, a, bs, rfl, rfl, hb0, ?_⟩
      refine ⟨.ref st, rfl, st, _, 0, .int a, rfl, rfl, SqL.of h, rfl, .int bs, rfl, a, bs, rfl, rfl, ⟨hb0, by omega⟩, .ref st, rfl, st, _, 0, 0, rfl, rfl, h, rfl, ?_⟩
      refine ⟨.int (a % bs), rfl, q _ _ (Int.emod_nonneg _ (by omega)) (Int.emod_lt_of_pos _ hb0) (.inr ⟨a / bs, b, c, upd_same⟩) (e1.trans ExS.at_)⟩
    · refine ⟨.ref st, rfl, st, _, 2, .int c, rfl, rfl, SqL.of h, rfl, c, 1, rfl, rfl, .ref st, rfl, st, _, 2, 2, rfl, rfl, h, rfl, ?_⟩
      have h2 : (upd H1 st (.lst ([.int a, .int b, .int c].set 2 (.int (c + 1))))) st = some (.lst [.int a, .int b, .int (c + 1)]) := upd_same
      refine ⟨.ref st, rfl, st, _, 1, .int b, rfl, rfl, SqL.of h2, rfl, .ref st, rfl, st, _, 2, .int (c + 1), rfl, rfl, SqL.of h2, rfl, 7919, c + 1, rfl, rfl, .inl ⟨by decide, by decide⟩, b, 7919 * (c + 1), rfl, rfl, _, 1, rfl, rfl, _, 48271, rfl, rfl, .inr ⟨by decide, by decide⟩, _, 2147483647, rfl, rfl, (show (0 : Int) < 2147483647 by decide), ?_⟩
      obtain ⟨n, hn⟩ : ∃ n : Int, (b + 7919 * (c + 1) + 1) * 48271 % 2147483647 = n := ⟨_, rfl⟩
      have n0 : 0 ≤ n := by rw [← hn]; exact Int.emod_nonneg _ (by decide)
      have n1 : n < 2147483647 := by rw [← hn]; exact Int.emod_lt_of_pos _ (by decide)
      refine ⟨.int n, by rw [← hn]; rfl, .int n, by rw [← hn]; rfl, n, 1009, rfl, rfl, ⟨by decide, by decide⟩, _, 69621, rfl, rfl, n, _, rfl, rfl, .inl ⟨by omega, by omega⟩, _, 2147483647, rfl, rfl, (show (0 : Int) < 2147483647 by decide), ?_⟩
      obtain ⟨m, hm⟩ : ∃ m : Int, n * (n / 1009 + 69621) % 2147483647 = m := ⟨_, rfl⟩
      have m0 : 0 ≤ m := by rw [← hm]; exact Int.emod_nonneg _ (by decide)
      have m1 : m < 2147483647 := by rw [← hm]; exact Int.emod_lt_of_pos _ (by decide)
      refine ⟨.int m, by rw [← hm]; rfl, .int m, by rw [← hm]; rfl, m, 2003, rfl, rfl, ⟨by decide, by decide⟩, _, 40692, rfl, rfl, m, _, rfl, rfl, .inl ⟨by omega, by omega⟩, _, 2147483399, rfl, rfl, (show (0 : Int) < 2147483399 by decide), .int bs, rfl, _, bs, rfl, rfl, hb0, ?_⟩
      exact q _ _ (Int.emod_nonneg _ (by omega)) (Int.emod_lt_of_pos _ hb0) (.inr ⟨a, b, c + 1, upd_same⟩) (e1.trans ExS.at_)
end
end As

namespace As
open PySem PySem.Spec PyProof.Rows L2 TL
theorem free_of {st : Addr} {H H1 : Hp} {p : Addr} (e1 : ExS st H H1) (W1 : Well st H1) (hp : H1 p = none) : H p = none := by
  cases hq : H p with
  | none => rfl
  | some o =>
    by_cases z : p = st
    · exact absurd z (W1.ne hp)
    · rw [e1 p o z hq] at hp
      cases hp
/-- three parts: two numbers and a list of numbers -/
structure Prt (st : Addr) (H : Hp) (p q : Addr) (a b : Int) (ns : List Int) : Prop where
  np : p ≠ st
  nq : q ≠ st
  hp : H p = some (.lst [.int a, .int b, .ref q])
  hq : H q = some (.lst (ns.map V.int))
theorem Prt.mono {st : Addr} {H H' : Hp} (e : ExS st H H') {p q : Addr} {a b : Int} {ns : List Int} (h : Prt st H p q a b ns) : Prt st H' p q a b ns := ⟨h.np, h.nq, e _ _ h.np h.hp, e _ _ h.nq h.hq⟩
def okP (m : Nat) (l : Nat) (a b : Int) (ns : List Int) : Prop := 0 ≤ a ∧ a ≤ m ∧ 0 ≤ b ∧ b ≤ m ∧ ns.length ≤ l ∧ ∀ n ∈ ns, 0 ≤ n ∧ n ≤ 100
theorem okP.ok {m l : Nat} {a b : Int} {ns : List Int} (h : okP m l a b ns) (hl : l ≤ 7) : okN ns := ⟨Nat.le_trans h.2.2.2.2.1 hl, h.2.2.2.2.2⟩
section
variable {P : Program} {w : World} {K : PySem.W.Frag} {mg : Str → Option Value} {base : Heap}
def spParts : Sp := fun vs H Q _ => ∃ st, vs = [.ref st] ∧ Well st H ∧ ∀ p q a b ns H', Prt st H' p q a b ns → okP 99 6 a b ns → Well st H' → ExS st H H' → Q (.ref p) H'
theorem ok_parts {f f1 : Addr} {fd fd1 : FuncData} {k : Nat} (F : Fun K "_law_parts" "_law_parts" sParts f fd) (M : Mg mg) (G1 : FnOk P w K mg base CX0 k f1 fd1 ["_law_state", "_law_base"] spDraw) (g1 : mg "_law_digit" = some (.ref f1)) (k1 : PySem.W.keepIn K (.ref f1) = true) (b1 : Binds K fd1 ["_law_state", "_law_base"] []) :
    FnOk P w K mg base CX0 (k + 1) f fd ["_law_state"] spParts := by
  refine F.ok scParts (fun vs H Q E h => ?_) (fun cdv A outer s H vs Q E hr h => ?_)
  · obtain ⟨st, rfl, _⟩ := h
    rfl
  · obtain ⟨st, rfl, hW, q⟩ := h
    refine ⟨_, pss_cons (ps_setLc (i := 1) (own := [("_law_k", 2)]) (g := gName 2) (tt := tYes) rfl scParts.nd rfl rfl (sw_true rfl rfl rfl (by decide +kernel)) (pi_range1 (by rfl) M.range (pa_cons (pe_call G1 hr (by rfl) g1 k1 b1 .nil pass0 (pa_cons (pv 0) (pa_cons pe_int pa_nil))) pa_nil)) (blkOk_by (own := [("_law_k", 2)]) (N := ["_law_state", "_law_numbers", "_law_k"]) (sc := defScope sParts) (by decide +kernel))
        (fun _ _ _ _ _ => pg_name (i := 2) scParts.nd rfl (Or.inl rfl)) (fun _ _ _ _ _ => pts_nil) (fun _ _ _ _ _ => pe_call G1 hr (by rfl) g1 k1 b1 .nil pass0 (pa_cons (pv 0) (pa_cons pe_int pa_nil))))
      (pss_one (ps_ret (pe_lst (pa_cons (pe_call G1 hr (by rfl) g1 k1 b1 .nil pass0 (pa_cons (pv 0) (pa_cons pe_int pa_nil))) (pa_cons (pe_call G1 hr (by rfl) g1 k1 b1 .nil pass0 (pa_cons (pv 0) (pa_cons pe_int pa_nil))) (pa_cons (pv 1) pa_nil)))))), ?_⟩
    refine ⟨.ref st, rfl, st, 6, rfl, hW, by decide, by decide, fun r H1 r0 r1 W1 e1 => ?_⟩
    obtain ⟨n, rfl⟩ : ∃ n : Nat, r = (n : Int) := ⟨r.toNat, by omega⟩
    refine ⟨n, rfl, by omega, by omega, fun D1 nD => ?_⟩
    have nDst : D1 ≠ st := W1.ne nD
    have nDH : H D1 = none := free_of e1 W1 nD
    rw [Int.toNat_natCast]
    refine lc_it (walk_range (lo := 0) (n := n)) (fun i H' => ∃ ns : List Int, H' D1 = some (.lst (ns.map V.int)) ∧ ns.length = i ∧ (∀ z ∈ ns, 0 ≤ z ∧ z ≤ 100) ∧ Well st H' ∧ ExS st H H') ⟨[], upd_same, rfl, (fun l hl => absurd hl List.not_mem_nil), W1.same (same_new nD), e1.trans (ExS.new nD)⟩ (fun _ _ _ _ => trivial) (fun i y H4 H5 hi hP hy => ?_) (fun H4 hP => ?_)
    · obtain ⟨ns, hD, hl, hok, W4, e4⟩ := hP
      obtain ⟨rfl, rfl⟩ := hy
      refine ⟨rfl, yesI ⟨.ref st, rfl, st, 100, rfl, W4, by decide, by decide, fun z H6 z0 z1 W6 e6 => ?_⟩⟩
      have hD6 := e6 _ _ nDst hD
      refine ⟨ns.map V.int, hD6, sl_lt (by rw [List.length_map]; omega), ns ++ [z], by rw [List.map_append]; exact upd_same, by rw [List.length_append]; show ns.length + 1 = i + 1; omega, ?_, ?_, ?_⟩
      · intro y hy
        rcases List.mem_append.mp hy with h | h
        · exact hok y h
        · rw [List.mem_singleton.mp h]
          exact ⟨z0, by omega⟩
      · rcases W6 with ⟨c, h⟩ | ⟨a, b, c, h⟩
        · exact .inl ⟨c, (upd_ne (Ne.symm nDst)).trans h⟩
        · exact .inr ⟨a, b, c, (upd_ne (Ne.symm nDst)).trans h⟩
      · intro a u na ha
        rw [upd_ne (ne_of_none ha nDH)]
        exact e6 _ _ na (e4 _ _ na ha)
    · obtain ⟨ns, hD, hl, hok, W4, e4⟩ := hP
      refine ⟨.ref st, rfl, st, 100, rfl, W4, by decide, by decide, fun a H6 a0 a1 W6 e6 => ?_⟩
      refine ⟨.ref st, rfl, st, 8, rfl, W6, by decide, by decide, fun b H7 b0 b1 W7 e7 => ?_⟩
      refine ⟨.ref D1, rfl, by show 3 ≤ sizeLine; decide, fun p np => ?_⟩
      have hD7 := e7 _ _ nDst (e6 _ _ nDst hD)
      exact q p D1 a b ns _ ⟨W7.ne np, nDst, upd_same, (same_new np) _ _ hD7⟩ ⟨a0, by omega, b0, by omega, by omega, hok⟩ (W7.same (same_new np)) (((e4.trans e6).trans e7).trans (ExS.new np))
def spOther : Sp := fun vs H Q _ => ∃ st p q a b ns, vs = [.ref st, .ref p] ∧ Well st H ∧ Prt st H p q a b ns ∧ okP 99 6 a b ns ∧ ∀ p' q' a' b' ns' H', Prt st H' p' q' a' b' ns' → okP 100 7 a' b' ns' → ExS st H H' → Q (.ref p') H'
theorem okP.wide {m l m' l' : Nat} {a b : Int} {ns : List Int} (h : okP m l a b ns) (h1 : m ≤ m') (h2 : l ≤ l') : okP m' l' a b ns := ⟨h.1, by have := h.2.1; omega, h.2.2.1, by have := h.2.2.2.1; omega, Nat.le_trans h.2.2.2.2.1 h2, h.2.2.2.2.2⟩
theorem ok_other {f f1 f2 : Addr} {fd fd1 fd2 : FuncData} {k : Nat} (F : Fun K "_law_other" "_law_other" sOther f fd) (M : Mg mg) (G1 : FnOk P w K mg base CX0 k f1 fd1 ["_law_state", "_law_base"] spDraw) (g1 : mg "_law_digit" = some (.ref f1)) (k1 : PySem.W.keepIn K (.ref f1) = true) (b1 : Binds K fd1 ["_law_state", "_law_base"] [])
    (G2 : FnOk P w K mg base CX0 k f2 fd2 ["_law_state"] spParts) (g2 : mg "_law_parts" = some (.ref f2)) (k2 : PySem.W.keepIn K (.ref f2) = true) (b2 : Binds K fd2 ["_law_state"] []) :
    FnOk P w K mg base CX0 (k + 1) f fd ["_law_state", "_law_parts_here"] spOther := by
  refine F.ok scOther (fun vs H Q E h => ?_) (fun cdv A outer s H vs Q E hr h => ?_)
  · obtain ⟨st, p, q, a, b, ns, rfl, _⟩ := h
    rfl
  · obtain ⟨st, p, q, a, b, ns, rfl, hW, hP, ok, k⟩ := h
    refine ⟨_, pss_cons (ps_set (i := 2) scOther.nd rfl (.inl rfl) (pe_call G1 hr (by rfl) g1 k1 b1 .nil pass0 (pa_cons (pv 0) (pa_cons pe_int pa_nil))))
      (pss_cons (ps_asg (pv 1) (pg_lst rfl (pgs_cons (pg_name (i := 3) scOther.nd rfl (.inl rfl)) (pgs_cons (pg_name (i := 4) scOther.nd rfl (.inl rfl)) (pgs_cons (pg_name (i := 5) scOther.nd rfl (.inl rfl)) pgs_nil)))))
      (pss_cons (ps_if (pt_cmpR op_eq (pv 2) pe_int (nomark _)) (pss_one (ps_ret (pe_lst (pa_cons (pe_add (pv 3) pe_int) (pa_cons (pv 4) (pa_cons (pe_callTy call_list_of (by rfl) M.list (by decide +kernel) (pa_cons (pv 5) pa_nil)) pa_nil)))))) pss_nil)
      (pss_cons (ps_if (pt_cmpR op_eq (pv 2) pe_int (nomark _)) (pss_one (ps_ret (pe_lst (pa_cons (pv 3) (pa_cons (pe_add (pv 4) pe_int) (pa_cons (pe_callTy call_list_of (by rfl) M.list (by decide +kernel) (pa_cons (pv 5) pa_nil)) pa_nil)))))) pss_nil)
      (pss_cons (ps_if (pt_cmpR op_eq (pv 2) pe_int (nomark _)) (pss_one (ps_ret (pe_lst (pa_cons (pv 3) (pa_cons (pv 4) (pa_cons (pe_op op_cat (pv 5) (pe_lst (pa_cons pe_int pa_nil))) pa_nil)))))) pss_nil)
      (pss_cons (ps_if (pt_cmpR op_eq (pv 2) pe_int (nomark _)) (pss_one (ps_ret (pe_lst (pa_cons (pv 3) (pa_cons (pv 4) (pa_cons (pe_revL (pv 5)) pa_nil)))))) pss_nil)
      (pss_cons (ps_if (pt_cmpR op_eq (pv 2) pe_int (nomark _)) (pss_one (ps_ret (pe_lst (pa_cons (pv 3) (pa_cons (pv 4) (pa_cons (pe_callTy call_list_of (by rfl) M.list (by decide +kernel) (pa_cons (pv 5) pa_nil)) pa_nil)))))) pss_nil)
      (pss_one (ps_ret (pe_call G2 hr (by rfl) g2 k2 b2 .nil pass0 (pa_cons (pv 0) pa_nil)))))))))), ?_⟩
    refine ⟨.ref st, rfl, st, 6, rfl, hW, by decide, by decide, fun r H1 r0 r1 W1 e1 => ?_⟩
    have hP1 := hP.mono e1
    have h0 := ok.1
    have h1 := ok.2.1
    have h2 := ok.2.2.1
    have h3 := ok.2.2.2.1
    have h4 := ok.2.2.2.2.1
    have h5 := ok.2.2.2.2.2
    -- three parts laid anew
    have fin : ∀ (a' b' : Int) (ns' : List Int) (c t : Addr) (Hc : Hp), okP 100 7 a' b' ns' → Same H1 Hc → H1 c = none → Hc c = some (.lst (ns'.map V.int)) → Hc t = none → Q (.ref t) (upd Hc t (.lst [.int a', .int b', .ref c])) := fun a' b' ns' c t Hc ok' sm nc hc nt =>
      k t c a' b' ns' _ ⟨(W1.same sm).ne nt, W1.ne nc, upd_same, (same_new nt) _ _ hc⟩ ok' ((e1.trans (.of sm)).trans (ExS.new nt))
    refine ⟨.ref p, rfl, p, _, rfl, SqL.of hP1.hp, rfl, .int a, _, rfl, .int b, _, rfl, .ref q, _, rfl, rfl, ?_⟩
    refine ⟨.int r, rfl, rfl, _, rfl, ite2 (fun _ => ?_) (fun _ => ?_)⟩
    · refine ⟨.int a, rfl, a, 1, rfl, rfl, .int b, rfl, .ref q, rfl, q, _, rfl, .inl (SqL.of hP1.hq), fun c nc => ⟨by show 3 ≤ sizeLine; decide, fun t nt => ?_⟩⟩
      exact fin (a + 1) b ns c t _ ⟨by omega, by omega, h2, by omega, by omega, h5⟩ (same_new nc) nc upd_same nt
    refine ⟨.int r, rfl, rfl, _, rfl, ite2 (fun _ => ?_) (fun _ => ?_)⟩
    · refine ⟨.int a, rfl, .int b, rfl, b, 1, rfl, rfl, .ref q, rfl, q, _, rfl, .inl (SqL.of hP1.hq), fun c nc => ⟨by show 3 ≤ sizeLine; decide, fun t nt => ?_⟩⟩
      exact fin a (b + 1) ns c t _ ⟨h0, by omega, by omega, by omega, by omega, h5⟩ (same_new nc) nc upd_same nt
    refine ⟨.int r, rfl, rfl, _, rfl, ite2 (fun _ => ?_) (fun _ => ?_)⟩
    · refine ⟨.int a, rfl, .int b, rfl, .ref q, rfl, by show 1 ≤ sizeLine; decide, fun l nl => ?_⟩
      refine ⟨q, l, _, _, rfl, rfl, (same_new nl) _ _ hP1.hq, upd_same, sl_of (by rw [List.length_map]; show ns.length + 1 ≤ 100000; omega), fun c nc => ⟨by show 3 ≤ sizeLine; decide, fun t nt => ?_⟩⟩
      refine fin a b (ns ++ [3]) c t _ ⟨h0, by omega, h2, by omega, by rw [List.length_append]; show ns.length + 1 ≤ 7; omega, ?_⟩ ((same_new nl).trans (same_new nc)) ((same_new nl).free nc) (by rw [List.map_append]; exact upd_same) nt
      intro n hn
      rcases List.mem_append.mp hn with h | h
      · exact h5 n h
      · rw [List.mem_singleton.mp h]
        exact ⟨by decide, by decide⟩
    refine ⟨.int r, rfl, rfl, _, rfl, ite2 (fun _ => ?_) (fun _ => ?_)⟩
    · refine ⟨.int a, rfl, .int b, rfl, .ref q, rfl, q, _, rfl, SqL.of hP1.hq, fun c nc => ⟨by show 3 ≤ sizeLine; decide, fun t nt => ?_⟩⟩
      exact fin a b ns.reverse c t _ ⟨h0, by omega, h2, by omega, by rw [List.length_reverse]; omega, fun n hn => h5 n (List.mem_reverse.mp hn)⟩ (same_new nc) nc (by rw [List.map_reverse]; exact upd_same) nt
    refine ⟨.int r, rfl, rfl, _, rfl, ite2 (fun _ => ?_) (fun _ => ?_)⟩
    · refine ⟨.int a, rfl, .int b, rfl, .ref q, rfl, q, _, rfl, .inl (SqL.of hP1.hq), fun c nc => ⟨by show 3 ≤ sizeLine; decide, fun t nt => ?_⟩⟩
      exact fin a b ns c t _ ⟨h0, by omega, h2, by omega, by omega, h5⟩ (same_new nc) nc upd_same nt
    · exact ⟨.ref st, rfl, st, rfl, W1, fun p' q' a' b' ns' H2 hP2 ok2 W2 e2 => k p' q' a' b' ns' H2 hP2 (ok2.wide (by decide) (by decide)) (e1.trans e2)⟩
/-! ### the text of three parts -/
def spText : Sp := fun vs H Q _ => ∃ st p q a b ns, vs = [.ref p] ∧ Prt st H p q a b ns ∧ okP 100 7 a b ns ∧ ∀ H', Same H H' → Q (.str (cutT a b ns)) H'
theorem ok_text {f : Addr} {fd : FuncData} {k : Nat} (F : Fun K "_law_text" "_law_text" sText f fd) (M : Mg mg) : FnOk P w K mg base CX0 (k + 1) f fd ["_law_parts_here"] spText := by
  refine F.ok scText (fun vs H Q E h => ?_) (fun cdv A outer s H vs Q E hr h => ?_)
  · obtain ⟨st, p, q, a, b, ns, rfl, _⟩ := h
    rfl
  · obtain ⟨st, p, q, a, b, ns, rfl, hP, ok, k⟩ := h
    refine ⟨_, pss_one (ps_ret (pe_op op_add_str (pe_op op_add_str (pe_op op_add_str (pe_op op_add_str (pe_callTy call_str_int (by rfl) M.str (by decide +kernel) (pa_cons (pe_ix ix_list (pv 0) pe_int (fun _ _ => rfl)) pa_nil)) pe_str)
        (pe_callTy call_str_int (by rfl) M.str (by decide +kernel) (pa_cons (pe_ix ix_list (pv 0) pe_int (fun _ _ => rfl)) pa_nil))) pe_str)
      (pe_join pe_str
        (pe_lc (own := [("_law_number", 1)]) (g := gName 1) (tt := tYes) (by rfl) scText.nd (pi_list (pe_ix ix_list (pv 0) pe_int (fun _ _ => rfl))) (blkOk_by (own := [("_law_number", 1)]) (N := ["_law_parts_here", "_law_number"]) (sc := defScope sText) (by decide +kernel))
        (fun _ _ _ _ _ => pg_name (i := 1) scText.nd rfl (Or.inl rfl)) (fun _ _ _ _ _ => pts_nil)
        (fun _ _ _ _ _ => pe_callTy call_str_int (by rfl) M.str (by decide +kernel) (pa_cons (pv 1) pa_nil)))))), ?_⟩
    have okn := ok.ok (by decide)
    have h7 := okn.1
    have l1 := sI_len ok.1 ok.2.1
    have l2 := sI_len ok.2.2.1 ok.2.2.2.1
    have l3 := rowT_len okn
    have c1 : ∀ a b : Str, (a ++ b).length = a.length + b.length := fun a b => by rw [len_tl, len_tl, len_tl, tl_append, List.length_append]
    have ld : (("." : Str)).length = 1 := by decide +kernel
    have lc : ((":" : Str)).length = 1 := by decide +kernel
    refine ⟨.ref p, rfl, p, _, 0, .int a, rfl, rfl, SqL.of hP.hp, rfl, a, rfl, log_of ok.1 ok.2.1, sI a, ".", rfl, rfl, ?_, ?_⟩
    · rw [ld]
      exact sl_of (by omega)
    refine ⟨.ref p, rfl, p, _, 1, .int b, rfl, rfl, SqL.of hP.hp, rfl, b, rfl, log_of ok.2.2.1 ok.2.2.2.1, _, sI b, rfl, rfl, ?_, _, ":", rfl, rfl, ?_, ?_⟩
    · rw [c1, ld]
      exact sl_of (by omega)
    · rw [c1, c1, ld, lc]
      exact sl_of (by omega)
    refine ⟨⟨_, rfl⟩, .ref p, rfl, p, _, 2, .ref q, rfl, rfl, SqL.of hP.hp, rfl, q, rfl, ⟨_, SqL.of hP.hq⟩, fun D1 hD1 => ?_⟩
    refine lc_kept (walk_list (xs := ns.map V.int)) (fun _ => true) (fun i => .str (sI (ns.getD i 0))) hD1 (by rw [List.length_map]; omega) (fun H' e => SqL.of (e _ _ hP.hq)) (fun i x H2 H3 N R hi e2 y hN hR => ?_) (fun H2 e2 hL => ?_)
    · obtain ⟨rfl, hx⟩ := y
      rw [List.length_map] at hi
      rw [List.getElem?_map, List.getElem?_eq_getElem hi] at hx
      cases hx
      have hb := okn.2 _ (List.getElem_mem hi)
      refine ⟨rfl, yesI ⟨_, rfl, ns[i], rfl, log_of hb.1 hb.2, ?_⟩⟩
      have := hR rfl _ (Same.refl _)
      rw [List.getD_eq_getElem?_getD, List.getElem?_eq_getElem hi] at this
      exact this
    · rw [kept_all, List.length_map] at hL
      have e : (List.range ns.length).map (fun i => V.str (sI (ns.getD i 0))) = (ns.map sI).map V.str := by
        apply List.ext_getElem?
        intro i
        by_cases hi : i < ns.length
        · simp [hi]
        · simp [hi]
      rw [e] at hL
      refine ⟨comma, D1, ns.map sI, rfl, rfl, .inl (SqL.of hL), row_ok okn, _, rowT ns, rfl, rfl, ?_, k H2 e2⟩
      rw [c1, c1, c1, ld, lc]
      exact sl_of (by omega)
end
end As

namespace As
open PySem PySem.Spec PyProof.Rows L2 TL
theorem eqv_ints : ∀ a b : List Int, PyData.eqv (.list (a.map PyData.int)) (.list (b.map PyData.int)) = decide (a = b) := by
  have half : ∀ a b : List Int, PyData.eqvAll (a.map PyData.int) (b.map PyData.int) = decide (a = b) := by
    intro a
    induction a with
    | nil =>
      intro b
      cases b with
      | nil => simp [PyData.eqvAll]
      | cons y b => simp [PyData.eqvAll]
    | cons x a ih =>
      intro b
      cases b with
      | nil => simp [PyData.eqvAll]
      | cons y b =>
        simp only [List.map_cons, PyData.eqvAll, PyData.eqv, ih b]
        by_cases h1 : x = y
        · by_cases h2 : a = b
          · subst h1 h2
            simp
          · simp [h1, h2]
        · simp [h1]
  intro a b
  simp only [PyData.eqv]
  exact half a b
theorem lay_ints : ∀ ns : List Int, PyData.canLayAll0 (ns.map PyData.int) = true
  | [] => by simp [PyData.canLayAll0]
  | n :: ns => by simp [PyData.canLayAll0, PyData.canLay0, lay_ints ns]
theorem depth_ints : ∀ ns : List Int, PyData.depthAll (ns.map PyData.int) = 0
  | [] => by simp [PyData.depthAll]
  | n :: ns => by simp [PyData.depthAll, PyData.depth, depth_ints ns]
theorem shaped_of {ds : List PyData} (h1 : PyData.canLayAll0 ds = true) (h2 : PyData.depthAll ds ≤ 60) : SeqAt.shaped (.list ds) = true := by
  show (PyData.canLay0 (.list ds) && decide (PyData.depth (.list ds) ≤ 64)) = true
  rw [Bool.and_eq_true]
  refine ⟨by simp only [PyData.canLay0]; exact h1, decide_eq_true ?_⟩
  simp only [PyData.depth]
  omega
theorem shaped_ofT {ds : List PyData} (h1 : PyData.canLayAll0 ds = true) (h2 : PyData.depthAll ds ≤ 60) : SeqAt.shaped (.tuple ds) = true := by
  show (PyData.canLay0 (.tuple ds) && decide (PyData.depth (.tuple ds) ≤ 64)) = true
  rw [Bool.and_eq_true]
  refine ⟨by simp only [PyData.canLay0]; exact h1, decide_eq_true ?_⟩
  simp only [PyData.depth]
  omega
theorem shaped_ints (ns : List Int) : SeqAt.shaped (.list (ns.map PyData.int)) = true := shaped_of (lay_ints ns) (by rw [depth_ints]; omega)
def pd (a b : Int) (ns : List Int) : PyData := .list [.int a, .int b, .list (ns.map PyData.int)]
theorem pd_shaped (a b : Int) (ns : List Int) : SeqAt.shaped (pd a b ns) = true := shaped_of (by simp [PyData.canLayAll0, PyData.canLay0, lay_ints ns]) (by simp [PyData.depthAll, PyData.depth, depth_ints ns])
theorem pd_eqv (a b a' b' : Int) (ns ns' : List Int) : PyData.eqv (pd a b ns) (pd a' b' ns') = (decide (a = a') && decide (b = b') && PyData.eqv (.list (ns.map PyData.int)) (.list (ns'.map PyData.int))) := by
  unfold pd
  simp only [PyData.eqv, PyData.eqvAll, Bool.and_true]
  rw [Bool.and_assoc]
  congr 1
theorem pd_refl (a b : Int) (ns : List Int) : PyData.eqv (pd a b ns) (pd a b ns) = true := by
  rw [pd_eqv, eqv_ints]
  simp
abbrev sLaw : Stmt := topS 9
abbrev nLaw : List Str := ["_law_script", "_law_k", "_law_state", "_law_parts_here", "_law_others", "_law_handed", "_law_cut", "_law_other_here", "_law_odd"]
theorem scLaw : FnScope nLaw ["_law_script"] (defScope sLaw) := ⟨rfl, rfl, rfl, by decide +kernel, rfl, by decide +kernel, by decide +kernel⟩
section
variable {P : Program} {w : World} {K : PySem.W.Frag} {mg : Str → Option Value} {base : Heap}
theorem dp_ints {H : Hp} : ∀ ns : List Int, DpAll K H (ns.map V.int) (ns.map PyData.int)
  | [] => .nil
  | n :: ns => .cons (.int n) (dp_ints ns)
theorem Prt.dp {st : Addr} {H : Hp} {p q : Addr} {a b : Int} {ns : List Int} (h : Prt st H p q a b ns) : Dp K H (.ref p) (pd a b ns) := .lst (SqL.of h.hp) (.cons (.int a) (.cons (.int b) (.cons (.lst (SqL.of h.hq) (dp_ints ns)) .nil)))
theorem mk_list {C : Addr} {H : Hp} {q x dx : Addr} {o a : V} {ys : List V} {R : VK} {E : XK} (hq : H q = some (.lst ys)) (nx : H x = none) (ndx : H dx = none) (ne : dx ≠ x) (k : ∀ p H', Same H H' → H p = none → x ≠ p → H' x = some (.ins C dx (flds o a (.ref p))) → H' p = some (.lst ys) → R .non H') :
    spInit C [.ref x, o, a, .ref q] (upd (upd H dx (.own x)) x (.ins C dx [])) R E := by
  have hqx : q ≠ x := ne_of_none hq nx
  have hqd : q ≠ dx := ne_of_none hq ndx
  refine ⟨x, dx, o, a, .ref q, rfl, upd_same, .inl ⟨q, ys, rfl, by rw [upd_ne hqx, upd_ne hqd]; exact hq, fun p H' np e hx hp => ?_⟩⟩
  have npx : p ≠ x := fun z => by rw [z, upd_same] at np; cases np
  have npd : p ≠ dx := fun z => by rw [z, upd_ne ne, upd_same] at np; cases np
  refine k p H' (fun b u hb => e b u (ne_of_none hb nx) ?_) ?_ npx.symm hx hp
  · rw [upd_ne (ne_of_none hb nx), upd_ne (ne_of_none hb ndx)]
    exact hb
  · rw [upd_ne npx, upd_ne npd] at np
    exact np
theorem mk_odd {C : Addr} {H : Hp} {x dx : Addr} {o a r : V} {R : VK} {E : XK} (od : Odd H r) (nx : H x = none) (ndx : H dx = none) (ne : dx ≠ x) (k : ∀ H', Same H H' → H' x = some (.ins C dx (flds o a r)) → R .non H') :
    spInit C [.ref x, o, a, r] (upd (upd H dx (.own x)) x (.ins C dx [])) R E := by
  have sm : ∀ b u, H b = some u → (upd (upd H dx (.own x)) x (.ins C dx [])) b = some u := fun b u hb => by
    rw [upd_ne (ne_of_none hb nx), upd_ne (ne_of_none hb ndx)]
    exact hb
  refine ⟨x, dx, o, a, r, rfl, upd_same, .inr ⟨?_, fun H' e hx => ?_⟩⟩
  · cases od with
    | non => exact .non
    | str z => exact .str z
    | tup h => exact .tup (sm _ _ h)
  · exact k H' (fun b u hb => e b u (ne_of_none hb nx) (sm _ _ hb)) hx
theorem Odd.same {H H' : Hp} (e : Same H H') {v : V} (h : Odd H v) : Odd H' v := by
  cases h with
  | non => exact .non
  | str z => exact .str z
  | tup h => exact .tup (e _ _ h)
/-- what is no list, as data -/
theorem Odd.data {H : Hp} {v : V} (h : Odd H v) (ns : List Int) (hv : ∀ a xs, v = .ref a → H a = some (.tup xs) → xs = ns.map V.int) (hz : ∀ z, v = .str z → z = "3") : ∃ d, Dp K H v d ∧ SeqAt.shaped d = true ∧ PyData.eqv d d = true ∧ ∀ es, PyData.eqv d (.list es) = false := by
  cases h with
  | non => exact ⟨.none, .non, rfl, rfl, fun es => by simp [PyData.eqv]⟩
  | str z =>
    obtain rfl := hz z rfl
    exact ⟨.str "3", .str _, by decide +kernel, by decide +kernel, fun es => by simp [PyData.eqv]⟩
  | @tup a xs h =>
    obtain rfl := hv a xs rfl h
    refine ⟨.tuple (ns.map PyData.int), .tup (SqT.of h) (dp_ints ns), shaped_ofT (lay_ints ns) (by rw [depth_ints]; omega), ?_, fun es => by simp [PyData.eqv]⟩
    have := eqv_ints ns ns
    simp only [PyData.eqv] at this ⊢
    rw [this]
    simp
def spLaw (K : PySem.W.Frag) : Sp := fun vs H Q _ => ∃ (a : Addr) (ns : List Int), vs = [.ref a] ∧ SqL K H a (ns.map V.int) ∧ ns.length ≤ 63 ∧ ∀ H', Q (.bl true) H'
theorem ok_law {f f1 f2 f3 f4 f5 f6 f7 C : Addr} {fd fd1 fd2 fd3 fd4 fd5 fd6 fd7 : FuncData} {k : Nat} {g : List Value → List Value → List Value} (F : Fun K "law" "law" sLaw f fd) (M : Mg mg) (T : Tx K mg C)
    (G1 : FnOk P w K mg base CX0 (k + 3) f1 fd1 ["_law_script", "_law_k"] (spCellAt K)) (g1 : mg "_law_cell_at" = some (.ref f1)) (k1 : PySem.W.keepIn K (.ref f1) = true) (b1 : Binds K fd1 ["_law_script", "_law_k"] [])
    (G2 : FnOk P w K mg base CX0 (k + 3) f2 fd2 ["_law_state"] spParts) (g2 : mg "_law_parts" = some (.ref f2)) (k2 : PySem.W.keepIn K (.ref f2) = true) (b2 : Binds K fd2 ["_law_state"] [])
    (G3 : FnOk P w K mg base CX0 (k + 3) f3 fd3 ["_law_state", "_law_parts_here"] spOther) (g3 : mg "_law_other" = some (.ref f3)) (k3 : PySem.W.keepIn K (.ref f3) = true) (b3 : Binds K fd3 ["_law_state", "_law_parts_here"] [])
    (G4 : FnOk P w K mg base CX0 (k + 3) f4 fd4 ["_law_parts_here"] spText) (g4 : mg "_law_text" = some (.ref f4)) (k4 : PySem.W.keepIn K (.ref f4) = true) (b4 : Binds K fd4 ["_law_parts_here"] [])
    (MK : Mk K C f5) (G5 : FnOk P w K mg base CX0 (k + 1) f5 fd5 ["self", "one", "at", "row"] (spInit C)) (b5 : Binds K fd5 ["self", "one", "at", "row"] []) (kb5 : KBn K fd5 ["self", "one", "at", "row"] 1 ["row", "at", "one"] g (fun vs zs => vs ++ zs.reverse))
    (G6 : FnOk P w K mg base CX0 (k + 1) f6 fd6 ["self", "other"] (spEqC K C)) (b6 : Binds K fd6 ["self", "other"] []) (hEq : PySem.W.findIn K (.ref C) "__eq__" = some (some (.ref f6))) (fEq : PySem.W.isFn K (.ref f6) = true)
    (hNe : PySem.W.findIn K (.ref C) "__ne__" = some (some (.builtin "object.__ne__"))) (hOb : PySem.W.subIn K (.ref C) (.type "object") = some true)
    (G7 : FnOk P w K mg base CX0 (k + 1) f7 fd7 ["self"] (spStr C)) (b7 : Binds K fd7 ["self"] []) (hStr : PySem.W.findIn K (.ref C) "__str__" = some (some (.ref f7))) (fStr : PySem.W.isFn K (.ref f7) = true) (NS : NoSubs K C) :
    FnOk P w K mg base CX0 (k + 4) f fd ["_law_script"] (spLaw K) := by
  refine F.ok scLaw (fun vs H Q E h => ?_) (fun cdv A outer s H vs Q E hr h => ?_)
  · obtain ⟨a, ns, rfl, _⟩ := h
    rfl
  · obtain ⟨sc, ms, rfl, hS, h63, q⟩ := h
    have hu : _ + 64 < cLine := Nat.lt_of_le_of_lt (Nat.le_succ _) (hu65 hr)
    refine ⟨_, (pss_cons (ps_for PassesOwn.never rfl (pi_range1 (by rfl) M.range (pa_cons (pe_callB (call_max2 rfl) (by rfl) M.max (by decide +kernel) (pa_cons pe_int (pa_cons (pe_callB (call_min2 rfl) (by rfl) M.min (by decide +kernel) (pa_cons pe_int (pa_cons (pe_callB call_len_seq (by rfl) M.len PySem.boot_len (pa_cons (pv 0) pa_nil)) pa_nil))) pa_nil))) pa_nil)) (pg_name (i := 1) scLaw.nd rfl (.inl rfl))
        (pss_cons (ps_set (i := 2) scLaw.nd rfl (.inl rfl) (pe_lst (pa_cons (pe_add (pe_call G1 hr (by rfl) g1 k1 b1 .nil pass0 (pa_cons (pv 0) (pa_cons (pv 1) pa_nil))) (pe_op op_mul pe_int (pv 1))) pa_nil)))
        (pss_cons (ps_set (i := 3) scLaw.nd rfl (.inl rfl) (pe_call G2 hr (by rfl) g2 k2 b2 .nil pass0 (pa_cons (pv 2) pa_nil)))
        (pss_cons (ps_set (i := 4) scLaw.nd rfl (.inl rfl) (pe_call G3 hr (by rfl) g3 k3 b3 .nil pass0 (pa_cons (pv 2) (pa_cons (pv 3) pa_nil))))
        (pss_cons (ps_set (i := 5) scLaw.nd rfl (.inl rfl) (pe_callTy call_list_of (by rfl) M.list (by decide +kernel) (pa_cons (pe_ix ix_list (pv 3) pe_int (fun _ _ => rfl)) pa_nil)))
        (pss_cons (ps_set (i := 6) scLaw.nd rfl (.inl rfl) (pe_make MK G5 (hr.mono (by omega)) (by rfl) T.gC b5 .nil pass0 (pa_cons (pe_ix ix_list (pv 3) pe_int (fun _ _ => rfl)) (pa_cons (pe_ix ix_list (pv 3) pe_int (fun _ _ => rfl)) (pa_cons (pv 5) pa_nil)))))
        (pss_cons (ps_set (i := 7) scLaw.nd rfl (.inl rfl) (pe_makeK0 MK G5 (hr.mono (by omega)) (by rfl) T.gC kb5 pass0 (pk_cons (pe_callTy call_list_of (by rfl) M.list (by decide +kernel) (pa_cons (pe_ix ix_list (pv 4) pe_int (fun _ _ => rfl)) pa_nil)) (pk_cons (pe_ix ix_list (pv 4) pe_int (fun _ _ => rfl)) (pk_cons (pe_ix ix_list (pv 4) pe_int (fun _ _ => rfl)) pk_nil)))))
        (pss_cons (ps_expr (pe_bm PySem.F.plainAttrs_list PySem.F.slot_list_append PySem.F.type_list_append mt_append (pv 5) (pa_cons pe_int pa_nil)))
        (pss_cons (ps_if (PW.pt (pw_or (pt_cmpR (op_neD hu) (pe_lst (pa_cons (pe_fld (pv 6) rfl) (pa_cons (pe_fld (pv 6) rfl) (pa_cons (pe_fld (pv 6) rfl) pa_nil)))) (pv 3) (nomark _)) (pw_or1 (pt_cmpR (op_neD hu) (pe_lst (pa_cons (pe_fld (pv 7) rfl) (pa_cons (pe_fld (pv 7) rfl) (pa_cons (pe_fld (pv 7) rfl) pa_nil)))) (pv 4) (nomark _)))))
          (pss_one (ps_ret pe_bl)) pss_nil)
        (pss_cons (ps_if (PW.pt (pw_or (pt_cmpR op_ne (pe_cmpR (op_eqI G6 b6 pass0 (hr.mono (by omega)) hEq fEq) (pv 6) (pv 7) (nomark _)) (pe_cmpR (op_eqD hu) (pv 3) (pv 4) (nomark _)) (nomark _)) (pw_or (pt_cmpR op_ne (pe_cmpR (op_neI G6 b6 pass0 (hr.mono (by omega)) hEq fEq hNe hOb) (pv 6) (pv 7) (nomark _)) (pe_cmpR (op_neD hu) (pv 3) (pv 4) (nomark _)) (nomark _)) (pw_or1 (pt_not (pt_cmpR (op_eqI G6 b6 pass0 (hr.mono (by omega)) hEq fEq) (pv 6) (pv 6) (nomark _)))))))
          (pss_one (ps_ret pe_bl)) pss_nil)
        (pss_cons (ps_if (PW.pt (pw_or (pt_cmpR op_ne (pe_callTy (call_strI G7 b7 pass0 (hr.mono (by omega)) hStr fStr) (by rfl) M.str (by decide +kernel) (pa_cons (pv 6) pa_nil)) (pe_call G4 hr (by rfl) g4 k4 b4 .nil pass0 (pa_cons (pv 3) pa_nil)) (nomark _)) (pw_or1 (pt_cmpR op_ne (pe_callTy (call_strI G7 b7 pass0 (hr.mono (by omega)) hStr fStr) (by rfl) M.str (by decide +kernel) (pa_cons (pv 7) pa_nil)) (pe_call G4 hr (by rfl) g4 k4 b4 .nil pass0 (pa_cons (pv 4) pa_nil)) (nomark _)))))
          (pss_one (ps_ret pe_bl)) pss_nil)
        (pss_cons (ps_if (pt_cmpR (op_inI G6 b6 pass0 (hr.mono (by omega)) hEq fEq NS) (pv 6) (pe_lst (pa_cons (pe_callTy call_tuple_of (by rfl) M.tuple (by decide +kernel) (pa_cons (pv 3) pa_nil)) (pa_cons (pv 3) (pa_cons (pe_call G4 hr (by rfl) g4 k4 b4 .nil pass0 (pa_cons (pv 3) pa_nil)) (pa_cons pe_non (pa_cons (pe_ix ix_list (pv 3) pe_int (fun _ _ => rfl)) pa_nil)))))) (by rfl))
          (pss_one (ps_ret pe_bl)) pss_nil)
        (pss_cons (ps_for PassesOwn.never rfl (pi_list (pe_lst (pa_cons (pe_callTy call_tuple_of (by rfl) M.tuple (by decide +kernel) (pa_cons (pe_ix ix_list (pv 3) pe_int (fun _ _ => rfl)) pa_nil)) (pa_cons pe_non (pa_cons pe_str pa_nil))))) (pg_name (i := 8) scLaw.nd rfl (.inl rfl))
          (pss_one (ps_if (PW.pt (pw_or (pt_cmpR (op_neD hu) (pe_fld (pe_make MK G5 (hr.mono (by omega)) (by rfl) T.gC b5 .nil pass0 (pa_cons (pe_ix ix_list (pv 3) pe_int (fun _ _ => rfl)) (pa_cons (pe_ix ix_list (pv 3) pe_int (fun _ _ => rfl)) (pa_cons (pv 8) pa_nil)))) rfl) (pv 8) (nomark _)) (pw_or1 (pt_cmpR (op_eqI G6 b6 pass0 (hr.mono (by omega)) hEq fEq) (pe_make MK G5 (hr.mono (by omega)) (by rfl) T.gC b5 .nil pass0 (pa_cons (pe_ix ix_list (pv 3) pe_int (fun _ _ => rfl)) (pa_cons (pe_ix ix_list (pv 3) pe_int (fun _ _ => rfl)) (pa_cons (pv 8) pa_nil)))) (pv 6) (nomark _)))))
            (pss_one (ps_ret pe_bl)) pss_nil)))
        (pss_cons (ps_expr (pe_bm PySem.F.plainAttrs_list PySem.F.slot_list_append PySem.F.type_list_append mt_append (pe_fld (pv 6) rfl) (pa_cons pe_int pa_nil)))
        (pss_one (ps_if (PW.pt (pw_or (pt_cmpR (op_neD hu) (pe_fld (pv 7) rfl) (pe_ix ix_list (pv 4) pe_int (fun _ _ => rfl)) (nomark _)) (pw_or1 (pt_cmpR (op_eqI G6 b6 pass0 (hr.mono (by omega)) hEq fEq) (pe_make MK G5 (hr.mono (by omega)) (by rfl) T.gC b5 .nil pass0 (pa_cons (pe_ix ix_list (pv 3) pe_int (fun _ _ => rfl)) (pa_cons (pe_ix ix_list (pv 3) pe_int (fun _ _ => rfl)) (pa_cons (pe_ix ix_list (pv 3) pe_int (fun _ _ => rfl)) pa_nil)))) (pv 6) (nomark _)))))
          (pss_one (ps_ret pe_bl)) pss_nil))))))))))))))))
      (pss_one (ps_ret pe_bl))), ?_⟩
    refine ⟨.ref sc, rfl, sc, _, rfl, .inl hS, 20, _, rfl, 1, _, rfl, _, rfl, by split <;> (try split) <;> omega, by split <;> (try split) <;> omega, ?_⟩
    refine for_range (lo := 0) (n := _) (fun i σ H' => ∃ y1 y2 y3 y4 y5 y6 y7 y8, σ = [some (.ref sc), y1, y2, y3, y4, y5, y6, y7, y8] ∧ SqL K H' sc (ms.map V.int)) ⟨_, _, _, _, _, _, _, _, rfl, hS⟩ (fun i σ H1 hi hP => ?_) (fun σ H4 hP => q H4)
    obtain ⟨y1, y2, y3, y4, y5, y6, y7, y8, rfl, hS1⟩ := hP
    rw [Int.zero_add]
    refine ⟨.ref sc, rfl, .int i, rfl, sc, i, ms, rfl, hS1, fun c => ?_⟩
    refine ⟨.int i, rfl, 67, i, rfl, rfl, .inl ⟨by decide, by decide⟩, c, _, rfl, rfl, by show 1 ≤ sizeLine; decide, fun st nst => ?_⟩
    refine ⟨.ref st, rfl, st, rfl, .inl ⟨_, upd_same⟩, fun p q a b ns H2 hP2 ok2 W2 e2 => ?_⟩
    refine ⟨.ref st, rfl, .ref p, rfl, st, p, q, a, b, ns, rfl, W2, hP2, ok2, fun p' q' a' b' ns' H3 hP3' ok3 e3 => ?_⟩
    have hP3 := hP2.mono e3
    have h13 : Same H1 H3 := fun b o hb => e3 _ _ (ne_of_none hb nst) (e2 _ _ (ne_of_none hb nst) ((same_new nst) _ _ hb))
    clear e2 e3 hP2 W2
    refine ⟨.ref p, rfl, p, _, 2, .ref q, rfl, rfl, SqL.of hP3.hp, rfl, q, _, rfl, .inl (SqL.of hP3.hq), fun hd nhd => ?_⟩
    have s34 : Same H3 (upd H3 hd (.lst (ns.map V.int))) := same_new nhd
    have hhd : (upd H3 hd (.lst (ns.map V.int))) hd = some (.lst (ns.map V.int)) := upd_same
    obtain ⟨H4, h4⟩ : ∃ X : Hp, X = upd H3 hd (.lst (ns.map V.int)) := ⟨_, rfl⟩
    rw [← h4] at s34 hhd ⊢
    have hP4 := hP3.mono (ExS.of s34)
    have hP4' := hP3'.mono (ExS.of s34)
    refine ⟨.ref p, rfl, p, _, 0, .int a, rfl, rfl, SqL.of hP4.hp, rfl, .ref p, rfl, p, _, 1, .int b, rfl, rfl, SqL.of hP4.hp, rfl, .ref hd, rfl, fun x1 dx1 nx1 nd1 ne1 => ?_⟩
    refine mk_list hhd nx1 nd1 ne1 fun r1 H5 s45 nr1 xr1 hx1 hr1 => ⟨rfl, ?_⟩
    have hP5' := hP4'.mono (ExS.of s45)
    refine ⟨.ref p', rfl, p', _, 2, .ref q', rfl, rfl, SqL.of hP5'.hp, rfl, q', _, rfl, .inl (SqL.of hP5'.hq), fun l1 nl1 => ?_⟩
    have s56 : Same H5 (upd H5 l1 (.lst (ns'.map V.int))) := same_new nl1
    have hl1 : (upd H5 l1 (.lst (ns'.map V.int))) l1 = some (.lst (ns'.map V.int)) := upd_same
    obtain ⟨H6, h6⟩ : ∃ X : Hp, X = upd H5 l1 (.lst (ns'.map V.int)) := ⟨_, rfl⟩
    rw [← h6] at s56 hl1 ⊢
    have hP6' := hP5'.mono (ExS.of s56)
    refine ⟨.ref p', rfl, p', _, 1, .int b', rfl, rfl, SqL.of hP6'.hp, rfl, .ref p', rfl, p', _, 0, .int a', rfl, rfl, SqL.of hP6'.hp, rfl, rfl, rfl, fun x2 dx2 nx2 nd2 ne2 => ?_⟩
    refine mk_list hl1 nx2 nd2 ne2 fun r2 H7 s67 nr2 xr2 hx2 hr2 => ⟨rfl, ?_⟩
    have s46 := Same.trans s45 s56
    have s57 := Same.trans s56 s67
    have s47 := Same.trans s46 s67
    -- the handed list grows
    have hhd7 := s47 _ _ hhd
    refine ⟨.ref hd, rfl, .inl ⟨rfl, _, SqL.of hhd7⟩, hd, _, _, rfl, rfl, hhd7, sl_lt (by rw [List.length_map]; have := ok2.2.2.2.2.1; omega), ?_⟩
    obtain ⟨H8, h8⟩ : ∃ X : Hp, X = upd H7 hd (.lst (ns.map V.int ++ [.int 7])) := ⟨_, rfl⟩
    rw [← h8]
    have k8 : ∀ z o, H7 z = some o → z ≠ hd → H8 z = some o := fun z o hz nz => by rw [h8, upd_ne nz]; exact hz
    have e38 : Same H3 H8 := fun z o hz => k8 _ _ (s47 _ _ (s34 _ _ hz)) (ne_of_none hz nhd)
    have hP8 := hP3.mono (ExS.of e38)
    have hP8' := hP3'.mono (ExS.of e38)
    have nn : ∀ {z : Addr}, H4 z = none → z ≠ hd := fun nz e => by rw [e, hhd] at nz; cases nz
    have nn6 : ∀ {z : Addr}, H6 z = none → z ≠ hd := fun nz e => by rw [e, s46 _ _ hhd] at nz; cases nz
    have hx1 := k8 _ _ (s57 _ _ hx1) (nn nx1)
    have hr17 := s57 _ _ hr1
    have hr1 := k8 _ _ hr17 (nn nr1)
    have hx2 := k8 _ _ hx2 (nn6 nx2)
    have hr2 := k8 _ _ hr2 (nn6 nr2)
    have r21 : r2 ≠ r1 := fun e => by rw [e, s56 _ _ (show H5 r1 = some (.lst (ns.map V.int)) from by assumption)] at nr2; cases nr2
    have r1f : ∀ z o, H3 z = some o → z ≠ r1 := fun z o hz e => by rw [e] at hz; rw [s34 _ _ hz] at nr1; cases nr1
    have e18 := Same.trans h13 e38
    have r1s : H1 r1 = none := h13.free (s34.free nr1)
    have okw := ok2.wide (m' := 100) (l' := 7) (by decide) (by decide)
    have okn := okw.ok (by decide)
    have okn' := ok3.ok (by decide)
    have sI1 := shaped_ints ns
    have sI2 := shaped_ints ns'
    have sP1 := pd_shaped a b ns
    have sP2 := pd_shaped a' b' ns'
    have f_p := r1f _ _ hP3.hp
    have f_q := r1f _ _ hP3.hq
    have f_p' := r1f _ _ hP3'.hp
    have f_q' := r1f _ _ hP3'.hq
    clear hP3 hP3' hP4 hP4' hP5' hP6' s34 s45 s56 s67 s46 s57 s47 hhd hhd7 hl1 nl1 k8 nn nn6 h8 h6 h4
    -- the fields
    refine ⟨.ref x1, rfl, x1, C, dx1, _, _, rfl, hx1, T.ic.cl, T.n1, flds_1 _ _ _, .ref x1, rfl, x1, C, dx1, _, _, rfl, hx1, T.ic.cl, T.n2, flds_2 _ _ _, .ref x1, rfl, x1, C, dx1, _, _, rfl, hx1, T.ic.cl, T.n3, flds_3 _ _ _, by show 3 ≤ sizeLine; decide, fun L1 nL1 => ?_⟩
    have s1 : Same H8 (upd H8 L1 (.lst [.int a, .int b, .ref r1])) := same_new nL1
    have hL1 : (upd H8 L1 (.lst [.int a, .int b, .ref r1])) L1 = some (.lst [.int a, .int b, .ref r1]) := upd_same
    generalize upd H8 L1 (.lst [.int a, .int b, .ref r1]) = H9 at s1 hL1 ⊢
    refine ⟨.ref p, rfl, pd a b ns, pd a b ns, .lst (SqL.of hL1) (.cons (.int a) (.cons (.int b) (.cons (.lst (SqL.of (s1 _ _ hr1)) (dp_ints ns)) .nil))), (hP8.mono (ExS.of s1)).dp, sP1, sP1, false, by rw [pd_refl]; rfl, iteF ?_⟩
    have hx29 := s1 _ _ hx2
    refine ⟨.ref x2, rfl, x2, C, dx2, _, _, rfl, hx29, T.ic.cl, T.n1, flds_1 _ _ _, .ref x2, rfl, x2, C, dx2, _, _, rfl, hx29, T.ic.cl, T.n2, flds_2 _ _ _, .ref x2, rfl, x2, C, dx2, _, _, rfl, hx29, T.ic.cl, T.n3, flds_3 _ _ _, by show 3 ≤ sizeLine; decide, fun L2 nL2 => ?_⟩
    have s2 : Same H9 (upd H9 L2 (.lst [.int a', .int b', .ref r2])) := same_new nL2
    have hL2 : (upd H9 L2 (.lst [.int a', .int b', .ref r2])) L2 = some (.lst [.int a', .int b', .ref r2]) := upd_same
    generalize upd H9 L2 (.lst [.int a', .int b', .ref r2]) = H10 at s2 hL2 ⊢
    have s12 := Same.trans s1 s2
    refine ⟨.ref p', rfl, pd a' b' ns', pd a' b' ns', .lst (SqL.of hL2) (.cons (.int a') (.cons (.int b') (.cons (.lst (SqL.of (s12 _ _ hr2)) (dp_ints ns')) .nil))), (hP8'.mono (ExS.of s12)).dp, sP2, sP2, false, by rw [pd_refl]; rfl, iteF ?_⟩
    -- alike or not
    have g1' := s12 _ _ hx1
    have g2' := s12 _ _ hx2
    have dr1 : Dp K H10 (.ref r1) (.list (ns.map PyData.int)) := .lst (SqL.of (s12 _ _ hr1)) (dp_ints ns)
    have dr2 : Dp K H10 (.ref r2) (.list (ns'.map PyData.int)) := .lst (SqL.of (s12 _ _ hr2)) (dp_ints ns')
    have dp1 : Dp K H10 (.ref p) (pd a b ns) := (hP8.mono (ExS.of s12)).dp
    have dp2 : Dp K H10 (.ref p') (pd a' b' ns') := (hP8'.mono (ExS.of s12)).dp
    refine ⟨.ref x1, rfl, .ref x2, rfl, x1, dx1, _, x2, dx2, _, rfl, rfl, g1', g2', x1, .ref x2, rfl, .inl ⟨x2, dx1, dx2, a, b, .ref r1, _, a', b', .ref r2, _, rfl, g1', g2', dr1, dr2, sI1, sI2, ?_⟩⟩
    refine ⟨.ref p, rfl, .ref p', rfl, pd a b ns, pd a' b' ns', dp1, dp2, sP1, sP2, rfl, false, by rw [pd_eqv]; simp, iteF ?_⟩
    refine ⟨.ref x1, rfl, .ref x2, rfl, x1, dx1, _, x2, dx2, _, rfl, rfl, g1', g2', x1, .ref x2, rfl, .inl ⟨x2, dx1, dx2, a, b, .ref r1, _, a', b', .ref r2, _, rfl, g1', g2', dr1, dr2, sI1, sI2, _, rfl, ?_⟩⟩
    refine ⟨.ref p, rfl, .ref p', rfl, pd a b ns, pd a' b' ns', dp1, dp2, sP1, sP2, rfl, false, by rw [pd_eqv]; simp, iteF ?_⟩
    refine ⟨.ref x1, rfl, .ref x1, rfl, x1, dx1, _, x1, dx1, _, rfl, rfl, g1', g1', x1, .ref x1, rfl, .inl ⟨x1, dx1, dx1, a, b, .ref r1, _, a, b, .ref r1, _, rfl, g1', g1', dr1, dr1, sI1, sI1, true, by rw [eqv_ints]; simp, iteF ?_⟩⟩
    -- the texts
    refine ⟨.ref x1, rfl, x1, dx1, _, rfl, g1', x1, dx1, a, b, r1, ns, rfl, g1', s12 _ _ hr1, okw.1, okw.2.1, okw.2.2.1, okw.2.2.2.1, okn, fun H11 s11 => ⟨_, rfl, ?_⟩⟩
    have t1 := Same.trans s12 s11
    refine ⟨.ref p, rfl, st, p, q, a, b, ns, rfl, hP8.mono (ExS.of t1), okw, fun H12 s12' => ?_⟩
    have t2 := Same.trans t1 s12'
    refine ⟨rfl, false, by simp, iteF ?_⟩
    refine ⟨.ref x2, rfl, x2, dx2, _, rfl, t2 _ _ hx2, x2, dx2, a', b', r2, ns', rfl, t2 _ _ hx2, t2 _ _ hr2, ok3.1, ok3.2.1, ok3.2.2.1, ok3.2.2.2.1, okn', fun H13 s13 => ⟨_, rfl, ?_⟩⟩
    have t3 := Same.trans t2 s13
    refine ⟨.ref p', rfl, st, p', q', a', b', ns', rfl, hP8'.mono (ExS.of t3), ok3, fun H14 s14 => ?_⟩
    have t4 := Same.trans t3 s14
    refine ⟨rfl, false, by simp, iteF ?_⟩
    clear g1' g2' dr1 dr2 dp1 dp2 s11 s12' s13 s14 t1 t2 t3 hx29 s1 s2 s12 hL1 hL2
    -- in what is none
    have hP14 := hP8.mono (ExS.of t4)
    refine ⟨.ref x1, rfl, .ref p, rfl, p, _, rfl, .inl ⟨SqL.of hP14.hp, fun t nt => ?_⟩⟩
    have s15 : Same H14 (upd H14 t (.tup [.int a, .int b, .ref q])) := same_new nt
    have ht : (upd H14 t (.tup [.int a, .int b, .ref q])) t = some (.tup [.int a, .int b, .ref q]) := upd_same
    generalize upd H14 t (.tup [.int a, .int b, .ref q]) = H15 at s15 ht ⊢
    have t5 := Same.trans t4 s15
    refine ⟨.ref p, rfl, .ref p, rfl, st, p, q, a, b, ns, rfl, hP8.mono (ExS.of t5), okw, fun H16 s16 => ?_⟩
    have t6 := Same.trans t5 s16
    have hP16 := hP8.mono (ExS.of t6)
    refine ⟨.ref p, rfl, p, _, 0, .int a, rfl, rfl, SqL.of hP16.hp, rfl, by show 5 ≤ sizeLine; decide, fun l nl => ?_⟩
    have s17 : Same H16 (upd H16 l (.lst [.ref t, .ref p, .str (cutT a b ns), .non, .int a])) := same_new nl
    have hl : (upd H16 l (.lst [.ref t, .ref p, .str (cutT a b ns), .non, .int a])) l = some (.lst [.ref t, .ref p, .str (cutT a b ns), .non, .int a]) := upd_same
    generalize upd H16 l (.lst [.ref t, .ref p, .str (cutT a b ns), .non, .int a]) = H17 at s17 hl ⊢
    have t7 := Same.trans t6 s17
    have foes : ∀ y ∈ [V.ref t, .ref p, .str (cutT a b ns), .non, .int a], Foe H17 y := by
      intro y hy
      simp only [List.mem_cons, List.not_mem_nil, or_false] at hy
      rcases hy with rfl | rfl | rfl | rfl | rfl
      · exact .tup (s17 _ _ (s16 _ _ ht))
      · exact .lst (s17 _ _ hP16.hp)
      · exact .str _
      · exact .non
      · exact .int _
    refine ⟨x1, dx1, _, l, _, rfl, rfl, t7 _ _ hx1, hl, foes, fun y hy H' e' => ⟨x1, y, rfl, .inr ⟨(foes y hy).same e', rfl, Same.refl _⟩⟩, fun H18 s18 => ⟨false, rfl, iteF ?_⟩⟩
    have t8 := Same.trans t7 s18
    clear foes hP14 hP16 hl ht s15 s16 s17 s18 t4 t5 t6 t7
    have hP18 := hP8.mono (ExS.of t8)
    refine ⟨.ref p, rfl, p, _, 2, .ref q, rfl, rfl, SqL.of hP18.hp, rfl, q, _, rfl, .inl ⟨SqL.of hP18.hq, fun t nt => ?_⟩⟩
    have s19 : Same H18 (upd H18 t (.tup (ns.map V.int))) := same_new nt
    have ht : (upd H18 t (.tup (ns.map V.int))) t = some (.tup (ns.map V.int)) := upd_same
    generalize upd H18 t (.tup (ns.map V.int)) = H19 at s19 ht ⊢
    refine ⟨by show 3 ≤ sizeLine; decide, fun L nL => ?_⟩
    have s20 : Same H19 (upd H19 L (.lst [.ref t, .non, .str "3"])) := same_new nL
    have hL : (upd H19 L (.lst [.ref t, .non, .str "3"])) L = some (.lst [.ref t, .non, .str "3"]) := upd_same
    generalize upd H19 L (.lst [.ref t, .non, .str "3"]) = H20 at s20 hL ⊢
    have t9 := Same.trans t8 (Same.trans s19 s20)
    have ht := s20 _ _ ht
    refine ⟨L, rfl, ⟨_, SqL.of hL⟩, ?_⟩
    refine for_list (xs := [.ref t, .non, .str "3"]) (fun i' σ H' => ∃ y8, σ = [some (.ref sc), some (.int i), some (.ref st), some (.ref p), some (.ref p'), some (.ref hd), some (.ref x1), some (.ref x2), y8] ∧ Same H20 H') ⟨y8, rfl, Same.refl _⟩ (fun i' σ H' _ hP => ?_) (fun i' x σ H21 hx hP => ?_) (fun σ H21 hP => ?_)
    · obtain ⟨_, _, e⟩ := hP
      exact SqL.of (e _ _ hL)
    · obtain ⟨y8, rfl, e21⟩ := hP
      have od : Odd H21 x ∧ (∀ a xs, x = .ref a → H21 a = some (.tup xs) → xs = ns.map V.int) ∧ (∀ z, x = .str z → z = "3") := by
        have hm := List.mem_of_getElem? hx
        simp only [List.mem_cons, List.not_mem_nil, or_false] at hm
        rcases hm with rfl | rfl | rfl
        · refine ⟨.tup (e21 _ _ ht), fun a xs e h => ?_, fun z e => nomatch e⟩
          cases e
          rw [e21 _ _ ht] at h
          injection (Option.some.inj h).symm
        · exact ⟨.non, fun _ _ e => (nomatch e), fun _ e => nomatch e⟩
        · exact ⟨.str _, fun _ _ e => (nomatch e), fun _ e => by injection e.symm⟩
      obtain ⟨od, od2, od3⟩ := od
      have u1 := Same.trans t9 e21
      have hP21 := hP8.mono (ExS.of u1)
      refine ⟨.ref p, rfl, p, _, 0, .int a, rfl, rfl, SqL.of hP21.hp, rfl, .ref p, rfl, p, _, 1, .int b, rfl, rfl, SqL.of hP21.hp, rfl, x, rfl, fun xc dxc nxc ndc nec => ?_⟩
      refine mk_odd od nxc ndc nec fun H22 e22 hxc => ⟨rfl, ?_⟩
      have od22 := od.same e22
      obtain ⟨d, dD, dS, dR, dN⟩ := od22.data (K := K) ns (fun a' xs e h => by
        cases od with
        | non => cases e
        | str z => cases e
        | @tup a0 xs0 h0 =>
          cases e
          rw [e22 _ _ h0] at h
          cases h
          exact od2 _ _ rfl h0) od3
      refine ⟨xc, C, dxc, _, _, rfl, hxc, T.ic.cl, T.n3, flds_3 _ _ _, x, rfl, d, d, dD, dD, dS, dS, false, by rw [dR]; rfl, iteF ?_⟩
      have u2 := Same.trans u1 e22
      have hP22 := hP8.mono (ExS.of u2)
      refine ⟨.ref p, rfl, p, _, 0, .int a, rfl, rfl, SqL.of hP22.hp, rfl, .ref p, rfl, p, _, 1, .int b, rfl, rfl, SqL.of hP22.hp, rfl, x, rfl, fun xe dxe nxe nde nee => ?_⟩
      refine mk_odd od22 nxe nde nee fun H23 e23 hxe => ⟨rfl, ?_⟩
      have u3 := Same.trans u2 e23
      obtain ⟨d3, dD3, dS3, dR3, dN3⟩ := (od22.same e23).data (K := K) ns (fun a' xs e h => by
        cases od with
        | non => cases e
        | str z => cases e
        | @tup a0 xs0 h0 =>
          cases e
          rw [e23 _ _ (e22 _ _ h0)] at h
          cases h
          exact od2 _ _ rfl h0) od3
      refine ⟨.ref x1, rfl, xe, dxe, _, x1, dx1, _, rfl, rfl, hxe, u3 _ _ hx1, xe, .ref x1, rfl, .inl ⟨x1, dxe, dx1, a, b, x, d3, a, b, .ref r1, _, rfl, hxe, u3 _ _ hx1, dD3, .lst (SqL.of (u3 _ _ hr1)) (dp_ints ns), dS3, sI1, false, by rw [dN3]; simp, iteF ?_⟩⟩
      exact ⟨_, rfl, Same.trans e21 (Same.trans e22 e23)⟩
    · obtain ⟨y8, rfl, e21⟩ := hP
      have u1 := Same.trans t9 e21
      have hP21' := hP8'.mono (ExS.of u1)
      have hP21 := hP8.mono (ExS.of u1)
      -- the cut's own row grows
      have hr21 := u1 _ _ hr1
      refine ⟨.ref x1, rfl, x1, C, dx1, _, _, rfl, u1 _ _ hx1, T.ic.cl, T.n3, flds_3 _ _ _, .inl ⟨rfl, _, SqL.of hr21⟩, r1, _, _, rfl, rfl, hr21, sl_lt (by rw [List.length_map]; have := okn.1; omega), ?_⟩
      have k22 : ∀ z o, H21 z = some o → z ≠ r1 → (upd H21 r1 (.lst (ns.map V.int ++ [.int 9]))) z = some o := fun z o hz nz => by rw [upd_ne nz]; exact hz
      have hr22 : (upd H21 r1 (.lst (ns.map V.int ++ [.int 9]))) r1 = some (.lst ((ns ++ [9]).map V.int)) := by rw [upd_same, List.map_append]; rfl
      obtain ⟨H22, h22⟩ : ∃ X : Hp, X = upd H21 r1 (.lst (ns.map V.int ++ [.int 9])) := ⟨_, rfl⟩
      rw [← h22] at k22 hr22 ⊢
      have m1 : x1 ≠ r1 := ne_of hx1 hr1 (by intro z; cases z)
      have m2 : x2 ≠ r1 := ne_of hx2 hr1 (by intro z; cases z)
      have hx1' := k22 _ _ (u1 _ _ hx1) m1
      have hx2' := k22 _ _ (u1 _ _ hx2) m2
      have hr2' := k22 _ _ (u1 _ _ hr2) r21
      have hp22 := k22 _ _ hP21.hp (f_p)
      have hq22 := k22 _ _ hP21.hq (f_q)
      have hp22' := k22 _ _ hP21'.hp (f_p')
      have hq22' := k22 _ _ hP21'.hq (f_q')
      refine ⟨.ref x2, rfl, x2, C, dx2, _, _, rfl, hx2', T.ic.cl, T.n3, flds_3 _ _ _, .ref p', rfl, p', _, 2, .ref q', rfl, rfl, SqL.of hp22', rfl, _, _, .lst (SqL.of hr2') (dp_ints ns'), .lst (SqL.of hq22') (dp_ints ns'), sI2, sI2, false, by rw [eqv_ints]; simp, iteF ?_⟩
      refine ⟨.ref p, rfl, p, _, 0, .int a, rfl, rfl, SqL.of hp22, rfl, .ref p, rfl, p, _, 1, .int b, rfl, rfl, SqL.of hp22, rfl, .ref p, rfl, p, _, 2, .ref q, rfl, rfl, SqL.of hp22, rfl, fun xe dxe nxe nde nee => ?_⟩
      refine mk_list hq22 nxe nde nee fun r3 H23 e23 nr3 xr3 hx3 hr3 => ⟨rfl, ?_⟩
      have hx1'' := e23 _ _ hx1'
      refine ⟨.ref x1, rfl, xe, dxe, _, x1, dx1, _, rfl, rfl, hx3, hx1'', xe, .ref x1, rfl, .inl ⟨x1, dxe, dx1, a, b, .ref r3, _, a, b, .ref r1, _, rfl, hx3, hx1'', .lst (SqL.of hr3) (dp_ints ns), .lst (SqL.of (e23 _ _ hr22)) (dp_ints _), sI1, shaped_ints _, false, ?_, iteF ?_⟩⟩
      · rw [eqv_ints, decide_eq_false (fun z : ns = ns ++ [9] => by have := congrArg List.length z; rw [List.length_append] at this; simp at this)]
        simp
      · refine ⟨_, _, _, _, _, _, _, _, rfl, ?_⟩
        have e123 : Same H1 H23 := fun z o hz => e23 _ _ (k22 _ _ (u1 _ _ (e18 _ _ hz)) (ne_of_none hz r1s))
        exact e123.seq hS1
end
end As

namespace As
open PySem PySem.Spec PyProof.Rows L2
/-! ### what the top has written; the end -/
theorem all_mk {l : PySem.W.OpenLaw} {w : World} {K : PySem.W.Frag} {h : Heap} {mg : Str → Option Value} {fa : Addr} (X : K.In h) (G : h.Ns mainGlobals mg) (hfa : mg "law" = some (.ref fa))
    {f1 f2 f3 f4 f5 f6 f7 f8 f9 f10 C : Addr} {od1 an1 od2 an2 od3 an3 od4 an4 od5 an5 od6 an6 od7 an7 od8 an8 od9 an9 od10 an10 : Option Addr} {sl1 sl2 sl3 sl4 sl5 sl6 sl7 sl8 sl9 sl10 : Array (Option Value)} {oc1 kV1 dc1 pm1 ct1 cd1 oc2 kV2 dc2 pm2 ct2 cd2 oc3 kV3 dc3 pm3 ct3 cd3 oc4 kV4 dc4 pm4 ct4 cd4 oc5 kV5 dc5 pm5 ct5 cd5 oc6 kV6 dc6 pm6 ct6 cd6 oc7 kV7 dc7 pm7 ct7 cd7 oc8 kV8 dc8 pm8 ct8 cd8 oc9 kV9 dc9 pm9 ct9 cd9 oc10 kV10 dc10 pm10 ct10 cd10 : Value}
    (xC : PySem.W.nsIn K mainGlobals "Cut" = some (some (.ref C)))
    (a1 : PySem.W.nsIn K mainGlobals "row_text" = some (some (.ref f1)))
    (l1 : K.lookup f1 = some ⟨oc1, od1, .func (PySem.W.fnOf "row_text" "row_text" (defArgs sRow) (defBody sRow) (defScope sRow) .none kV1 dc1 pm1 an1 cd1 ct1), sl1⟩) (c1 : PySem.W.codeIn K cd1 "row_text" = true) (k1 : PySem.W.keepIn K (.ref f1) = true)
    (a2 : PySem.W.findIn K (.ref C) "__init__" = some (some (.ref f2)))
    (l2 : K.lookup f2 = some ⟨oc2, od2, .func (PySem.W.fnOf "__init__" "Cut.__init__" (defArgs sInit) (defBody sInit) (defScope sInit) .none kV2 dc2 pm2 an2 cd2 ct2), sl2⟩) (c2 : PySem.W.codeIn K cd2 "Cut.__init__" = true) (k2 : PySem.W.keepIn K (.ref f2) = true)
    (a3 : PySem.W.findIn K (.ref C) "__eq__" = some (some (.ref f3)))
    (l3 : K.lookup f3 = some ⟨oc3, od3, .func (PySem.W.fnOf "__eq__" "Cut.__eq__" (defArgs sEq) (defBody sEq) (defScope sEq) .none kV3 dc3 pm3 an3 cd3 ct3), sl3⟩) (c3 : PySem.W.codeIn K cd3 "Cut.__eq__" = true) (k3 : PySem.W.keepIn K (.ref f3) = true)
    (a4 : PySem.W.findIn K (.ref C) "__str__" = some (some (.ref f4)))
    (l4 : K.lookup f4 = some ⟨oc4, od4, .func (PySem.W.fnOf "__str__" "Cut.__str__" (defArgs sStr) (defBody sStr) (defScope sStr) .none kV4 dc4 pm4 an4 cd4 ct4), sl4⟩) (c4 : PySem.W.codeIn K cd4 "Cut.__str__" = true) (k4 : PySem.W.keepIn K (.ref f4) = true)
    (a5 : PySem.W.nsIn K mainGlobals "_law_cell_at" = some (some (.ref f5)))
    (l5 : K.lookup f5 = some ⟨oc5, od5, .func (PySem.W.fnOf "_law_cell_at" "_law_cell_at" (defArgs sCellAt) (defBody sCellAt) (defScope sCellAt) .none kV5 dc5 pm5 an5 cd5 ct5), sl5⟩) (c5 : PySem.W.codeIn K cd5 "_law_cell_at" = true) (k5 : PySem.W.keepIn K (.ref f5) = true)
    (a6 : PySem.W.nsIn K mainGlobals "_law_digit" = some (some (.ref f6)))
    (l6 : K.lookup f6 = some ⟨oc6, od6, .func (PySem.W.fnOf "_law_digit" "_law_digit" (defArgs sDigit) (defBody sDigit) (defScope sDigit) .none kV6 dc6 pm6 an6 cd6 ct6), sl6⟩) (c6 : PySem.W.codeIn K cd6 "_law_digit" = true) (k6 : PySem.W.keepIn K (.ref f6) = true)
    (a7 : PySem.W.nsIn K mainGlobals "_law_parts" = some (some (.ref f7)))
    (l7 : K.lookup f7 = some ⟨oc7, od7, .func (PySem.W.fnOf "_law_parts" "_law_parts" (defArgs sParts) (defBody sParts) (defScope sParts) .none kV7 dc7 pm7 an7 cd7 ct7), sl7⟩) (c7 : PySem.W.codeIn K cd7 "_law_parts" = true) (k7 : PySem.W.keepIn K (.ref f7) = true)
    (a8 : PySem.W.nsIn K mainGlobals "_law_other" = some (some (.ref f8)))
    (l8 : K.lookup f8 = some ⟨oc8, od8, .func (PySem.W.fnOf "_law_other" "_law_other" (defArgs sOther) (defBody sOther) (defScope sOther) .none kV8 dc8 pm8 an8 cd8 ct8), sl8⟩) (c8 : PySem.W.codeIn K cd8 "_law_other" = true) (k8 : PySem.W.keepIn K (.ref f8) = true)
    (a9 : PySem.W.nsIn K mainGlobals "_law_text" = some (some (.ref f9)))
    (l9 : K.lookup f9 = some ⟨oc9, od9, .func (PySem.W.fnOf "_law_text" "_law_text" (defArgs sText) (defBody sText) (defScope sText) .none kV9 dc9 pm9 an9 cd9 ct9), sl9⟩) (c9 : PySem.W.codeIn K cd9 "_law_text" = true) (k9 : PySem.W.keepIn K (.ref f9) = true)
    (a10 : PySem.W.nsIn K mainGlobals "law" = some (some (.ref f10)))
    (l10 : K.lookup f10 = some ⟨oc10, od10, .func (PySem.W.fnOf "law" "law" (defArgs sLaw) (defBody sLaw) (defScope sLaw) .none kV10 dc10 pm10 an10 cd10 ct10), sl10⟩) (c10 : PySem.W.codeIn K cd10 "law" = true) (k10 : PySem.W.keepIn K (.ref f10) = true)
    (z1 : PySem.W.nsIn K mainGlobals "isinstance" = some none)
    (z2 : PySem.W.nsIn K mainGlobals "int" = some none)
    (z3 : PySem.W.nsIn K mainGlobals "str" = some none)
    (z4 : PySem.W.nsIn K mainGlobals "tuple" = some none)
    (z5 : PySem.W.nsIn K mainGlobals "list" = some none)
    (z6 : PySem.W.nsIn K mainGlobals "len" = some none)
    (z7 : PySem.W.nsIn K mainGlobals "range" = some none)
    (z8 : PySem.W.nsIn K mainGlobals "max" = some none)
    (z9 : PySem.W.nsIn K mainGlobals "min" = some none)
    (i1 : PySem.W.findIn K (.ref C) "__class__" = some (some (.builtin "object.__class__")))
    (i2 : PySem.W.specialIn K (.builtin "object.__class__") "__get__" = some (some (.builtin "getset_descriptor.__get__")))
    (i3 : PySem.W.takesIn K (.builtin "object.__class__") = some true)
    (i4 : PySem.W.mroIn K C (.type "object") = some true)
    (i5 : PySem.W.kitOne K (.ref C) (.ref C) = some true)
    (n1 : PySem.W.findIn K (.ref C) "one" = some none)
    (n2 : PySem.W.findIn K (.ref C) "at" = some none)
    (n3 : PySem.W.findIn K (.ref C) "row" = some none)
    (q1 : PySem.W.kitOne K (.type "NoneType") (.ref C) = some false)
    (s1 : PySem.W.subIn K (.ref C) (.type "NoneType") = some false)
    (q2 : PySem.W.kitOne K (.type "int") (.ref C) = some false)
    (s2 : PySem.W.subIn K (.ref C) (.type "int") = some false)
    (q3 : PySem.W.kitOne K (.type "str") (.ref C) = some false)
    (s3 : PySem.W.subIn K (.ref C) (.type "str") = some false)
    (q4 : PySem.W.kitOne K (.type "tuple") (.ref C) = some false)
    (s4 : PySem.W.subIn K (.ref C) (.type "tuple") = some false)
    (q5 : PySem.W.kitOne K (.type "list") (.ref C) = some false)
    (s5 : PySem.W.subIn K (.ref C) (.type "list") = some false)
    (p1 : PySem.W.plainGet K C Str.empty = true)
    (p2 : PySem.W.hasDictIn K C = true)
    (p3 : PySem.W.plainOver K C = true)
    (p4 : PySem.W.findIn K (.ref C) "__setattr__" = some (some (.builtin "object.__setattr__")))
    (e1 : PySem.W.findIn K (.ref C) "__ne__" = some (some (.builtin "object.__ne__")))
    (e2 : PySem.W.subIn K (.ref C) (.type "object") = some true)
    (m1 : PySem.W.makesIn K C = true)
    (m2 : PySem.W.isFn K (.ref f2) = true)
    (m3 : PySem.W.keepIn K (.ref C) = true)
    (m4 : PySem.W.isFn K (.ref f3) = true)
    (m5 : PySem.W.isFn K (.ref f4) = true)
    : ∃ fd : FuncData, (∀ (s : Shared) (v : Value), BindsTo s fd ⟨[v], []⟩ [("_law_script", v)]) ∧ ∀ base : Heap, K.In base → base.Ns mainGlobals mg → FnOk l.prog w K mg base CX0 5 fa fd ["_law_script"] (spLaw K) := by
  have e := hfa.symm.trans (PySem.W.mg_of X G a10)
  cases e
  have F1 := fun_mk (st := sRow) l1 c1 k1
  have b1 := F1.binds (ps := ["row"]) fun _ _ _ _ _ _ us hl => match us, hl with | [_], _ => rfl
  have g1 := PySem.W.mg_of X G a1
  have F2 := fun_mk (st := sInit) l2 c2 k2
  have b2 := F2.binds (ps := ["self", "one", "at", "row"]) fun _ _ _ _ _ _ us hl => match us, hl with | [_, _, _, _], _ => rfl
  have F3 := fun_mk (st := sEq) l3 c3 k3
  have b3 := F3.binds (ps := ["self", "other"]) fun _ _ _ _ _ _ us hl => match us, hl with | [_, _], _ => rfl
  have F4 := fun_mk (st := sStr) l4 c4 k4
  have b4 := F4.binds (ps := ["self"]) fun _ _ _ _ _ _ us hl => match us, hl with | [_], _ => rfl
  have F5 := fun_mk (st := sCellAt) l5 c5 k5
  have b5 := F5.binds (ps := ["_law_script", "_law_k"]) fun _ _ _ _ _ _ us hl => match us, hl with | [_, _], _ => rfl
  have g5 := PySem.W.mg_of X G a5
  have F6 := fun_mk (st := sDigit) l6 c6 k6
  have b6 := F6.binds (ps := ["_law_state", "_law_base"]) fun _ _ _ _ _ _ us hl => match us, hl with | [_, _], _ => rfl
  have g6 := PySem.W.mg_of X G a6
  have F7 := fun_mk (st := sParts) l7 c7 k7
  have b7 := F7.binds (ps := ["_law_state"]) fun _ _ _ _ _ _ us hl => match us, hl with | [_], _ => rfl
  have g7 := PySem.W.mg_of X G a7
  have F8 := fun_mk (st := sOther) l8 c8 k8
  have b8 := F8.binds (ps := ["_law_state", "_law_parts_here"]) fun _ _ _ _ _ _ us hl => match us, hl with | [_, _], _ => rfl
  have g8 := PySem.W.mg_of X G a8
  have F9 := fun_mk (st := sText) l9 c9 k9
  have b9 := F9.binds (ps := ["_law_parts_here"]) fun _ _ _ _ _ _ us hl => match us, hl with | [_], _ => rfl
  have g9 := PySem.W.mg_of X G a9
  have F10 := fun_mk (st := sLaw) l10 c10 k10
  have M : Mg mg := ⟨PySem.W.mg_none_of X G z1, PySem.W.mg_none_of X G z2, PySem.W.mg_none_of X G z3, PySem.W.mg_none_of X G z4, PySem.W.mg_none_of X G z5, PySem.W.mg_none_of X G z6, PySem.W.mg_none_of X G z7, PySem.W.mg_none_of X G z8, PySem.W.mg_none_of X G z9⟩
  have CL : Cls K C := ⟨p1, p2, p3, p4⟩
  have T : Tx K mg C := ⟨⟨CL, i1, i2, i3, i4, i5⟩, n1, n2, n3, PySem.W.mg_of X G xC, q1, q2, q3, q4, q5⟩
  have NS : NoSubs K C := ⟨s1, s2, s3, s4, s5⟩
  have MK : Mk K C f2 := ⟨m1, a2, m2, m3⟩
  have KB : KBn K (PySem.W.fnOf "__init__" "Cut.__init__" (defArgs sInit) (defBody sInit) (defScope sInit) .none kV2 dc2 pm2 an2 cd2 ct2) ["self", "one", "at", "row"] 1 ["row", "at", "one"] (fun us ws => us ++ ws.reverse) (fun vs zs => vs ++ zs.reverse) :=
    ⟨fun s us ws _ l1 l2 => BindsTo.of_looks fun M => .of_pure (match us, ws, l1, l2 with | [_], [_, _, _], _, _ => rfl), fun r1 r2 => r1.append r2.reverse⟩
  refine ⟨PySem.W.fnOf "law" "law" (defArgs sLaw) (defBody sLaw) (defScope sLaw) .none kV10 dc10 pm10 an10 cd10 ct10, fun s v => .of_eq rfl, fun base _ _ => ?_⟩
  have RW := fun k => ok_row (P := l.prog) (w := w) (base := base) (k := k) F1 M
  have D := fun k => ok_digit (P := l.prog) (w := w) (base := base) (k := k) F6 M
  have PT := fun k => ok_parts (k := k + 1) F7 M (D k) g6 k6 b6
  exact ok_law (k := 1) F10 M T (ok_cell_at F5 M) g5 k5 b5 (PT 2) g7 k7 b7 (ok_other (k := 3) F8 M (D 2) g6 k6 b6 (PT 1) g7 k7 b7) g8 k8 b8 (ok_text F9 M) g9 k9 b9 MK (ok_init F2 M T) b2 KB (ok_eq F3 M T) b3 a3 m4 e1 e2 (ok_str F4 M T (RW 0) g1 k1 b1) b4 a4 m5 NS
end As
open PySem PySem.W PyProof.Rows
set_option maxHeartbeats 0 in
theorem PySem.Challenge.cw_asifalone_k53_cuts_as_values_holds : PySem.Challenge.rw_asifalone_k53_cuts_as_values.Holds := by
  w_on; o_law; k_head; (case hw => w_witness2)
  k_fill
  refine L2.walk_of (l := PySem.Challenge.rw_asifalone_k53_cuts_as_values) (n := 63) (k := 5) (x := "_law_script") (CX := fun _ => L2.CX0) (sp := fun w => As.spLaw _) rfl (by decide) rfl ⟨rfl, by decide, by decide⟩ (fun w h Y => PySem.W.kIn_of Y) ?F (fun _ _ a ns hl _ hS => ⟨a, ns, rfl, hS, hl, fun _ => rfl⟩) (fun _ _ _ _ _ h => h)
  case F =>
    intro w mg fa h KX G hmg
    refine' As.all_mk KX G hmg ?xC ?a1 ?l1 ?c1 ?k1 ?a2 ?l2 ?c2 ?k2 ?a3 ?l3 ?c3 ?k3 ?a4 ?l4 ?c4 ?k4 ?a5 ?l5 ?c5 ?k5 ?a6 ?l6 ?c6 ?k6 ?a7 ?l7 ?c7 ?k7 ?a8 ?l8 ?c8 ?k8 ?a9 ?l9 ?c9 ?k9 ?a10 ?l10 ?c10 ?k10 ?z1 ?z2 ?z3 ?z4 ?z5 ?z6 ?z7 ?z8 ?z9 ?i1 ?i2 ?i3 ?i4 ?i5 ?n1 ?n2 ?n3 ?q1 ?s1 ?q2 ?s2 ?q3 ?s3 ?q4 ?s4 ?q5 ?s5 ?p1 ?p2 ?p3 ?p4 ?e1 ?e2 ?m1 ?m2 ?m3 ?m4 ?m5
    (case xC => k_is); (case a1 => k_is); (case l1 => k_is); (case c1 => k_is); (case k1 => k_is); (case a2 => k_is); (case l2 => k_is); (case c2 => k_is); (case k2 => k_is); (case a3 => k_is); (case l3 => k_is); (case c3 => k_is); (case k3 => k_is); (case a4 => k_is); (case l4 => k_is); (case c4 => k_is); (case k4 => k_is); (case a5 => k_is); (case l5 => k_is); (case c5 => k_is); (case k5 => k_is); (case a6 => k_is); (case l6 => k_is); (case c6 => k_is); (case k6 => k_is); (case a7 => k_is); (case l7 => k_is); (case c7 => k_is); (case k7 => k_is); (case a8 => k_is); (case l8 => k_is); (case c8 => k_is); (case k8 => k_is); (case a9 => k_is); (case l9 => k_is); (case c9 => k_is); (case k9 => k_is); (case a10 => k_is); (case l10 => k_is); (case c10 => k_is); (case k10 => k_is); (case z1 => k_is); (case z2 => k_is); (case z3 => k_is); (case z4 => k_is); (case z5 => k_is); (case z6 => k_is); (case z7 => k_is); (case z8 => k_is); (case z9 => k_is); (case i1 => k_is); (case i2 => k_is); (case i3 => k_is); (case i4 => k_is); (case i5 => first | k_is | kernel_rfl | rfl); (case n1 => k_is); (case n2 => k_is); (case n3 => k_is); (case q1 => first | k_is | kernel_rfl | rfl); (case s1 => k_is); (case q2 => first | k_is | kernel_rfl | rfl); (case s2 => k_is); (case q3 => first | k_is | kernel_rfl | rfl); (case s3 => k_is); (case q4 => first | k_is | kernel_rfl | rfl); (case s4 => k_is); (case q5 => first | k_is | kernel_rfl | rfl); (case s5 => k_is); (case p1 => k_is); (case p2 => k_is); (case p3 => k_is); (case p4 => k_is); (case e1 => k_is); (case e2 => k_is); (case m1 => k_is); (case m2 => k_is); (case m3 => k_is); (case m4 => k_is); (case m5 => k_is)
