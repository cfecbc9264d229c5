import PyProof.Rows.All
import Wide.All
import OpenK.AllK
import Wide.FinOn
import HandS.ForMost
import HandS.Walk
import HandS.Deep
import HandS.TupAny
import HandS.IsInst
import KE.GoesEnum
import KE.KRevSl
import HandS.Style
import HandS.ForExc
import HandS.Zip
import PyProof.NeKinds
import PyProof.FactsAll.dict
import KE.DataEq
import HandS.TupMul
import PyProof.ReprRoads
import HandS.TryMany
import HandS.ExcIs
import PySem.Challenge.RW_asifalone_k67_wide_places_and_widened
set_option Elab.async false
set_option linter.all false
set_option maxRecDepth 100000
set_option maxHeartbeats 4000000
/-! rules that the layer lacks: enumerate of a tuple, in over a tuple of data, t[::-1] of a tuple -/
namespace PySem
open Sem (wp)
set_option maxHeartbeats 4000000 in
theorem as_meets_enum {v : Value} {o : Obj} {H : Heap → Prop} (B : Begins v o H) :
    Meets (Builtin.«enumerate.__new__» ⟨[.type "enumerate", v], []⟩) (fun _ R s => H s.heap ∧
      R (.ok (.ret (.ref (s.heap.push o).objs.size))) { s with heap := (s.heap.push o).push { cls := .type "enumerate", data := .fields #[.none, .bool false, .ref s.heap.objs.size, rawInt 0, .none, .none] } }) :=
  .of_wp fun prog w A R s h => by
    obtain ⟨hpk, g, d, tkk, osk⟩ := s; obtain ⟨h1, h⟩ := h
    have hsub := sub_enumerate
    have q1k : ∀ {A' : Around} {E : Value → Shared → Prop} {Q : Value → Shared → Prop}, Q (.ref hpk.objs.size) ⟨hpk.push o, g, d, tkk, osk⟩ → wpAny (model prog w) A' (pyIter v) Q E ⟨hpk, g, d, tkk, osk⟩ :=
      fun q => B.iter prog w _ _ ⟨hpk, g, d, tkk, osk⟩ _ h1 q
    wp_walk using q1k
    refine wpAny_stack_any fun st => wpAny_pure ?_
    split
    · rename_i c _ _ _ _ _
      cases (c == Value.type "enumerate")
      · wp_walk using q1k
        exact ⟨_, rfl, h⟩
      · wp_walk using q1k
        exact ⟨_, rfl, h⟩
    · wp_walk using q1k
      exact ⟨_, rfl, h⟩
section
variable {prog : Program} {w : World} {A : Around} {E : Value → Shared → Prop} {s : Shared}
theorem as_call_enum {v : Value} {o : Obj} {H : Heap → Prop} {Q : Value → Shared → Prop} (B : Begins v o H) (h1 : H s.heap)
    (h : ∀ h', IsEnum h' (s.heap.objs.size + 1) s.heap.objs.size 0 .none → h'.get? s.heap.objs.size = some o → h'.objs.size = s.heap.objs.size + 2 → (∀ b o, s.heap.get? b = some o → h'.get? b = some o) → Q (.ref (s.heap.objs.size + 1)) { s with heap := h' }) :
    wpAny (model prog w) A (call (.type "enumerate") [v]) Q E s := by
  refine callType_new F.called_enumerate (by decide) (F.typeCall_enumerate_1 _) (F.newCall_enumerate_1 _) (fun obj => F.args_object_init_2 obj _) F.entry_enumerate_new
    (as_meets_enum B) ⟨h1, ?_⟩
  have hzk : (s.heap.push o).objs.size = s.heap.objs.size + 1 := Heap.size_push ..
  show _ ∧ _
  rw [hzk]
  have hek : IsEnum ((s.heap.push o).push { cls := .type "enumerate", data := .fields #[.none, .bool false, .ref s.heap.objs.size, rawInt 0, .none, .none] }) (s.heap.objs.size + 1) s.heap.objs.size 0 .none := by
    have := Heap.get?_push_size (s.heap.push o) (o := { cls := .type "enumerate", data := .fields #[.none, .bool false, .ref s.heap.objs.size, rawInt 0, .none, .none] }) rfl
    rw [hzk] at this; exact this
  refine ⟨⟨_, hek, rfl⟩, h _ hek (Heap.get?_push_of_some _ (Heap.get?_push_size _ B.free)) (by rw [Heap.size_push, hzk]) fun b o x => Heap.get?_push_of_some _ (Heap.get?_push_of_some _ x)⟩
end
end PySem
namespace L2
open PySem PySem.Spec PyProof.Rows
/-! ### enumerate(tuple) -/
def ItEt (K : PySem.W.Frag) (a : Addr) : It :=
  ⟨fun i H => ∃ (xs : List V) (x : V), SqT K H a xs ∧ xs[i]? = some x, fun i H v H' => ∃ T x, v = .ref T ∧ H T = none ∧ H' = upd H T (.tup [.int (i : Nat), x]) ∧ ∀ xs, SqT K H a xs → xs[i]? = some x, fun i H => ∃ xs : List V, SqT K H a xs ∧ xs.length = i⟩
theorem turn_enumT {P : Program} {w : World} {K : PySem.W.Frag} {elts : List Expr} {kk : Nat} {tpos : Pos} (a e it : Addr) :
    Turn P w K (.Tuple elts kk tpos) (ItEt K a) [e, it] e (fun i h => (∃ oldk, IsEnum h e it ((i : Nat) : Int) oldk) ∧ h.IsTupleIter it a i ∧ e ≠ it ∧ a ≠ it ∧ a ≠ e) where
  mem := by simp
  obj := fun i h st b hbk => by
    obtain ⟨⟨oldk, hek⟩, ⟨o, ho, hc, hd⟩, _⟩ := st
    have ek' : b = e ∨ b = it := by simpa using hbk
    rcases ek' with z | z
    · rw [z]; exact ⟨_, hek, fun v q => nomatch q⟩
    · rw [z]; exact ⟨o, ho, fun v q => by rw [hd] at q; cases q⟩
  keep := fun i h h' st k => let ⟨⟨oldk, hek⟩, hik, hnek⟩ := st; ⟨⟨oldk, k e (by simp) _ hek⟩, hik.at fun o q => k it (by simp) o q, hnek⟩
  item := by
    intro X hPk hwk hKk hc i pinsk s σ H E Ik hfk st hgk
    subst hPk hwk hKk
    obtain ⟨⟨oldk, hek⟩, hitk, hnek, hai, hae⟩ := st
    obtain ⟨xs, x, hqk, hxk⟩ := hgk
    obtain ⟨itsk, rvk, p, hzk⟩ := Ik.tuple hqk
    obtain ⟨u, huk, ruk⟩ := rvk.get hxk
    have helk : e < s.heap.objs.size := Heap.lt_size hek
    have hilk : it < s.heap.objs.size := by obtain ⟨_, q, _⟩ := hitk; exact Heap.lt_size q
    have p' : s.heap.IsTuple a itsk.toArray := p
    have hlt : i < itsk.toArray.size := by
      have := (List.getElem?_eq_some_iff.mp huk).1
      simpa using this
    refine wpAny_pyNext_enum_itemD (Draws.tuple (A := X.A.in1) (Ik.ok.hd hc) it a hai itsk.toArray) hek ⟨hitk, p'⟩ hlt hnek (by simp only [List.mem_cons, List.mem_singleton, List.not_mem_nil, or_false, not_or]; exact ⟨hnek, fun z => hae z.symm⟩) fun x' h' tkk hx' ho st' hTk hszk hkk => ?_
    have exk : x' = u := by
      have q1k : itsk[i]? = some x' := by simpa using hx'
      exact Option.some.inj (q1k.symm.trans huk)
    subst exk
    obtain ⟨hit', _⟩ := st'
    refine ⟨_, rfl, wpAny_letOwnedTupleGo_enum (s := { s with heap := h', toks := tkk + 1 }) ho fun h'' he' sbk => ?_⟩
    have hT2 : h''.get? s.heap.objs.size = some { cls := .type "tuple", data := .seq #[.int i tkk, x'] } := (sbk.2 _ (Nat.ne_of_gt helk)).trans hTk
    have newk : ObjOk X.prog X.w (upd H s.heap.objs.size (.tup [.int (i : Nat), x])) h'' s.heap.objs.size (.tup [.int (i : Nat), x]) :=
      ⟨by show 2 ≤ sizeLine; decide, [.int i tkk, x'], .cons ⟨_, rfl⟩ (.cons ruk .nil), ⟨_, hT2, rfl, _, rfl⟩⟩
    have I1k : Inv X pinsk σ (upd H s.heap.objs.size (.tup [.int (i : Nat), x])) { s with heap := h'', toks := tkk + 1 } :=
      Ik.turnedNew (ch := [e, it]) (fun b ob hbk q => (sbk.2 b (fun z => hbk (by simp [z]))).trans (hkk b ob (fun z => hbk (by simp [z])) (fun z => hbk (by simp [z])) q)) hfk (Nat.le_refl _) newk
    refine ⟨.ref s.heap.objs.size, _, I1k, rfl, ⟨_, x, rfl, Ik.hok.fresh (Nat.le_refl _), rfl, fun ys hy => by rw [Ik.tuple_inj hy hqk]; exact hxk⟩, ⟨⟨x', ?_⟩, hit'.at fun o q => (sbk.2 it (Ne.symm hnek)).trans q, hnek, hai, hae⟩, fun b hbk => ?_⟩
    · have e1 : ((i + 1 : Nat) : Int) = (i : Int) + 1 := by omega
      rw [e1]; exact he'
    · have hbk' : b < s.heap.objs.size := by
        have ek' : b = e ∨ b = it := by simpa using hbk
        rcases ek' with z | z
        · rw [z]; exact helk
        · rw [z]; exact hilk
      rw [upd_ne (Nat.ne_of_lt hbk')]
      exact (hfk b hbk).1
  done := by
    intro X hPk hwk hKk hc i pinsk s σ H E Ik hfk st hgk
    subst hPk hwk hKk
    obtain ⟨⟨oldk, hek⟩, hitk, hnek, hai, hae⟩ := st
    obtain ⟨xs, hqk, hxk⟩ := hgk
    obtain ⟨itsk, rvk, p, hzk⟩ := Ik.tuple hqk
    obtain ⟨f0k, f1k, f2k, f3k, f4k, f5k⟩ := hfk it (by simp)
    have hl := rvk.length
    have hit2 : s.heap.IsTupleIter it a i := hitk
    exact wpAny_pyNext_enum_endD (Draws.tuple (A := X.A.in1) (Ik.ok.hd hc) it a hai itsk.toArray) hek (show s.heap.IsTupleIter it a itsk.toArray.size ∧ s.heap.IsTuple a itsk.toArray from ⟨by
        have e0 : itsk.toArray.size = i := by rw [List.size_toArray]; omega
        rw [e0]; exact hitk, p⟩) fun h' eb => ⟨rfl, Ik.turned (t' := s.toks) (fun b o hbk q => eb b o hbk q) f0k f1k f3k f4k f5k⟩
  self := fun A i s Q E st h => let ⟨⟨_, hek⟩, _⟩ := st; wpAny_pyIter_enum hek h
def iEnumT (K : PySem.W.Frag) (ta : TA) : TI := fun σ H R => ta σ H fun vs H1k => ∃ a xs, vs = [.ref a] ∧ SqT K H1k a xs ∧ R (ItEt K a) H1k
theorem pi_enumT {X : Cx} {e : Expr} {ta : TA} {p pos tpos : Pos} {elts : List Expr} {kk : Nat} (hgk : Gl X "enumerate") (hm : X.mg "enumerate" = none) (ha : PA X [e] ta) (hsk : starEach [e] X.env = [(false, eval e X.env)] := by rfl) :
    PI X (.Tuple elts kk tpos) (.Call (.Name "enumerate" p) [e] [] pos) (iEnumT X.K ta) := by
  refine ⟨fun pinsk s σ H R Ik h => ?_⟩
  refine Call_ (ld_blt Ik hgk hm boot_enumerate (PyProof.Rows.callWith_type1 (thn (ha.run pos pinsk s σ H _ Ik h) fun us s1k ⟨vs, H1k, I1k, r1k, q1k⟩ => ?_) hsk rfl))
  obtain ⟨a, xs, exk, hqk, q⟩ := q1k
  subst exk
  cases r1k with
  | cons r rr =>
    cases rr
    cases r
    obtain ⟨itsk, rvk, p', hzk⟩ := I1k.tuple hqk
    have p2 : s1k.heap.IsTuple a itsk.toArray := p'
    have hal : a < s1k.heap.objs.size := by obtain ⟨o, ho, _⟩ := p2; exact Heap.lt_size ho
    refine as_call_enum (begins_tuple a itsk.toArray) p2 fun h' hek hitk hszk hkk => wpAny_pyIter_enum hek ?_
    have I2k : Inv X pinsk σ H1k { s1k with heap := h' } := I1k.kept (t' := s1k.toks) hkk
    refine ⟨s1k.heap.objs.size + 1, [s1k.heap.objs.size + 1, s1k.heap.objs.size], _, _, H1k, rfl, I2k, turn_enumT a (s1k.heap.objs.size + 1) s1k.heap.objs.size, ⟨⟨.none, hek⟩, ⟨_, hitk, rfl, rfl⟩, Nat.succ_ne_self _, Nat.ne_of_lt hal, Nat.ne_of_lt (Nat.lt_succ_of_lt hal)⟩, fun b hbk => ?_, q⟩
    have ek' : b = s1k.heap.objs.size + 1 ∨ b = s1k.heap.objs.size := by simpa using hbk
    have hlek : s1k.heap.objs.size ≤ b := by
      rcases ek' with z | z
      · rw [z]; exact Nat.le_add_right _ _
      · rw [z]; exact Nat.le_refl _
    exact I1k.fpOk hlek (I1k.hok.fresh hlek)
theorem walk_enumT {K : PySem.W.Frag} {a : Addr} {xs : List V} : Walk (ItEt K a) xs.length (fun H => SqT K H a xs) (YPair (fun i => some (.int (i : Nat))) (fun i => xs[i]?)) where
  goes := fun i H hik h => ⟨xs, xs[i], h, List.getElem?_eq_getElem hik⟩
  stops := fun H h => ⟨xs, h, rfl⟩
  yields := fun i H x H' _ h y => by
    obtain ⟨T, z, e1, e2k, e3k, e4k⟩ := y
    exact ⟨T, _, z, e1, e2k, e3k, rfl, e4k xs h⟩
/-! ### in over a tuple of data -/
section
variable {X : Cx}
def rInDT (K : PySem.W.Frag) : R2 := fun x y H Q => ∃ d ds, Dp K H x d ∧ Dp K H y (.tuple ds) ∧ SeqAt.shaped d = true ∧ SeqAt.shaped (.tuple ds) = true ∧ Q (.bl (ds.any fun z => PyData.eqv z d)) H
def rNotInDT (K : PySem.W.Frag) : R2 := fun x y H Q => ∃ d ds, Dp K H x d ∧ Dp K H y (.tuple ds) ∧ SeqAt.shaped d = true ∧ SeqAt.shaped (.tuple ds) = true ∧ Q (.bl (!ds.any fun z => PyData.eqv z d)) H
theorem op_inDT (huk : X.A.units + 65 < cLine) : OpR X (compareOp .In) (rInDT X.K) := by
  intro pinsk s σ H x y v u Q Ik rxk ryk h
  obtain ⟨d, ds, hd, hek, sdk, sek, q⟩ := h
  obtain ⟨as, r1k⟩ := Dp.reads Ik d x v hd rxk
  obtain ⟨bs, r2⟩ := Dp.reads Ik (.tuple ds) y u hek ryk
  exact SeqAt.in_tuple_reads r2 r1k (SeqAt.canLay_of_shaped sek) (SeqAt.canLay_of_shaped sdk) (room_in_shaped sdk huk) ⟨.bl _, H, Ik, rfl, q⟩
theorem op_notInDT (huk : X.A.units + 65 < cLine) : OpR X (compareOp .NotIn) (rNotInDT X.K) := by
  intro pinsk s σ H x y v u Q Ik rxk ryk h
  obtain ⟨d, ds, hd, hek, sdk, sek, q⟩ := h
  obtain ⟨as, r1k⟩ := Dp.reads Ik d x v hd rxk
  obtain ⟨bs, r2⟩ := Dp.reads Ik (.tuple ds) y u hek ryk
  exact SeqAt.notIn_tuple_reads r2 r1k (SeqAt.canLay_of_shaped sek) (SeqAt.canLay_of_shaped sdk) (room_in_shaped sdk huk) ⟨.bl _, H, Ik, rfl, q⟩
end
end L2

namespace HT
open PySem PySem.Spec PyProof.Rows L2
section
variable {prog : Program} {w : World} {A : Around} {E : Value → Shared → Prop} {s : Shared}
theorem as_adjust_rev (n : Nat) : Builtin.Slice.sliceAdjust none none (-1) (n : Int) = ((n : Int) - 1, -1) := by
  unfold Builtin.Slice.sliceAdjust
  simp
theorem as_places_rev (n : Nat) : Builtin.Slice.slicePlaces ((n : Int) - 1) (-1) (-1) = n := by
  unfold Builtin.Slice.slicePlaces
  have h1 : ¬ ((-1 : Int) > 0) := by omega
  rw [if_neg h1]
  by_cases h : ((n : Int) - 1 > -1)
  · rw [if_pos h]
    have e : -(-1 : Int) = 1 := by omega
    rw [e, Int.ediv_one]
    omega
  · rw [if_neg h]
    omega
theorem as_sliceApplied_rev {sl : Addr} {vlk vuk vs : Value} {n : Nat} {Q : Int × Int × Nat → Shared → Prop} (hsk : s.heap.IsSliceOf sl vlk vuk vs) (pl : IsPart vlk none) (pu : IsPart vuk none) (ps : IsPart vs (some (-1)))
    (h : Q ((n : Int) - 1, -1, n) s) : wpAny (model prog w) A (Builtin.Slice.sliceApplied (.ref sl) (pure (n : Int))) Q E s := by
  obtain ⟨osk, hosk, hcsk, hdsk⟩ := id hsk
  unfold Builtin.Slice.sliceApplied Builtin.Slice.sliceFields
  refine wpAny_bind (wpAny_bind (wpAny_field hosk hdsk (x := vlk) rfl (wpAny_bind (wpAny_field hosk hdsk (x := vuk) rfl (wpAny_bind (wpAny_field hosk hdsk (x := vs) rfl (wpAny_pure ?_)))))))
  refine wpAny_bind (slicePart_ ps ?_)
  show wpAny _ _ (if ((-1 : Int) == 0) = true then _ else _) _ _ s
  rw [if_neg (by decide)]
  refine wpAny_bind (slicePart_ pl (wpAny_bind (slicePart_ pu (wpAny_bind (wpAny_pure ?_)))))
  show wpAny _ _ (match Builtin.Slice.sliceAdjust none none (-1) (n : Int) with | (lo, hik) => pure (lo, (-1 : Int), Builtin.Slice.slicePlaces lo hik (-1))) _ _ s
  rw [as_adjust_rev n]
  show wpAny _ _ (pure ((n : Int) - 1, (-1 : Int), Builtin.Slice.slicePlaces ((n : Int) - 1) (-1) (-1))) _ _ s
  rw [as_places_rev]
  exact wpAny_pure h
theorem as_pick_rev (xs : Array Value) : ((List.range xs.size).filterMap fun (m : Nat) => xs[((xs.size : Int) - 1 + (m : Int) * (-1)).toNat]?).toArray = xs.toList.reverse.toArray := by
  have e : (List.range xs.size).filterMap (fun (m : Nat) => xs[((xs.size : Int) - 1 + (m : Int) * (-1)).toNat]?) = ((List.range xs.size).map fun k => xs.size - 1 - k).filterMap (fun k => xs[k]?) := by
    rw [List.filterMap_map]
    congr 1
    funext m
    have : ((xs.size : Int) - 1 + (m : Int) * (-1)).toNat = xs.size - 1 - m := by omega
    simp only [this, Function.comp]
  rw [e, PySem.W.krv_range, List.filterMap_reverse, PySem.W.krv_all]
theorem as_getItem_rev {t sl : Addr} {items : Array Value} {vlk vuk vs : Value} {Q : Value → Shared → Prop} (htk : IsTup s.heap t items) (hsk : s.heap.IsSliceOf sl vlk vuk vs) (pl : IsPart vlk none) (pu : IsPart vuk none) (ps : IsPart vs (some (-1)))
    (h : Q (.ref s.heap.objs.size) { s with heap := s.heap.push { cls := .type "tuple", data := .seq items.toList.reverse.toArray } })
    (hszk : items.size ≤ sizeLine) : wpAny (model prog w) A (getItem (.ref t) (.ref sl)) Q E s := by
  have htakek : sizeOk (.seq items.toList.reverse.toArray) := by
    show items.toList.reverse.toArray.size ≤ sizeLine
    rw [List.size_toArray, List.length_reverse, Array.length_toList]
    exact hszk
  obtain ⟨osk, hosk, hcsk, hdsk⟩ := id hsk
  have hTsk : s.TypeIs (.ref sl) "slice" := ⟨osk, hosk, hcsk⟩
  unfold getItem
  try with_reducible refine wpAny_holding ?_
  first | refine wpAny_bind (wpAny_pure ?_) | skip
  refine wpAny_bind (wpAny_sequenceKey htk.typeIs (by decide) ?_)
  refine wpAny_bind (wpAny_callSpecial?_slot (name := Str.ofString "__getitem__") htk.typeIs PyProof.Rows.slot_tuple_getitem
    (wpAny_call_entry PyProof.Rows.slot_tuple_getitem htk.typeIs entry_tuple_getitem ?_ (args_tuple_getitem _ _)))
  show wpAny _ _ (Builtin.Tuple.tupleItemsOf (.ref t) >>= _) _ _ s
  refine wpAny_bind (tupleItemsOf_ htk ?_)
  refine wpAny_bind (wpAny_typeOf hTsk ?_)
  rw [if_pos (by decide)]
  refine wpAny_bind (as_sliceApplied_rev hsk pl pu ps ?_)
  have hno : ¬ ((((items.size : Int) - 1) == 0 && (-1 : Int) == 1 && items.size == items.size) = true) := by
    intro q
    rw [Bool.and_eq_true, Bool.and_eq_true] at q
    exact absurd (eq_of_beq q.1.2) (by decide)
  show wpAny _ _ (if (((items.size : Int) - 1) == 0 && (-1 : Int) == 1 && items.size == items.size) = true then _ else _) _ _ s
  rw [if_neg hno, as_pick_rev]
  first
    | exact wpAny_bind (m := Builtin.Tuple.tupleExact _) (wpAny_newObj_type (wpAny_pure ⟨_, rfl, wpAny_pure h⟩) htakek)
    | exact wpAny_bind (m := Builtin.Tuple.tupleExact _) (wpAny_newObj_type (wpAny_bind (wpAny_pure (wpAny_pure ⟨_, rfl, wpAny_pure h⟩))) htakek)
    | exact wpAny_bind (wpAny_bind (m := Builtin.Tuple.tupleExact _) (wpAny_newObj_type (wpAny_pure (wpAny_pure ⟨_, rfl, wpAny_pure h⟩)) htakek))
    | exact wpAny_bind (wpAny_bind (m := Builtin.Tuple.tupleExact _) (wpAny_newObj_type (wpAny_pure ⟨_, rfl, wpAny_pure h⟩) htakek))
end
end HT
namespace L2
open PySem PySem.Spec PyProof.Rows
section
variable {X : Cx}
def tRevT (K : PySem.W.Frag) (te : TE) : TE := fun σ H Q => te σ H fun x H1k => ∃ a xs, x = .ref a ∧ SqT K H1k a xs ∧ ∀ p, H1k p = none → Q (.ref p) (upd H1k p (.tup xs.reverse))
theorem pe_revT {e : Expr} {te : TE} {k : Nat} {p1 p2 p3 pos : Pos} (hek : PE X e te) : PE X (.Subscript e (.Slice none none (some (.UnaryOp .USub (.Constant (.int 1) k p1) p2)) p3) pos) (tRevT X.K te) := by
  refine ⟨fun pinsk s σ H Q Ik h => ?_⟩
  refine Subscript_ (thn (hek.run pinsk s σ H _ Ik h) fun v s1k ⟨x, H1k, I1k, r1k, q1k⟩ => ?_)
  obtain ⟨a, xs, exk, hxk, q⟩ := q1k
  subst exk
  cases r1k
  have hstk : PO X (some (.UnaryOp .USub (.Constant (.int 1) k p1) p2)) (tPart (tUn (rU fun i => .int (-i)) (tC (.int 1)))) := po_some (pe_un un_neg pe_int)
  refine wpAny_Slice (thn (po_none.run pinsk s1k σ H1k (fun o H2k => o = none ∧ H2k = H1k) I1k ⟨rfl, rfl⟩) fun vlk s2k ⟨l, H2k, I2k, pl, elk, e2k⟩ => ?_)
  subst elk e2k
  refine thn (po_none.run pinsk s2k σ H2k (fun o H3k => o = none ∧ H3k = H2k) I2k ⟨rfl, rfl⟩) fun vuk s3k ⟨u, H3k, I3, pu, euk, e3k⟩ => ?_
  subst euk e3k
  refine thn (hstk.run pinsk s3k σ H3k (fun o H4k => o = some (-1) ∧ H4k = H3k) I3 ⟨1, rfl, -1, rfl, rfl, rfl⟩) fun vs s4k ⟨o, H4k, I4, ps, eok, e4k⟩ => ?_
  subst eok e4k
  have I5k : Inv X pinsk σ H4k { s4k with heap := s4k.heap.push { cls := .type "slice", data := .fields #[vlk, vuk, vs] } } := I4.kept (t' := s4k.toks) fun b ob q => Heap.get?_push_of_some _ q
  obtain ⟨itsk, r, htk, hzk⟩ := I5k.tuple hxk
  have hlen := r.length
  show wpAny (model X.prog X.w) X.A (subscriptTail e (.Slice none none (some (.UnaryOp .USub (.Constant (.int 1) k p1) p2)) p3) (.ref a) (.ref s4k.heap.objs.size)) (EP X pinsk σ Q) X.xe { s4k with heap := s4k.heap.push { cls := .type "slice", data := .fields #[vlk, vuk, vs] } }
  refine tail_any (ops := [.ref a, .ref s4k.heap.objs.size]) htk.typeIs (PyProof.Rows.slot_tuple_getitem.lookup) ?_ (by with_unfolding_all rfl)
  refine HT.as_getItem_rev htk (Heap.IsSliceOf.new _ vlk vuk vs) pl pu ps ?_ (by rw [List.size_toArray]; omega)
  refine ⟨.ref _, _, I5k.laid (t' := s4k.toks) (o := .tup xs.reverse) (fun b ob q => Heap.get?_push_of_some _ q) (Nat.le_refl _) ?_, rfl, q _ (I5k.hok.fresh (Nat.le_refl _))⟩
  exact ⟨by rw [List.length_reverse]; exact hzk, _, r.reverse, ⟨_, Heap.get?_push_size _ rfl, rfl, _, rfl⟩⟩
end
end L2

namespace As
open PySem PySem.Spec PyProof.Rows L2
/-! ### heaps: all but the well of draws stays -/
def ExS (st : Addr) (H H' : Hp) : Prop := ∀ a o, a ≠ st → H a = some o → H' a = some o
theorem ExS.refl (st : Addr) (H : Hp) : ExS st H H := fun _ _ _ h => h
theorem ExS.trans {st : Addr} {H H1 H2 : Hp} (a : ExS st H H1) (b : ExS st H1 H2) : ExS st H H2 := fun x o n h => b x o n (a x o n h)
theorem ExS.of {st : Addr} {H H' : Hp} (e : Same H H') : ExS st H H' := fun a o _ h => e a o h
theorem same_new {H : Hp} {p : Addr} {o : HO} (h : H p = none) : Same H (upd H p o) := fun a u e => by
  rw [upd_ne (ne_of_none e h)]
  exact e
theorem ExS.new {st : Addr} {H : Hp} {p : Addr} {o : HO} (h : H p = none) : ExS st H (upd H p o) := .of (same_new h)
theorem ExS.at_ {st : Addr} {H : Hp} {o : HO} : ExS st H (upd H st o) := fun a u n e => by
  rw [upd_ne n]
  exact e
theorem Same.new {H H' : Hp} {p : Addr} {o : HO} (e : Same H H') (h : H' p = none) : Same H (upd H' p o) := Same.trans e (same_new h)
theorem Same.mut {H H' : Hp} {p : Addr} {o : HO} (e : Same H H') (h : H p = none) : Same H (upd H' p o) := fun a u ha => by
  rw [upd_ne (ne_of_none ha h)]
  exact e a u ha
theorem ExS.seq {K : PySem.W.Frag} {st : Addr} {H H' : Hp} {a : Addr} {xs : List V} (n : a ≠ st) (e : ExS st H H') (h : SqL K H a xs) : SqL K H' a xs := by
  rcases h with (h | ⟨o, h⟩) | h
  · exact .inl (.inl (e _ _ n h))
  · exact .inl (.inr ⟨o, e _ _ n h⟩)
  · exact .inr h
/-! ### data -/
inductive D where
  | non
  | bl (b : Bool)
  | int (i : Int)
  | str (z : Str)
  | tup (ds : List D)
  | lst (ds : List D)
  | dct
mutual
inductive TD (st : Addr) (H : Hp) : V → D → Prop
  | non : TD st H .non .non
  | bl (b : Bool) : TD st H (.bl b) (.bl b)
  | int (i : Int) : TD st H (.int i) (.int i)
  | str (z : Str) : TD st H (.str z) (.str z)
  | tup {a : Addr} {xs : List V} {ds : List D} : a ≠ st → H a = some (.tup xs) → TDs st H xs ds → TD st H (.ref a) (.tup ds)
  | lst {a : Addr} {xs : List V} {ds : List D} : a ≠ st → H a = some (.lst xs) → TDs st H xs ds → TD st H (.ref a) (.lst ds)
  | dct {a : Addr} : a ≠ st → H a = some (.dK []) → TD st H (.ref a) .dct
inductive TDs (st : Addr) (H : Hp) : List V → List D → Prop
  | nil : TDs st H [] []
  | cons {v : V} {vs : List V} {d : D} {ds : List D} : TD st H v d → TDs st H vs ds → TDs st H (v :: vs) (d :: ds)
end
mutual
theorem TD.mono {st : Addr} {H H' : Hp} (e : ExS st H H') : ∀ {v : V} {d : D}, TD st H v d → TD st H' v d
  | _, _, .non => .non
  | _, _, .bl b => .bl b
  | _, _, .int i => .int i
  | _, _, .str z => .str z
  | _, _, .tup n h t => .tup n (e _ _ n h) (TDs.mono e t)
  | _, _, .lst n h t => .lst n (e _ _ n h) (TDs.mono e t)
  | _, _, .dct n h => .dct n (e _ _ n h)
theorem TDs.mono {st : Addr} {H H' : Hp} (e : ExS st H H') : ∀ {vs : List V} {ds : List D}, TDs st H vs ds → TDs st H' vs ds
  | _, _, .nil => .nil
  | _, _, .cons h t => .cons (TD.mono e h) (TDs.mono e t)
end
theorem TDs.length {st : Addr} {H : Hp} : ∀ {vs : List V} {ds : List D}, TDs st H vs ds → vs.length = ds.length
  | _, _, .nil => rfl
  | _, _, .cons _ t => congrArg (· + 1) t.length
theorem TDs.get {st : Addr} {H : Hp} : ∀ {vs : List V} {ds : List D} {i : Nat} {v : V}, TDs st H vs ds → vs[i]? = some v → ∃ d, ds[i]? = some d ∧ TD st H v d
  | _, _, i, _, .nil, h => by simp at h
  | _, _, 0, _, .cons h _, e => by
    have e' := Option.some.inj e
    subst e'
    exact ⟨_, rfl, h⟩
  | _, _, i + 1, _, .cons _ t, e => t.get (i := i) e
theorem TDs.append {st : Addr} {H : Hp} : ∀ {vs ws : List V} {ds es : List D}, TDs st H vs ds → TDs st H ws es → TDs st H (vs ++ ws) (ds ++ es)
  | _, _, _, _, .nil, h => h
  | _, _, _, _, .cons h t, r => .cons h (t.append r)
theorem TDs.drop {st : Addr} {H : Hp} : ∀ {vs : List V} {ds : List D} (n : Nat), TDs st H vs ds → TDs st H (vs.drop n) (ds.drop n)
  | _, _, 0, h => h
  | _, _, _ + 1, .nil => .nil
  | _, _, n + 1, .cons _ t => t.drop n
theorem TDs.take {st : Addr} {H : Hp} : ∀ {vs : List V} {ds : List D} (n : Nat), TDs st H vs ds → TDs st H (vs.take n) (ds.take n)
  | _, _, 0, _ => .nil
  | _, _, _ + 1, .nil => .nil
  | _, _, n + 1, .cons h t => .cons h (t.take n)
theorem TDs.rev {st : Addr} {H : Hp} : ∀ {vs : List V} {ds : List D}, TDs st H vs ds → TDs st H vs.reverse ds.reverse
  | _, _, .nil => .nil
  | _, _, .cons h t => by
    rw [List.reverse_cons, List.reverse_cons]
    exact t.rev.append (.cons h .nil)
theorem TDs.rep {st : Addr} {H : Hp} {v : V} {d : D} (h : TD st H v d) : ∀ n : Nat, TDs st H (List.replicate n v) (List.replicate n d)
  | 0 => .nil
  | n + 1 => .cons h (TDs.rep h n)
theorem TDs.cut {st : Addr} {H : Hp} {vs : List V} {ds : List D} (lo hi : Option Int) (h : TDs st H vs ds) : ∃ es, TDs st H (cutV vs lo hi) es := ⟨_, (h.drop _).take _⟩
def tyD : D → String
  | .non => "NoneType"
  | .bl _ => "bool"
  | .int _ => "int"
  | .str _ => "str"
  | .tup _ => "tuple"
  | .lst _ => "list"
  | .dct => "dict"
theorem TD.ty {K : PySem.W.Frag} {st : Addr} {H : Hp} {v : V} {d : D} (h : TD st H v d) : TyX K H v (.type (tyD d)) := by
  cases h with
  | non => exact .base .non
  | bl b => exact .base (.bl b)
  | int i => exact .base (.int i)
  | str z => exact .base (.str z)
  | tup n h t => exact .base (.tup h)
  | lst n h t => exact .base (.lst h)
  | dct n h => exact .base (.dK h)
def isInt : D → Bool
  | .bl _ => true
  | .int _ => true
  | _ => false
def isBool : D → Bool
  | .bl _ => true
  | _ => false
def isStr : D → Bool
  | .str _ => true
  | _ => false
def isTup : D → Bool
  | .tup _ => true
  | _ => false
def isLst : D → Bool
  | .lst _ => true
  | _ => false
theorem kit_int (d : D) : kitB (tyD d) "int" = some (isInt d) := by
  cases d with
  | non => exact (show kitB "NoneType" "int" = some false by decide +kernel)
  | bl _ => exact (show kitB "bool" "int" = some true by decide +kernel)
  | int _ => exact (show kitB "int" "int" = some true by decide +kernel)
  | str _ => exact (show kitB "str" "int" = some false by decide +kernel)
  | tup _ => exact (show kitB "tuple" "int" = some false by decide +kernel)
  | lst _ => exact (show kitB "list" "int" = some false by decide +kernel)
  | dct => exact (show kitB "dict" "int" = some false by decide +kernel)
theorem kit_bool (d : D) : kitB (tyD d) "bool" = some (isBool d) := by
  cases d with
  | non => exact (show kitB "NoneType" "bool" = some false by decide +kernel)
  | bl _ => exact (show kitB "bool" "bool" = some true by decide +kernel)
  | int _ => exact (show kitB "int" "bool" = some false by decide +kernel)
  | str _ => exact (show kitB "str" "bool" = some false by decide +kernel)
  | tup _ => exact (show kitB "tuple" "bool" = some false by decide +kernel)
  | lst _ => exact (show kitB "list" "bool" = some false by decide +kernel)
  | dct => exact (show kitB "dict" "bool" = some false by decide +kernel)
theorem kit_str (d : D) : kitB (tyD d) "str" = some (isStr d) := by
  cases d with
  | non => exact (show kitB "NoneType" "str" = some false by decide +kernel)
  | bl _ => exact (show kitB "bool" "str" = some false by decide +kernel)
  | int _ => exact (show kitB "int" "str" = some false by decide +kernel)
  | str _ => exact (show kitB "str" "str" = some true by decide +kernel)
  | tup _ => exact (show kitB "tuple" "str" = some false by decide +kernel)
  | lst _ => exact (show kitB "list" "str" = some false by decide +kernel)
  | dct => exact (show kitB "dict" "str" = some false by decide +kernel)
theorem kit_tup (d : D) : kitB (tyD d) "tuple" = some (isTup d) := by
  cases d with
  | non => exact (show kitB "NoneType" "tuple" = some false by decide +kernel)
  | bl _ => exact (show kitB "bool" "tuple" = some false by decide +kernel)
  | int _ => exact (show kitB "int" "tuple" = some false by decide +kernel)
  | str _ => exact (show kitB "str" "tuple" = some false by decide +kernel)
  | tup _ => exact (show kitB "tuple" "tuple" = some true by decide +kernel)
  | lst _ => exact (show kitB "list" "tuple" = some false by decide +kernel)
  | dct => exact (show kitB "dict" "tuple" = some false by decide +kernel)
theorem kit_lst (d : D) : kitB (tyD d) "list" = some (isLst d) := by
  cases d with
  | non => exact (show kitB "NoneType" "list" = some false by decide +kernel)
  | bl _ => exact (show kitB "bool" "list" = some false by decide +kernel)
  | int _ => exact (show kitB "int" "list" = some false by decide +kernel)
  | str _ => exact (show kitB "str" "list" = some false by decide +kernel)
  | tup _ => exact (show kitB "tuple" "list" = some false by decide +kernel)
  | lst _ => exact (show kitB "list" "list" = some true by decide +kernel)
  | dct => exact (show kitB "dict" "list" = some false by decide +kernel)
theorem isi {K : PySem.W.Frag} {st : Addr} {H : Hp} {v : V} {d : D} {n : String} {b : Bool} {Q : VK} (h : TD st H v d) (k : kitB (tyD d) n = some b) (q : Q (.bl b) H) : rIsi K [v, .ty n] H Q :=
  ⟨v, .ty n, _, _, b, rfl, .ty n, h.ty, kit_ty k, q⟩
/-! ### steps -/
abbrev Pr := Str × Int
def stepD (p : Pr) : D := .tup [.str p.1, .int p.2]
def wR : Str := "read"
def wW : Str := "write"
def wordB (z : Str) : Bool := decide (z = wR) || decide (z = wW)
def boxB (i : Int) : Bool := decide (0 ≤ i) && decide (i ≤ 100000000)
def asPr : D → Option Pr
  | .tup [.str z, .int i] => if wordB z && boxB i then some (z, i) else none
  | _ => none
def isStep (d : D) : Bool := (asPr d).isSome
theorem asPr_some {d : D} {p : Pr} (h : asPr d = some p) : d = stepD p ∧ wordB p.1 = true ∧ boxB p.2 = true := by
  unfold asPr at h
  split at h
  · split at h
    · rename_i z i hc
      have e := Option.some.inj h
      subst e
      rw [Bool.and_eq_true] at hc
      exact ⟨rfl, hc.1, hc.2⟩
    · cases h
  · cases h
theorem asPr_step {p : Pr} (h1 : wordB p.1 = true) (h2 : boxB p.2 = true) : asPr (stepD p) = some p := by
  show (if (wordB p.1 && boxB p.2) = true then some (p.1, p.2) else none) = some p
  rw [h1, h2]
  rfl
/-- the place of a step among those ahead: what the program asks, and what the law does -/
def mayP (p : Pr) (l : List Pr) : Bool := !decide (p ∈ l) && !decide ((wW, p.2) ∈ l)
def mayL (p : Pr) (l : List Pr) : Bool := !decide (p ∈ l) && !(decide (p.1 = wR) && decide ((wW, p.2) ∈ l))
theorem may_eq {p : Pr} (h : wordB p.1 = true) (l : List Pr) : mayP p l = mayL p l := by
  unfold mayP mayL
  obtain ⟨z, i⟩ := p
  unfold wordB at h
  rw [Bool.or_eq_true, decide_eq_true_eq, decide_eq_true_eq] at h
  rcases h with h | h
  · have h' : z = wR := h
    subst h'
    rw [decide_eq_true (show (wR, i).1 = wR from rfl), Bool.true_and]
  · have h' : z = wW := h
    subst h'
    have n : ¬ (wW = wR) := by decide
    rw [decide_eq_false (show ¬ (wW, i).1 = wR from n), Bool.false_and]
    cases hd : decide ((wW, i) ∈ l) <;> simp_all
/-- the pairs of a list of steps -/
def prs : List D → Option (List Pr)
  | [] => some []
  | d :: ds => match asPr d, prs ds with
    | some p, some l => some (p :: l)
    | _, _ => none
theorem prs_some : ∀ {ds : List D} {l : List Pr}, prs ds = some l → ds = l.map stepD ∧ (∀ p ∈ l, wordB p.1 = true ∧ boxB p.2 = true)
  | [], l, h => by
    have e : [] = l := Option.some.inj h
    subst e
    exact ⟨rfl, fun p hp => by cases hp⟩
  | d :: ds, l, h => by
    unfold prs at h
    split at h
    · rename_i p r h1 h2
      have e := Option.some.inj h
      subst e
      obtain ⟨e1, w1, b1⟩ := asPr_some h1
      obtain ⟨e2, w2⟩ := prs_some h2
      refine ⟨by rw [e1, e2]; rfl, fun q hq => ?_⟩
      rcases List.mem_cons.mp hq with e | e
      · rw [e]; exact ⟨w1, b1⟩
      · exact w2 q e
    · cases h
theorem prs_isSome : ∀ ds : List D, (prs ds).isSome = ds.all isStep
  | [] => rfl
  | d :: ds => by
    have ih := prs_isSome ds
    rw [List.all_cons, ← ih]
    show (match asPr d, prs ds with | some p, some l => some (p :: l) | _, _ => none).isSome = (isStep d && (prs ds).isSome)
    cases h1 : asPr d with
    | none =>
      have e : isStep d = false := by unfold isStep; rw [h1]; rfl
      rw [e, Bool.false_and]
      rfl
    | some p =>
      have e : isStep d = true := by unfold isStep; rw [h1]; rfl
      rw [e, Bool.true_and]
      cases h2 : prs ds with
      | none => rfl
      | some l => rfl
theorem prs_of {l : List Pr} (h : ∀ p ∈ l, wordB p.1 = true ∧ boxB p.2 = true) : prs (l.map stepD) = some l := by
  induction l with
  | nil => rfl
  | cons p l ih =>
    have hp := h p (List.mem_cons_self ..)
    rw [List.map_cons]
    unfold prs
    rw [asPr_step hp.1 hp.2, ih fun q hq => h q (List.mem_cons_of_mem _ hq)]
/-- all places may follow -/
def follow (m : Pr → List Pr → Bool) (l : List Pr) : Bool := (List.range l.length).all fun i => match l[i]? with
  | some p => m p (l.take i)
  | none => true
def isDealing : D → Bool
  | .tup ds => decide (1 ≤ ds.length) && decide (ds.length ≤ 8) && match prs ds with
    | some l => follow mayP l
    | none => false
  | _ => false
def areDealings : D → Bool
  | .lst ds => decide (1 ≤ ds.length) && decide (ds.length ≤ 100) && ds.all isDealing
  | _ => false
/-! ### steps as the library's data -/
def stepP (p : Pr) : PyData := .tuple [.str p.1, .int p.2]
theorem word_ok {z : Str} (h : wordB z = true) : PyData.strOk z = true := by
  unfold wordB at h
  rw [Bool.or_eq_true, decide_eq_true_eq, decide_eq_true_eq] at h
  rcases h with h | h
  · subst h; decide +kernel
  · subst h; decide +kernel
theorem stepP_lay {p : Pr} (h : wordB p.1 = true) : (stepP p).canLay0 = true := by simp [stepP, PyData.canLay0, PyData.canLayAll0, word_ok h]
theorem stepP_depth (p : Pr) : (stepP p).depth = 1 := by simp [stepP, PyData.depth, PyData.depthAll]
theorem stepPs_lay : ∀ {l : List Pr}, (∀ p ∈ l, wordB p.1 = true) → PyData.canLayAll0 (l.map stepP) = true
  | [], _ => by simp [PyData.canLayAll0]
  | p :: l, h => by simp [PyData.canLayAll0, stepP_lay (h p (List.mem_cons_self ..)), stepPs_lay fun q hq => h q (List.mem_cons_of_mem _ hq)]
theorem stepPs_depth : ∀ l : List Pr, PyData.depthAll (l.map stepP) ≤ 1
  | [] => by simp [PyData.depthAll]
  | p :: l => by
    have h1 := stepPs_depth l
    have h2 := stepP_depth p
    simp only [List.map_cons, PyData.depthAll]
    omega
theorem stepP_shaped {p : Pr} (hw : wordB p.1 = true) : SeqAt.shaped (stepP p) = true := by
  have h := stepP_depth p
  show ((stepP p).canLay0 && decide ((stepP p).depth ≤ 64)) = true
  rw [Bool.and_eq_true]
  exact ⟨stepP_lay hw, decide_eq_true (by omega)⟩
theorem stepPs_shapedT {l : List Pr} (hw : ∀ p ∈ l, wordB p.1 = true) : SeqAt.shaped (.tuple (l.map stepP)) = true := by
  have h1 := stepPs_depth l
  have h2 : PyData.depth (.tuple (l.map stepP)) ≤ 64 := by
    simp only [PyData.depth]
    omega
  show (PyData.canLay0 (.tuple (l.map stepP)) && decide (PyData.depth (.tuple (l.map stepP)) ≤ 64)) = true
  rw [Bool.and_eq_true]
  exact ⟨by simp only [PyData.canLay0]; exact stepPs_lay hw, decide_eq_true h2⟩
theorem stepPs_shapedL {l : List Pr} (hw : ∀ p ∈ l, wordB p.1 = true) : SeqAt.shaped (.list (l.map stepP)) = true := by
  have h1 := stepPs_depth l
  have h2 : PyData.depth (.list (l.map stepP)) ≤ 64 := by
    simp only [PyData.depth]
    omega
  show (PyData.canLay0 (.list (l.map stepP)) && decide (PyData.depth (.list (l.map stepP)) ≤ 64)) = true
  rw [Bool.and_eq_true]
  exact ⟨by simp only [PyData.canLay0]; exact stepPs_lay hw, decide_eq_true h2⟩
theorem stepP_eqv (p q : Pr) : PyData.eqv (stepP p) (stepP q) = decide (p = q) := by
  obtain ⟨z, i⟩ := p
  obtain ⟨y, j⟩ := q
  have e : PyData.eqv (stepP (z, i)) (stepP (y, j)) = ((z == y) && ((i == j) && true)) := by simp only [stepP, PyData.eqv, PyData.eqvAll]
  rw [e]
  by_cases h1 : z = y
  · by_cases h2 : i = j
    · subst h1 h2
      simp
    · have q : (i == j) = false := beq_eq_false_iff_ne.mpr h2
      rw [q, Bool.false_and, Bool.and_false, decide_eq_false]
      intro z
      exact h2 (Prod.mk.inj z).2
  · have q : (z == y) = false := beq_eq_false_iff_ne.mpr h1
    rw [q, Bool.false_and, decide_eq_false]
    intro z
    exact h1 (Prod.mk.inj z).1
theorem any_step (l : List Pr) (p : Pr) : ((l.map stepP).any fun z => PyData.eqv z (stepP p)) = decide (p ∈ l) := by
  induction l with
  | nil => simp
  | cons q l ih =>
    rw [List.map_cons, List.any_cons, ih, stepP_eqv]
    by_cases h1 : q = p
    · subst h1
      simp
    · have h1' : ¬ p = q := fun e => h1 e.symm
      rw [decide_eq_false h1, Bool.false_or]
      exact decide_eq_decide.mpr ⟨fun h => List.mem_cons_of_mem _ h, fun h => (List.mem_cons.mp h).resolve_left h1'⟩
theorem TD.stepDp {K : PySem.W.Frag} {st : Addr} {H : Hp} {v : V} {p : Pr} (h : TD st H v (stepD p)) : Dp K H v (stepP p) := by
  cases h with
  | tup n h t =>
    cases t with
    | cons h1 t =>
      cases t with
      | cons h2 t =>
        cases t
        cases h1
        cases h2
        exact .tup (.inl (.inl h)) (.cons (.str _) (.cons (.int _) .nil))
theorem TDs.stepsDp {K : PySem.W.Frag} {st : Addr} {H : Hp} : ∀ {l : List Pr} {vs : List V}, TDs st H vs (l.map stepD) → DpAll K H vs (l.map stepP)
  | [], _, h => by
    cases h
    exact .nil
  | p :: l, _, h => by
    cases h with
    | cons h t => exact .cons h.stepDp t.stepsDp
theorem TD.stepV {st : Addr} {H : Hp} {v : V} {p : Pr} (h : TD st H v (stepD p)) : ∃ b, v = .ref b ∧ b ≠ st ∧ H b = some (.tup [.str p.1, .int p.2]) := by
  cases h with
  | @tup b ys _ n h t =>
    cases t with
    | cons h1 t =>
      cases t with
      | cons h2 t =>
        cases t
        cases h1
        cases h2
        exact ⟨b, rfl, n, h⟩
theorem TDs.stepsT {st : Addr} {H H' : Hp} (e : ∀ a ys, a ≠ st → H a = some (.tup ys) → H' a = some (.tup ys)) : ∀ {l : List Pr} {vs : List V}, TDs st H vs (l.map stepD) → TDs st H' vs (l.map stepD)
  | [], _, h => by
    cases h
    exact .nil
  | p :: l, _, h => by
    cases h with
    | cons h t =>
      obtain ⟨b, rfl, n, hb⟩ := h.stepV
      exact .cons (.tup n (e _ _ n hb) (.cons (.str _) (.cons (.int _) .nil))) (t.stepsT e)
end As

namespace As
open PySem PySem.Spec PyProof.Rows L2
theorem hu65 {A : Around} {k : Nat} (hr : Room k A) : A.units + 65 < cLine := by have := hr.un; omega
theorem sl_of {n : Nat} (h : n ≤ 100000) : n ≤ sizeLine := Nat.le_trans h (by decide)
theorem sl_lt {n : Nat} (h : n < 100000) : n < sizeLine := Nat.lt_of_lt_of_le h (by decide)
def kept (n : Nat) (t : Nat → Bool) (f : Nat → V) : List V := ((List.range n).filter t).map f
theorem kept_succ (n : Nat) (t : Nat → Bool) (f : Nat → V) : kept (n + 1) t f = kept n t f ++ (if t n then [f n] else []) := by
  unfold kept
  rw [List.range_succ, List.filter_append, List.map_append]
  cases h : t n <;> simp [h]
theorem kept_len (n : Nat) (t : Nat → Bool) (f : Nat → V) : (kept n t f).length ≤ n := by
  unfold kept
  rw [List.length_map]
  have h := List.length_filter_le t (List.range n)
  rw [List.length_range] at h
  exact h
theorem kept_all (n : Nat) (f : Nat → V) : kept n (fun _ => true) f = (List.range n).map f := by
  unfold kept
  congr 1
  exact List.filter_eq_self.mpr fun _ _ => rfl
/-- a comprehension that changes nothing that was there: what it keeps -/
theorem lc_kept {J : It} {n : Nat} {G : Hp → Prop} {Y : Nat → Hp → V → Hp → Prop} (w : Walk J n G Y) {g : TG} {tt : TT} {te : TE} {vs : List Nat} {σ : L2.St} {H1 : Hp} {D : Addr} {Qd : Hp → Prop} (t : Nat → Bool) (f : Nat → V) (hD : H1 D = none) (hn : n ≤ 10000) (hG : ∀ H, Same H1 H → G H)
    (hs : ∀ i x H H' (N : Hp → Prop) (R : VK), i < n → Same H1 H → Y i H x H' → (t i = false → ∀ H'', Same H H'' → N H'') → (t i = true → ∀ H'', Same H H'' → R (f i) H'') →
      g x (wipe σ vs) H' fun σ2 H2 => wipe σ2 vs = wipe σ vs ∧ tt σ2 H2 fun b H3 => if b = true then te σ2 H3 R else N H3)
    (hd : ∀ H, Same H1 H → H D = some (.lst (kept n t f)) → Qd H) :
    ∃ W : Nat → Nat → Hp → Prop, (∃ m, W 0 m (upd H1 D (.lst []))) ∧ ∀ i m H, W i m H → (J.stop i H ∧ Qd H) ∨ (J.go i H ∧ ∃ Nx : Hp → Prop, (∀ H', Nx H' → ∃ m', m' < m ∧ W (i + 1) m' H') ∧ ∀ x H', J.yld i H x H' → g x (wipe σ vs) H' fun σ2 H2 => wipe σ2 vs = wipe σ vs ∧ tt σ2 H2 fun b H3 =>
        if b = true then te σ2 H3 fun y H4 => ∃ acc, H4 D = some (.lst acc) ∧ acc.length < sizeLine ∧ Nx (upd H4 D (.lst (acc ++ [y]))) else Nx H3) := by
  refine lc_it w (fun i H => Same H1 H ∧ H D = some (.lst (kept i t f))) ⟨same_new hD, upd_same⟩ (fun i H _ p => hG H p.1) (fun i x H H' hi p y => ?_) (fun H p => hd H p.1 p.2)
  obtain ⟨p1, p2⟩ := p
  refine hs i x H H' _ _ hi p1 y (fun ht H'' e => ⟨Same.trans p1 e, ?_⟩) (fun ht H'' e => ⟨kept i t f, e _ _ p2, sl_lt (by have := kept_len i t f; omega), Same.mut (Same.trans p1 e) hD, ?_⟩)
  · rw [kept_succ, ht, if_neg Bool.false_ne_true, List.append_nil]
    exact e _ _ p2
  · rw [kept_succ, ht, if_pos rfl]
    exact upd_same
theorem yesI {te : TE} {σ : L2.St} {H : Hp} {R : VK} {N : Hp → Prop} (h : te σ H R) : tYes σ H fun b H3 => if b = true then te σ H3 R else N H3 := by
  show if true = true then te σ H R else N H
  exact iteT h
theorem isDealing_eq (ds : List D) : isDealing (.tup ds) = (decide (1 ≤ ds.length) && decide (ds.length ≤ 8) && match prs ds with | some l => follow mayP l | none => false) := rfl
theorem areDealings_eq (ds : List D) : areDealings (.lst ds) = (decide (1 ≤ ds.length) && decide (ds.length ≤ 100) && ds.all isDealing) := rfl
end As

namespace As
open PySem PySem.Spec PyProof.Rows L2
theorem follow_get {m : Pr → List Pr → Bool} {l : List Pr} (h : follow m l = true) {i : Nat} {p : Pr} (hp : l[i]? = some p) : m p (l.take i) = true := by
  unfold follow at h
  rw [List.all_eq_true] at h
  have := h i (List.mem_range.mpr (List.getElem?_eq_some_iff.mp hp).1)
  rw [hp] at this
  exact this
theorem follow_mk {m : Pr → List Pr → Bool} {l : List Pr} (h : ∀ i p, l[i]? = some p → m p (l.take i) = true) : follow m l = true := by
  unfold follow
  rw [List.all_eq_true]
  intro i _
  cases hp : l[i]? with
  | none => rfl
  | some p => exact h i p hp
theorem follow_snoc {m : Pr → List Pr → Bool} {l : List Pr} {p : Pr} (h : follow m l = true) (hp : m p l = true) : follow m (l ++ [p]) = true := by
  refine follow_mk fun i q hq => ?_
  by_cases hi : i < l.length
  · rw [List.getElem?_append_left hi] at hq
    rw [List.take_append_of_le_length (by omega)]
    exact follow_get h hq
  · have ei : i = l.length := by
      have h1 := (List.getElem?_eq_some_iff.mp hq).1
      rw [List.length_append] at h1
      have h2 : ([p] : List Pr).length = 1 := rfl
      omega
    subst ei
    rw [List.getElem?_append_right (Nat.le_refl _), Nat.sub_self] at hq
    have e : p = q := Option.some.inj hq
    subst e
    rw [List.take_append_of_le_length (Nat.le_refl _), List.take_of_length_le (Nat.le_refl _)]
    exact hp
/-- at most two steps of a box -/
theorem two_of_box {m : List Pr} (hf : follow mayP m = true) (hw : ∀ p ∈ m, wordB p.1 = true) (b : Int) (t : Pr → Bool) (ht : ∀ q, t q = true → q.2 = b) : (m.filter t).length ≤ 2 := by
  have nd : m.Pairwise (fun p q => p ≠ q) := by
    rw [List.pairwise_iff_getElem]
    intro i j hi hj hij e
    have h1 := follow_get hf (List.getElem?_eq_getElem hj)
    unfold mayP at h1
    rw [Bool.and_eq_true, Bool.not_eq_true', decide_eq_false_iff_not] at h1
    refine h1.1 ?_
    rw [← e]
    exact List.mem_take_iff_getElem.mpr ⟨i, by omega, rfl⟩
  have nf := nd.filter t
  have mem : ∀ q ∈ m.filter t, q = (wR, b) ∨ q = (wW, b) := fun q hq => by
    have h1 := List.mem_filter.mp hq
    have h2 := ht q h1.2
    have h3 := hw q h1.1
    unfold wordB at h3
    rw [Bool.or_eq_true, decide_eq_true_eq, decide_eq_true_eq] at h3
    rcases h3 with h3 | h3
    · exact .inl (Prod.ext h3 h2)
    · exact .inr (Prod.ext h3 h2)
  match hF : m.filter t, nf, mem with
  | [], _, _ => exact Nat.zero_le _
  | [_], _, _ => exact (by decide : 1 ≤ 2)
  | [_, _], _, _ => exact Nat.le_refl 2
  | x :: y :: z :: r, nf, mem =>
    exfalso
    rw [List.pairwise_cons, List.pairwise_cons] at nf
    obtain ⟨n1, n2, _⟩ := nf
    have xy := n1 y (by simp)
    have xz := n1 z (by simp)
    have yz := n2 z (by simp)
    have mx := mem x (by simp)
    have my := mem y (by simp)
    have mz := mem z (by simp)
    rcases mx with mx | mx <;> rcases my with my | my <;> rcases mz with mz | mz <;> simp_all
end As

/-! a program's defs as functions on plain data: values W, a store S of the objects that may change (cells), and what it is for them to stand in the heap -/
namespace As
open PySem PySem.Spec PyProof.Rows L2
inductive W where
  | d (d : D)
  | c (k : Nat)
  | t (ws : List W)
  | g (v : V)
  | j
  | s (ns : List Int)
inductive Cell where
  | l (ds : List D)
  | w (ws : List W)
  | dk (kvs : List (Key × W))
  | dt (kvs : List (List Key × W))
  | ins (c : Str) (fs : List (Str × W))
abbrev Store := List Cell
abbrev Env := List (Option W)
structure Mp where
  hid : Addr → Prop
  ad : List Addr
def Mp.live (M : Mp) (a : Addr) : Prop := a ∈ M.ad ∨ M.hid a
def KL (K : PySem.W.Frag) (a : Addr) (xs : List V) : Prop := ∃ (o : Obj) (its : Array Value) (n : Nat), K.lookup a = some o ∧ o.cls = .type "list" ∧ o.dict = none ∧ o.data = .seq its n ∧ its.size ≤ sizeLine ∧ Vals xs its.toList
def KT (K : PySem.W.Frag) (a : Addr) (xs : List V) : Prop := ∃ (o : Obj) (its : Array Value) (n : Nat), K.lookup a = some o ∧ o.cls = .type "tuple" ∧ o.data = .seq its n ∧ its.size ≤ sizeLine ∧ Vals xs its.toList
def NL (M : Mp) (H : Hp) (a : Addr) (xs : List V) : Prop := ¬ M.live a ∧ H a = some (.lst xs)
def NT (K : PySem.W.Frag) (M : Mp) (H : Hp) (a : Addr) (xs : List V) : Prop := ¬ M.live a ∧ H a = some (.tup xs)
theorem NL.sq {K : PySem.W.Frag} {M : Mp} {H : Hp} {a : Addr} {xs : List V} (h : NL M H a xs) : SqL K H a xs := .inl (.inl h.2)
theorem NT.sq {K : PySem.W.Frag} {M : Mp} {H : Hp} {a : Addr} {xs : List V} (h : NT K M H a xs) : SqT K H a xs := .inl (.inl h.2)
mutual
inductive RD (K : PySem.W.Frag) (M : Mp) (H : Hp) : V → D → Prop
  | non : RD K M H .non .non
  | bl (b : Bool) : RD K M H (.bl b) (.bl b)
  | int (i : Int) : RD K M H (.int i) (.int i)
  | str (z : Str) : RD K M H (.str z) (.str z)
  | tup {a : Addr} {xs : List V} {ds : List D} : NT K M H a xs → RDs K M H xs ds → RD K M H (.ref a) (.tup ds)
  | lst {a : Addr} {xs : List V} {ds : List D} : NL M H a xs → RDs K M H xs ds → RD K M H (.ref a) (.lst ds)
  | dct {a : Addr} : ¬ M.live a → H a = some (.dK []) → RD K M H (.ref a) .dct
inductive RDs (K : PySem.W.Frag) (M : Mp) (H : Hp) : List V → List D → Prop
  | nil : RDs K M H [] []
  | cons {v : V} {vs : List V} {d : D} {ds : List D} : RD K M H v d → RDs K M H vs ds → RDs K M H (v :: vs) (d :: ds)
end
mutual
inductive RW (K : PySem.W.Frag) (M : Mp) (H : Hp) : V → W → Prop
  | d {v : V} {d : D} : RD K M H v d → RW K M H v (.d d)
  | c {k : Nat} {a : Addr} : M.ad[k]? = some a → RW K M H (.ref a) (.c k)
  | t {a : Addr} {xs : List V} {ws : List W} : ¬ M.live a → H a = some (.tup xs) → RWs K M H xs ws → RW K M H (.ref a) (.t ws)
  | g (v : V) : RW K M H v (.g v)
  | j (v : V) : RW K M H v .j
  | s {a : Addr} {ns : List Int} : (¬ M.live a ∧ Rd H a (.lst (ns.map V.int))) ∨ KL K a (ns.map V.int) → RW K M H (.ref a) (.s ns)
inductive RWs (K : PySem.W.Frag) (M : Mp) (H : Hp) : List V → List W → Prop
  | nil : RWs K M H [] []
  | cons {v : V} {vs : List V} {d : W} {ds : List W} : RW K M H v d → RWs K M H vs ds → RWs K M H (v :: vs) (d :: ds)
end
inductive RK {κ : Type} (K : PySem.W.Frag) (M : Mp) (H : Hp) : List (κ × V) → List (κ × W) → Prop
  | nil : RK K M H [] []
  | cons {k : κ} {v : V} {vs : List (κ × V)} {w : W} {ws : List (κ × W)} : RW K M H v w → RK K M H vs ws → RK K M H ((k, v) :: vs) ((k, w) :: ws)
inductive RO (K : PySem.W.Frag) (M : Mp) (H : Hp) : List (Option V) → Env → Prop
  | nil : RO K M H [] []
  | no {o : Option V} {vs : List (Option V)} {ws : Env} : RO K M H vs ws → RO K M H (o :: vs) (none :: ws)
  | so {v : V} {vs : List (Option V)} {w : W} {ws : Env} : RW K M H v w → RO K M H vs ws → RO K M H (some v :: vs) (some w :: ws)
def CellOk (K : PySem.W.Frag) (M : Mp) (H : Hp) (a : Addr) : Cell → Prop
  | .l ds => ∃ xs, H a = some (.lst xs) ∧ RDs K M H xs ds
  | .w ws => ∃ xs, H a = some (.lst xs) ∧ RWs K M H xs ws
  | .dk kvs => ∃ gs, H a = some (.dK gs) ∧ RK K M H gs kvs
  | .dt kvs => ∃ gs, H a = some (.dT gs) ∧ RK K M H gs kvs
  | .ins c fs => ∃ C dx gs, PySem.W.nsIn K mainGlobals c = some (some (.ref C)) ∧ H a = some (.ins C dx gs) ∧ RK K M H gs fs
structure RS (K : PySem.W.Frag) (M : Mp) (S : Store) (H : Hp) : Prop where
  nd : M.ad.Nodup
  dj : ∀ a ∈ M.ad, ¬ M.hid a
  len : M.ad.length = S.length
  ok : ∀ (k : Nat) a c, M.ad[k]? = some a → S[k]? = some c → CellOk K M H a c
  hd : ∀ a, M.hid a → H a ≠ none
structure Ext (M M' : Mp) (H H' : Hp) : Prop where
  hid : M'.hid = M.hid
  ad : ∃ more, M'.ad = M.ad ++ more
  st : ∀ a o, H a = some o → a ∉ M.ad → H' a = some o ∧ a ∉ M'.ad
theorem Ext.refl (M : Mp) (H : Hp) : Ext M M H H := ⟨rfl, ⟨[], (List.append_nil _).symm⟩, fun _ _ h n => ⟨h, n⟩⟩
theorem Ext.trans {M M1 M2 : Mp} {H H1 H2 : Hp} (a : Ext M M1 H H1) (b : Ext M1 M2 H1 H2) : Ext M M2 H H2 := by
  obtain ⟨m1, e1⟩ := a.ad
  obtain ⟨m2, e2⟩ := b.ad
  refine ⟨b.hid.trans a.hid, ⟨m1 ++ m2, by rw [e2, e1, List.append_assoc]⟩, fun x o h n => ?_⟩
  obtain ⟨h1, n1⟩ := a.st x o h n
  exact b.st x o h1 n1
theorem Ext.live {M M' : Mp} {H H' : Hp} {a : Addr} {o : HO} (e : Ext M M' H H') (n : ¬ M.live a) (h : H a = some o) : ¬ M'.live a ∧ H' a = some o := by
  have n1 : a ∉ M.ad := fun z => n (.inl z)
  obtain ⟨h1, n2⟩ := e.st a o h n1
  refine ⟨fun z => z.elim n2 fun z => n (.inr ?_), h1⟩
  rw [← e.hid]
  exact z
theorem Ext.rd {M M' : Mp} {H H' : Hp} {a : Addr} {u : HO} (e : Ext M M' H H') (n : ¬ M.live a) (h : Rd H a u) : ¬ M'.live a ∧ Rd H' a u := by
  rcases h with h | ⟨o, h⟩
  · exact ⟨(e.live n h).1, .inl (e.live n h).2⟩
  · exact ⟨(e.live n h).1, .inr ⟨o, (e.live n h).2⟩⟩
theorem Ext.nl {M M' : Mp} {H H' : Hp} {a : Addr} {xs : List V} (e : Ext M M' H H') (h : NL M H a xs) : NL M' H' a xs := e.live h.1 h.2
theorem Ext.nt {K : PySem.W.Frag} {M M' : Mp} {H H' : Hp} {a : Addr} {xs : List V} (e : Ext M M' H H') (h : NT K M H a xs) : NT K M' H' a xs := e.live h.1 h.2
/-- what plain data lean on -/
structure Ex0 (M M' : Mp) (H H' : Hp) : Prop where
  ad : ∃ more, M'.ad = M.ad ++ more
  lv : ∀ a o, ¬ M.live a → H a = some o → ¬ M'.live a ∧ H' a = some o
theorem Ext.ex0 {M M' : Mp} {H H' : Hp} (e : Ext M M' H H') : Ex0 M M' H H' := ⟨e.ad, fun a o n h => e.live n h⟩
theorem Ex0.live {M M' : Mp} {H H' : Hp} {a : Addr} {o : HO} (e : Ex0 M M' H H') (n : ¬ M.live a) (h : H a = some o) : ¬ M'.live a ∧ H' a = some o := e.lv a o n h
theorem Ex0.rd {M M' : Mp} {H H' : Hp} {a : Addr} {u : HO} (e : Ex0 M M' H H') (n : ¬ M.live a) (h : Rd H a u) : ¬ M'.live a ∧ Rd H' a u := by
  rcases h with h | ⟨o, h⟩
  · exact ⟨(e.live n h).1, .inl (e.live n h).2⟩
  · exact ⟨(e.live n h).1, .inr ⟨o, (e.live n h).2⟩⟩
theorem Ex0.nl {M M' : Mp} {H H' : Hp} {a : Addr} {xs : List V} (e : Ex0 M M' H H') (h : NL M H a xs) : NL M' H' a xs := e.live h.1 h.2
theorem Ex0.nt {K : PySem.W.Frag} {M M' : Mp} {H H' : Hp} {a : Addr} {xs : List V} (e : Ex0 M M' H H') (h : NT K M H a xs) : NT K M' H' a xs := e.live h.1 h.2
section
variable {K : PySem.W.Frag} {M M' : Mp} {H H' : Hp}
mutual
theorem RD.ex0 (e : Ex0 M M' H H') : ∀ {v : V} {d : D}, RD K M H v d → RD K M' H' v d
  | _, _, .non => .non
  | _, _, .bl b => .bl b
  | _, _, .int i => .int i
  | _, _, .str z => .str z
  | _, _, .tup n t => .tup (e.nt n) (RDs.ex0 e t)
  | _, _, .lst n t => .lst (e.nl n) (RDs.ex0 e t)
  | _, _, .dct n h => .dct (e.live n h).1 (e.live n h).2
theorem RDs.ex0 (e : Ex0 M M' H H') : ∀ {vs : List V} {ds : List D}, RDs K M H vs ds → RDs K M' H' vs ds
  | _, _, .nil => .nil
  | _, _, .cons h t => .cons (RD.ex0 e h) (RDs.ex0 e t)
end
mutual
theorem RW.ex0 (e : Ex0 M M' H H') : ∀ {v : V} {d : W}, RW K M H v d → RW K M' H' v d
  | _, _, .d h => .d (h.ex0 e)
  | _, _, .c h => .c (by
      obtain ⟨m, q⟩ := e.ad
      rw [q, List.getElem?_append_left (List.getElem?_eq_some_iff.mp h).1]
      exact h)
  | _, _, .t n h t => .t (e.live n h).1 (e.live n h).2 (RWs.ex0 e t)
  | _, _, .g v => .g v
  | _, _, .j v => .j v
  | _, _, .s h => .s (h.elim (fun z => .inl (e.rd z.1 z.2)) .inr)
theorem RWs.ex0 (e : Ex0 M M' H H') : ∀ {vs : List V} {ds : List W}, RWs K M H vs ds → RWs K M' H' vs ds
  | _, _, .nil => .nil
  | _, _, .cons h t => .cons (RW.ex0 e h) (RWs.ex0 e t)
end
theorem RK.ex0 {κ : Type} (e : Ex0 M M' H H') : ∀ {vs : List (κ × V)} {ws : List (κ × W)}, RK K M H vs ws → RK K M' H' vs ws
  | _, _, .nil => .nil
  | _, _, .cons h t => .cons (h.ex0 e) (RK.ex0 e t)
theorem RO.ex0 (e : Ex0 M M' H H') : ∀ {vs : List (Option V)} {ws : Env}, RO K M H vs ws → RO K M' H' vs ws
  | _, _, .nil => .nil
  | _, _, .no t => .no (RO.ex0 e t)
  | _, _, .so h t => .so (h.ex0 e) (RO.ex0 e t)
theorem RD.ext (e : Ext M M' H H') {v : V} {d : D} (h : RD K M H v d) : RD K M' H' v d := h.ex0 e.ex0
theorem RDs.ext (e : Ext M M' H H') {v : List V} {d : List D} (h : RDs K M H v d) : RDs K M' H' v d := h.ex0 e.ex0
theorem RW.ext (e : Ext M M' H H') {v : V} {d : W} (h : RW K M H v d) : RW K M' H' v d := h.ex0 e.ex0
theorem RWs.ext (e : Ext M M' H H') {v : List V} {d : List W} (h : RWs K M H v d) : RWs K M' H' v d := h.ex0 e.ex0
theorem RK.ext {κ : Type} (e : Ext M M' H H') {v : List (κ × V)} {d : List (κ × W)} (h : RK K M H v d) : RK K M' H' v d := h.ex0 e.ex0
theorem RO.ext (e : Ext M M' H H') {v : List (Option V)} {d : Env} (h : RO K M H v d) : RO K M' H' v d := h.ex0 e.ex0
theorem RDs.length : ∀ {vs : List V} {ds : List D}, RDs K M H vs ds → vs.length = ds.length
  | _, _, .nil => rfl
  | _, _, .cons _ t => congrArg (· + 1) t.length
theorem RWs.length : ∀ {vs : List V} {ds : List W}, RWs K M H vs ds → vs.length = ds.length
  | _, _, .nil => rfl
  | _, _, .cons _ t => congrArg (· + 1) t.length
theorem RK.length {κ : Type} : ∀ {vs : List (κ × V)} {ds : List (κ × W)}, RK K M H vs ds → vs.length = ds.length
  | _, _, .nil => rfl
  | _, _, .cons _ t => congrArg (· + 1) t.length
theorem RO.length : ∀ {vs : List (Option V)} {ds : Env}, RO K M H vs ds → vs.length = ds.length
  | _, _, .nil => rfl
  | _, _, .no t => congrArg (· + 1) t.length
  | _, _, .so _ t => congrArg (· + 1) t.length
theorem RDs.get : ∀ {vs : List V} {ds : List D} {i : Nat} {d : D}, RDs K M H vs ds → ds[i]? = some d → ∃ v, vs[i]? = some v ∧ RD K M H v d
  | _, _, i, _, .nil, h => by simp at h
  | _, _, 0, _, .cons h _, e => by
    have e' := Option.some.inj e
    subst e'
    exact ⟨_, rfl, h⟩
  | _, _, i + 1, _, .cons _ t, e => t.get (i := i) e
theorem RDs.get' : ∀ {vs : List V} {ds : List D} {i : Nat} {v : V}, RDs K M H vs ds → vs[i]? = some v → ∃ d, ds[i]? = some d ∧ RD K M H v d
  | _, _, i, _, .nil, h => by simp at h
  | _, _, 0, _, .cons h _, e => by
    have e' := Option.some.inj e
    subst e'
    exact ⟨_, rfl, h⟩
  | _, _, i + 1, _, .cons _ t, e => t.get' (i := i) e
theorem RWs.get : ∀ {vs : List V} {ds : List W} {i : Nat} {d : W}, RWs K M H vs ds → ds[i]? = some d → ∃ v, vs[i]? = some v ∧ RW K M H v d
  | _, _, i, _, .nil, h => by simp at h
  | _, _, 0, _, .cons h _, e => by
    have e' := Option.some.inj e
    subst e'
    exact ⟨_, rfl, h⟩
  | _, _, i + 1, _, .cons _ t, e => t.get (i := i) e
theorem RO.get : ∀ {vs : List (Option V)} {ds : Env} {i : Nat} {d : W}, RO K M H vs ds → ds[i]? = some (some d) → ∃ v, vs[i]? = some (some v) ∧ RW K M H v d
  | _, _, i, _, .nil, h => by simp at h
  | _, _, 0, _, .no _, e => by
    have e' := Option.some.inj e
    cases e'
  | _, _, 0, _, .so h _, e => by
    have e' := Option.some.inj (Option.some.inj e)
    subst e'
    exact ⟨_, rfl, h⟩
  | _, _, i + 1, _, .no t, e => t.get (i := i) e
  | _, _, i + 1, _, .so _ t, e => t.get (i := i) e
theorem RO.set {v : V} {w : W} (h : RW K M H v w) : ∀ {vs : List (Option V)} {ws : Env} (i : Nat), RO K M H vs ws → RO K M H (vs.set i (some v)) (ws.set i (some w))
  | _, _, _, .nil => .nil
  | _, _, 0, .no t => .so h t
  | _, _, 0, .so _ t => .so h t
  | _, _, i + 1, .no t => .no (RO.set h i t)
  | _, _, i + 1, .so q t => .so q (RO.set h i t)
theorem RDs.append : ∀ {vs ws : List V} {ds es : List D}, RDs K M H vs ds → RDs K M H ws es → RDs K M H (vs ++ ws) (ds ++ es)
  | _, _, _, _, .nil, h => h
  | _, _, _, _, .cons h t, r => .cons h (t.append r)
theorem RWs.append : ∀ {vs ws : List V} {ds es : List W}, RWs K M H vs ds → RWs K M H ws es → RWs K M H (vs ++ ws) (ds ++ es)
  | _, _, _, _, .nil, h => h
  | _, _, _, _, .cons h t, r => .cons h (t.append r)
theorem RDs.drop : ∀ {vs : List V} {ds : List D} (n : Nat), RDs K M H vs ds → RDs K M H (vs.drop n) (ds.drop n)
  | _, _, 0, h => h
  | _, _, _ + 1, .nil => .nil
  | _, _, n + 1, .cons _ t => t.drop n
theorem RDs.take : ∀ {vs : List V} {ds : List D} (n : Nat), RDs K M H vs ds → RDs K M H (vs.take n) (ds.take n)
  | _, _, 0, _ => .nil
  | _, _, _ + 1, .nil => .nil
  | _, _, n + 1, .cons h t => .cons h (t.take n)
theorem RDs.set {v : V} {d : D} (h : RD K M H v d) : ∀ {vs : List V} {ds : List D} (i : Nat), RDs K M H vs ds → RDs K M H (vs.set i v) (ds.set i d)
  | _, _, _, .nil => .nil
  | _, _, 0, .cons _ t => .cons h t
  | _, _, i + 1, .cons q t => .cons q (RDs.set h i t)
theorem RWs.set {v : V} {d : W} (h : RW K M H v d) : ∀ {vs : List V} {ds : List W} (i : Nat), RWs K M H vs ds → RWs K M H (vs.set i v) (ds.set i d)
  | _, _, _, .nil => .nil
  | _, _, 0, .cons _ t => .cons h t
  | _, _, i + 1, .cons q t => .cons q (RWs.set h i t)
theorem RDs.rev : ∀ {vs : List V} {ds : List D}, RDs K M H vs ds → RDs K M H vs.reverse ds.reverse
  | _, _, .nil => .nil
  | _, _, .cons h t => by
    rw [List.reverse_cons, List.reverse_cons]
    exact t.rev.append (.cons h .nil)
theorem RDs.rep {v : V} {d : D} (h : RD K M H v d) : ∀ n : Nat, RDs K M H (List.replicate n v) (List.replicate n d)
  | 0 => .nil
  | n + 1 => .cons h (RDs.rep h n)
theorem RDs.flat {v : List V} {d : List D} (h : RDs K M H v d) : ∀ n : Nat, RDs K M H (List.replicate n v).flatten (List.replicate n d).flatten
  | 0 => .nil
  | n + 1 => by
    rw [List.replicate_succ, List.replicate_succ, List.flatten_cons, List.flatten_cons]
    exact h.append (h.flat n)
/-- plain data among values -/
theorem RDs.ws : ∀ {vs : List V} {ds : List D}, RDs K M H vs ds → RWs K M H vs (ds.map .d)
  | _, _, .nil => .nil
  | _, _, .cons h t => .cons (.d h) t.ws
def unD : W → Option D
  | .d d => some d
  | _ => none
def unDs : List W → Option (List D)
  | [] => some []
  | .d d :: ws => (unDs ws).map (d :: ·)
  | _ => none
theorem unDs_map (ds : List D) : unDs (ds.map .d) = some ds := by
  induction ds with
  | nil => rfl
  | cons d ds ih => show (unDs (ds.map .d)).map (d :: ·) = _; rw [ih]; rfl
theorem RWs.un : ∀ {vs : List V} {ws : List W} {ds : List D}, RWs K M H vs ws → unDs ws = some ds → RDs K M H vs ds
  | _, _, _, .nil, e => by cases e; exact .nil
  | _, _, _, .cons (.d h) t, e => by
    rename_i d ws'
    have e' : (unDs ws').map (d :: ·) = some _ := e
    cases q : unDs ws' with
    | none => rw [q] at e'; cases e'
    | some es =>
      rw [q] at e'
      cases e'
      exact .cons h (t.un q)
  | _, _, _, .cons (.c _) t, e => by cases e
  | _, _, _, .cons (.t _ _ _) t, e => by cases e
  | _, _, _, .cons (.g _) t, e => by cases e
  | _, _, _, .cons (.j _) t, e => by cases e
  | _, _, _, .cons (.s _) t, e => by cases e
/-! ### the store's steps -/
theorem RS.fresh {S : Store} (r : RS K M S H) {p : Addr} (np : H p = none) : ¬ M.live p := by
  rintro (h | h)
  · obtain ⟨k, hk, e⟩ := List.getElem_of_mem h
    have hk' : k < S.length := by rw [← r.len]; exact hk
    have := r.ok k p S[k] (by rw [List.getElem?_eq_getElem hk, e]) (List.getElem?_eq_getElem hk')
    cases hc : S[k] with
    | l ds => rw [hc] at this; obtain ⟨_, q, _⟩ := this; rw [np] at q; cases q
    | w ds => rw [hc] at this; obtain ⟨_, q, _⟩ := this; rw [np] at q; cases q
    | dk ds => rw [hc] at this; obtain ⟨_, q, _⟩ := this; rw [np] at q; cases q
    | dt ds => rw [hc] at this; obtain ⟨_, q, _⟩ := this; rw [np] at q; cases q
    | ins C ds => rw [hc] at this; obtain ⟨_, _, _, _, q, _⟩ := this; rw [np] at q; cases q
  · exact r.hd p h np
theorem CellOk.ex0 {a : Addr} {c : Cell} (e : Ex0 M M' H H') (ha : ∀ o, H a = some o → H' a = some o) (h : CellOk K M H a c) : CellOk K M' H' a c := by
  cases c with
  | l ds => obtain ⟨xs, h1, h2⟩ := h; exact ⟨xs, ha _ h1, h2.ex0 e⟩
  | w ds => obtain ⟨xs, h1, h2⟩ := h; exact ⟨xs, ha _ h1, h2.ex0 e⟩
  | dk ds => obtain ⟨xs, h1, h2⟩ := h; exact ⟨xs, ha _ h1, h2.ex0 e⟩
  | dt ds => obtain ⟨xs, h1, h2⟩ := h; exact ⟨xs, ha _ h1, h2.ex0 e⟩
  | ins C ds => obtain ⟨C', dx, xs, hn, h1, h2⟩ := h; exact ⟨C', dx, xs, hn, ha _ h1, h2.ex0 e⟩
theorem CellOk.ext {a : Addr} {c : Cell} (e : Ext M M' H H') (ha : ∀ o, H a = some o → H' a = some o) (h : CellOk K M H a c) : CellOk K M' H' a c := h.ex0 e.ex0 ha
/-- a new object that never changes -/
theorem Ext.fz {p : Addr} {o : HO} (np : H p = none) : Ext M M H (upd H p o) := ⟨rfl, ⟨[], (List.append_nil _).symm⟩, fun a u h n => by
  rw [upd_ne (ne_of_none h np)]
  exact ⟨h, n⟩⟩
theorem RS.same {S : Store} (r : RS K M S H) (e : ∀ a o, H a = some o → H' a = some o) : RS K M S H' ∧ Ext M M H H' := by
  have x : Ext M M H H' := ⟨rfl, ⟨[], (List.append_nil _).symm⟩, fun a u h n => ⟨e a u h, n⟩⟩
  refine ⟨⟨r.nd, r.dj, r.len, fun k a c h1 h2 => (r.ok k a c h1 h2).ext x (e a), fun a h z => ?_⟩, x⟩
  cases q : H a with
  | none => exact r.hd a h q
  | some o => rw [e a o q] at z; cases z
theorem RS.fz {S : Store} {p : Addr} {o : HO} (r : RS K M S H) (np : H p = none) : RS K M S (upd H p o) := (r.same fun a u h => by
  rw [upd_ne (ne_of_none h np)]
  exact h).1
def Mp.push (M : Mp) (p : Addr) : Mp := ⟨M.hid, M.ad ++ [p]⟩
/-- a new cell -/
theorem RS.new {S : Store} {p : Addr} {o : HO} {c : Cell} (r : RS K M S H) (np : H p = none) (h : CellOk K (M.push p) (upd H p o) p c) : RS K (M.push p) (S ++ [c]) (upd H p o) ∧ Ext M (M.push p) H (upd H p o) := by
  have fr := r.fresh np
  have x : Ext M (M.push p) H (upd H p o) := by
    refine ⟨rfl, ⟨[p], rfl⟩, fun a u h n => ?_⟩
    have q := ne_of_none h np
    rw [upd_ne q]
    refine ⟨h, fun z => ?_⟩
    rcases List.mem_append.mp z with z | z
    · exact n z
    · exact q (List.mem_singleton.mp z)
  refine ⟨⟨?_, fun a h => ?_, ?_, fun k a c' h1 h2 => ?_, fun a h => ?_⟩, x⟩
  · show (M.ad ++ [p]).Nodup
    rw [List.nodup_append]
    refine ⟨r.nd, by simp, fun a ha b hb => ?_⟩
    have := List.mem_singleton.mp hb
    subst this
    rintro rfl
    exact fr (.inl ha)
  · rcases List.mem_append.mp h with h | h
    · exact r.dj a h
    · rw [List.mem_singleton.mp h]
      exact fun z => fr (.inr z)
  · show (M.ad ++ [p]).length = _
    rw [List.length_append, List.length_append, r.len]
    rfl
  · have h1' : (M.ad ++ [p])[k]? = some a := h1
    by_cases hk : k < M.ad.length
    · rw [List.getElem?_append_left hk] at h1'
      rw [List.getElem?_append_left (by rw [← r.len]; exact hk)] at h2
      have q := r.ok k a c' h1' h2
      refine q.ext x fun u hu => ?_
      rw [upd_ne (ne_of_none hu np)]
      exact hu
    · rw [List.getElem?_append_right (by omega)] at h1'
      rw [List.getElem?_append_right (by rw [← r.len]; omega), ← r.len] at h2
      have hz : k - M.ad.length = 0 := by
        cases hq : k - M.ad.length with
        | zero => rfl
        | succ n => rw [hq] at h1'; simp at h1'
      rw [hz] at h1' h2
      cases h1'
      cases h2
      exact h
  · have h' : M.hid a := h
    intro z
    by_cases q : a = p
    · subst q
      exact fr (.inr h')
    · rw [upd_ne q] at z
      exact r.hd a h' z
/-- a cell is written -/
theorem RS.put {S : Store} {k : Nat} {a : Addr} {o : HO} {c : Cell} (r : RS K M S H) (ha : M.ad[k]? = some a) (h : Ext M M H (upd H a o) → CellOk K M (upd H a o) a c) : RS K M (S.set k c) (upd H a o) ∧ Ext M M H (upd H a o) := by
  have ma : a ∈ M.ad := List.mem_of_getElem? ha
  have x : Ext M M H (upd H a o) := ⟨rfl, ⟨[], (List.append_nil _).symm⟩, fun b u hb n => by
    have q : b ≠ a := fun z => n (z ▸ ma)
    rw [upd_ne q]
    exact ⟨hb, n⟩⟩
  refine ⟨⟨r.nd, r.dj, by rw [List.length_set]; exact r.len, fun j b c' h1 h2 => ?_, fun b hb => ?_⟩, x⟩
  · by_cases hj : j = k
    · subst hj
      rw [ha] at h1
      cases h1
      have hl : j < S.length := by
        have := (List.getElem?_eq_some_iff.mp ha).1
        rw [r.len] at this
        exact this
      rw [List.getElem?_set_self hl] at h2
      cases h2
      exact h x
    · rw [List.getElem?_set_ne (Ne.symm hj)] at h2
      have q : b ≠ a := by
        rintro rfl
        obtain ⟨l1, e1⟩ := List.getElem?_eq_some_iff.mp h1
        obtain ⟨l2, e2⟩ := List.getElem?_eq_some_iff.mp ha
        exact hj ((List.getElem_inj r.nd).mp (e1.trans e2.symm))
      refine (r.ok j b c' h1 h2).ext x fun u hu => ?_
      rw [upd_ne q]
      exact hu
  · have q : b ≠ a := fun z => r.dj a ma (z ▸ hb)
    rw [upd_ne q]
    exact r.hd b hb
/-- the cell of a value -/
theorem RS.at {S : Store} {k : Nat} {a : Addr} {c : Cell} (r : RS K M S H) (ha : M.ad[k]? = some a) (h : S[k]? = some c) : CellOk K M H a c := r.ok k a c ha h
end
/-! ### cells that fall away -/
mutual
def W.low (n : Nat) : W → Bool
  | .d _ => true
  | .c k => decide (k < n)
  | .t ws => lowAll n ws
  | .g _ => true
  | .j => true
  | .s _ => true
def lowAll (n : Nat) : List W → Bool
  | [] => true
  | w :: ws => w.low n && lowAll n ws
end
def lowK {κ : Type} (n : Nat) : List (κ × W) → Bool
  | [] => true
  | p :: ws => p.2.low n && lowK n ws
def Cell.low (n : Nat) : Cell → Bool
  | .l _ => true
  | .w ws => lowAll n ws
  | .dk kvs => lowK n kvs
  | .dt kvs => lowK n kvs
  | .ins _ fs => lowK n fs
def lowS (n : Nat) : List Cell → Bool
  | [] => true
  | c :: cs => c.low n && lowS n cs
def lowO (n : Nat) : Env → Bool
  | [] => true
  | none :: cs => lowO n cs
  | some w :: cs => w.low n && lowO n cs
def Mp.cut (M : Mp) (n : Nat) : Mp := ⟨M.hid, M.ad.take n⟩
theorem Mp.cut_live {M : Mp} {n : Nat} {a : Addr} (h : ¬ M.live a) : ¬ (M.cut n).live a := fun z => h (z.elim (fun z => .inl (List.mem_of_mem_take z)) .inr)
section
variable {K : PySem.W.Frag} {M M' : Mp} {H H' : Hp}
mutual
theorem RD.cut (n : Nat) : ∀ {v : V} {d : D}, RD K M H v d → RD K (M.cut n) H v d
  | _, _, .non => .non
  | _, _, .bl b => .bl b
  | _, _, .int i => .int i
  | _, _, .str z => .str z
  | _, _, .tup h t => .tup ⟨Mp.cut_live h.1, h.2⟩ (RDs.cut n t)
  | _, _, .lst h t => .lst ⟨Mp.cut_live h.1, h.2⟩ (RDs.cut n t)
  | _, _, .dct h1 h => .dct (Mp.cut_live h1) h
theorem RDs.cut (n : Nat) : ∀ {vs : List V} {ds : List D}, RDs K M H vs ds → RDs K (M.cut n) H vs ds
  | _, _, .nil => .nil
  | _, _, .cons h t => .cons (RD.cut n h) (RDs.cut n t)
end
mutual
theorem RW.cut (n : Nat) : ∀ {v : V} {d : W}, RW K M H v d → d.low n = true → RW K (M.cut n) H v d
  | _, _, .d h, _ => .d (h.cut n)
  | _, _, .c (k := k) h, b => .c (by
      have b' : k < n := of_decide_eq_true (show decide (k < n) = true from b)
      show (M.ad.take n)[k]? = _
      rw [List.getElem?_take_of_lt b']
      exact h)
  | _, _, .t (ws := ws) h1 h t, b => .t (Mp.cut_live h1) h (RWs.cut n t (show lowAll n ws = true from b))
  | _, _, .g v, _ => .g v
  | _, _, .j v, _ => .j v
  | _, _, .s h, _ => .s (h.elim (fun z => .inl ⟨Mp.cut_live z.1, z.2⟩) .inr)
theorem RWs.cut (n : Nat) : ∀ {vs : List V} {ds : List W}, RWs K M H vs ds → lowAll n ds = true → RWs K (M.cut n) H vs ds
  | _, _, .nil, _ => .nil
  | _, _, .cons (d := d) (ds := ds) h t, b => by
    have b' : (d.low n && lowAll n ds) = true := b
    rw [Bool.and_eq_true] at b'
    exact .cons (RW.cut n h b'.1) (RWs.cut n t b'.2)
end
theorem RK.cut {κ : Type} (n : Nat) : ∀ {vs : List (κ × V)} {ds : List (κ × W)}, RK K M H vs ds → lowK n ds = true → RK K (M.cut n) H vs ds
  | _, _, .nil, _ => .nil
  | _, _, .cons (k := k) (w := w) (ws := ws) h t, b => by
    have b' : (w.low n && lowK n ws) = true := b
    rw [Bool.and_eq_true] at b'
    exact .cons (h.cut n b'.1) (RK.cut n t b'.2)
theorem RO.cut (n : Nat) : ∀ {vs : List (Option V)} {ds : Env}, RO K M H vs ds → lowO n ds = true → RO K (M.cut n) H vs ds
  | _, _, .nil, _ => .nil
  | _, _, .no t, b => .no (RO.cut n t b)
  | _, _, .so (w := w) (ws := ws) h t, b => by
    have b' : (w.low n && lowO n ws) = true := b
    rw [Bool.and_eq_true] at b'
    exact .so (h.cut n b'.1) (RO.cut n t b'.2)
theorem CellOk.cut {a : Addr} {c : Cell} (n : Nat) (h : CellOk K M H a c) (b : c.low n = true) : CellOk K (M.cut n) H a c := by
  cases c with
  | l ds => obtain ⟨xs, h1, h2⟩ := h; exact ⟨xs, h1, h2.cut n⟩
  | w ds => obtain ⟨xs, h1, h2⟩ := h; exact ⟨xs, h1, h2.cut n b⟩
  | dk ds => obtain ⟨xs, h1, h2⟩ := h; exact ⟨xs, h1, h2.cut n b⟩
  | dt ds => obtain ⟨xs, h1, h2⟩ := h; exact ⟨xs, h1, h2.cut n b⟩
  | ins C ds => obtain ⟨C', dx, xs, hn, h1, h2⟩ := h; exact ⟨C', dx, xs, hn, h1, h2.cut n b⟩
theorem lowS_get {n : Nat} : ∀ {S : List Cell} {k : Nat} {c : Cell}, lowS n S = true → S[k]? = some c → c.low n = true
  | [], _, _, _, e => by simp at e
  | c :: cs, 0, _, b, e => by
    have b' : (c.low n && lowS n cs) = true := b
    rw [Bool.and_eq_true] at b'
    cases e
    exact b'.1
  | c :: cs, k + 1, _, b, e => by
    have b' : (c.low n && lowS n cs) = true := b
    rw [Bool.and_eq_true] at b'
    exact lowS_get (k := k) b'.2 e
theorem RS.cut {S : Store} (n : Nat) (r : RS K M S H) (b : lowS n (S.take n) = true) : RS K (M.cut n) (S.take n) H := by
  refine ⟨r.nd.sublist (List.take_sublist _ _), fun a h => r.dj a (List.mem_of_mem_take h), ?_, fun k a c h1 h2 => ?_, r.hd⟩
  · show (M.ad.take n).length = _
    rw [List.length_take, List.length_take, r.len]
  · have h1' : (M.ad.take n)[k]? = some a := h1
    have hk : k < n := by
      have := (List.getElem?_eq_some_iff.mp h2).1
      rw [List.length_take] at this
      omega
    have b' := lowS_get b h2
    rw [List.getElem?_take_of_lt hk] at h1' h2
    exact (r.ok k a c h1' h2).cut n b'
theorem Ext.cut (e : Ext M M' H H') : Ext M (M'.cut M.ad.length) H H' := by
  obtain ⟨m, q⟩ := e.ad
  have z : (M'.cut M.ad.length).ad = M.ad := by
    show M'.ad.take _ = _
    rw [q, List.take_left]
  refine ⟨e.hid, ⟨[], by rw [z, List.append_nil]⟩, fun a o h n => ⟨(e.st a o h n).1, ?_⟩⟩
  rw [z]
  exact n
/-- a cell's list, its cell fallen away -/
theorem RS.frz {S : Store} {n k : Nat} {a : Addr} {ds : List D} (r : RS K M S H) (ha : M.ad[k]? = some a) (h : S[k]? = some (.l ds)) (hk : n ≤ k) : RD K (M.cut n) H (.ref a) (.lst ds) := by
  obtain ⟨xs, h1, h2⟩ := r.ok k a _ ha h
  refine .lst ⟨?_, h1⟩ (h2.cut n)
  rintro (z | z)
  · obtain ⟨j, hj, e⟩ := List.getElem_of_mem z
    have hj' : j < n := by
      have : j < (M.ad.take n).length := hj
      rw [List.length_take] at this
      omega
    have e' : (M.ad.take n)[j]? = some a := List.getElem?_eq_some_iff.mpr ⟨hj, e⟩
    rw [List.getElem?_take_of_lt hj'] at e'
    obtain ⟨l1, e1⟩ := List.getElem?_eq_some_iff.mp e'
    obtain ⟨l2, e2⟩ := List.getElem?_eq_some_iff.mp ha
    have := (List.getElem_inj r.nd).mp (e1.trans e2.symm)
    omega
  · exact r.dj a (List.mem_of_getElem? ha) z
/-! ### a list that is being made: hidden, then shown -/
def Mp.hide (M : Mp) (p : Addr) : Mp := ⟨fun a => M.hid a ∨ a = p, M.ad⟩
theorem Ex0.hide {p : Addr} {o : HO} (np : H p = none) : Ex0 M (M.hide p) H (upd H p o) := ⟨⟨[], (List.append_nil _).symm⟩, fun a u n h => by
  have q := ne_of_none h np
  rw [upd_ne q]
  refine ⟨fun z => ?_, h⟩
  rcases z with z | z | z
  · exact n (.inl z)
  · exact n (.inr z)
  · exact q z⟩
theorem RS.hide {S : Store} {p : Addr} {o : HO} (r : RS K M S H) (np : H p = none) : RS K (M.hide p) S (upd H p o) := by
  have fr := r.fresh np
  refine ⟨r.nd, fun a h z => ?_, r.len, fun k a c h1 h2 => ?_, fun a h z => ?_⟩
  · rcases z with z | z
    · exact r.dj a h z
    · exact fr (.inl (z ▸ h))
  · refine (r.ok k a c h1 h2).ex0 (Ex0.hide np) fun u hu => ?_
    rw [upd_ne (ne_of_none hu np)]
    exact hu
  · by_cases q : a = p
    · subst q
      rw [upd_same] at z
      cases z
    · rw [upd_ne q] at z
      rcases h with h | h
      · exact r.hd a h z
      · exact q h
theorem Ex0.show_ {p : Addr} : Ex0 (M.hide p) M H H := ⟨⟨[], (List.append_nil _).symm⟩, fun a u n h => ⟨fun z => n (z.elim .inl fun z => .inr (.inl z)), h⟩⟩
theorem RS.show_ {S : Store} {p : Addr} (r : RS K (M.hide p) S H) : RS K M S H := by
  refine ⟨r.nd, fun a h z => r.dj a h (.inl z), r.len, fun k a c h1 h2 => ?_, fun a h => r.hd a (.inl h)⟩
  exact (r.ok k a c h1 h2).ex0 Ex0.show_ fun u hu => hu
/-- from the hidden back: what is kept -/
theorem Ext.unhide {M1 : Mp} {p : Addr} {o : HO} (np : H p = none) (e : Ext (M.hide p) M1 (upd H p o) H') : Ext M ⟨M.hid, M1.ad⟩ H H' := by
  refine ⟨rfl, e.ad, fun a u h n => ?_⟩
  have q := ne_of_none h np
  exact e.st a u (by rw [upd_ne q]; exact h) n
theorem hide_eta {M1 : Mp} {p : Addr} {o : HO} (e : Ext (M.hide p) M1 (upd H p o) H') : M1 = Mp.hide ⟨M.hid, M1.ad⟩ p := by
  have := e.hid
  cases M1
  cases this
  rfl
end
end As

namespace As
open PySem PySem.Spec PyProof.Rows L2
structure Exn where
  cls : Str
  fs : Option (List (Str × D))
inductive Rs (α : Type) where
  | ok (a : α) (S : Store)
  | ex (e : Exn) (S : Store)
  | no
def Rs.bind {α β : Type} (r : Rs α) (k : α → Store → Rs β) : Rs β := match r with
  | .ok a S => k a S
  | .ex e S => .ex e S
  | .no => .no
@[simp] theorem Rs.bind_ok {α β : Type} (a : α) (S : Store) (k : α → Store → Rs β) : (Rs.ok a S).bind k = k a S := rfl
@[simp] theorem Rs.bind_ex {α β : Type} (e : Exn) (S : Store) (k : α → Store → Rs β) : (Rs.ex e S).bind k = .ex e S := rfl
@[simp] theorem Rs.bind_no {α β : Type} (k : α → Store → Rs β) : (Rs.no : Rs α).bind k = .no := rfl
inductive RF (K : PySem.W.Frag) (M : Mp) (H : Hp) : List (Str × V) → List (Str × D) → Prop
  | nil : RF K M H [] []
  | cons {k : Str} {v : V} {vs : List (Str × V)} {w : D} {ws : List (Str × D)} : RD K M H v w → RF K M H vs ws → RF K M H ((k, v) :: vs) ((k, w) :: ws)
def RX (K : PySem.W.Frag) (mg : Str → Option Value) (M : Mp) (H : Hp) (e : Exn) (cls : Value) (d : Option Addr) : Prop :=
  ∃ C, mg e.cls = some (.ref C) ∧ cls = .ref C ∧ match e.fs with
    | none => d = none
    | some fs => ∃ a gs, d = some a ∧ ¬ M.live a ∧ H a = some (.xd gs) ∧ RF K M H gs fs
theorem RF.ext {K : PySem.W.Frag} {M M' : Mp} {H H' : Hp} (e : Ext M M' H H') : ∀ {vs : List (Str × V)} {ws : List (Str × D)}, RF K M H vs ws → RF K M' H' vs ws
  | _, _, .nil => .nil
  | _, _, .cons h t => .cons (h.ext e) (RF.ext e t)
theorem RX.ext {K : PySem.W.Frag} {mg : Str → Option Value} {M M' : Mp} {H H' : Hp} {x : Exn} {cls : Value} {d : Option Addr} (e : Ext M M' H H') (h : RX K mg M H x cls d) : RX K mg M' H' x cls d := by
  obtain ⟨C, h1, h2, h3⟩ := h
  refine ⟨C, h1, h2, ?_⟩
  cases hf : x.fs with
  | none => rw [hf] at h3; exact h3
  | some fs =>
    rw [hf] at h3
    obtain ⟨a, gs, e1, n, e2, e3⟩ := h3
    exact ⟨a, gs, e1, (e.live n e2).1, (e.live n e2).2, e3.ext e⟩
theorem RF.cut {K : PySem.W.Frag} {M : Mp} {H : Hp} (n : Nat) : ∀ {vs : List (Str × V)} {ws : List (Str × D)}, RF K M H vs ws → RF K (M.cut n) H vs ws
  | _, _, .nil => .nil
  | _, _, .cons h t => .cons (h.cut n) (RF.cut n t)
theorem RX.cut {K : PySem.W.Frag} {mg : Str → Option Value} {M : Mp} {H : Hp} {x : Exn} {cls : Value} {d : Option Addr} (n : Nat) (h : RX K mg M H x cls d) : RX K mg (M.cut n) H x cls d := by
  obtain ⟨C, h1, h2, h3⟩ := h
  refine ⟨C, h1, h2, ?_⟩
  cases hf : x.fs with
  | none => rw [hf] at h3; exact h3
  | some fs =>
    rw [hf] at h3
    obtain ⟨a, gs, e1, q, e2, e3⟩ := h3
    exact ⟨a, gs, e1, Mp.cut_live q, e2, e3.cut n⟩
/-- what a result asks -/
def Post (K : PySem.W.Frag) (mg : Str → Option Value) (M : Mp) (H : Hp) (E : XK) {α β : Type} (R : Mp → Hp → β → α → Prop) (Q : β → Hp → Prop) : Rs α → Prop
  | .ok a S' => ∀ M' b H', Ext M M' H H' → RS K M' S' H' → R M' H' b a → Q b H'
  | .ex e S' => ∀ M' cls d H', Ext M M' H H' → RS K M' S' H' → RX K mg M' H' e cls d → E cls d H'
  | .no => False
def tG (K : PySem.W.Frag) (mg : Str → Option Value) (E : L2.St → XK) {α β : Type} (R : Mp → Hp → β → α → Prop) (f : Env → Store → Rs α) : L2.St → Hp → (β → Hp → Prop) → Prop :=
  fun σ H Q => ∃ M ρ S, RS K M S H ∧ RO K M H σ ρ ∧ Post K mg M H (E σ) R Q (f ρ S)
abbrev RB : Mp → Hp → Bool → Bool → Prop := fun _ _ a b => a = b
abbrev RWK (K : PySem.W.Frag) : Mp → Hp → V → W → Prop := fun M H v w => RW K M H v w
abbrev RWsK (K : PySem.W.Frag) : Mp → Hp → List V → List W → Prop := fun M H v w => RWs K M H v w
abbrev FE (X : Cx) (E : L2.St → XK) (e : Expr) (f : Env → Store → Rs W) : Prop := PE X e (tG X.K X.mg E (RWK X.K) f)
abbrev FT (X : Cx) (E : L2.St → XK) (e : Expr) (f : Env → Store → Rs Bool) : Prop := PT X e (tG X.K X.mg E RB f)
abbrev FW (X : Cx) (E : L2.St → XK) (e : Expr) (f : Env → Store → Rs Bool) : Prop := PW X e (tG X.K X.mg E RB f)
abbrev FA (X : Cx) (E : L2.St → XK) (es : List Expr) (f : Env → Store → Rs (List W)) : Prop := PA X es (tG X.K X.mg E (RWsK X.K) f)
theorem PE.imp {X : Cx} {e : Expr} {t t' : TE} (h : PE X e t) (i : ∀ σ H Q, t' σ H Q → t σ H Q) : PE X e t' := ⟨fun pins s σ H Q I q => h.run pins s σ H Q I (i σ H Q q)⟩
theorem PT.imp {X : Cx} {e : Expr} {t t' : TT} (h : PT X e t) (i : ∀ σ H Q, t' σ H Q → t σ H Q) : PT X e t' := ⟨fun pins s σ H Q I q => h.run pins s σ H Q I (i σ H Q q)⟩
theorem PW.imp {X : Cx} {e : Expr} {t t' : TT} (h : PW X e t) (i : ∀ σ H Q, t' σ H Q → t σ H Q) : PW X e t' := ⟨fun wh pins s σ H Q I q => h.run wh pins s σ H Q I (i σ H Q q)⟩
theorem PA.imp {X : Cx} {es : List Expr} {t t' : TA} (h : PA X es t) (i : ∀ σ H Q, t' σ H Q → t σ H Q) : PA X es t' := ⟨fun pos pins s σ H Q I q => h.run pos pins s σ H Q I (i σ H Q q)⟩
theorem PO.imp {X : Cx} {e : Option Expr} {t t' : TO} (h : PO X e t) (i : ∀ σ H Q, t' σ H Q → t σ H Q) : PO X e t' := ⟨fun pins s σ H Q I q => h.run pins s σ H Q I (i σ H Q q)⟩
theorem PS.imp {X : Cx} {e : Stmt} {t t' : TS} (h : PS X e t) (i : ∀ D σ H, t' D σ H → t D σ H) : PS X e t' := ⟨fun pins s σ H D I q => h.run pins s σ H D I (i D σ H q)⟩
theorem PSs.imp {X : Cx} {e : List Stmt} {t t' : TS} (h : PSs X e t) (i : ∀ D σ H, t' D σ H → t D σ H) : PSs X e t' := ⟨fun pins s σ H D I q => h.run pins s σ H D I (i D σ H q)⟩
section
variable {K : PySem.W.Frag} {mg : Str → Option Value} {M : Mp} {H : Hp} {E : XK} {α β γ δ : Type}
theorem Post.ext {R : Mp → Hp → β → α → Prop} {Q : β → Hp → Prop} {M1 : Mp} {H1 : Hp} (x : Ext M M1 H H1) : ∀ {r : Rs α}, Post K mg M H E R Q r → Post K mg M1 H1 E R Q r
  | .ok a S', h => fun M' b H' e => h M' b H' (x.trans e)
  | .ex a S', h => fun M' c d H' e => h M' c d H' (x.trans e)
  | .no, h => h
theorem Post.ret {R : Mp → Hp → β → α → Prop} {Q : β → Hp → Prop} {a : α} {b : β} {S : Store} (rs : RS K M S H) (r : R M H b a) (h : Post K mg M H E R Q (.ok a S)) : Q b H := h M b H (Ext.refl M H) rs r
/-- one step behind another -/
theorem Post.bindE {R : Mp → Hp → β → α → Prop} {R' : Mp → Hp → δ → γ → Prop} {Q : δ → Hp → Prop} {k : α → Store → Rs γ} : ∀ {r : Rs α}, Post K mg M H E R' Q (r.bind k) →
    Post K mg M H E R (fun b H1 => ∃ M1 a S1, Ext M M1 H H1 ∧ RS K M1 S1 H1 ∧ R M1 H1 b a ∧ Post K mg M1 H1 E R' Q (k a S1)) r
  | .ok a S', p => fun M' b H' e rs r => ⟨M', a, S', e, rs, r, Post.ext e p⟩
  | .ex e S', p => p
  | .no, p => p
theorem Post.map {R : Mp → Hp → β → α → Prop} {Q Q' : β → Hp → Prop} (i : ∀ b H1, Q b H1 → Q' b H1) : ∀ {r : Rs α}, Post K mg M H E R Q r → Post K mg M H E R Q' r
  | .ok a S', p => fun M' b H' e rs r => i b H' (p M' b H' e rs r)
  | .ex e S', p => p
  | .no, p => p
theorem tG.bind {E : L2.St → XK} {R : Mp → Hp → β → α → Prop} {R' : Mp → Hp → δ → γ → Prop} {f : Env → Store → Rs α} {g : Env → α → Store → Rs γ} {σ : L2.St} {Q : δ → Hp → Prop} {N : β → Hp → Prop}
    (h : tG K mg E R' (fun ρ S => (f ρ S).bind fun a S1 => g ρ a S1) σ H Q)
    (k : ∀ b H1 M1 ρ a S1, RS K M1 S1 H1 → RO K M1 H1 σ ρ → R M1 H1 b a → Post K mg M1 H1 (E σ) R' Q (g ρ a S1) → N b H1) : tG K mg E R f σ H N := by
  obtain ⟨M, ρ, S, rs, ro, p⟩ := h
  refine ⟨M, ρ, S, rs, ro, Post.map (fun b H1 q => ?_) (Post.bindE (R := R) p)⟩
  obtain ⟨M1, a, S1, e, rs1, r, q⟩ := q
  exact k b H1 M1 ρ a S1 rs1 (ro.ext e) r q
/-- two steps -/
theorem tG.bind2 {E : L2.St → XK} {R : Mp → Hp → β → α → Prop} {ε ζ : Type} {R2 : Mp → Hp → ζ → ε → Prop} {R' : Mp → Hp → δ → γ → Prop} (st : ∀ {M M' H H' b a}, Ext M M' H H' → R M H b a → R M' H' b a)
    {f : Env → Store → Rs α} {f2 : Env → Store → Rs ε} {g : α → ε → Store → Rs γ} {σ : L2.St} {Q : δ → Hp → Prop} {N : β → ζ → Hp → Prop}
    (h : tG K mg E R' (fun ρ S => (f ρ S).bind fun a S1 => (f2 ρ S1).bind fun c S2 => g a c S2) σ H Q)
    (k : ∀ b z H2 M2 a c S2, RS K M2 S2 H2 → R M2 H2 b a → R2 M2 H2 z c → Post K mg M2 H2 (E σ) R' Q (g a c S2) → N b z H2) :
    tG K mg E R f σ H fun b H1 => tG K mg E R2 f2 σ H1 fun z H2 => N b z H2 := by
  refine tG.bind (R' := R') (g := fun ρ a S1 => (f2 ρ S1).bind fun c S2 => g a c S2) h fun b H1 M1 ρ a S1 rs1 ro1 r p => ?_
  refine ⟨M1, ρ, S1, rs1, ro1, Post.map (fun z H2 q => ?_) (Post.bindE (R := R2) p)⟩
  obtain ⟨M2, c, S2, e, rs2, r2, q⟩ := q
  exact k b z H2 M2 a c S2 rs2 (st e r) r2 q
end
/-! ### names, constants -/
def fVar (i : Nat) : Env → Store → Rs W := fun ρ S => match ρ[i]? with
  | some (some w) => .ok w S
  | _ => .no
def fK (w : W) : Env → Store → Rs W := fun _ S => .ok w S
section
variable {X : Cx} {E : L2.St → XK}
theorem fv (i : Nat) {x : Str} {pos : Pos} (hN : X.N[i]? = some x := by rfl) (hv : Vis X.env.scope x := by first | exact Or.inl rfl | exact Or.inr (Or.inl rfl) | exact Or.inr (Or.inr rfl)) (hd : (x == ("__debug__" : Str)) = false := by decide)
    (hcd : (x == ("__classdict__" : Str)) = false := by decide) : FE X E (.Name x pos) (fVar i) := by
  refine PE.imp (pe_var hN hv hd hcd) fun σ H Q h => ?_
  obtain ⟨M, ρ, S, rs, ro, p⟩ := h
  unfold fVar at p
  split at p
  · rename_i w hw
    obtain ⟨v, hv, r⟩ := ro.get hw
    exact ⟨v, hv, p.ret rs r⟩
  · exact p.elim
theorem fk {e : Expr} {v : V} {w : W} (h : PE X e (tC v)) (r : ∀ M H, RW X.K M H v w) : FE X E e (fK w) := by
  refine PE.imp h fun σ H Q h => ?_
  obtain ⟨M, ρ, S, rs, ro, p⟩ := h
  exact p.ret rs (r M H)
theorem f_int {i j pos} : FE X E (.Constant (.int i) j pos) (fK (.d (.int i))) := fk pe_int fun _ _ => .d (.int i)
theorem f_bl {b j pos} : FE X E (.Constant (.bool b) j pos) (fK (.d (.bl b))) := fk pe_bl fun _ _ => .d (.bl b)
theorem f_non {j pos} : FE X E (.Constant .none j pos) (fK (.d .non)) := fk pe_non fun _ _ => .d .non
theorem f_str {x j pos} : FE X E (.Constant (.str x) j pos) (fK (.d (.str x))) := fk pe_str fun _ _ => .d (.str x)
/-- a built-in class as a value, anything of the module's top -/
theorem f_ty {x : Str} {n : String} {pos : Pos} (hg : Gl X x) (hm : X.mg x = none) (hv : bootBuiltins x = some (.type n)) (hn : x ≠ "__name__" := by decide) (hd : (x == ("__debug__" : Str)) = false := by decide) : FE X E (.Name x pos) (fK (.g (.ty n))) :=
  fk (pe_bltn hg hm hv (v := .ty n) rfl hn hd) fun _ _ => .g _
theorem f_glob {x : Str} {v : V} {u : Value} {w : W} {pos : Pos} (hg : Gl X x) (hm : X.mg x = some u) (r : RelV v u) (rw : ∀ M H, RW X.K M H v w) (hd : (x == ("__debug__" : Str)) = false := by decide) : FE X E (.Name x pos) (fK w) := fk (pe_glob hg hm r hd) rw
/-! ### operators -/
abbrev O2 := W → W → Store → Rs W
def OpF (K : PySem.W.Frag) (mg : Str → Option Value) (g : O2) (r : R2) : Prop := ∀ M S H v u x y E Q, RS K M S H → RW K M H v x → RW K M H u y → Post K mg M H E (RWK K) Q (g x y S) → r v u H Q
def fOp (g : O2) (fa fb : Env → Store → Rs W) : Env → Store → Rs W := fun ρ S => (fa ρ S).bind fun x S1 => (fb ρ S1).bind fun y S2 => g x y S2
theorem fOp_imp {K : PySem.W.Frag} {mg : Str → Option Value} {g : O2} {r : R2} {fa fb : Env → Store → Rs W} (hg : OpF K mg g r) : ∀ σ H Q, tG K mg E (RWK K) (fOp g fa fb) σ H Q → tOp r (tG K mg E (RWK K) fa) (tG K mg E (RWK K) fb) σ H Q :=
  fun σ H Q h => tG.bind2 (R := RWK K) (R2 := RWK K) (R' := RWK K) (fun x r => RW.ext x r) h fun b z H2 M2 a c S2 rs r1 r2 p => hg M2 S2 H2 b z a c (E σ) Q rs r1 r2 p
variable {a b : Expr} {fa fb fc : Env → Store → Rs W} {pos : Pos}
theorem f_op {op : Operator} {r : R2} {g : O2} (ho : OpR X (binaryOp op) r) (hg : OpF X.K X.mg g r) (ha : FE X E a fa) (hb : FE X E b fb) : FE X E (.BinOp a op b pos) (fOp g fa fb) := PE.imp (pe_op ho ha hb) (fOp_imp hg)
theorem f_cmp {op : CmpOp} {r : R2} {g : O2} (ho : OpR X (compareOp op) r) (hg : OpF X.K X.mg g r) (ha : FE X E a fa) (hb : FE X E b fb) (hm : behindInMarks op b = false) : FE X E (.Compare a [op] [b] pos) (fOp g fa fb) := PE.imp (pe_cmpR ho ha hb hm) (fOp_imp hg)
theorem f_ix {r : R2} {g : O2} (ho : IxR X r) (hg : OpF X.K X.mg g r) (ha : FE X E a fa) (hb : FE X E b fb) (hs : PlainIx b) : FE X E (.Subscript a b pos) (fOp g fa fb) := PE.imp (pe_ix ho ha hb hs) (fOp_imp hg)
/-! ### one value -/
abbrev O1 := W → Store → Rs W
def fUn (g : O1) (fa : Env → Store → Rs W) : Env → Store → Rs W := fun ρ S => (fa ρ S).bind fun x S1 => g x S1
def UnF (K : PySem.W.Frag) (mg : Str → Option Value) (g : O1) (r : V → Hp → VK → Prop) : Prop := ∀ M S H v x E Q, RS K M S H → RW K M H v x → Post K mg M H E (RWK K) Q (g x S) → r v H Q
theorem fUn_imp {K : PySem.W.Frag} {mg : Str → Option Value} {g : O1} {r : V → Hp → VK → Prop} {fa : Env → Store → Rs W} (hg : UnF K mg g r) : ∀ σ H Q, tG K mg E (RWK K) (fUn g fa) σ H Q → tUn r (tG K mg E (RWK K) fa) σ H Q :=
  fun σ H Q h => tG.bind (R := RWK K) (R' := RWK K) (g := fun _ x S1 => g x S1) h fun b H1 M1 ρ a S1 rs ro r p => hg M1 S1 H1 b a (E σ) Q rs r p
theorem f_un {op : UnaryOp} {r : V → Hp → VK → Prop} {g : O1} (ho : UnR X (unaryOp op) r) (hg : UnF X.K X.mg g r) (ha : FE X E a fa) : FE X E (.UnaryOp op a pos) (fUn g fa) := PE.imp (pe_un ho ha) (fUn_imp hg)
/-! ### arguments -/
def aNil : Env → Store → Rs (List W) := fun _ S => .ok [] S
def aCons (fa : Env → Store → Rs W) (fr : Env → Store → Rs (List W)) : Env → Store → Rs (List W) := fun ρ S => (fa ρ S).bind fun x S1 => (fr ρ S1).bind fun xs S2 => .ok (x :: xs) S2
theorem fa_nil : FA X E [] aNil := by
  refine PA.imp pa_nil fun σ H Q h => ?_
  obtain ⟨M, ρ, S, rs, ro, p⟩ := h
  exact Post.ret (R := RWsK X.K) rs RWs.nil p
theorem fa_cons {es : List Expr} {fr : Env → Store → Rs (List W)} (ha : FE X E a fa) (hr : FA X E es fr) (hs : starEach (a :: es) X.env = (false, eval a X.env) :: starEach es X.env := by rfl) : FA X E (a :: es) (aCons fa fr) := by
  refine PA.imp (pa_cons ha hr hs) fun σ H Q h => ?_
  exact tG.bind2 (R := RWK X.K) (R2 := RWsK X.K) (R' := RWsK X.K) (fun x r => RW.ext x r) h fun b z H2 M2 a c S2 rs r1 r2 p => Post.ret (R := RWsK X.K) rs (RWs.cons r1 r2) p
/-- behind arguments -/
abbrev OA := List W → Store → Rs W
def fApp (g : OA) (fa : Env → Store → Rs (List W)) : Env → Store → Rs W := fun ρ S => (fa ρ S).bind fun x S1 => g x S1
def ApF (K : PySem.W.Frag) (mg : Str → Option Value) (g : OA) (r : List V → Hp → VK → Prop) : Prop := ∀ M S H vs xs E Q, RS K M S H → RWs K M H vs xs → Post K mg M H E (RWK K) Q (g xs S) → r vs H Q
theorem fApp_imp {K : PySem.W.Frag} {mg : Str → Option Value} {g : OA} {r : List V → Hp → VK → Prop} {fa : Env → Store → Rs (List W)} (hg : ApF K mg g r) : ∀ σ H Q, tG K mg E (RWK K) (fApp g fa) σ H Q → tG K mg E (RWsK K) fa σ H fun vs H1 => r vs H1 Q :=
  fun σ H Q h => tG.bind (R := RWsK K) (R' := RWK K) (g := fun _ x S1 => g x S1) h fun b H1 M1 ρ a S1 rs ro r p => hg M1 S1 H1 b a (E σ) Q rs r p
theorem f_callB {x : Str} {id : String} {r : List V → Hp → VK → Prop} {g : OA} {e : Expr} {es : List Expr} {p : Pos} {fs : Env → Store → Rs (List W)} (hc : CallR X (.builtin id) r) (hg : ApF X.K X.mg g r) (h1 : Gl X x) (hm : X.mg x = none) (hv : bootBuiltins x = some (.builtin id)) (ha : FA X E (e :: es) fs)
    (hn : x ≠ "__name__" := by decide) (hdb : (x == ("__debug__" : Str)) = false := by decide) (he : starEach (e :: es) X.env = (false, eval e X.env) :: starEach es X.env := by rfl) (hpl : (backTo pos (starEach es X.env)).any (·.1) = false := by rfl) :
    FE X E (.Call (.Name x p) (e :: es) [] pos) (fApp g fs) := PE.imp (pe_callB hc h1 hm hv ha hn hdb he hpl) (fApp_imp hg)
theorem f_callTy {x : Str} {T : String} {r : List V → Hp → VK → Prop} {g : OA} {e : Expr} {es : List Expr} {p : Pos} {fs : Env → Store → Rs (List W)} (hc : CallR X (.type T) r) (hg : ApF X.K X.mg g r) (h1 : Gl X x) (hm : X.mg x = none) (hv : bootBuiltins x = some (.type T)) (ha : FA X E (e :: es) fs)
    (hn : x ≠ "__name__" := by decide) (hdb : (x == ("__debug__" : Str)) = false := by decide) (he : starEach (e :: es) X.env = (false, eval e X.env) :: starEach es X.env := by rfl) (hpl : (backTo pos (starEach es X.env)).any (·.1) = false := by rfl) :
    FE X E (.Call (.Name x p) (e :: es) [] pos) (fApp g fs) := PE.imp (pe_callTy hc h1 hm hv ha hn hdb he hpl) (fApp_imp hg)
/-! ### tests -/
def fB (fa : Env → Store → Rs W) : Env → Store → Rs Bool := fun ρ S => (fa ρ S).bind fun x S1 => match x with
  | .d (.bl b) => .ok b S1
  | _ => .no
theorem fB_imp {K : PySem.W.Frag} {mg : Str → Option Value} {fa : Env → Store → Rs W} : ∀ σ H Q, tG K mg E RB (fB fa) σ H Q → tG K mg E (RWK K) fa σ H fun v H1 => ∃ c, v = .bl c ∧ Q c H1 := by
  intro σ H Q h
  refine tG.bind (R := RWK K) (R' := RB) (g := fun _ x S1 => match x with
    | .d (.bl b) => .ok b S1
    | _ => .no) h fun v H1 M1 ρ x S1 rs ro r p => ?_
  cases r with
  | d rd =>
    cases rd with
    | bl c => exact ⟨c, rfl, Post.ret (R := RB) rs rfl p⟩
    | _ => exact (show False from p).elim
  | _ => exact (show False from p).elim
theorem ft_val (h : FE X E a fa) (he : ∀ whole, isTrue a X.env whole = (do let v ← whole; standAt a.pos; holding [v] (truthy v)) := by intro _; rfl) : FT X E a (fB fa) := PT.imp (pt_val h he) fB_imp
theorem ft_cmp {op : CmpOp} {r : R2} {g : O2} (ho : OpR X (compareOp op) r) (hg : OpF X.K X.mg g r) (ha : FE X E a fa) (hb : FE X E b fb) (hm : behindInMarks op b = false) : FT X E (.Compare a [op] [b] pos) (fB (fOp g fa fb)) := by
  refine PT.imp (pt_cmpR ho ha hb hm) fun σ H Q h => ?_
  have h1 := fB_imp σ H Q h
  exact fOp_imp hg σ H _ h1
def tNotF (f : Env → Store → Rs Bool) : Env → Store → Rs Bool := fun ρ S => (f ρ S).bind fun b S1 => .ok (!b) S1
def tAndF (f g : Env → Store → Rs Bool) : Env → Store → Rs Bool := fun ρ S => (f ρ S).bind fun b S1 => if b = true then g ρ S1 else .ok false S1
def tOrF (f g : Env → Store → Rs Bool) : Env → Store → Rs Bool := fun ρ S => (f ρ S).bind fun b S1 => if b = true then .ok true S1 else g ρ S1
/-- a test, then one of two ways -/
theorem tG.test {K : PySem.W.Frag} {mg : Str → Option Value} {γ δ : Type} {R' : Mp → Hp → δ → γ → Prop} {f : Env → Store → Rs Bool} {g : Env → Bool → Store → Rs γ} {σ : L2.St} {H : Hp} {Q : δ → Hp → Prop} {N : Bool → Hp → Prop}
    (h : tG K mg E R' (fun ρ S => (f ρ S).bind fun b S1 => g ρ b S1) σ H Q) (k : ∀ c H1, tG K mg E R' (fun ρ S => g ρ c S) σ H1 Q → N c H1) : tG K mg E RB f σ H N :=
  tG.bind (R := RB) (R' := R') h fun b H1 M1 ρ a S1 rs ro r p => by
    have r' : b = a := r
    subst r'
    exact k b H1 ⟨M1, ρ, S1, rs, ro, p⟩
variable {ta tb : Env → Store → Rs Bool} {rest : List Expr}
theorem ft_not (h : FT X E a ta) : FT X E (.UnaryOp .Not a pos) (tNotF ta) := by
  refine PT.imp (pt_not h) fun σ H Q h => ?_
  refine tG.test (g := fun _ b S1 => .ok (!b) S1) (R' := RB) h fun c H1 q => ?_
  obtain ⟨M, ρ, S, rs, ro, p⟩ := q
  exact Post.ret (R := RB) rs rfl p
theorem fw_and1 (h : FT X E a ta) : FW X E (.BoolOp .And [a] pos) ta := pw_and1 h
theorem fw_or1 (h : FT X E a ta) : FW X E (.BoolOp .Or [a] pos) ta := pw_or1 h
theorem fw_and (h : FT X E a ta) (h2 : FW X E (.BoolOp .And (b :: rest) pos) tb) : FW X E (.BoolOp .And (a :: b :: rest) pos) (tAndF ta tb) := by
  refine PW.imp (pw_and h h2) fun σ H Q h => ?_
  refine tG.test (g := fun ρ b S1 => if b = true then tb ρ S1 else .ok false S1) (R' := RB) h fun c H1 q => ?_
  obtain ⟨M, ρ, S, rs, ro, p⟩ := q
  cases c with
  | true => exact ⟨M, ρ, S, rs, ro, p⟩
  | false => exact Post.ret (R := RB) rs rfl p
theorem fw_or (h : FT X E a ta) (h2 : FW X E (.BoolOp .Or (b :: rest) pos) tb) : FW X E (.BoolOp .Or (a :: b :: rest) pos) (tOrF ta tb) := by
  refine PW.imp (pw_or h h2) fun σ H Q h => ?_
  refine tG.test (g := fun ρ b S1 => if b = true then .ok true S1 else tb ρ S1) (R' := RB) h fun c H1 q => ?_
  obtain ⟨M, ρ, S, rs, ro, p⟩ := q
  cases c with
  | false => exact ⟨M, ρ, S, rs, ro, p⟩
  | true => exact Post.ret (R := RB) rs rfl p
theorem ft_pw (h : FW X E a ta) : FT X E a ta := h.pt
/-! ### and, or, not as values -/
def fNot (fa : Env → Store → Rs W) : Env → Store → Rs W := fun ρ S => (fB fa ρ S).bind fun b S1 => .ok (.d (.bl (!b))) S1
def fAnd (fa fb : Env → Store → Rs W) : Env → Store → Rs W := fun ρ S => (fB fa ρ S).bind fun b S1 => if b = true then fb ρ S1 else .ok (.d (.bl false)) S1
def fOr (fa fb : Env → Store → Rs W) : Env → Store → Rs W := fun ρ S => (fB fa ρ S).bind fun b S1 => if b = true then .ok (.d (.bl true)) S1 else fb ρ S1
theorem fB_test {K : PySem.W.Frag} {mg : Str → Option Value} {γ δ : Type} {R' : Mp → Hp → δ → γ → Prop} {fa : Env → Store → Rs W} {g : Env → Bool → Store → Rs γ} {σ : L2.St} {H : Hp} {Q : δ → Hp → Prop} {N : Bool → Hp → Prop}
    (h : tG K mg E R' (fun ρ S => (fB fa ρ S).bind fun b S1 => g ρ b S1) σ H Q) (k : ∀ c H1, tG K mg E R' (fun ρ S => g ρ c S) σ H1 Q → N c H1) : tG K mg E (RWK K) fa σ H fun v H1 => ∃ c, v = .bl c ∧ N c H1 := fB_imp σ H N (tG.test h k)
theorem f_one {op} (h : FE X E a fa) : FE X E (.BoolOp op [a] pos) fa := pe_one h
theorem f_not (h : FE X E a fa) : FE X E (.UnaryOp .Not a pos) (fNot fa) := by
  refine PE.imp (pe_not h) fun σ H Q h => ?_
  refine fB_test (g := fun _ b S1 => .ok (.d (.bl (!b))) S1) (R' := RWK X.K) h fun c H1 q => ?_
  obtain ⟨M, ρ, S, rs, ro, p⟩ := q
  exact Post.ret (R := RWK X.K) rs (.d (.bl _)) p
theorem f_and (h : FE X E a fa) (h2 : FE X E (.BoolOp .And (b :: rest) pos) fb) : FE X E (.BoolOp .And (a :: b :: rest) pos) (fAnd fa fb) := by
  refine PE.imp (pe_and h h2) fun σ H Q h => ?_
  refine fB_test (g := fun ρ b S1 => if b = true then fb ρ S1 else .ok (.d (.bl false)) S1) (R' := RWK X.K) h fun c H1 q => ?_
  obtain ⟨M, ρ, S, rs, ro, p⟩ := q
  cases c with
  | true => exact ⟨M, ρ, S, rs, ro, p⟩
  | false => exact Post.ret (R := RWK X.K) rs (.d (.bl _)) p
theorem f_or (h : FE X E a fa) (h2 : FE X E (.BoolOp .Or (b :: rest) pos) fb) : FE X E (.BoolOp .Or (a :: b :: rest) pos) (fOr fa fb) := by
  refine PE.imp (pe_or h h2) fun σ H Q h => ?_
  refine fB_test (g := fun ρ b S1 => if b = true then .ok (.d (.bl true)) S1 else fb ρ S1) (R' := RWK X.K) h fun c H1 q => ?_
  obtain ⟨M, ρ, S, rs, ro, p⟩ := q
  cases c with
  | false => exact ⟨M, ρ, S, rs, ro, p⟩
  | true => exact Post.ret (R := RWK X.K) rs (.d (.bl _)) p
def fIfE (t : Env → Store → Rs Bool) (fa fb : Env → Store → Rs W) : Env → Store → Rs W := fun ρ S => (t ρ S).bind fun b S1 => if b = true then fa ρ S1 else fb ρ S1
theorem f_ifE {c : Expr} (hc : FT X E c ta) (h : FE X E a fa) (h2 : FE X E b fb) : FE X E (.IfExp c a b pos) (fIfE ta fa fb) := by
  refine PE.imp (pe_ifExp hc h h2) fun σ H Q h => ?_
  refine tG.test (g := fun ρ b S1 => if b = true then fa ρ S1 else fb ρ S1) (R' := RWK X.K) h fun c H1 q => ?_
  obtain ⟨M, ρ, S, rs, ro, p⟩ := q
  cases c with
  | true => exact ⟨M, ρ, S, rs, ro, p⟩
  | false => exact ⟨M, ρ, S, rs, ro, p⟩
/-! ### a chain of two comparisons: op, op' on the same -/
def fChain (g g' : O2) (fa fb fc : Env → Store → Rs W) : Env → Store → Rs W := fun ρ S => (fa ρ S).bind fun x S1 => (fb ρ S1).bind fun y S2 => (g x y S2).bind fun z S3 => match z with
  | .d (.bl true) => (fc ρ S3).bind fun w S4 => g' y w S4
  | .d (.bl false) => .ok (.d (.bl false)) S3
  | _ => .no
end
end As

namespace As
open PySem PySem.Spec PyProof.Rows L2
inductive Ou where
  | nx (ρ : Env) (S : Store)
  | rt (w : W) (S : Store)
  | bk (ρ : Env) (S : Store)
  | ct (ρ : Env) (S : Store)
  | ex (e : Exn) (ρ : Env) (S : Store)
  | no
abbrev Sm := Env → Store → Ou
def PostS (K : PySem.W.Frag) (mg : Str → Option Value) (M : Mp) (H : Hp) (E : L2.St → XK) (D : Ends) : Ou → Prop
  | .nx ρ S' => ∀ M' σ' H', Ext M M' H H' → RS K M' S' H' → RO K M' H' σ' ρ → D.nx σ' H'
  | .rt w S' => ∀ M' v H', Ext M M' H H' → RS K M' S' H' → RW K M' H' v w → D.rt v H'
  | .bk ρ S' => ∀ M' σ' H', Ext M M' H H' → RS K M' S' H' → RO K M' H' σ' ρ → D.bk σ' H'
  | .ct ρ S' => ∀ M' σ' H', Ext M M' H H' → RS K M' S' H' → RO K M' H' σ' ρ → D.ct σ' H'
  | .ex e ρ S' => ∀ M' σ' cls d H', Ext M M' H H' → RS K M' S' H' → RO K M' H' σ' ρ → RX K mg M' H' e cls d → E σ' cls d H'
  | .no => False
def tS (K : PySem.W.Frag) (mg : Str → Option Value) (E : L2.St → XK) (f : Sm) : TS := fun D σ H => ∃ M ρ S, RS K M S H ∧ RO K M H σ ρ ∧ PostS K mg M H E D (f ρ S)
abbrev FS (X : Cx) (E : L2.St → XK) (st : Stmt) (f : Sm) : Prop := PS X st (tS X.K X.mg E f)
abbrev FSs (X : Cx) (E : L2.St → XK) (st : List Stmt) (f : Sm) : Prop := PSs X st (tS X.K X.mg E f)
section
variable {K : PySem.W.Frag} {mg : Str → Option Value} {M : Mp} {H : Hp} {E : L2.St → XK} {D : Ends}
theorem PostS.ext {M1 : Mp} {H1 : Hp} (x : Ext M M1 H H1) : ∀ {r : Ou}, PostS K mg M H E D r → PostS K mg M1 H1 E D r
  | .nx _ _, h => fun M' σ' H' e => h M' σ' H' (x.trans e)
  | .rt _ _, h => fun M' σ' H' e => h M' σ' H' (x.trans e)
  | .bk _ _, h => fun M' σ' H' e => h M' σ' H' (x.trans e)
  | .ct _ _, h => fun M' σ' H' e => h M' σ' H' (x.trans e)
  | .ex _ _ _, h => fun M' σ' c d H' e => h M' σ' c d H' (x.trans e)
  | .no, h => h
/-- a result, then a statement's -/
def Rs.st {α : Type} (r : Rs α) (ρ : Env) (k : α → Store → Ou) : Ou := match r with
  | .ok a S => k a S
  | .ex e S => .ex e ρ S
  | .no => .no
@[simp] theorem Rs.st_ok {α : Type} (a : α) (S : Store) (ρ : Env) (k : α → Store → Ou) : (Rs.ok a S).st ρ k = k a S := rfl
@[simp] theorem Rs.st_ex {α : Type} (e : Exn) (S : Store) (ρ : Env) (k : α → Store → Ou) : (Rs.ex e S : Rs α).st ρ k = .ex e ρ S := rfl
@[simp] theorem Rs.st_no {α : Type} (ρ : Env) (k : α → Store → Ou) : (Rs.no : Rs α).st ρ k = .no := rfl
theorem PostS.st {α β : Type} {R : Mp → Hp → β → α → Prop} {k : α → Store → Ou} {σ : L2.St} {ρ : Env} (ro : RO K M H σ ρ) : ∀ {r : Rs α}, PostS K mg M H E D (r.st ρ k) →
    Post K mg M H (E σ) R (fun b H1 => ∃ M1 a S1, Ext M M1 H H1 ∧ RS K M1 S1 H1 ∧ R M1 H1 b a ∧ PostS K mg M1 H1 E D (k a S1)) r
  | .ok a S', p => fun M' b H' e rs r => ⟨M', a, S', e, rs, r, PostS.ext e p⟩
  | .ex e S', p => fun M' cls d H' e rs rx => p M' σ cls d H' e rs (ro.ext e) rx
  | .no, p => p
theorem tS.st {α β : Type} {R : Mp → Hp → β → α → Prop} {f : Env → Store → Rs α} {k : Env → α → Store → Ou} {σ : L2.St} {N : β → Hp → Prop} (h : tS K mg E (fun ρ S => (f ρ S).st ρ fun a S1 => k ρ a S1) D σ H)
    (i : ∀ b H1 M1 ρ a S1, RS K M1 S1 H1 → RO K M1 H1 σ ρ → R M1 H1 b a → PostS K mg M1 H1 E D (k ρ a S1) → N b H1) : tG K mg E R f σ H N := by
  obtain ⟨M, ρ, S, rs, ro, p⟩ := h
  refine ⟨M, ρ, S, rs, ro, Post.map (fun b H1 q => ?_) (PostS.st (R := R) ro p)⟩
  obtain ⟨M1, a, S1, e, rs1, r, q⟩ := q
  exact i b H1 M1 ρ a S1 rs1 (ro.ext e) r q
end
/-! ### blocks -/
def sNil : Sm := fun ρ S => .nx ρ S
def sSeq (f g : Sm) : Sm := fun ρ S => match f ρ S with
  | .nx ρ' S' => g ρ' S'
  | o => o
section
variable {X : Cx} {E : L2.St → XK} {st : Stmt} {rest : List Stmt} {f g : Sm} {e a : Expr} {fa : Env → Store → Rs W} {ta : Env → Store → Rs Bool} {pos : Pos}
theorem fs_nil : FSs X E [] sNil := by
  refine PSs.imp pss_nil fun D σ H h => ?_
  obtain ⟨M, ρ, S, rs, ro, p⟩ := h
  exact p M σ H (Ext.refl _ _) rs ro
theorem sSeq_ok {K : PySem.W.Frag} {mg : Str → Option Value} {D : Ends} {σ : L2.St} {H : Hp} (h : tS K mg E (sSeq f g) D σ H) : tS K mg E f { D with nx := tS K mg E g D } σ H := by
  obtain ⟨M, ρ, S, rs, ro, p⟩ := h
  refine ⟨M, ρ, S, rs, ro, ?_⟩
  unfold sSeq at p
  cases hf : f ρ S with
  | nx ρ' S' =>
    rw [hf] at p
    exact fun M' σ' H' e rs' ro' => ⟨M', ρ', S', rs', ro', PostS.ext e p⟩
  | rt _ _ => rw [hf] at p; exact p
  | bk _ _ => rw [hf] at p; exact p
  | ct _ _ => rw [hf] at p; exact p
  | ex _ _ _ => rw [hf] at p; exact p
  | no => rw [hf] at p; exact p
theorem fs_cons (h1 : FS X E st f) (h2 : FSs X E rest g) : FSs X E (st :: rest) (sSeq f g) := PSs.imp (pss_cons h1 h2) fun D σ H h => sSeq_ok h
theorem fs_one (h1 : FS X E st f) : FSs X E [st] f := pss_one h1
def sPass : Sm := fun ρ S => .nx ρ S
theorem fs_pass : FS X E (.Pass pos) sPass := by
  refine PS.imp ps_pass fun D σ H h => ?_
  obtain ⟨M, ρ, S, rs, ro, p⟩ := h
  exact p M σ H (Ext.refl _ _) rs ro
theorem fs_break : FS X E (.Break pos) (fun ρ S => .bk ρ S) := by
  refine PS.imp ps_break fun D σ H h => ?_
  obtain ⟨M, ρ, S, rs, ro, p⟩ := h
  exact p M σ H (Ext.refl _ _) rs ro
theorem fs_continue : FS X E (.Continue pos) (fun ρ S => .ct ρ S) := by
  refine PS.imp ps_continue fun D σ H h => ?_
  obtain ⟨M, ρ, S, rs, ro, p⟩ := h
  exact p M σ H (Ext.refl _ _) rs ro
def sExpr (fa : Env → Store → Rs W) : Sm := fun ρ S => (fa ρ S).st ρ fun _ S1 => .nx ρ S1
theorem fs_expr (h : FE X E e fa) (hs : swapsWith e none pos.line X.env = pure false := by rfl) : FS X E (.Expr e pos) (sExpr fa) := by
  refine PS.imp (ps_expr h hs) fun D σ H h => ?_
  exact tS.st (R := RWK X.K) (k := fun ρ _ S1 => .nx ρ S1) h fun b H1 M1 ρ a S1 rs ro r p => p M1 σ H1 (Ext.refl _ _) rs ro
def sRet (fa : Env → Store → Rs W) : Sm := fun ρ S => (fa ρ S).st ρ fun w S1 => .rt w S1
theorem fs_ret (h : FE X E e fa) : FS X E (.Return (some e) pos) (sRet fa) := by
  refine PS.imp (ps_ret h) fun D σ H h => ?_
  exact tS.st (R := RWK X.K) (k := fun _ w S1 => .rt w S1) h fun b H1 M1 ρ a S1 rs ro r p => p M1 b H1 (Ext.refl _ _) rs r
theorem fs_retN : FS X E (.Return none pos) (fun _ S => .rt (.d .non) S) := by
  refine PS.imp ps_retN fun D σ H h => ?_
  obtain ⟨M, ρ, S, rs, ro, p⟩ := h
  exact p M .non H (Ext.refl _ _) rs (.d .non)
def sIf (t : Env → Store → Rs Bool) (f g : Sm) : Sm := fun ρ S => (t ρ S).st ρ fun b S1 => if b = true then f ρ S1 else g ρ S1
theorem fs_if {c : Expr} {b1 b2 : List Stmt} (hc : FT X E c ta) (h1 : FSs X E b1 f) (h2 : FSs X E b2 g) : FS X E (.If c b1 b2 pos) (sIf ta f g) := by
  refine PS.imp (ps_if hc h1 h2) fun D σ H h => ?_
  refine tS.st (R := RB) (k := fun ρ b S1 => if b = true then f ρ S1 else g ρ S1) h fun b H1 M1 ρ a S1 rs ro r p => ?_
  have r' : b = a := r
  subst r'
  cases b with
  | true => exact ⟨M1, ρ, S1, rs, ro, p⟩
  | false => exact ⟨M1, ρ, S1, rs, ro, p⟩
def sSet (i : Nat) (fa : Env → Store → Rs W) : Sm := fun ρ S => (fa ρ S).st ρ fun w S1 => .nx (ρ.set i (some w)) S1
theorem fs_set {i : Nat} {x : Str} {pos' : Pos} (hN : X.N.Nodup) (hi : X.N[i]? = some x) (hx : Loc X.env.scope x) (he : FE X E e fa) (hs : swapsWith e (some (.Name x pos')) pos.line X.env = pure false := by rfl) (hf : X.fn x = true ∨ X.env.scope.names.lookup x = some .local := by first | exact .inl rfl | exact .inr rfl | assumption) :
    FS X E (.Assign [.Name x pos'] e pos) (sSet i fa) := by
  refine PS.imp (ps_set hN hi hx he hs hf) fun D σ H h => ?_
  exact tS.st (R := RWK X.K) (k := fun ρ w S1 => .nx (ρ.set i (some w)) S1) h fun b H1 M1 ρ a S1 rs ro r p => p M1 _ H1 (Ext.refl _ _) rs (RO.set r i ro)
end
/-! ### targets that are names, or tuples of them -/
inductive Pt where
  | n (i : Nat)
  | t (ps : List Pt)
def unW : W → Option (List W)
  | .d (.tup ds) => some (ds.map .d)
  | .t ws => some ws
  | _ => none
mutual
def bindP : Pt → W → Env → Option Env
  | .n i, w, ρ => some (ρ.set i (some w))
  | .t ps, w, ρ => match unW w with
    | some ws => bindPs ps ws ρ
    | none => none
def bindPs : List Pt → List W → Env → Option Env
  | [], [], ρ => some ρ
  | p :: ps, w :: ws, ρ => match bindP p w ρ with
    | some ρ' => bindPs ps ws ρ'
    | none => none
  | _, _, _ => none
end
mutual
def gP (K : PySem.W.Frag) : Pt → TG
  | .n i => gName i
  | .t ps => gTup K ps.length (gPs K ps)
def gPs (K : PySem.W.Frag) : List Pt → TGs
  | [] => gNil
  | p :: ps => gCons (gP K p) (gPs K ps)
end
mutual
def Pt.nms : Pt → List Nat
  | .n i => [i]
  | .t ps => ptNms ps
def ptNms : List Pt → List Nat
  | [] => []
  | p :: ps => p.nms ++ ptNms ps
end
theorem gP_t (K : PySem.W.Frag) (ps : List Pt) : gP K (.t ps) = gTup K ps.length (gPs K ps) := by rw [gP]
theorem unW_ok {K : PySem.W.Frag} {M : Mp} {H : Hp} {v : V} {w : W} {ws : List W} (r : RW K M H v w) (h : unW w = some ws) : ∃ a xs, v = .ref a ∧ SqT K H a xs ∧ RWs K M H xs ws := by
  cases r with
  | d rd =>
    cases rd with
    | tup n t =>
      have h' := Option.some.inj h
      subst h'
      exact ⟨_, _, rfl, n.sq, t.ws⟩
    | _ => cases h
  | t n ha t =>
    have h' := Option.some.inj h
    subst h'
    exact ⟨_, _, rfl, .inl (.inl ha), t⟩
  | _ => cases h
theorem bindPs_len : ∀ {ps : List Pt} {ws : List W} {ρ ρ' : Env}, bindPs ps ws ρ = some ρ' → ws.length = ps.length
  | [], [], _, _, _ => rfl
  | p :: ps, w :: ws, ρ, ρ', h => by
    rw [bindPs] at h
    cases q : bindP p w ρ with
    | none => rw [q] at h; cases h
    | some ρ1 =>
      rw [q] at h
      exact congrArg (· + 1) (bindPs_len h)
  | [], w :: ws, _, _, h => by rw [bindPs] at h; cases h; all_goals (intros; simp_all)
  | p :: ps, [], _, _, h => by rw [bindPs] at h; cases h; all_goals (intros; simp_all)
section
variable {K : PySem.W.Frag} {M : Mp}
theorem wipe_set {σ : L2.St} {i : Nat} {v : Option V} {vs : List Nat} (h : i ∈ vs) : wipe (σ.set i v) vs = wipe σ vs := by
  refine List.ext_getElem? fun j => ?_
  by_cases hj : j ∈ vs
  · have e : ∀ τ : L2.St, j < τ.length → (wipe τ vs)[j]? = some none := fun τ hl => by
      cases q : (wipe τ vs)[j]? with
      | none =>
        have := List.getElem?_eq_none_iff.mp q
        rw [wipe_length] at this
        omega
      | some o =>
        cases o with
        | none => rfl
        | some x => exact absurd hj (wipe_some q).2
    by_cases hl : j < σ.length
    · rw [e _ hl, e _ (by rw [List.length_set]; exact hl)]
    · rw [List.getElem?_eq_none (by rw [wipe_length, List.length_set]; omega), List.getElem?_eq_none (by rw [wipe_length]; omega)]
  · rw [wipe_out hj, wipe_out hj]
    rw [List.getElem?_set_ne]
    rintro rfl
    exact hj h
mutual
theorem bindP_ok : ∀ {p : Pt} {v : V} {w : W} {σ : L2.St} {ρ ρ' : Env} {H : Hp} {Q : L2.St → Hp → Prop}, RW K M H v w → RO K M H σ ρ → bindP p w ρ = some ρ' →
    (∀ σ', RO K M H σ' ρ' → (∀ vs : List Nat, (∀ i ∈ p.nms, i ∈ vs) → wipe σ' vs = wipe σ vs) → Q σ' H) → gP K p v σ H Q
  | .n i, v, w, σ, ρ, ρ', H, Q, r, ro, h, q => by
    rw [bindP] at h
    have h' := Option.some.inj h
    subst h'
    rw [gP]
    exact q _ (RO.set r i ro) fun vs hv => wipe_set (hv i (by rw [Pt.nms]; exact List.mem_singleton.mpr rfl))
  | .t ps, v, w, σ, ρ, ρ', H, Q, r, ro, h, q => by
    rw [bindP] at h
    cases hu : unW w with
    | none => rw [hu] at h; cases h
    | some ws =>
      rw [hu] at h
      obtain ⟨a, xs, rfl, hq, rw'⟩ := unW_ok r hu
      rw [gP_t]
      refine ⟨a, xs, rfl, hq, rw'.length.trans (bindPs_len h), bindPs_ok rw' ro h fun σ' ro' hv => q σ' ro' fun vs hs => hv vs fun i hi => hs i (by rw [Pt.nms]; exact hi)⟩
theorem bindPs_ok : ∀ {ps : List Pt} {xs : List V} {ws : List W} {σ : L2.St} {ρ ρ' : Env} {H : Hp} {Q : L2.St → Hp → Prop}, RWs K M H xs ws → RO K M H σ ρ → bindPs ps ws ρ = some ρ' →
    (∀ σ', RO K M H σ' ρ' → (∀ vs : List Nat, (∀ i ∈ ptNms ps, i ∈ vs) → wipe σ' vs = wipe σ vs) → Q σ' H) → gPs K ps xs σ H Q
  | [], _, _, σ, ρ, ρ', H, Q, .nil, ro, h, q => by
    rw [bindPs] at h
    have h' := Option.some.inj h
    subst h'
    rw [gPs]
    exact ⟨rfl, q σ ro fun _ _ => rfl⟩
  | p :: ps, _, _, σ, ρ, ρ', H, Q, .cons (v := v) (d := w) r rr, ro, h, q => by
    rw [bindPs] at h
    cases hb : bindP p w ρ with
    | none => rw [hb] at h; cases h
    | some ρ1 =>
      rw [hb] at h
      rw [gPs]
      refine ⟨v, _, rfl, bindP_ok r ro hb fun σ1 ro1 hv => bindPs_ok rr ro1 h fun σ2 ro2 hv2 => q σ2 ro2 fun vs hs => ?_⟩
      rw [hv2 vs fun i hi => hs i (by rw [ptNms]; exact List.mem_append_right _ hi), hv vs fun i hi => hs i (by rw [ptNms]; exact List.mem_append_left _ hi)]
  | [], _, _, σ, ρ, ρ', H, Q, .cons _ _, ro, h, q => by rw [bindPs] at h; cases h; all_goals (intros; simp_all)
  | p :: ps, _, _, σ, ρ, ρ', H, Q, .nil, ro, h, q => by rw [bindPs] at h; cases h; all_goals (intros; simp_all)
end
end
section
variable {X : Cx} {E : L2.St → XK} {pos : Pos}
theorem gp_n {i : Nat} {x : Str} (hN : X.N.Nodup) (hi : X.N[i]? = some x) (hx : Loc X.env.scope x) (hf : X.fn x = true ∨ X.env.scope.names.lookup x = some .local := by first | exact .inl rfl | exact .inr rfl | assumption) : PG X (.Name x pos) (gP X.K (.n i)) := by
  rw [gP]
  exact pg_name hN hi hx hf
theorem gps_nil : PGs X [] (gPs X.K []) := by
  rw [gPs]
  exact pgs_nil
theorem gps_cons {e : Expr} {es : List Expr} {p : Pt} {ps : List Pt} (h1 : PG X e (gP X.K p)) (h2 : PGs X es (gPs X.K ps)) (hs : (assignEach (e :: es) X.env).map (·.2) = assign e X.env :: (assignEach es X.env).map (·.2) := by rfl) : PGs X (e :: es) (gPs X.K (p :: ps)) := by
  rw [gPs]
  exact pgs_cons h1 h2 hs
theorem gp_t {es : List Expr} {k : Nat} {ps : List Pt} (hc : X.calm = true) (h : PGs X es (gPs X.K ps)) (hn : (assignEach es X.env).length = ps.length := by rfl) (hst : (assignEach es X.env).findIdx? (·.1) = none := by rfl) : PG X (.Tuple es k pos) (gP X.K (.t ps)) := by
  rw [gP_t]
  exact pg_tup hc h hn hst
/-- a, b = e -/
def sAsg (p : Pt) (fa : Env → Store → Rs W) : Sm := fun ρ S => (fa ρ S).st ρ fun w S1 => match bindP p w ρ with
  | some ρ' => .nx ρ' S1
  | none => .no
theorem fs_asg {tg e : Expr} {p : Pt} {fa : Env → Store → Rs W} (he : FE X E e fa) (hg : PG X tg (gP X.K p)) (hs : swapsWithSole [tg] e pos.line X.env = pure false := by rfl) (hw : swappedStores [tg] e X.env = pure none := by rfl)
    (h1 : (assignEach [tg] X.env).map (·.2) = [assign tg X.env] := by rfl) : FS X E (.Assign [tg] e pos) (sAsg p fa) := by
  refine PS.imp (ps_asg he hg hs hw h1) fun D σ H h => ?_
  refine tS.st (R := RWK X.K) (k := fun ρ w S1 => match bindP p w ρ with
    | some ρ' => .nx ρ' S1
    | none => .no) h fun b H1 M1 ρ a S1 rs ro r p' => ?_
  cases hb : bindP p a ρ with
  | none => rw [hb] at p'; exact (show False from p').elim
  | some ρ' =>
    rw [hb] at p'
    exact bindP_ok r ro hb fun σ' ro' _ => p' M1 σ' H1 (Ext.refl _ _) rs ro'
/-! ### what a loop goes through: its items, and what must stay so -/
abbrev Itm := List W × (Store → Prop)
def ItOk (K : PySem.W.Frag) (M : Mp) (H : Hp) (J : It) (ws : List W) (g : Store → Prop) : Prop :=
  ∀ M1 S1 H1, Ex0 M M1 H H1 → RS K M1 S1 H1 → g S1 → (∀ i w, ws[i]? = some w → J.go i H1 ∧ ∀ x H2, J.yld i H1 x H2 → (∀ a o, H1 a = some o → H2 a = some o) ∧ RW K M1 H2 x w) ∧ J.stop ws.length H1
def PostI (K : PySem.W.Frag) (mg : Str → Option Value) (M : Mp) (H : Hp) (E : XK) (R : It → Hp → Prop) : Rs Itm → Prop
  | .ok a S' => ∀ M' J H', Ext M M' H H' → RS K M' S' H' → ItOk K M' H' J a.1 a.2 → R J H'
  | .ex e S' => ∀ M' cls d H', Ext M M' H H' → RS K M' S' H' → RX K mg M' H' e cls d → E cls d H'
  | .no => False
def tI (K : PySem.W.Frag) (mg : Str → Option Value) (E : L2.St → XK) (f : Env → Store → Rs Itm) : TI := fun σ H R => ∃ M ρ S, RS K M S H ∧ RO K M H σ ρ ∧ PostI K mg M H (E σ) R (f ρ S)
abbrev FI (X : Cx) (E : L2.St → XK) (tg it : Expr) (f : Env → Store → Rs Itm) : Prop := PI X tg it (tI X.K X.mg E f)
open Classical in
noncomputable def forL (p : Pt) (g : Store → Prop) (body : Sm) : List W → Env → Store → Ou
  | [], ρ, S => if g S then .nx ρ S else .no
  | w :: ws, ρ, S => if g S then match bindP p w ρ with
      | some ρ1 => match body ρ1 S with
        | .nx ρ2 S2 => forL p g body ws ρ2 S2
        | .ct ρ2 S2 => forL p g body ws ρ2 S2
        | .bk ρ2 S2 => .nx ρ2 S2
        | o => o
      | none => .no
    else .no
noncomputable def sFor (fi : Env → Store → Rs Itm) (p : Pt) (body : Sm) : Sm := fun ρ S => (fi ρ S).st ρ fun a S1 => forL p a.2 body a.1 ρ S1
theorem Ex0.trans {M M1 M2 : Mp} {H H1 H2 : Hp} (a : Ex0 M M1 H H1) (b : Ex0 M1 M2 H1 H2) : Ex0 M M2 H H2 := by
  obtain ⟨m1, e1⟩ := a.ad
  obtain ⟨m2, e2⟩ := b.ad
  exact ⟨⟨m1 ++ m2, by rw [e2, e1, List.append_assoc]⟩, fun x o n h => let z := a.lv x o n h; b.lv x o z.1 z.2⟩
theorem Ex0.refl (M : Mp) (H : Hp) : Ex0 M M H H := (Ext.refl M H).ex0
theorem fs_for {tg iter : Expr} {body : List Stmt} {fi : Env → Store → Rs Itm} {p : Pt} {f : Sm} (hp : PassesOwn (model X.prog X.w) X.A X.env X.xe) (hc : X.calm = true) (hi : FI X E tg iter fi) (hg : PG X tg (gP X.K p)) (hb : FSs X E body f)
    (hs : ∀ x, foldedSetIterable iter X.env x = pure x := by intro _; rfl) : FS X E (.For tg iter body [] pos) (sFor fi p f) := by
  refine PS.imp (ps_for hp hc hi hg hb hs) fun D σ H h => ?_
  obtain ⟨M, ρ, S, rs, ro, q⟩ := h
  refine ⟨M, ρ, S, rs, ro, ?_⟩
  unfold sFor at q
  cases hf : fi ρ S with
  | no => rw [hf] at q; exact q
  | ex e S' => rw [hf] at q; exact fun M' cls d H' e rs rx => q M' σ cls d H' e rs (ro.ext e) rx
  | ok a S' =>
    rw [hf] at q
    obtain ⟨ws, g⟩ := a
    intro M' J H' e rs' it
    have q' : PostS X.K X.mg M' H' E D (forL p g f ws ρ S') := PostS.ext e q
    have ro' := ro.ext e
    refine ⟨fun i m σ1 H1 => m = ws.length - i ∧ i ≤ ws.length ∧ ∃ M1 ρ1 S1, Ext M' M1 H' H1 ∧ RS X.K M1 S1 H1 ∧ RO X.K M1 H1 σ1 ρ1 ∧ PostS X.K X.mg M1 H1 E D (forL p g f (ws.drop i) ρ1 S1),
      ⟨_, rfl, Nat.zero_le _, M', ρ, S', Ext.refl _ _, rs', ro', q'⟩, fun i m σ1 H1 h => ?_⟩
    obtain ⟨rfl, hi, M1, ρ1, S1, e1, rs1, ro1, p1⟩ := h
    by_cases hlt : i < ws.length
    · refine .inr ?_
      rw [List.drop_eq_getElem_cons hlt] at p1
      rw [forL] at p1
      by_cases hg1 : g S1
      · rw [if_pos hg1] at p1
        obtain ⟨iok, _⟩ := it M1 S1 H1 e1.ex0 rs1 hg1
        obtain ⟨go, yl⟩ := iok i _ (List.getElem?_eq_getElem hlt)
        refine ⟨go, _, fun σ' H' w => ⟨_, Nat.sub_succ_lt_self _ _ hlt, w⟩, fun x H2 y => ?_⟩
        obtain ⟨keep, rw2⟩ := yl x H2 y
        obtain ⟨rs2, e2⟩ := rs1.same keep
        have ro2 := ro1.ext e2
        cases hb : bindP p ws[i] ρ1 with
        | none => rw [hb] at p1; exact (show False from p1).elim
        | some ρ2 =>
          rw [hb] at p1
          dsimp only at p1
          refine bindP_ok rw2 ro2 hb fun σ2 ro3 _ => ?_
          refine ⟨M1, ρ2, S1, rs2, ro3, ?_⟩
          cases hbd : f ρ2 S1 with
          | nx ρ3 S3 =>
            rw [hbd] at p1
            intro M3 σ3 H3 e3 rs3 ro4
            exact ⟨by omega, hlt, M3, ρ3, S3, (e1.trans e2).trans e3, rs3, ro4, PostS.ext (e2.trans e3) p1⟩
          | ct ρ3 S3 =>
            rw [hbd] at p1
            intro M3 σ3 H3 e3 rs3 ro4
            exact ⟨by omega, hlt, M3, ρ3, S3, (e1.trans e2).trans e3, rs3, ro4, PostS.ext (e2.trans e3) p1⟩
          | bk ρ3 S3 =>
            rw [hbd] at p1
            intro M3 σ3 H3 e3 rs3 ro4
            exact p1 M3 σ3 H3 (e2.trans e3) rs3 ro4
          | rt w S3 =>
            rw [hbd] at p1
            exact fun M3 v H3 e3 => p1 M3 v H3 (e2.trans e3)
          | ex w ρ3 S3 =>
            rw [hbd] at p1
            exact fun M3 σ3 c d H3 e3 => p1 M3 σ3 c d H3 (e2.trans e3)
          | no =>
            rw [hbd] at p1
            exact p1
      · rw [if_neg hg1] at p1
        exact (show False from p1).elim
    · have e0 : i = ws.length := by omega
      subst e0
      rw [List.drop_length, forL] at p1
      by_cases hg1 : g S1
      · rw [if_pos hg1] at p1
        exact .inl ⟨(it M1 S1 H1 e1.ex0 rs1 hg1).2, p1 M1 σ1 H1 (Ext.refl _ _) rs1 ro1⟩
      · rw [if_neg hg1] at p1
        exact (show False from p1).elim
/-! ### while -/
def whL (t : Env → Store → Rs Bool) (body : Sm) : Nat → Env → Store → Ou
  | 0, _, _ => .no
  | n + 1, ρ, S => (t ρ S).st ρ fun b S1 => if b = true then match body ρ S1 with
      | .nx ρ2 S2 => whL t body n ρ2 S2
      | .ct ρ2 S2 => whL t body n ρ2 S2
      | .bk ρ2 S2 => .nx ρ2 S2
      | o => o
    else .nx ρ S1
theorem fs_while {c : Expr} {body : List Stmt} {t : Env → Store → Rs Bool} {f : Sm} (n : Nat) (hp : PassesOwn (model X.prog X.w) X.A X.env X.xe) (hc : FT X E c t) (hb : FSs X E body f) : FS X E (.While c body [] pos) (fun ρ S => whL t f n ρ S) := by
  refine PS.imp (ps_while hp hc hb) fun D σ H h => ?_
  obtain ⟨M, ρ, S, rs, ro, q⟩ := h
  refine ⟨fun m σ1 H1 => ∃ M1 ρ1 S1, RS X.K M1 S1 H1 ∧ RO X.K M1 H1 σ1 ρ1 ∧ PostS X.K X.mg M1 H1 E D (whL t f m ρ1 S1), ⟨n, M, ρ, S, rs, ro, q⟩, fun m σ1 H1 h => ?_⟩
  obtain ⟨M1, ρ1, S1, rs1, ro1, p1⟩ := h
  cases m with
  | zero => exact (show False from p1).elim
  | succ m =>
    rw [whL] at p1
    refine ⟨M1, ρ1, S1, rs1, ro1, Post.map (fun b H2 q => ?_) (PostS.st (R := RB) ro1 p1)⟩
    obtain ⟨M2, b', S2, e, rs2, r, q⟩ := q
    have r' : b = b' := r
    subst r'
    have ro2 := ro1.ext e
    cases b with
    | false => exact q M2 σ1 H2 (Ext.refl _ _) rs2 ro2
    | true =>
      rw [if_pos rfl] at q ⊢
      refine ⟨fun σ' H' => ∃ M1 ρ1 S1, RS X.K M1 S1 H' ∧ RO X.K M1 H' σ' ρ1 ∧ PostS X.K X.mg M1 H' E D (whL t f m ρ1 S1), fun σ' H' w => ⟨m, Nat.lt_succ_self m, w⟩, M2, ρ1, S2, rs2, ro2, ?_⟩
      cases hbd : f ρ1 S2 with
      | nx ρ3 S3 =>
        rw [hbd] at q
        exact fun M3 σ3 H3 e3 rs3 ro4 => ⟨M3, ρ3, S3, rs3, ro4, PostS.ext e3 q⟩
      | ct ρ3 S3 =>
        rw [hbd] at q
        exact fun M3 σ3 H3 e3 rs3 ro4 => ⟨M3, ρ3, S3, rs3, ro4, PostS.ext e3 q⟩
      | bk ρ3 S3 => rw [hbd] at q; exact q
      | rt w S3 => rw [hbd] at q; exact q
      | ex w ρ3 S3 => rw [hbd] at q; exact q
      | no => rw [hbd] at q; exact q
end
end As

namespace As
open PySem PySem.Spec PyProof.Rows L2
/-- a new list: a cell, or plain data -/
def newL (b : Bool) (ds : List D) (S : Store) : Rs W := if b then .ok (.c S.length) (S ++ [.l ds]) else .ok (.d (.lst ds)) S
def newW (b : Bool) (ws : List W) (S : Store) : Rs W := match unDs ws with
  | some ds => newL b ds S
  | none => .ok (.c S.length) (S ++ [.w ws])
def newT (ds : List D) (S : Store) : Rs W := .ok (.d (.tup ds)) S
section
variable {K : PySem.W.Frag} {mg : Str → Option Value} {M : Mp} {H : Hp} {E : XK}
theorem newL_ok {b : Bool} {ds : List D} {S : Store} {p : Addr} {xs : List V} {Q : VK} (rs : RS K M S H) (np : H p = none) (r : RDs K M H xs ds) (h : Post K mg M H E (RWK K) Q (newL b ds S)) : Q (.ref p) (upd H p (.lst xs)) := by
  have e := Ext.fz (M := M) (o := .lst xs) np
  cases b with
  | false => exact h M (.ref p) _ e (rs.fz np) (.d (.lst ⟨rs.fresh np, upd_same⟩ (r.ext e)))
  | true =>
    have n := rs.new (c := .l ds) (o := .lst xs) np ⟨xs, upd_same, r.ex0 ?_⟩
    · refine h _ (.ref p) _ n.2 n.1 (.c ?_)
      show (M.ad ++ [p])[S.length]? = _
      rw [← rs.len, List.getElem?_append_right (Nat.le_refl _), Nat.sub_self]
      rfl
    · refine ⟨⟨[p], rfl⟩, fun a o n h => ?_⟩
      have q := ne_of_none h np
      rw [upd_ne q]
      refine ⟨fun z => ?_, h⟩
      rcases z with z | z
      · rcases List.mem_append.mp z with z | z
        · exact n (.inl z)
        · exact q (List.mem_singleton.mp z)
      · exact n (.inr z)
theorem newW_ok {b : Bool} {ws : List W} {S : Store} {p : Addr} {xs : List V} {Q : VK} (rs : RS K M S H) (np : H p = none) (r : RWs K M H xs ws) (h : Post K mg M H E (RWK K) Q (newW b ws S)) : Q (.ref p) (upd H p (.lst xs)) := by
  unfold newW at h
  cases hu : unDs ws with
  | some ds =>
    rw [hu] at h
    exact newL_ok rs np (r.un hu) h
  | none =>
    rw [hu] at h
    have n := rs.new (c := .w ws) (o := .lst xs) np ⟨xs, upd_same, r.ex0 ?_⟩
    · refine h _ (.ref p) _ n.2 n.1 (.c ?_)
      show (M.ad ++ [p])[S.length]? = _
      rw [← rs.len, List.getElem?_append_right (Nat.le_refl _), Nat.sub_self]
      rfl
    · refine ⟨⟨[p], rfl⟩, fun a o n h => ?_⟩
      have q := ne_of_none h np
      rw [upd_ne q]
      refine ⟨fun z => ?_, h⟩
      rcases z with z | z
      · rcases List.mem_append.mp z with z | z
        · exact n (.inl z)
        · exact q (List.mem_singleton.mp z)
      · exact n (.inr z)
/-- a cell's list, plain where it can be -/
def reL (ws : List W) : Cell := match unDs ws with
  | some ds => .l ds
  | none => .w ws
theorem CellOk.reL {a : Addr} {xs : List V} {ws : List W} (ha : H a = some (.lst xs)) (r : RWs K M H xs ws) : CellOk K M H a (reL ws) := by
  unfold As.reL
  cases hu : unDs ws with
  | some ds => exact ⟨xs, ha, r.un hu⟩
  | none => exact ⟨xs, ha, r⟩
theorem RS.reL {S : Store} {k : Nat} {a : Addr} {xs : List V} {ws : List W} (rs : RS K M S H) (ha : M.ad[k]? = some a) (r : RWs K M H xs ws) : RS K M (S.set k (As.reL ws)) (upd H a (.lst xs)) ∧ Ext M M H (upd H a (.lst xs)) :=
  rs.put ha fun e => CellOk.reL upd_same (r.ext e)
@[simp] theorem reL_ds (ds : List D) : As.reL (ds.map .d) = .l ds := by unfold As.reL; rw [unDs_map]
theorem newT_ok {ds : List D} {S : Store} {p : Addr} {xs : List V} {Q : VK} (rs : RS K M S H) (np : H p = none) (r : RDs K M H xs ds) (h : Post K mg M H E (RWK K) Q (newT ds S)) : Q (.ref p) (upd H p (.tup xs)) := by
  have e := Ext.fz (M := M) (o := .tup xs) np
  exact h M (.ref p) _ e (rs.fz np) (.d (.tup ⟨rs.fresh np, upd_same⟩ (r.ext e)))
/-- a hidden list grows -/
theorem hid_put {D : Addr} {o : HO} : Ex0 (M.hide D) (M.hide D) H (upd H D o) := ⟨⟨[], (List.append_nil _).symm⟩, fun a u n h => by
  have q : a ≠ D := fun z => n (.inr (.inr z))
  rw [upd_ne q]
  exact ⟨n, h⟩⟩
theorem RS.hid_put {S : Store} {D : Addr} {o : HO} (r : RS K (M.hide D) S H) : RS K (M.hide D) S (upd H D o) := by
  refine ⟨r.nd, r.dj, r.len, fun k a c h1 h2 => (r.ok k a c h1 h2).ex0 As.hid_put fun u hu => ?_, fun a h z => ?_⟩
  · have q : a ≠ D := fun z => r.dj a (List.mem_of_getElem? h1) (.inr z)
    rw [upd_ne q]
    exact hu
  · by_cases q : a = D
    · subst q
      rw [upd_same] at z
      cases z
    · rw [upd_ne q] at z
      exact r.hd a h z
theorem adopt {M0 : Mp} {H0 : Hp} {S S0 : Store} {D : Addr} {xs : List V} {ds : List As.D} (r : RS K (M.hide D) S H) (hD : H D = some (.lst xs)) (t : RDs K (M.hide D) H xs ds) (rs0 : RS K M0 S0 H0) (e : Ext M0 M H0 H) (n0 : H0 D = none) :
    RS K (M.push D) (S ++ [.l ds]) H ∧ Ext M0 (M.push D) H0 H := by
  have nD : D ∉ M.ad := fun z => r.dj D z (.inr rfl)
  have x : Ex0 (M.hide D) (M.push D) H H := ⟨⟨[D], rfl⟩, fun a o n h => ⟨fun z => n (by
    rcases z with z | z
    · rcases List.mem_append.mp z with z | z
      · exact .inl z
      · exact .inr (.inr (List.mem_singleton.mp z))
    · exact .inr (.inl z)), h⟩⟩
  obtain ⟨more, em⟩ := e.ad
  refine ⟨⟨?_, fun a h z => ?_, ?_, fun k a c h1 h2 => ?_, fun a h => r.hd a (.inl h)⟩, e.hid, ⟨more ++ [D], by show M.ad ++ [D] = _; rw [em, List.append_assoc]⟩, fun a o h n => ?_⟩
  · show (M.ad ++ [D]).Nodup
    rw [List.nodup_append]
    refine ⟨r.nd, by simp, fun a ha b hb => ?_⟩
    have := List.mem_singleton.mp hb
    subst this
    rintro rfl
    exact nD ha
  · rcases List.mem_append.mp h with h | h
    · exact r.dj a h (.inl z)
    · have := List.mem_singleton.mp h
      subst this
      have z' : M0.hid a := e.hid ▸ z
      exact rs0.hd a z' n0
  · show (M.ad ++ [D]).length = _
    have := r.len
    have e1 : (M.hide D).ad = M.ad := rfl
    rw [e1] at this
    rw [List.length_append, List.length_append, this]
    rfl
  · have h1' : (M.ad ++ [D])[k]? = some a := h1
    have rl : M.ad.length = S.length := r.len
    by_cases hk : k < M.ad.length
    · rw [List.getElem?_append_left hk] at h1'
      rw [List.getElem?_append_left (by omega)] at h2
      exact (r.ok k a c h1' h2).ex0 x fun u hu => hu
    · rw [List.getElem?_append_right (by omega)] at h1'
      rw [List.getElem?_append_right (by omega), ← rl] at h2
      have hz : k - M.ad.length = 0 := by
        cases hq : k - M.ad.length with
        | zero => rfl
        | succ n => rw [hq] at h1'; simp at h1'
      rw [hz] at h1' h2
      cases h1'
      cases h2
      exact ⟨xs, hD, t.ex0 x⟩
  · obtain ⟨h1, n1⟩ := e.st a o h n
    refine ⟨h1, fun z => ?_⟩
    rcases List.mem_append.mp z with z | z
    · exact n1 z
    · rw [List.mem_singleton.mp z] at h
      rw [n0] at h
      cases h
theorem adoptW {M0 : Mp} {H0 : Hp} {S S0 : Store} {D : Addr} {xs : List V} {ds : List W} (r : RS K (M.hide D) S H) (hD : H D = some (.lst xs)) (t : RWs K (M.hide D) H xs ds) (rs0 : RS K M0 S0 H0) (e : Ext M0 M H0 H) (n0 : H0 D = none) :
    RS K (M.push D) (S ++ [.w ds]) H ∧ Ext M0 (M.push D) H0 H := by
  have nD : D ∉ M.ad := fun z => r.dj D z (.inr rfl)
  have x : Ex0 (M.hide D) (M.push D) H H := ⟨⟨[D], rfl⟩, fun a o n h => ⟨fun z => n (by
    rcases z with z | z
    · rcases List.mem_append.mp z with z | z
      · exact .inl z
      · exact .inr (.inr (List.mem_singleton.mp z))
    · exact .inr (.inl z)), h⟩⟩
  obtain ⟨more, em⟩ := e.ad
  refine ⟨⟨?_, fun a h z => ?_, ?_, fun k a c h1 h2 => ?_, fun a h => r.hd a (.inl h)⟩, e.hid, ⟨more ++ [D], by show M.ad ++ [D] = _; rw [em, List.append_assoc]⟩, fun a o h n => ?_⟩
  · show (M.ad ++ [D]).Nodup
    rw [List.nodup_append]
    refine ⟨r.nd, by simp, fun a ha b hb => ?_⟩
    have := List.mem_singleton.mp hb
    subst this
    rintro rfl
    exact nD ha
  · rcases List.mem_append.mp h with h | h
    · exact r.dj a h (.inl z)
    · have := List.mem_singleton.mp h
      subst this
      have z' : M0.hid a := e.hid ▸ z
      exact rs0.hd a z' n0
  · show (M.ad ++ [D]).length = _
    have := r.len
    have e1 : (M.hide D).ad = M.ad := rfl
    rw [e1] at this
    rw [List.length_append, List.length_append, this]
    rfl
  · have h1' : (M.ad ++ [D])[k]? = some a := h1
    have rl : M.ad.length = S.length := r.len
    by_cases hk : k < M.ad.length
    · rw [List.getElem?_append_left hk] at h1'
      rw [List.getElem?_append_left (by omega)] at h2
      exact (r.ok k a c h1' h2).ex0 x fun u hu => hu
    · rw [List.getElem?_append_right (by omega)] at h1'
      rw [List.getElem?_append_right (by omega), ← rl] at h2
      have hz : k - M.ad.length = 0 := by
        cases hq : k - M.ad.length with
        | zero => rfl
        | succ n => rw [hq] at h1'; simp at h1'
      rw [hz] at h1' h2
      cases h1'
      cases h2
      exact ⟨xs, hD, t.ex0 x⟩
  · obtain ⟨h1, n1⟩ := e.st a o h n
    refine ⟨h1, fun z => ?_⟩
    rcases List.mem_append.mp z with z | z
    · exact n1 z
    · rw [List.mem_singleton.mp z] at h
      rw [n0] at h
      cases h
end
/-! ### comprehensions -/
def wipeE (ρ : Env) : List Nat → Env
  | [] => ρ
  | i :: vs => (wipeE ρ vs).set i none
theorem RO.none_at {K : PySem.W.Frag} {M : Mp} {H : Hp} : ∀ {vs : List (Option V)} {ws : Env} (i : Nat), RO K M H vs ws → RO K M H (vs.set i none) (ws.set i none)
  | _, _, _, .nil => .nil
  | _, _, 0, .no t => .no t
  | _, _, 0, .so _ t => .no t
  | _, _, i + 1, .no t => .no (RO.none_at i t)
  | _, _, i + 1, .so q t => .so q (RO.none_at i t)
theorem RO.wipe {K : PySem.W.Frag} {M : Mp} {H : Hp} {σ : L2.St} {ρ : Env} (h : RO K M H σ ρ) : ∀ vs : List Nat, RO K M H (L2.wipe σ vs) (wipeE ρ vs)
  | [] => by rw [L2.wipe, wipeE]; exact h
  | i :: vs => by rw [L2.wipe, wipeE]; exact RO.none_at i (h.wipe vs)
theorem wipe_wipe (σ : L2.St) (vs : List Nat) : L2.wipe (L2.wipe σ vs) vs = L2.wipe σ vs := by
  refine List.ext_getElem? fun j => ?_
  by_cases hj : j ∈ vs
  · have e : ∀ τ : L2.St, j < τ.length → (L2.wipe τ vs)[j]? = some none := fun τ hl => by
      cases q : (L2.wipe τ vs)[j]? with
      | none =>
        have := List.getElem?_eq_none_iff.mp q
        rw [wipe_length] at this
        omega
      | some o =>
        cases o with
        | none => rfl
        | some x => exact absurd hj (wipe_some q).2
    by_cases hl : j < σ.length
    · rw [e _ hl, e _ (by rw [wipe_length]; exact hl)]
    · rw [List.getElem?_eq_none (by rw [wipe_length, wipe_length]; omega), List.getElem?_eq_none (by rw [wipe_length]; omega)]
  · rw [wipe_out hj]
open Classical in
noncomputable def compL (p : Pt) (g : Store → Prop) (t : Env → Store → Rs Bool) (fe : Env → Store → Rs W) (ρw : Env) : List W → Store → Rs (List W)
  | [], S => if g S then .ok [] S else .no
  | w :: ws, S => if g S then match bindP p w ρw with
      | some ρ1 => match t ρ1 S with
        | .ok true S1 => match fe ρ1 S1 with
          | .ok w' S2 => match compL p g t fe ρw ws S2 with
            | .ok us S3 => .ok (w' :: us) S3
            | _ => .no
          | _ => .no
        | .ok false S1 => compL p g t fe ρw ws S1
        | _ => .no
      | none => .no
    else .no
noncomputable def fLc (b : Bool) (fi : Env → Store → Rs Itm) (p : Pt) (t : Env → Store → Rs Bool) (fe : Env → Store → Rs W) (vs : List Nat) : Env → Store → Rs W :=
  fun ρ S => (fi ρ S).bind fun a S1 => if a.1.length < 100000 then (compL p a.2 t fe (wipeE ρ vs) a.1 S1).bind fun us S2 => newW b us S2 else .no
def tYesF : Env → Store → Rs Bool := fun _ S => .ok true S
abbrev EN : L2.St → XK := fun _ _ _ _ => False
section
variable {X : Cx} {E : L2.St → XK} {pos : Pos}
abbrev FTs (X : Cx) (E : L2.St → XK) (ifs : List Expr) (f : Env → Store → Rs Bool) : Prop := PTs X ifs (tG X.K X.mg E RB f)
theorem fts_nil : FTs X E [] tYesF := ⟨fun pins s σ H Q I h => pts_nil.run pins s σ H Q I (by
  obtain ⟨M, ρ, S, rs, ro, p⟩ := h
  exact Post.ret (R := RB) rs rfl p)⟩
theorem fts_one {c : Expr} {t : Env → Store → Rs Bool} (h : FT X E c t) : FTs X E [c] t := pts_one h
theorem lc_imp {K : PySem.W.Frag} {mg : Str → Option Value} {b : Bool} {fi : Env → Store → Rs Itm} {p : Pt} {t : Env → Store → Rs Bool} {fe : Env → Store → Rs W} {vs : List Nat} (hv : ∀ i ∈ p.nms, i ∈ vs) :
    ∀ σ H Q, tG K mg E (RWK K) (fLc b fi p t fe vs) σ H Q → tLc (tI K mg E fi) (gP K p) (tG K mg EN RB t) (tG K mg EN (RWK K) fe) vs σ H Q := by
  intro σ H Q h
  obtain ⟨M, ρ, S, rs, ro, q⟩ := h
  refine ⟨M, ρ, S, rs, ro, ?_⟩
  unfold fLc at q
  cases hf : fi ρ S with
  | no => rw [hf] at q; exact q
  | ex e S' => rw [hf] at q; exact q
  | ok a S' =>
    rw [hf] at q
    obtain ⟨ws, g⟩ := a
    intro M' J H' e rs' it D nD
    have q0 : Post K mg M H (E σ) (RWK K) Q (if ws.length < 100000 then (compL p g t fe (wipeE ρ vs) ws S').bind fun us S2 => newW b us S2 else .no) := q
    have ro' := (ro.ext e).wipe vs
    by_cases hz : ws.length < 100000
    · rw [if_pos hz] at q0
      have q' := Post.ext e q0
      have fin : ∀ {M1 : Mp} {H1 : Hp} {S1 : Store} {xs : List V} {us : List W}, Post K mg M' H' (E σ) (RWK K) Q (newW b us S1) → Ext M' M1 H' H1 → RS K (M1.hide D) S1 H1 → H1 D = some (.lst xs) → RWs K (M1.hide D) H1 xs us → Q (.ref D) H1 := by
        intro M1 H1 S1 xs us pp e1 r hD tt
        unfold newW at pp
        have rl : M1.ad.length = S1.length := r.len
        have atD : (M1.ad ++ [D])[S1.length]? = some D := by
          rw [← rl, List.getElem?_append_right (Nat.le_refl _), Nat.sub_self]
          rfl
        cases hu : unDs us with
        | none =>
          rw [hu] at pp
          obtain ⟨r2, e2⟩ := adoptW r hD tt rs' e1 nD
          exact pp _ (.ref D) H1 e2 r2 (.c atD)
        | some ds =>
          rw [hu] at pp
          cases b with
          | false =>
            refine pp M1 (.ref D) H1 e1 r.show_ (.d (.lst ⟨?_, hD⟩ ((tt.un hu).ex0 Ex0.show_)))
            rintro (z | z)
            · exact r.dj D z (.inr rfl)
            · exact rs'.hd D (e1.hid ▸ z) nD
          | true =>
            obtain ⟨r2, e2⟩ := adopt r hD (tt.un hu) rs' e1 nD
            exact pp _ (.ref D) H1 e2 r2 (.c atD)
      -- what is left to do, from a turn on
      let Fin : List W → Rs (List W) → Prop := fun acc r => match r with
        | .ok ds S1 => ∀ M1 H1 xs, Ext M' M1 H' H1 → RS K (M1.hide D) S1 H1 → H1 D = some (.lst xs) → RWs K (M1.hide D) H1 xs (acc ++ ds) → Q (.ref D) H1
        | _ => False
      have start : Fin [] (compL p g t fe (wipeE ρ vs) ws S') ∨ ∃ e S1, compL p g t fe (wipeE ρ vs) ws S' = .ex e S1 := by
        cases hc : compL p g t fe (wipeE ρ vs) ws S' with
        | no => rw [hc] at q'; exact (show False from q').elim
        | ex e S1 => exact .inr ⟨e, S1, rfl⟩
        | ok ds S1 =>
          rw [hc] at q'
          exact .inl fun M1 H1 xs e1 r hD tt => fin q' e1 r hD tt
      have noex : ∀ (l : List W) (S1 : Store) (x : Exn) (S2 : Store), compL p g t fe (wipeE ρ vs) l S1 ≠ .ex x S2 := by
        intro l
        induction l with
        | nil =>
          intro S1 x S2 h
          rw [compL] at h
          split at h <;> cases h
        | cons w l ih =>
          intro S1 x S2 h
          rw [compL] at h
          split at h
          · split at h
            · split at h
              · split at h
                · split at h
                  · cases h
                  · cases h
                · cases h
              · exact ih _ _ _ h
              · cases h
            · cases h
          · cases h
      have start' : Fin [] (compL p g t fe (wipeE ρ vs) ws S') := by
        rcases start with z | ⟨e, S1, z⟩
        · exact z
        · exact absurd z (noex ws S' e S1)
      have base0 : Ex0 M' (M'.hide D) H' (upd H' D (.lst [])) := Ex0.hide nD
      refine ⟨fun i m H1 => m = ws.length - i ∧ i ≤ ws.length ∧ ∃ M1 S1 acc xs, Ext M' M1 H' H1 ∧ RS K (M1.hide D) S1 H1 ∧ H1 D = some (.lst xs) ∧ RWs K (M1.hide D) H1 xs acc ∧ acc.length ≤ i ∧ Fin acc (compL p g t fe (wipeE ρ vs) (ws.drop i) S1),
        ⟨_, rfl, Nat.zero_le _, M', S', [], [], ?_, rs'.hide nD, upd_same, .nil, Nat.le_refl _, start'⟩, fun i m H1 h => ?_⟩
      · exact ⟨rfl, ⟨[], (List.append_nil _).symm⟩, fun a o h n => ⟨by rw [upd_ne (ne_of_none h nD)]; exact h, n⟩⟩
      obtain ⟨rfl, hi, M1, S1, acc, xs, e1, rs1, hD, td, hl, fi1⟩ := h
      have x1 : Ex0 M' (M1.hide D) H' H1 := ⟨e1.ad, fun a o n h => by
        have q := (e1.live n h).1
        refine ⟨fun z => ?_, (e1.live n h).2⟩
        rcases z with z | z | z
        · exact q (.inl z)
        · exact q (.inr z)
        · rw [z, nD] at h
          cases h⟩
      by_cases hlt : i < ws.length
      · refine .inr ?_
        rw [List.drop_eq_getElem_cons hlt, compL] at fi1
        by_cases hg1 : g S1
        · rw [if_pos hg1] at fi1
          obtain ⟨iok, _⟩ := it (M1.hide D) S1 H1 x1 rs1 hg1
          obtain ⟨go, yl⟩ := iok i _ (List.getElem?_eq_getElem hlt)
          refine ⟨go, _, fun H' w => ⟨_, Nat.sub_succ_lt_self _ _ hlt, w⟩, fun x H2 y => ?_⟩
          obtain ⟨keep, rw2⟩ := yl x H2 y
          obtain ⟨rs2, e2⟩ := rs1.same keep
          have ro2 : RO K (M1.hide D) H2 (L2.wipe σ vs) (wipeE ρ vs) := (ro'.ex0 x1).ext e2
          cases hb : bindP p ws[i] (wipeE ρ vs) with
          | none => rw [hb] at fi1; exact (show False from fi1).elim
          | some ρ2 =>
            rw [hb] at fi1
            dsimp only at fi1
            refine bindP_ok rw2 ro2 hb fun σ2 ro3 hw => ⟨by rw [hw vs hv]; exact wipe_wipe σ vs, ?_⟩
            refine ⟨M1.hide D, ρ2, S1, rs2, ro3, ?_⟩
            -- back to the measure
            have back : ∀ {H5 : Hp} {M5 : Mp} {S5 : Store} {acc5 : List W} {xs5 : List V}, Ext M' M5 H' H5 → RS K (M5.hide D) S5 H5 → H5 D = some (.lst xs5) → RWs K (M5.hide D) H5 xs5 acc5 → acc5.length ≤ i + 1 → Fin acc5 (compL p g t fe (wipeE ρ vs) (ws.drop (i + 1)) S5) →
                ws.length - (i + 1) = ws.length - (i + 1) ∧ i + 1 ≤ ws.length ∧ ∃ M1 S1 acc xs, Ext M' M1 H' H5 ∧ RS K (M1.hide D) S1 H5 ∧ H5 D = some (.lst xs) ∧ RWs K (M1.hide D) H5 xs acc ∧ acc.length ≤ i + 1 ∧ Fin acc (compL p g t fe (wipeE ρ vs) (ws.drop (i + 1)) S1) :=
              fun {H5 M5 S5 acc5 xs5} a1 a2 a3 a4 a5 a6 => ⟨rfl, hlt, M5, S5, acc5, xs5, a1, a2, a3, a4, a5, a6⟩
            cases ht : t ρ2 S1 with
            | no => rw [ht] at fi1; exact (show False from fi1).elim
            | ex _ _ => rw [ht] at fi1; exact (show False from fi1).elim
            | ok c S3 =>
              rw [ht] at fi1
              intro M3 c' H3 e3 rs3 r3
              have r3' : c' = c := r3
              subst r3'
              have h3 : M3 = Mp.hide ⟨M1.hid, M3.ad⟩ D := by
                have := e3.hid
                cases M3
                cases this
                rfl
              have keepD : ∀ {Ha : Hp} {Ma : Mp}, Ext (M1.hide D) Ma H1 Ha → Ha D = some (.lst xs) := fun {Ha Ma} ea => (ea.st D _ hD fun z => rs1.dj D z (.inr rfl)).1
              have toB : ∀ {Ha : Hp} {Ma : Mp}, Ext (M1.hide D) Ma H1 Ha → Ext M' ⟨M1.hid, Ma.ad⟩ H' Ha := fun {Ha Ma} ea => by
                obtain ⟨m1, q1⟩ := e1.ad
                obtain ⟨m2, q2⟩ := ea.ad
                have q2' : Ma.ad = M1.ad ++ m2 := q2
                refine ⟨e1.hid, ⟨m1 ++ m2, by show Ma.ad = _; rw [q2', q1, List.append_assoc]⟩, fun a o h n => ?_⟩
                obtain ⟨h1, n1⟩ := e1.st a o h n
                exact ea.st a o h1 n1
              cases c' with
              | false =>
                rw [if_neg Bool.false_ne_true]
                have e13 := e2.trans e3
                rw [h3] at rs3
                exact back (toB e13) rs3 (keepD e13) (by
                  have := td.ext e13
                  rw [h3] at this
                  exact this) (by omega) fi1
              | true =>
                rw [if_pos rfl]
                dsimp only at fi1
                refine ⟨M3, ρ2, S3, rs3, ro3.ext e3, ?_⟩
                cases hfe : fe ρ2 S3 with
                | no => rw [hfe] at fi1; exact (show False from fi1).elim
                | ex _ _ => rw [hfe] at fi1; exact (show False from fi1).elim
                | ok w S4 =>
                  rw [hfe] at fi1
                  dsimp only at fi1
                  intro M4 v H4 e4 rs4 r4
                  have e14 := (e2.trans e3).trans e4
                  have h4 : M4 = Mp.hide ⟨M1.hid, M4.ad⟩ D := by
                    have := e4.hid.trans e3.hid
                    cases M4
                    cases this
                    rfl
                  have rd : RW K M4 H4 v w := r4
                  have hl2 := td.length
                  refine ⟨xs, keepD e14, Nat.lt_of_lt_of_le (show xs.length < 100000 by omega) (by decide), ?_⟩
                  rw [h4] at rs4 rd
                  have td4 := td.ext e14
                  rw [h4] at td4
                  refine back (M5 := ⟨M1.hid, M4.ad⟩) (S5 := S4) (acc5 := acc ++ [w]) ?_ rs4.hid_put upd_same ((td4.append (.cons rd .nil)).ex0 hid_put) (by rw [List.length_append]; exact Nat.add_le_add_right hl 1) ?_
                  · have z := toB e14
                    exact ⟨z.hid, z.ad, fun a o h n => by
                      rw [upd_ne (ne_of_none h nD)]
                      exact z.st a o h n⟩
                  · cases hcc : compL p g t fe (wipeE ρ vs) (ws.drop (i + 1)) S4 with
                    | no => rw [hcc] at fi1; exact (show False from fi1).elim
                    | ex _ _ => rw [hcc] at fi1; exact (show False from fi1).elim
                    | ok ds S5 =>
                      rw [hcc] at fi1
                      intro Ma Ha xa ea ra da ta
                      refine fi1 Ma Ha xa ea ra da ?_
                      rw [List.append_assoc] at ta
                      exact ta
        · rw [if_neg hg1] at fi1
          exact (show False from fi1).elim
      · have e0 : i = ws.length := by omega
        subst e0
        rw [List.drop_length, compL] at fi1
        by_cases hg1 : g S1
        · rw [if_pos hg1] at fi1
          exact .inl ⟨(it (M1.hide D) S1 H1 x1 rs1 hg1).2, fi1 M1 H1 xs e1 rs1 hD (by rw [List.append_nil]; exact td)⟩
        · rw [if_neg hg1] at fi1
          exact (show False from fi1).elim
    · rw [if_neg hz] at q0
      exact (show False from q0).elim
theorem f_lc (b : Bool) {elt tg iter : Expr} {ifs : List Expr} {scope : Scope} {own : List (Str × Nat)} {fi : Env → Store → Rs Itm} {p : Pt} {t : Env → Store → Rs Bool} {fe : Env → Store → Rs W} (hc : X.calm = true) (hN : X.N.Nodup) (hi : FI X E tg iter fi) (ok : BlkOk X.N X.env.scope scope own)
    (hg : ∀ (s : Shared) (H : Hp) (C : Addr) (cl : List (Str × Addr)) (fp : List Addr), PG (X.blk s H scope (compEnvC scope cl C X.env) fp) tg (gP X.K p))
    (ht : ∀ (s : Shared) (H : Hp) (C : Addr) (cl : List (Str × Addr)) (fp : List Addr), FTs (X.blk s H scope (compEnvC scope cl C X.env) fp) EN ifs t)
    (he : ∀ (s : Shared) (H : Hp) (C : Addr) (cl : List (Str × Addr)) (fp : List Addr), FE (X.blk s H scope (compEnvC scope cl C X.env) fp) EN elt fe)
    (hv : ∀ i ∈ p.nms, i ∈ own.map (·.2) := by decide) (hs : ∀ x, foldedSetIterable iter X.env x = pure x := by intro _; rfl) :
    FE X E (.ListComp elt [⟨tg, iter, ifs, 0⟩] scope pos) (fLc b fi p t fe (own.map (·.2))) :=
  PE.imp (pe_lc hc hN hi ok hg ht he hs) (lc_imp hv)
theorem fs_setLc (b : Bool) {i : Nat} {y : Str} {py spos : Pos} {elt tg iter : Expr} {ifs : List Expr} {scope : Scope} {own : List (Str × Nat)} {fi : Env → Store → Rs Itm} {p : Pt} {t : Env → Store → Rs Bool} {fe : Env → Store → Rs W} (hc : X.calm = true) (hN : X.N.Nodup) (hy : X.N[i]? = some y) (hyl : X.env.scope.names.lookup y = some .local)
    (hsw : swapsWith (.ListComp elt [⟨tg, iter, ifs, 0⟩] scope pos) (some (.Name y py)) spos.line X.env = pure true) (hi : FI X E tg iter fi) (ok : BlkOk X.N X.env.scope scope own)
    (hg : ∀ (s : Shared) (H : Hp) (C : Addr) (cl : List (Str × Addr)) (fp : List Addr), PG (X.blk s H scope (compEnvC scope cl C X.env) fp) tg (gP X.K p))
    (ht : ∀ (s : Shared) (H : Hp) (C : Addr) (cl : List (Str × Addr)) (fp : List Addr), FTs (X.blk s H scope (compEnvC scope cl C X.env) fp) EN ifs t)
    (he : ∀ (s : Shared) (H : Hp) (C : Addr) (cl : List (Str × Addr)) (fp : List Addr), FE (X.blk s H scope (compEnvC scope cl C X.env) fp) EN elt fe)
    (hv : ∀ i ∈ p.nms, i ∈ own.map (·.2) := by decide) (hs : ∀ x, foldedSetIterable iter X.env x = pure x := by intro _; rfl) :
    FS X E (.Assign [.Name y py] (.ListComp elt [⟨tg, iter, ifs, 0⟩] scope pos) spos) (sSet i (fLc b fi p t fe (own.map (·.2)))) := by
  refine PS.imp (ps_setLc (tt := tG X.K X.mg EN RB t) (te := tG X.K X.mg EN (RWK X.K) fe) hc hN hy hyl hsw hi ok hg ht he hs) fun D σ H h => ?_
  have h1 : tG X.K X.mg E (RWK X.K) (fLc b fi p t fe (own.map (·.2))) σ H (fun x H1 => gName i x σ H1 D.nx) := tS.st (R := RWK X.K) (k := fun ρ w S1 => .nx (ρ.set i (some w)) S1) h fun b H1 M1 ρ a S1 rs ro r p => p M1 _ H1 (Ext.refl _ _) rs (RO.set r i ro)
  exact lc_imp hv σ H _ h1
end
end As

/-! a def's promise where no repr is under way (A.guards = some []), so that the def may call repr of what it likes; the law's own call -/
namespace As
open PySem PySem.Spec PyProof.Rows L2
structure FnG (P : Program) (w : World) (K : PySem.W.Frag) (mg : Str → Option Value) (base : Heap) (CX : CXT) (k : Nat) (f : Addr) (fd : FuncData) (ps : List Str) (sp : Sp) : Prop where
  ln : ∀ vs H Q E, sp vs H Q E → vs.length = ps.length
  run : ∀ (A : Around) (out : List PySem.Env) (s : Shared) (H : Hp) (args : Args) (us : List Value) (vs : List V) (Q : VK) (E : XK), A.guards = some [] → Room k A → Env0 P w K mg base A out s H → BindsTo s fd args (ps.zip us) → Vals vs us → sp vs H Q E →
    codeAny (model P w) A (.call (.ref f) args) (CR CX out P w H s Q E) s
section
variable {P : Program} {w : World} {K : PySem.W.Frag} {mg : Str → Option Value} {base : Heap} {CX : CXT} {k : Nat}
theorem FnG.imp {f : Addr} {fd : FuncData} {ps : List Str} {sp sp' : Sp} (F : FnG P w K mg base CX k f fd ps sp) (i : ∀ vs H Q E, sp' vs H Q E → sp vs H Q E) : FnG P w K mg base CX k f fd ps sp' :=
  ⟨fun vs H Q E q => F.ln vs H Q E (i _ _ _ _ q), fun A out s H args us vs Q E gd hr he hb hv hs => F.run A out s H args us vs Q E gd hr he hb hv (i _ _ _ _ hs)⟩
theorem fnG_of {f : Addr} {nm qual : Str} {pars : Arguments} {bod : List Stmt} {scp : Scope} {dV kV dok pm cdv ct oc : Value} {an od : Option Addr}
    {osl : Array (Option Value)} {N ps : List Str} {sp : Sp} (lk : K.lookup f = some ⟨oc, od, .func (PySem.W.fnOf nm qual pars bod scp dV kV dok pm an cdv ct), osl⟩) (hcd : PySem.W.codeIn K cdv qual = true) (S : FnScope N ps scp) (len : ∀ vs H Q E, sp vs H Q E → vs.length = ps.length)
    (hbod : ∀ (A : Around) (out : List PySem.Env) (s : Shared) (H : Hp) (vs : List V) (Q : VK) (E : XK), A.guards = some [] → Room k (A.deeper (envOfC qual scp s.heap.objs.size f cdv)) → sp vs H Q E →
      ∃ t, PSs (cxOf CX P w K mg base N qual scp f cdv A out s H E) bod t ∧ t { nx := fun _ H' => Q .non H', rt := Q } (start N vs) H) :
    FnG P w K mg base CX (k + 1) f (PySem.W.fnOf nm qual pars bod scp dV kV dok pm an cdv ct) ps sp := by
  refine ⟨len, fun A out s H args us vs Q E gd hr en hbd rv hsp => ?_⟩
  have hlen := len _ _ _ _ hsp
  have KH : K.In s.heap := en.mod.kin.keeps fun b ob e => (en.bs b ob e).1
  have nlm : s.heap.NoLimit := en.mod.nolimit.keeps fun b ob e => (en.bs b ob e).1
  have knd : ∀ y ∈ ps.zip us, scp.names.lookup y.1 = some .local ∨ (scp.names.lookup y.1 = some .cell ∧ ((cellsFrom (s.heap.objs.size + 1) scp.names []).lookup y.1).isSome = true) := fun ⟨m, u⟩ hy => by
    rcases S.par m (List.of_mem_zip hy).1 with z | z
    · exact .inl z
    · exact .inr ⟨z, PySem.W.cellsFrom_some _ _ _ (.inl z)⟩
  refine codeAny_call_function hr.depth (KH _ _ lk) rfl S.co S.gen rfl (PySem.W.codeRec_of KH hcd) (hbd _ _ _ _ ?_)
  refine wpAny_newFunctionEnv_cells S.kind knd fun ev he s2 x => ?_
  subst he
  refine ⟨nlm.keeps x.toInCall.keep, codeAny_func ?_⟩
  obtain ⟨t, ht, hq⟩ := hbod A out s H vs Q E gd (hr.deeper _) hsp
  have J0 : Inv (cxOf CX P w K mg base N qual scp f cdv A out s H E) [] (start N vs) H s2 := inv_start S hr.hd en hlen rv x
  refine wpAny_mono (ht.run [] s2 (start N vs) H _ J0 hq) (fun fl s' hs => ?_) fun e s' hs => hs
  have done : ∀ {τ : L2.St} {H' : Hp} {v : V} {u : Value}, Inv (cxOf CX P w K mg base N qual scp f cdv A out s H E) [] τ H' s' → RelV v u → Q v H' → CE out P w H s Q u s' :=
    fun {τ H' v u} J r q => ⟨v, H', J.os, J.bare, J.base, J.hok, r, q⟩
  cases fl with
  | ret u =>
    obtain ⟨v, τ, H', J, r, q⟩ := hs
    exact done J r q
  | next =>
    obtain ⟨τ, H', J, q⟩ := hs
    exact done (v := V.non) (u := Value.none) J rfl q
  | brk =>
    obtain ⟨_, _, _, z⟩ := hs
    exact z.elim
  | cont =>
    obtain ⟨_, _, _, z⟩ := hs
    exact z.elim
end
section
variable {X : Cx} {CX : CXT} {k : Nat} {f C : Addr} {fd : FuncData} {ps : List Str} {sp : Sp} {E : L2.St → XK} {x m : Str} {p pos apos : Pos} {e o : Expr} {es : List Expr} {ta : TE} {t : TA}
theorem run_fnG {pins : List (Addr × Obj)} {σ : L2.St} {H : Hp} {s : Shared} {Q : VK} {us : List Value} {vs : List V} (F : FnG X.prog X.w X.K X.mg X.base CX k f fd ps sp) (gd : X.A.guards = some []) (hr : Room k X.A) (hb : Binds X.K fd ps []) (hx : PassesAt CX X σ (E σ))
    (I : Inv X pins σ H s) (rv : Vals vs us) (h : sp vs H Q (E σ)) : wpAny (model X.prog X.w) X.A (call (.ref f) us) (EP X pins σ Q) X.xe s := by
  have hlen : us.length = ps.length := by rw [← rv.length]; exact F.ln _ _ _ _ h
  have bt := hb s us I.kIn (by rw [List.append_nil]; exact hlen)
  rw [List.append_nil] at bt
  refine wpAny_call (codeAny_mono (F.run X.A X.stack s H ⟨us, []⟩ us vs Q (E σ) gd hr I.env0 bt rv h) fun res s' hq => ?_)
  cases res with
  | error er => exact hx pins H s er s' I hq
  | ok fl =>
    cases fl with
    | ret u => exact I.after hq
    | _ => exact (show False from hq).elim
theorem pe_callG (F : FnG X.prog X.w X.K X.mg X.base CX k f fd ps sp) (gd : X.A.guards = some []) (hr : Room k X.A) (hg : Gl X x) (hm : X.mg x = some (.ref f)) (hk : PySem.W.keepIn X.K (.ref f) = true) (hb : Binds X.K fd ps []) (hx : ∀ σ, PassesAt CX X σ (E σ)) (ha : PA X (e :: es) t) (hdb : (x == ("__debug__" : Str)) = false := by decide) (he : starEach (e :: es) X.env = (false, eval e X.env) :: starEach es X.env := by rfl) (hpl : (backTo pos (starEach es X.env)).any (·.1) = false := by rfl) :
    PE X (.Call (.Name x p) (e :: es) [] pos) (tCallS sp E t) :=
  ⟨fun pins s σ H Q I h => wpAny_Call_Name_kw (ld_glob I hg hm (PySem.W.callWith_K (h₀ := X.base) I.ok.mod.kin hk
    (thn (ha.run pos pins s σ H _ I h) fun us s1 ⟨vs, H1, I1, r, q⟩ => ⟨I1.kIn, run_fnG F gd hr hb (hx σ) I1 r q⟩) he hpl) hdb)⟩
end
/-! ### the law's own call -/
theorem ints_vals : ∀ {vs : List Value} {ns : List Int}, IntsAre vs ns → Vals (ns.map V.int) vs
  | _, _, .nil => .nil
  | _, _, .cons _ t h => .cons ⟨t, rfl⟩ (ints_vals h)
theorem law_callG {P : Program} {w : World} {K : PySem.W.Frag} {mg mb : Str → Option Value} {CX : CXT} {k : Nat} {fa a : Addr} {fd : FuncData} {x : Str} {sp : Sp} {s1 : Shared} {vs : List Value} {ns : List Int}
    (KX : K.In s1.heap) (hns : s1.heap.Ns mainGlobals mg) (hb : s1.heap.Ns builtinsNs mb) (hbb : ∀ x : Str, x ≠ "__name__" → mb x = bootBuiltins x) (hlim : s1.heap.NoLimit) (hg : s1.gens = #[])
    (ha : s1.heap.get? a = some { cls := .type "list", data := .seq vs.toArray }) (hi : IntsAre vs ns) (hl : ns.length ≤ sizeLine) (hr : Room k callerA)
    (F : ∀ base : Heap, K.In base → base.Ns mainGlobals mg → FnG P w K mg base CX k fa fd [x] sp) (hbind : ∀ (s : Shared) (u : Value), BindsTo s fd ⟨[u], []⟩ [(x, u)]) (hsp : ∀ H : Hp, Only H → SqL K H a (ns.map V.int) → sp [.ref a] H (fun v _ => v = .bl true) fun _ _ _ => False)
    (hCX : ∀ H e s', CX [] H s1 (fun _ _ _ => False) e s' → False) :
    codeAny (model P w) callerA (.call (.ref fa) ⟨[.ref a], []⟩) (fun r s' => r = .ok (.ret (.bool true)) ∧ OldK s1.heap s'.heap ∧ s'.os = s1.os ∧ AllBare s'.gens) s1 := by
  have rvs := ints_vals hi
  have lnv := hi.length
  have main : ∀ H : Hp, Only H → SqL K H a (ns.map V.int) → HOk P w H s1.heap → (∀ b, H b ≠ none → b = a) → (H a ≠ none → K.lookup a = none) →
      codeAny (model P w) callerA (.call (.ref fa) ⟨[.ref a], []⟩) (fun r s' => r = .ok (.ret (.bool true)) ∧ OldK s1.heap s'.heap ∧ s'.os = s1.os ∧ AllBare s'.gens) s1 := by
    intro H only seq hok atA noK
    have isA : ∀ {b : Addr} {u : HO}, H b = some u → b = a := fun {b u} q => atA b (by rw [q]; exact fun z => by cases z)
    have keepD : ∀ {b : Addr} {ob : Obj} {es : Array DictEntry} {ep : Nat}, s1.heap.get? b = some ob → ob.data = .dict es ep → H b = none := fun {b ob es ep} e dd => by
      cases q : H b with
      | none => rfl
      | some u =>
        have eb := isA q
        subst eb
        rw [ha] at e
        cases e
        exact absurd dd (fun z => by cases (show Data.seq vs.toArray _ = Data.dict es ep from z))
    have nsH : ∀ {b : Addr} {m : Str → Option Value}, s1.heap.Ns b m → (hidT s1.heap H).Ns b m := fun {b m} ⟨ob, es, ep, e, dd, r⟩ => ⟨ob, es, ep, hidT_get e (keepD e dd), dd, r⟩
    have KH : K.In (hidT s1.heap H) := fun b ob e => hidT_get (KX b ob e) (by
      cases q : H b with
      | none => rfl
      | some u =>
        have eb := isA q
        subst eb
        rw [noK (by rw [q]; exact fun z => by cases z)] at e
        cases e)
    have md : Mod K mg (hidT s1.heap H) := ⟨KH, nsH hns, ⟨mb, nsH hb, hbb⟩, let ⟨mc, z1, z2⟩ := hlim; ⟨mc, nsH z1, z2⟩⟩
    have en : Env0 P w K mg (hidT s1.heap H) callerA [] s1 H := ⟨rfl, md, fun b ob e => of_hidT e, Nat.le_of_eq (hidT_size _ _), trivial, (fun b z => absurd (show b ∈ ([] : List Addr) from z) List.not_mem_nil), hok, .of_eq hg⟩
    refine codeAny_mono ((F _ KH (nsH hns)).run callerA [] s1 H ⟨[.ref a], []⟩ [.ref a] [.ref a] _ _ rfl hr en (hbind s1 (.ref a)) (.cons rfl .nil) (hsp H only seq)) fun res s' h => ?_
    cases res with
    | error er => exact (hCX H er s' h).elim
    | ok fl =>
      cases fl with
      | ret u =>
        obtain ⟨v, H', hos, bare, un, hok2, rr, q⟩ := h
        have qv : v = .bl true := q
        subst qv
        obtain rfl : u = Value.bool true := rr
        refine ⟨rfl, OldK.of_keep fun b ob e => ?_, hos, bare⟩
        cases q : H b with
        | none => exact un.keep b ob e q (fun z => absurd (show b ∈ ([] : List Addr) from z) List.not_mem_nil) List.not_mem_nil
        | some u =>
          rcases only b with z | ⟨ob2, xs, z⟩
          · rw [q] at z
            cases z
          · obtain ⟨g1, _⟩ := hok b _ z
            obtain ⟨g2, _⟩ := hok2 b _ (un.frzs b ob2 _ z)
            rw [e] at g1
            cases g1
            exact g2
      | _ => exact (show False from h).elim
  cases hk : K.lookup a with
  | some ob =>
    have e := KX a ob hk
    rw [ha] at e
    cases e
    exact main (fun _ => none) (fun _ => .inl rfl) (.inr ⟨_, vs.toArray, _, hk, rfl, rfl, rfl, by rw [List.size_toArray, lnv]; exact hl, by simpa using rvs⟩) (fun b u z => by cases (show (none : Option HO) = some u from z)) (fun b z => absurd rfl z) fun z => absurd rfl z
  | none =>
    refine main (upd (fun _ => none) a (.frz { cls := .type "list", data := .seq vs.toArray } (.lst (ns.map V.int)))) (fun b => ?_) (.inl (.inr ⟨_, upd_same⟩)) (fun b u z => ?_) (fun b z => ?_) fun _ => hk
    · by_cases eb : b = a
      · subst eb
        exact .inr ⟨_, _, upd_same⟩
      · exact .inl (upd_ne eb)
    · by_cases eb : b = a
      · subst eb
        rw [upd_same] at z
        cases z
        exact ⟨ha, by rw [List.length_map]; exact hl, vs, _, rvs, ha⟩
      · rw [upd_ne eb] at z
        cases z
    · by_cases eb : b = a
      · exact eb
      · exact absurd (upd_ne eb) z
theorem walk_ofG {l : PySem.W.OpenLaw} {n k : Nat} {q : Program} {lo : List Str} {XP : (Str → Option Value) → Heap → Prop} {YP : World → Heap → Prop} {d : DefRec} {K : Params → PySem.W.Frag} {CX : World → CXT} {sp : World → Sp} {x : Str} (hn : l.most = some n) (hn2 : n ≤ sizeLine) (hdf : d.params.defaults = []) (hr : Room k callerA) (hY : ∀ (w : World) (h : Heap), YP w h → (K w.params).In h) (F : ∀ (w : World) (mg : Str → Option Value) (fa : Addr) (h : Heap), (K w.params).In h → h.Ns mainGlobals mg → mg d.name = some (.ref fa) → ∃ fd : FuncData, (∀ (s : Shared) (u : Value), BindsTo s fd ⟨[u], []⟩ [(x, u)]) ∧
        ∀ base : Heap, (K w.params).In base → base.Ns mainGlobals mg → FnG l.prog w (K w.params) mg base (CX w) k fa fd [x] (sp w)) (hsp : ∀ (w : World) (H : Hp) (a : Addr) (ns : List Int), ns.length ≤ n → Only H → SqL (K w.params) H a (ns.map V.int) → sp w [.ref a] H (fun v _ => v = .bl true) fun _ _ _ => False) (hCX : ∀ (w : World) (H : Hp) (s : Shared) (e : Value) (s' : Shared), CX w [] H s (fun _ _ _ => False) e s' → False) :
    PySem.W.WalkO q lo XP YP l.row.toRowW d [] (fun f vs => PySem.call f vs) := by
  refine Att.attach_call hn hdf fun w s0 s1 mg mb fa o pm cd dok a vs ns G Y ho hd hcd hmg hobj hints hlen hg => ?_
  have KH := hY w _ Y
  obtain ⟨fd, hbd, hF⟩ := F w mg fa _ KH G.T.g hmg
  exact law_callG KH G.T.g G.T.b G.T.builtins G.T.nolimit hg hobj hints (Nat.le_trans hlen hn2) hr hF hbd (fun H hO hS => hsp w H a ns hlen hO hS) fun H er s' => hCX w H s1 er s'
end As

namespace As
open PySem PySem.Spec PyProof.Rows L2
abbrev Fn := List W → Store → Rs W
/-- all of a list by f -/
def rdAll (f : W → Option D) : List W → Option (List D)
  | [] => some []
  | w :: ws => match f w, rdAll f ws with
    | some d, some ds => some (d :: ds)
    | _, _ => none
theorem rdAll_rd {K : PySem.W.Frag} {M : Mp} {H : Hp} {n : Nat} {f : W → Option D} (i : ∀ v w d, RW K M H v w → f w = some d → RD K (M.cut n) H v d) : ∀ {vs : List V} {ws : List W} {ds : List D}, RWs K M H vs ws → rdAll f ws = some ds → RDs K (M.cut n) H vs ds
  | _, _, _, .nil, e => by cases e; exact .nil
  | _, _, ds, .cons (d := w) (ds := ws) r t, e => by
    rw [rdAll] at e
    cases h1 : f w with
    | none => rw [h1] at e; cases e
    | some d =>
      rw [h1] at e
      cases h2 : rdAll f ws with
      | none => rw [h2] at e; cases e
      | some es =>
        rw [h2] at e
        cases e
        exact .cons (i _ _ _ r h1) (rdAll_rd i t h2)
/-- a value frozen: its cells, all from n on, fall away -/
def frN (n : Nat) (S : Store) : Nat → W → Option D
  | _, .d d => some d
  | 0, _ => none
  | m + 1, .c k => if n ≤ k then (match S[k]? with
    | some (.l ds) => some (.lst ds)
    | some (.w ws) => (rdAll (frN n S m) ws).map .lst
    | _ => none) else none
  | m + 1, .t ws => (rdAll (frN n S m) ws).map .tup
  | _, _ => none
theorem cut_dead {K : PySem.W.Frag} {M : Mp} {H : Hp} {S : Store} {n k : Nat} {a : Addr} (r : RS K M S H) (ha : M.ad[k]? = some a) (hk : n ≤ k) : ¬ (M.cut n).live a := by
  rintro (z | z)
  · obtain ⟨j, hj, e⟩ := List.getElem_of_mem z
    have hj' : j < n := by
      have : j < (M.ad.take n).length := hj
      rw [List.length_take] at this
      omega
    have e' : (M.ad.take n)[j]? = some a := List.getElem?_eq_some_iff.mpr ⟨hj, e⟩
    rw [List.getElem?_take_of_lt hj'] at e'
    obtain ⟨l1, e1⟩ := List.getElem?_eq_some_iff.mp e'
    obtain ⟨l2, e2⟩ := List.getElem?_eq_some_iff.mp ha
    have := (List.getElem_inj r.nd).mp (e1.trans e2.symm)
    omega
  · exact r.dj a (List.mem_of_getElem? ha) z
theorem frN_rd {K : PySem.W.Frag} {M : Mp} {H : Hp} {S : Store} {n : Nat} (rs : RS K M S H) : ∀ {m : Nat} {v : V} {w : W} {d : D}, RW K M H v w → frN n S m w = some d → RD K (M.cut n) H v d
  | 0, _, _, d, .d rd, h => by
    have h' := Option.some.inj h
    subst h'
    exact rd.cut n
  | m + 1, _, _, d, .d rd, h => by
    have h' := Option.some.inj h
    subst h'
    exact rd.cut n
  | 0, _, _, d, .c _, h => by cases h
  | 0, _, _, d, .t _ _ _, h => by cases h
  | m + 1, _, _, d, .c (k := k) (a := a) ha, h => by
    rw [frN] at h
    by_cases hk : n ≤ k
    · rw [if_pos hk] at h
      have nl := cut_dead rs ha hk
      cases hs : S[k]? with
      | none => rw [hs] at h; cases h
      | some c =>
        rw [hs] at h
        cases c with
        | l ds =>
          have h' := Option.some.inj h
          subst h'
          obtain ⟨xs, h1, h2⟩ := rs.ok k a _ ha hs
          exact .lst ⟨nl, h1⟩ (h2.cut n)
        | w ws =>
          obtain ⟨xs, h1, h2⟩ := rs.ok k a _ ha hs
          obtain ⟨ds, hd, e⟩ := Option.map_eq_some_iff.mp h
          subst e
          exact .lst ⟨nl, h1⟩ (rdAll_rd (fun v w d r e => frN_rd rs r e) h2 hd)
        | _ => cases h
    · rw [if_neg hk] at h
      cases h
  | m + 1, _, _, d, .t nl ha t, h => by
    rw [frN] at h
    obtain ⟨ds, hd, e⟩ := Option.map_eq_some_iff.mp h
    subst e
    exact .tup ⟨Mp.cut_live nl, ha⟩ (rdAll_rd (fun v w d r e => frN_rd rs r e) t hd)
  | 0, _, _, d, .g _, h => by cases h
  | 0, _, _, d, .j _, h => by cases h
  | 0, _, _, d, .s _, h => by cases h
  | _ + 1, _, _, d, .g _, h => by cases h
  | _ + 1, _, _, d, .j _, h => by cases h
  | _ + 1, _, _, d, .s _, h => by cases h
def cutW (n : Nat) (S : Store) : W → Option W
  | .d d => some (.d d)
  | .c k => if k < n then some (.c k) else (frN n S 6 (.c k)).map .d
  | .t ws => if lowAll n ws = true then some (.t ws) else (frN n S 6 (.t ws)).map .d
  | .g v => some (.g v)
  | .j => some .j
  | .s ns => some (.s ns)
def cutR (b : Bool) (n : Nat) (w : W) (S : Store) : Rs W := if b then (match cutW n S w with
    | some w' => if lowS n (S.take n) = true then .ok w' (S.take n) else .no
    | none => .no) else .ok w S
def fin (b : Bool) (n : Nat) : Ou → Rs W
  | .rt w S => cutR b n w S
  | .nx _ S => cutR b n (.d .non) S
  | .ex e _ S => if b then (if lowS n (S.take n) = true then .ex e (S.take n) else .no) else .ex e S
  | _ => .no
def fnF (b : Bool) (n m : Nat) (f : Sm) : Fn := fun ws S => if ws.length = n then fin b S.length (f (ws.map some ++ List.replicate (m - ws.length) none) S) else .no
def spF (K : PySem.W.Frag) (mg : Str → Option Value) (F : Fn) : Sp := fun vs H Q E => ∃ M S ws, RS K M S H ∧ RWs K M H vs ws ∧ Post K mg M H E (RWK K) Q (F ws S)
section
variable {K : PySem.W.Frag} {mg : Str → Option Value} {M : Mp} {H : Hp} {E : XK}
theorem RX.cutE {M' : Mp} {H' : Hp} (e : Ext M M' H H') : Ext M (M'.cut M.ad.length) H H' := e.cut
theorem cutR_ok {b : Bool} {S0 S' : Store} {w : W} {v : V} {M' : Mp} {H' : Hp} {Q : VK} (rs0 : RS K M S0 H) (p : Post K mg M H E (RWK K) Q (cutR b S0.length w S')) (e : Ext M M' H H') (rs : RS K M' S' H') (r : RW K M' H' v w) : Q v H' := by
  unfold cutR at p
  cases b with
  | false => exact p M' v H' e rs r
  | true =>
    rw [if_pos rfl] at p
    cases hc : cutW S0.length S' w with
    | none => rw [hc] at p; exact (show False from p).elim
    | some w' =>
      rw [hc] at p
      by_cases hl : lowS S0.length (S'.take S0.length) = true
      · dsimp only at p
        rw [if_pos hl] at p
        rw [← rs0.len] at p hl hc
        refine p (M'.cut M.ad.length) v H' e.cut (rs.cut _ hl) ?_
        cases r with
        | d rd =>
          have hc' := Option.some.inj hc
          subst hc'
          exact .d (rd.cut _)
        | @c k a ha =>
          have hc' : (if k < M.ad.length then some (W.c k) else (frN M.ad.length S' 6 (.c k)).map .d) = some w' := hc
          by_cases hk : k < M.ad.length
          · rw [if_pos hk] at hc'
            have hc2 := Option.some.inj hc'
            subst hc2
            exact RW.cut _ (.c ha) (decide_eq_true hk)
          · rw [if_neg hk] at hc'
            obtain ⟨d, hd, e⟩ := Option.map_eq_some_iff.mp hc'
            subst e
            exact .d (frN_rd rs (.c ha) hd)
        | @t a xs ws n ha t =>
          have hc' : (if lowAll M.ad.length ws = true then some (W.t ws) else (frN M.ad.length S' 6 (.t ws)).map .d) = some w' := hc
          by_cases hk : lowAll M.ad.length ws = true
          · rw [if_pos hk] at hc'
            have hc2 := Option.some.inj hc'
            subst hc2
            exact RW.cut _ (.t n ha t) hk
          · rw [if_neg hk] at hc'
            obtain ⟨d, hd, e⟩ := Option.map_eq_some_iff.mp hc'
            subst e
            exact .d (frN_rd rs (.t n ha t) hd)
        | g v =>
          have hc' := Option.some.inj hc
          subst hc'
          exact .g _
        | j v =>
          have hc' := Option.some.inj hc
          subst hc'
          exact .j _
        | s h =>
          have hc' := Option.some.inj hc
          subst hc'
          exact RW.cut _ (.s h) rfl
      · dsimp only at p
        rw [if_neg hl] at p
        exact (show False from p).elim
theorem fin_ok {b : Bool} {S0 : Store} {Q : VK} (rs0 : RS K M S0 H) {o : Ou} (p : Post K mg M H E (RWK K) Q (fin b S0.length o)) : PostS K mg M H (fun _ => E) { nx := fun _ H' => Q .non H', rt := Q } o := by
  cases o with
  | rt w S' => exact fun M' v H' e rs r => cutR_ok rs0 p e rs r
  | nx ρ S' => exact fun M' σ' H' e rs ro => cutR_ok rs0 p e rs (.d .non)
  | ex x ρ S' =>
    intro M' σ' cls d H' e rs ro rx
    cases b with
    | false => exact p M' cls d H' e rs rx
    | true =>
      have p1 : Post K mg M H E (RWK K) Q (if lowS S0.length (S'.take S0.length) = true then .ex x (S'.take S0.length) else .no) := p
      by_cases hl : lowS S0.length (S'.take S0.length) = true
      · rw [if_pos hl] at p1
        rw [← rs0.len] at p1 hl
        exact p1 (M'.cut M.ad.length) cls d H' e.cut (rs.cut _ hl) (rx.cut _)
      · rw [if_neg hl] at p1
        exact (show False from p1).elim
  | bk _ _ => exact (show False from p).elim
  | ct _ _ => exact (show False from p).elim
  | no => exact (show False from p).elim
theorem RWs.start : ∀ {vs : List V} {ws : List W} (m : Nat), RWs K M H vs ws → RO K M H (vs.map some ++ List.replicate m none) (ws.map some ++ List.replicate m none)
  | _, _, 0, .nil => .nil
  | _, _, m + 1, .nil => .no (RWs.start m .nil)
  | _, _, m, .cons h t => .so h (RWs.start m t)
end
section
variable {P : Program} {w : World} {K : PySem.W.Frag} {mg : Str → Option Value} {base : Heap}
/-- THE RULE for a def -/
theorem fn_ok {x qual : Str} {st : Stmt} {f : Addr} {fd : FuncData} {N ps : List Str} {k : Nat} {b : Bool} {g : Sm} (F : Fun K x qual st f fd) (S : FnScope N ps (defScope st))
    (hb : ∀ (cdv : Value) (A : Around) (outer : List PySem.Env) (s : Shared) (H : Hp) (E : XK), A.guards = some [] → Room k (A.deeper (envOfC qual (defScope st) s.heap.objs.size f cdv)) →
      Takes (cxOf (L2.CX P w) P w K mg base N qual (defScope st) f cdv A outer s H E) (fun cls d _ H => E cls d H) → PassesOwn (model P w) (cxOf (L2.CX P w) P w K mg base N qual (defScope st) f cdv A outer s H E).A (cxOf (L2.CX P w) P w K mg base N qual (defScope st) f cdv A outer s H E).env (cxOf (L2.CX P w) P w K mg base N qual (defScope st) f cdv A outer s H E).xe →
      FSs (cxOf (L2.CX P w) P w K mg base N qual (defScope st) f cdv A outer s H E) (fun _ => E) (defBody st) g) :
    FnG P w K mg base (L2.CX P w) (k + 1) f fd ps (spF K mg (fnF b ps.length N.length g)) := by
  have len : ∀ vs H Q E, spF K mg (fnF b ps.length N.length g) vs H Q E → vs.length = ps.length := fun vs H Q E h => by
    obtain ⟨M, S0, ws, rs, rw, p⟩ := h
    rw [rw.length]
    unfold fnF at p
    by_cases hl : ws.length = ps.length
    · exact hl
    · rw [if_neg hl] at p
      exact (show False from p).elim
  obtain ⟨oc, od, kV, dok, pm, an, cdv, ct, osl, rfl, lk, hcd⟩ := F.ex
  refine fnG_of lk hcd S len fun A outer s H vs Q E gd hr h => ?_
  have hl := len vs H Q E h
  refine ⟨_, hb cdv A outer s H E gd hr (takes_of rfl rfl rfl rfl) (passes_of rfl), ?_⟩
  obtain ⟨M, S0, ws, rs, rw, p⟩ := h
  refine ⟨M, _, S0, rs, RWs.start (N.length - vs.length) rw, ?_⟩
  unfold fnF at p
  have hl2 : ws.length = ps.length := by rw [← rw.length]; exact hl
  rw [if_pos hl2] at p
  rw [rw.length]
  exact fin_ok rs p
/-- a def's promise in other words -/
theorem fn_eq {k : Nat} {f : Addr} {fd : FuncData} {ps : List Str} {F G : Fn} (h : FnG P w K mg base (L2.CX P w) k f fd ps (spF K mg F)) (e : ∀ ws S, G ws S ≠ .no → F ws S = G ws S) : FnG P w K mg base (L2.CX P w) k f fd ps (spF K mg G) := by
  refine h.imp fun vs H Q E q => ?_
  obtain ⟨M, S0, ws, rs, rw, p⟩ := q
  refine ⟨M, S0, ws, rs, rw, ?_⟩
  rw [e ws S0 fun z => by rw [z] at p; exact p]
  exact p
end
section
variable {X : Cx} {E : L2.St → XK} {k : Nat} {f C : Addr} {fd : FuncData} {ps : List Str} {F : Fn} {x : Str} {p pos : Pos} {e : Expr} {es : List Expr} {fs : Env → Store → Rs (List W)}
/-- f(..) -/
theorem f_call (G : FnG X.prog X.w X.K X.mg X.base (L2.CX X.prog X.w) k f fd ps (spF X.K X.mg F)) (gd : X.A.guards = some []) (hr : Room k X.A) (hg : Gl X x) (hm : X.mg x = some (.ref f)) (hk : PySem.W.keepIn X.K (.ref f) = true) (hb : Binds X.K fd ps []) (tk : Takes X (fun cls d σ H => E σ cls d H))
    (ha : FA X E (e :: es) fs) (hdb : (x == ("__debug__" : Str)) = false := by decide) (he : starEach (e :: es) X.env = (false, eval e X.env) :: starEach es X.env := by rfl) (hpl : (backTo pos (starEach es X.env)).any (·.1) = false := by rfl) :
    FE X E (.Call (.Name x p) (e :: es) [] pos) (fApp F fs) := by
  refine PE.imp (pe_callG (E := fun σ => E σ) G gd hr hg hm hk hb (fun σ => passAt tk σ) ha hdb he hpl) fun σ H Q h => ?_
  exact tG.bind (R := RWsK X.K) (R' := RWK X.K) (g := fun _ x S1 => F x S1) h fun b H1 M1 ρ a S1 rs ro r p => ⟨M1, S1, a, rs, r, p⟩
/-- raise C('..') -/
theorem fs_raise {c : Str} {m : Str} {j : Nat} {p2 p3 : Pos} {bmB : List Value} {B newId initId : String} (hc : X.calm = true) (tk : Takes X (fun cls d σ H => E σ cls d H)) (Fb : ExcBaseFacts B newId initId bmB) (q : PySem.W.excIn X.K C bmB newId = true) (gC : X.mg c = some (.ref C)) (kC : PySem.W.keepIn X.K (.ref C) = true)
    (r : Raises X (.ref C)) (hg : Gl X c) (hdb : (c == ("__debug__" : Str)) = false := by decide) : FS X E (.Raise (some (.Call (.Name c p) [.Constant (.str m) j p2] [] p3)) none pos) (fun ρ S => .ex ⟨c, none⟩ ρ S) := by
  refine PS.imp (ps_raise hc tk (L2.pmk_own Fb q gC kC r hg hdb)) fun D σ H h => ?_
  obtain ⟨M, ρ, S, rs, ro, pp⟩ := h
  exact pp M σ (.ref C) none H (Ext.refl _ _) rs ro ⟨C, gC, rfl, rfl⟩
end
end As
namespace As
open PySem PySem.Spec PyProof.Rows L2
/-! ### cells that a block has made fall away at its end -/
def gcE (n : Nat) : Env → Env
  | [] => []
  | none :: ρ => none :: gcE n ρ
  | some w :: ρ => (if w.low n = true then some w else some .j) :: gcE n ρ
theorem RO.gc {K : PySem.W.Frag} {M : Mp} {H : Hp} (n : Nat) : ∀ {vs : List (Option V)} {ws : Env}, RO K M H vs ws → RO K (M.cut n) H vs (gcE n ws)
  | _, _, .nil => .nil
  | _, _, .no t => .no (RO.gc n t)
  | _, _, .so (w := w) h t => by
    rw [gcE]
    by_cases hl : w.low n = true
    · rw [if_pos hl]
      exact .so (h.cut n hl) (RO.gc n t)
    · rw [if_neg hl]
      exact .so (.j _) (RO.gc n t)
def sGc (f : Sm) : Sm := fun ρ S => match f ρ S with
  | .nx ρ' S' => if lowS S.length (S'.take S.length) = true then .nx (gcE S.length ρ') (S'.take S.length) else .no
  | .ct ρ' S' => if lowS S.length (S'.take S.length) = true then .ct (gcE S.length ρ') (S'.take S.length) else .no
  | o => o
theorem fss_gc {X : Cx} {E : L2.St → XK} {b : List Stmt} {f : Sm} (h : FSs X E b f) : FSs X E b (sGc f) := by
  refine PSs.imp h ?_
  rintro D σ H ⟨M, ρ, S, rs, ro, p⟩
  refine ⟨M, ρ, S, rs, ro, ?_⟩
  unfold sGc at p
  cases hf : f ρ S with
  | nx ρ' S' =>
    rw [hf] at p
    dsimp only at p
    by_cases hl : lowS S.length (S'.take S.length) = true
    · rw [if_pos hl] at p
      rw [← rs.len] at p hl
      exact fun M' σ' H' e rs' ro' => p (M'.cut M.ad.length) σ' H' e.cut (rs'.cut _ hl) (RO.gc _ ro')
    · rw [if_neg hl] at p
      exact (show False from p).elim
  | ct ρ' S' =>
    rw [hf] at p
    dsimp only at p
    by_cases hl : lowS S.length (S'.take S.length) = true
    · rw [if_pos hl] at p
      rw [← rs.len] at p hl
      exact fun M' σ' H' e rs' ro' => p (M'.cut M.ad.length) σ' H' e.cut (rs'.cut _ hl) (RO.gc _ ro')
    · rw [if_neg hl] at p
      exact (show False from p).elim
  | rt _ _ => rw [hf] at p; exact p
  | bk _ _ => rw [hf] at p; exact p
  | ex _ _ _ => rw [hf] at p; exact p
  | no => rw [hf] at p; exact p
end As

/-! an empty dict beside a text: ==, != -/
namespace PySem
open Sem (wp)
theorem dct_eq_str (l : Addr) (es : Array DictEntry) (n : Nat) (dd : Option Addr) (sl : Array (Option Value)) (b : Str) (u : Tok) :
    Meets (Builtin.«dict.__eq__» ⟨[.ref l, .str b u], []⟩) (fun _ R s => s.heap.get? l = some { cls := .type "dict", dict := dd, data := .dict es n, slots := sl } ∧ R (.ok (.ret .notImplemented)) s) :=
  .of_wp fun prog w A R s h => by
    obtain ⟨hp, g, d, tk, os⟩ := s
    obtain ⟨hl, h⟩ := h
    have f1 := F.sub_str_dict
    wp_walk using wpAny_loadPart' hl
    exact ⟨_, rfl, h⟩
theorem dct_ne_str (l : Addr) (es : Array DictEntry) (n : Nat) (dd : Option Addr) (sl : Array (Option Value)) (b : Str) (u : Tok) :
    Meets (Builtin.«dict.__ne__» ⟨[.ref l, .str b u], []⟩) (fun _ R s => s.heap.get? l = some { cls := .type "dict", dict := dd, data := .dict es n, slots := sl } ∧ R (.ok (.ret .notImplemented)) s) :=
  .of_wp fun prog w A R s h => by
    obtain ⟨hp, g, d, tk, os⟩ := s
    obtain ⟨hl, h⟩ := h
    have f1 := F.sub_str_dict
    wp_walk using wpAny_loadPart' hl
    exact ⟨_, rfl, h⟩
theorem str_eq_dct (b : Str) (u : Tok) (l : Addr) (es : Array DictEntry) (n : Nat) (dd : Option Addr) (sl : Array (Option Value)) :
    Meets (Builtin.«str.__eq__» ⟨[.str b u, .ref l], []⟩) (fun _ R s => s.heap.get? l = some { cls := .type "dict", dict := dd, data := .dict es n, slots := sl } ∧ R (.ok (.ret .notImplemented)) s) :=
  .of_wp fun prog w A R s h => by
    obtain ⟨hp, g, d, tk, os⟩ := s
    obtain ⟨hl, h⟩ := h
    wp_walk using wpAny_loadPart' hl, wpAny_load hl
    exact ⟨_, rfl, h⟩
theorem str_ne_dct (b : Str) (u : Tok) (l : Addr) (es : Array DictEntry) (n : Nat) (dd : Option Addr) (sl : Array (Option Value)) :
    Meets (Builtin.«str.__ne__» ⟨[.str b u, .ref l], []⟩) (fun _ R s => s.heap.get? l = some { cls := .type "dict", dict := dd, data := .dict es n, slots := sl } ∧ R (.ok (.ret .notImplemented)) s) :=
  .of_wp fun prog w A R s h => by
    obtain ⟨hp, g, d, tk, os⟩ := s
    obtain ⟨hl, h⟩ := h
    wp_walk using wpAny_loadPart' hl, wpAny_load hl
    exact ⟨_, rfl, h⟩
open SeqAt
theorem rcAt_dct_str {A : Around} {s : Shared} {l : Addr} {es : Array DictEntry} {n : Nat} {dd : Option Addr} {sl : Array (Option Value)} (b : Str) (u : Tok) (ho : s.heap.get? l = some { cls := .type "dict", dict := dd, data := .dict es n, slots := sl }) (hu : A.units < cLine) : RcAt A s (.ref l) (.str b u) false := fun prog w E Q h =>
  rc_eq_decline_or (k := false) ⟨_, ho, rfl⟩ (typeIs_str s b u) (by decide) F.sub_str_dict F.slot_dict_eq F.slot_str_eq_refl
    (fun _ hq => call_meets F.slot_dict_eq ⟨_, ho, rfl⟩ F.entry_dict_eq (F.args_dict_eq_2 _ _) (dct_eq_str l es n dd sl b u) ⟨ho, hq⟩)
    (fun _ hq => call_meets F.slot_str_eq_refl (typeIs_str s b u) F.entry_str_eq (F.args_str_eq_2 _ _) (str_eq_dct b u l es n dd sl) ⟨ho, hq⟩) (fun _ hq => wpAny_of_eq (rfl : isSame (.ref l) (.str b u) = pure false) hq) (.inr hu) h
theorem rcNeAt_dct_str {A : Around} {s : Shared} {l : Addr} {es : Array DictEntry} {n : Nat} {dd : Option Addr} {sl : Array (Option Value)} (b : Str) (u : Tok) (ho : s.heap.get? l = some { cls := .type "dict", dict := dd, data := .dict es n, slots := sl }) (hu : A.units < cLine) : RcNeAt A s (.ref l) (.str b u) true := fun prog w E Q h =>
  rc_ne_decline_or (k := false) ⟨_, ho, rfl⟩ (typeIs_str s b u) (by decide) F.sub_str_dict F.slot_dict_ne F.slot_str_ne_refl
    (fun _ hq => call_meets F.slot_dict_ne ⟨_, ho, rfl⟩ F.entry_dict_ne (F.args_dict_ne_2 _ _) (dct_ne_str l es n dd sl b u) ⟨ho, hq⟩)
    (fun _ hq => call_meets F.slot_str_ne_refl (typeIs_str s b u) F.entry_str_ne (F.args_str_ne_2 _ _) (str_ne_dct b u l es n dd sl) ⟨ho, hq⟩) (fun _ hq => wpAny_of_eq (rfl : isSame (.ref l) (.str b u) = pure false) hq) (.inr hu) h
end PySem
namespace As
open PySem PySem.Spec PyProof.Rows L2
section
variable {X : Cx}
def rEqDS (K : PySem.W.Frag) : R2 := fun x y H Q => ∃ a z, x = .ref a ∧ y = .str z ∧ (H a = some (.dK []) ∨ (∃ xs, SqL K H a xs) ∨ ∃ xs, SqT K H a xs) ∧ Q (.bl false) H
def rNeDS (K : PySem.W.Frag) : R2 := fun x y H Q => ∃ a z, x = .ref a ∧ y = .str z ∧ (H a = some (.dK []) ∨ (∃ xs, SqL K H a xs) ∨ ∃ xs, SqT K H a xs) ∧ Q (.bl true) H
def rEqE (K : PySem.W.Frag) : R2 := fun x y H Q => ∃ a b xs, x = .ref a ∧ y = .ref b ∧ SqL K H a xs ∧ SqL K H b [] ∧ Q (.bl xs.isEmpty) H
theorem op_eqE (hu : X.A.units < cLine) : OpR X (compareOp .Eq) (rEqE X.K) := by
  intro pins s σ H x y v u Q I rx ry h
  obtain ⟨a, b, xs, rfl, rfl, ha, hb, q⟩ := h
  cases rx
  cases ry
  obtain ⟨its, rv, p1, _⟩ := I.list ha
  obtain ⟨its2, rv2, p2, _⟩ := I.list hb
  cases rv2
  cases xs with
  | nil =>
    cases rv
    exact SeqAt.RcAt.lists p1.isList p2.isList rfl hu (e := fun _ => true) (fun j h1 _ => absurd h1 (Nat.not_lt_zero _)) X.prog X.w X.xe _ ⟨.bl true, H, I, rfl, q⟩
  | cons x xs =>
    cases rv with
    | cons r1 r2 => exact SeqAt.RcAt.lists_lengths p1.isList p2.isList (by simp) hu X.prog X.w X.xe _ ⟨.bl false, H, I, rfl, q⟩
def rNeE (K : PySem.W.Frag) : R2 := fun x y H Q => ∃ a b xs, x = .ref a ∧ y = .ref b ∧ SqL K H a xs ∧ SqL K H b [] ∧ Q (.bl (!xs.isEmpty)) H
theorem op_neE (hu : X.A.units < cLine) : OpR X (compareOp .NotEq) (rNeE X.K) := by
  intro pins s σ H x y v u Q I rx ry h
  obtain ⟨a, b, xs, rfl, rfl, ha, hb, q⟩ := h
  cases rx
  cases ry
  obtain ⟨its, rv, p1, _⟩ := I.list ha
  obtain ⟨its2, rv2, p2, _⟩ := I.list hb
  cases rv2
  cases xs with
  | nil =>
    cases rv
    exact SeqAt.RcNeAt.lists p1.isList p2.isList rfl hu (e := fun _ => true) (fun j h1 _ => absurd h1 (Nat.not_lt_zero _)) X.prog X.w X.xe _ ⟨.bl false, H, I, rfl, q⟩
  | cons x xs =>
    cases rv with
    | cons r1 r2 => exact SeqAt.RcNeAt.lists_lengths p1.isList p2.isList (by simp) hu X.prog X.w X.xe _ ⟨.bl true, H, I, rfl, q⟩
theorem dct_obj {pins : List (Addr × Obj)} {σ : L2.St} {H : Hp} {s : Shared} {a : Addr} (I : Inv X pins σ H s) (h : H a = some (.dK [])) : (a == sysModules) = false ∧ ∃ dd es ep sl, s.heap.get? a = some { cls := .type "dict", dict := dd, data := .dict es ep, slots := sl } ∧ es = #[] := by
  obtain ⟨_, hs, vs, kv, o, es, ep, e, ex, hd, _, pr, _⟩ := I.hok a _ h
  cases kv
  obtain ⟨cls, dd, data, sl⟩ := o
  have c1 : cls = .type "dict" := ex.1
  have c2 : data = .dict es ep := hd
  subst c1 c2
  obtain ⟨l⟩ := es
  cases l with
  | nil => exact ⟨hs, dd, _, ep, sl, e, rfl⟩
  | cons x l => cases pr
theorem op_eqDS (hu : X.A.units + 64 < cLine) : OpR X (compareOp .Eq) (rEqDS X.K) := by
  intro pins s σ H x y v u Q I rx ry h
  obtain ⟨a, z, rfl, rfl, ha, q⟩ := h
  cases rx
  obtain ⟨t, rfl⟩ := ry
  rcases ha with ha | ⟨xs, ha⟩ | ⟨xs, ha⟩
  · obtain ⟨_, dd, es, ep, sl, e, _⟩ := dct_obj I ha
    exact rcAt_dct_str z t e (by omega) X.prog X.w X.xe _ ⟨.bl false, H, I, rfl, q⟩
  · obtain ⟨its, rv, p1, _⟩ := I.list ha
    exact SeqAt.RcAt.list_str z t p1.isList (by omega) X.prog X.w X.xe _ ⟨.bl false, H, I, rfl, q⟩
  · obtain ⟨its, rv, p1, _⟩ := I.tuple ha
    exact SeqAt.RcAt.tuple_str z t p1 (by omega) X.prog X.w X.xe _ ⟨.bl false, H, I, rfl, q⟩
theorem op_neDS (hu : X.A.units + 64 < cLine) : OpR X (compareOp .NotEq) (rNeDS X.K) := by
  intro pins s σ H x y v u Q I rx ry h
  obtain ⟨a, z, rfl, rfl, ha, q⟩ := h
  cases rx
  obtain ⟨t, rfl⟩ := ry
  rcases ha with ha | ⟨xs, ha⟩ | ⟨xs, ha⟩
  · obtain ⟨_, dd, es, ep, sl, e, _⟩ := dct_obj I ha
    exact rcNeAt_dct_str z t e (by omega) X.prog X.w X.xe _ ⟨.bl true, H, I, rfl, q⟩
  · obtain ⟨its, rv, p1, _⟩ := I.list ha
    exact SeqAt.RcNeAt.list_str z t p1.isList (by omega) X.prog X.w X.xe _ ⟨.bl true, H, I, rfl, q⟩
  · obtain ⟨its, rv, p1, _⟩ := I.tuple ha
    exact SeqAt.RcNeAt.tuple_str z t p1 (by omega) X.prog X.w X.xe _ ⟨.bl true, H, I, rfl, q⟩
end
end As

namespace As
open PySem PySem.Spec PyProof.Rows L2
section
variable {K : PySem.W.Frag} {mg : Str → Option Value} {M : Mp} {H : Hp} {v u : V}
theorem RW.i_ {i : Int} (r : RW K M H v (.d (.int i))) : v = .int i := by
  cases r with
  | d h => cases h; rfl
theorem RW.s_ {i : Str} (r : RW K M H v (.d (.str i))) : v = .str i := by
  cases r with
  | d h => cases h; rfl
theorem RW.b_ {i : Bool} (r : RW K M H v (.d (.bl i))) : v = .bl i := by
  cases r with
  | d h => cases h; rfl
theorem RW.n_ (r : RW K M H v (.d .non)) : v = .non := by
  cases r with
  | d h => cases h; rfl
theorem RW.d_ {d : D} (r : RW K M H v (.d d)) : RD K M H v d := by
  cases r with
  | d h => exact h
theorem RW.c_ {k : Nat} (r : RW K M H v (.c k)) : ∃ a, v = .ref a ∧ M.ad[k]? = some a := by
  cases r with
  | c h => exact ⟨_, rfl, h⟩
theorem RW.l_ {ds : List D} (r : RW K M H v (.d (.lst ds))) : ∃ a xs, v = .ref a ∧ NL M H a xs ∧ RDs K M H xs ds := by
  cases r with
  | d h => cases h with
    | lst n t => exact ⟨_, _, rfl, n, t⟩
theorem RW.t_ {ds : List D} (r : RW K M H v (.d (.tup ds))) : ∃ a xs, v = .ref a ∧ NT K M H a xs ∧ RDs K M H xs ds := by
  cases r with
  | d h => cases h with
    | tup n t => exact ⟨_, _, rfl, n, t⟩
end
/-! ### whole numbers -/
def onII (k : Int → Int → Store → Rs W) : O2 := fun x y S => match x, y with
  | .d (.int i), .d (.int j) => k i j S
  | _, _ => .no
@[simp] theorem onII_ii (k : Int → Int → Store → Rs W) (i j : Int) (S : Store) : onII k (.d (.int i)) (.d (.int j)) S = k i j S := rfl
theorem onII_of {K : PySem.W.Frag} {mg : Str → Option Value} {M : Mp} {H : Hp} {E : XK} {k : Int → Int → Store → Rs W} {x y : W} {S : Store} {Q : VK} (h : Post K mg M H E (RWK K) Q (onII k x y S)) : ∃ i j, x = .d (.int i) ∧ y = .d (.int j) ∧ Post K mg M H E (RWK K) Q (k i j S) := by
  unfold onII at h
  split at h
  · exact ⟨_, _, rfl, rfl, h⟩
  · exact (show False from h).elim
theorem opF_I {K : PySem.W.Frag} {mg : Str → Option Value} {C : Int → Int → Prop} [∀ i j, Decidable (C i j)] (g : Int → Int → Int) : OpF K mg (onII fun i j S => if C i j then .ok (.d (.int (g i j))) S else .no) (rI C fun i j => .int (g i j)) := by
  intro M S H v u x y E Q rs rx ry p
  obtain ⟨i, j, rfl, rfl, p⟩ := onII_of p
  refine ⟨i, j, rx.i_, ry.i_, ?_⟩
  have p : Post K mg M H E (RWK K) Q (if C i j then .ok (.d (.int (g i j))) S else .no) := p
  by_cases hc : C i j
  · rw [if_pos hc] at p
    exact ⟨hc, p.ret rs (.d (.int _))⟩
  · rw [if_neg hc] at p
    exact (show False from p).elim
theorem opF_I0 {K : PySem.W.Frag} {mg : Str → Option Value} (g : Int → Int → Int) : OpF K mg (onII fun i j S => .ok (.d (.int (g i j))) S) (rI0 fun i j => .int (g i j)) := by
  intro M S H v u x y E Q rs rx ry p
  obtain ⟨i, j, rfl, rfl, p⟩ := onII_of p
  exact ⟨i, j, rx.i_, ry.i_, p.ret rs (.d (.int _))⟩
theorem opF_B0 {K : PySem.W.Frag} {mg : Str → Option Value} (g : Int → Int → Bool) : OpF K mg (onII fun i j S => .ok (.d (.bl (g i j))) S) (rI0 fun i j => .bl (g i j)) := by
  intro M S H v u x y E Q rs rx ry p
  obtain ⟨i, j, rfl, rfl, p⟩ := onII_of p
  exact ⟨i, j, rx.i_, ry.i_, p.ret rs (.d (.bl _))⟩
def oAdd : O2 := onII fun i j S => .ok (.d (.int (i + j))) S
def oSub : O2 := onII fun i j S => .ok (.d (.int (i - j))) S
instance (i j : Int) : Decidable (CMul i j) := by unfold CMul; exact inferInstance
instance (i j : Int) : Decidable (CDiv i j) := by unfold CDiv; exact inferInstance
instance (i j : Int) : Decidable (CPow i j) := by unfold CPow; exact inferInstance
def oMul : O2 := onII fun i j S => if CMul i j then .ok (.d (.int (i * j))) S else .no
def oDiv : O2 := onII fun i j S => if CDiv i j then .ok (.d (.int (i / j))) S else .no
def oMod : O2 := onII fun i j S => if 0 < j then .ok (.d (.int (i % j))) S else .no
def oPow : O2 := onII fun i j S => if CPow i j then .ok (.d (.int (i ^ j.toNat))) S else .no
def oLt : O2 := onII fun i j S => .ok (.d (.bl (decide (i < j)))) S
def oLe : O2 := onII fun i j S => .ok (.d (.bl (decide (i ≤ j)))) S
def oGt : O2 := onII fun i j S => .ok (.d (.bl (decide (j < i)))) S
def oGe : O2 := onII fun i j S => .ok (.d (.bl (decide (j ≤ i)))) S
section
variable {X : Cx} {E : L2.St → XK} {a b c : Expr} {fa fb fc : Env → Store → Rs W} {pos : Pos}
theorem f_add (ha : FE X E a fa) (hb : FE X E b fb) : FE X E (.BinOp a .Add b pos) (fOp oAdd fa fb) := f_op op_add (opF_I0 _) ha hb
theorem f_sub (ha : FE X E a fa) (hb : FE X E b fb) : FE X E (.BinOp a .Sub b pos) (fOp oSub fa fb) := f_op op_sub (opF_I0 _) ha hb
theorem f_mul (ha : FE X E a fa) (hb : FE X E b fb) : FE X E (.BinOp a .Mult b pos) (fOp oMul fa fb) := f_op op_mul (opF_I _) ha hb
theorem f_div (ha : FE X E a fa) (hb : FE X E b fb) : FE X E (.BinOp a .FloorDiv b pos) (fOp oDiv fa fb) := f_op op_fdiv (opF_I _) ha hb
theorem f_mod (ha : FE X E a fa) (hb : FE X E b fb) : FE X E (.BinOp a .Mod b pos) (fOp oMod fa fb) := f_op op_mod (opF_I (C := fun _ j => 0 < j) _) ha hb
theorem f_pow (ha : FE X E a fa) (hb : FE X E b fb) : FE X E (.BinOp a .Pow b pos) (fOp oPow fa fb) := f_op op_pow (opF_I _) ha hb
theorem f_lt (ha : FE X E a fa) (hb : FE X E b fb) : FE X E (.Compare a [.Lt] [b] pos) (fOp oLt fa fb) := f_cmp op_lt (opF_B0 _) ha hb (nomark _)
theorem f_le (ha : FE X E a fa) (hb : FE X E b fb) : FE X E (.Compare a [.LtE] [b] pos) (fOp oLe fa fb) := f_cmp op_le (opF_B0 _) ha hb (nomark _)
theorem f_gt (ha : FE X E a fa) (hb : FE X E b fb) : FE X E (.Compare a [.Gt] [b] pos) (fOp oGt fa fb) := f_cmp op_gt (opF_B0 _) ha hb (nomark _)
theorem f_ge (ha : FE X E a fa) (hb : FE X E b fb) : FE X E (.Compare a [.GtE] [b] pos) (fOp oGe fa fb) := f_cmp op_ge (opF_B0 _) ha hb (nomark _)
theorem ft_lt (ha : FE X E a fa) (hb : FE X E b fb) : FT X E (.Compare a [.Lt] [b] pos) (fB (fOp oLt fa fb)) := ft_cmp op_lt (opF_B0 _) ha hb (nomark _)
theorem ft_le (ha : FE X E a fa) (hb : FE X E b fb) : FT X E (.Compare a [.LtE] [b] pos) (fB (fOp oLe fa fb)) := ft_cmp op_le (opF_B0 _) ha hb (nomark _)
theorem ft_gt (ha : FE X E a fa) (hb : FE X E b fb) : FT X E (.Compare a [.Gt] [b] pos) (fB (fOp oGt fa fb)) := ft_cmp op_gt (opF_B0 _) ha hb (nomark _)
theorem ft_ge (ha : FE X E a fa) (hb : FE X E b fb) : FT X E (.Compare a [.GtE] [b] pos) (fB (fOp oGe fa fb)) := ft_cmp op_ge (opF_B0 _) ha hb (nomark _)
/-! ### chains -/
theorem chain_imp {K : PySem.W.Frag} {mg : Str → Option Value} {g g' : O2} {r r' : R2} (hg : OpF K mg g r) (hg' : OpF K mg g' r') : ∀ σ H Q, tG K mg E (RWK K) (fChain g g' fa fb fc) σ H Q → tChain r r' (tG K mg E (RWK K) fa) (tG K mg E (RWK K) fb) (tG K mg E (RWK K) fc) σ H Q := by
  rintro σ H Q ⟨M, ρ, S, rs, ro, p⟩
  refine ⟨M, ρ, S, rs, ro, Post.map (fun vx H1 q => ?_) (Post.bindE (R := RWK K) p)⟩
  obtain ⟨M1, x, S1, e1, rs1, rx, p1⟩ := q
  refine ⟨M1, ρ, S1, rs1, ro.ext e1, Post.map (fun vy H2 q => ?_) (Post.bindE (R := RWK K) p1)⟩
  obtain ⟨M2, y, S2, e2, rs2, ry, p2⟩ := q
  refine hg M2 S2 H2 vx vy x y (E σ) _ rs2 (RW.ext e2 rx) ry (Post.map (fun vz H3 q => ?_) (Post.bindE (R := RWK K) p2))
  obtain ⟨M3, z, S3, e3, rs3, rz, p3⟩ := q
  have ro3 := ((ro.ext e1).ext e2).ext e3
  cases rz with
  | d rd =>
    cases rd with
    | bl c =>
      cases c with
      | true =>
        refine ⟨true, rfl, ?_⟩
        rw [if_pos rfl]
        refine ⟨M3, ρ, S3, rs3, ro3, Post.map (fun vw H4 q => ?_) (Post.bindE (R := RWK K) p3)⟩
        obtain ⟨M4, w, S4, e4, rs4, rw4, p4⟩ := q
        exact hg' M4 S4 H4 vy vw y w (E σ) Q rs4 (RW.ext e4 (RW.ext e3 (RW.ext (Ext.refl _ _) ry))) rw4 p4
      | false =>
        refine ⟨false, rfl, ?_⟩
        rw [if_neg Bool.false_ne_true]
        exact Post.ret (R := RWK K) rs3 (.d (.bl _)) p3
    | _ => exact (show False from p3).elim
  | _ => exact (show False from p3).elim
theorem f_chain {op op' : CmpOp} {r r' : R2} {g g' : O2} (ho : OpR X (compareOp op) r) (ho' : OpR X (compareOp op') r') (hg : OpF X.K X.mg g r) (hg' : OpF X.K X.mg g' r') (ha : FE X E a fa) (hb : FE X E b fb) (hc : FE X E c fc) (hm : lastMarks [op, op'] [b, c] = false := by with_unfolding_all rfl) :
    FE X E (.Compare a [op, op'] [b, c] pos) (fChain g g' fa fb fc) := PE.imp (pe_chain ho ho' ha hb hc hm) (chain_imp hg hg')
theorem ft_chain {op op' : CmpOp} {r r' : R2} {g g' : O2} (ho : OpR X (compareOp op) r) (ho' : OpR X (compareOp op') r') (hg : OpF X.K X.mg g r) (hg' : OpF X.K X.mg g' r') (ha : FE X E a fa) (hb : FE X E b fb) (hc : FE X E c fc) (hm : lastMarks [op, op'] [b, c] = false := by with_unfolding_all rfl) :
    FT X E (.Compare a [op, op'] [b, c] pos) (fB (fChain g g' fa fb fc)) := PT.imp (pt_chain ho ho' ha hb hc hm) fun σ H Q h => chain_imp hg hg' σ H _ (fB_imp σ H Q h)
theorem f_chain_le_lt (ha : FE X E a fa) (hb : FE X E b fb) (hc : FE X E c fc) (hm : lastMarks [.LtE, .Lt] [b, c] = false := by with_unfolding_all rfl) : FE X E (.Compare a [.LtE, .Lt] [b, c] pos) (fChain oLe oLt fa fb fc) := f_chain op_le op_lt (opF_B0 _) (opF_B0 _) ha hb hc hm
theorem f_chain_le_le (ha : FE X E a fa) (hb : FE X E b fb) (hc : FE X E c fc) (hm : lastMarks [.LtE, .LtE] [b, c] = false := by with_unfolding_all rfl) : FE X E (.Compare a [.LtE, .LtE] [b, c] pos) (fChain oLe oLe fa fb fc) := f_chain op_le op_le (opF_B0 _) (opF_B0 _) ha hb hc hm
theorem ft_chain_le_lt (ha : FE X E a fa) (hb : FE X E b fb) (hc : FE X E c fc) (hm : lastMarks [.LtE, .Lt] [b, c] = false := by with_unfolding_all rfl) : FT X E (.Compare a [.LtE, .Lt] [b, c] pos) (fB (fChain oLe oLt fa fb fc)) := ft_chain op_le op_lt (opF_B0 _) (opF_B0 _) ha hb hc hm
theorem ft_chain_le_le (ha : FE X E a fa) (hb : FE X E b fb) (hc : FE X E c fc) (hm : lastMarks [.LtE, .LtE] [b, c] = false := by with_unfolding_all rfl) : FT X E (.Compare a [.LtE, .LtE] [b, c] pos) (fB (fChain oLe oLe fa fb fc)) := ft_chain op_le op_le (opF_B0 _) (opF_B0 _) ha hb hc hm
end
/-! ### plain data as the library's -/
mutual
def pd : D → PyData
  | .non => .none
  | .bl b => .bool b
  | .int i => .int i
  | .str z => .str z
  | .tup ds => .tuple (pds ds)
  | .lst ds => .list (pds ds)
  | .dct => .dict []
def pds : List D → List PyData
  | [] => []
  | d :: ds => pd d :: pds ds
end
theorem pds_map : ∀ ds : List D, pds ds = ds.map pd
  | [] => by rw [pds]; rfl
  | d :: ds => by rw [pds, pds_map ds]; rfl
mutual
def nod : D → Bool
  | .dct => false
  | .tup ds => nods ds
  | .lst ds => nods ds
  | _ => true
def nods : List D → Bool
  | [] => true
  | d :: ds => nod d && nods ds
end
section
variable {K : PySem.W.Frag} {M : Mp} {H : Hp}
mutual
theorem RD.dp : ∀ {v : V} {d : D}, RD K M H v d → nod d = true → Dp K H v (pd d)
  | _, _, .non, _ => by rw [pd]; exact .non
  | _, _, .bl b, _ => by rw [pd]; exact .bl b
  | _, _, .int i, _ => by rw [pd]; exact .int i
  | _, _, .str z, _ => by rw [pd]; exact .str z
  | _, _, .tup (ds := ds) n t, h => by
    rw [nod] at h
    rw [pd]
    exact .tup n.sq (RDs.dp t h)
  | _, _, .lst (ds := ds) n t, h => by
    rw [nod] at h
    rw [pd]
    exact .lst n.sq (RDs.dp t h)
  | _, _, .dct _ _, h => by rw [nod] at h; cases h
theorem RDs.dp : ∀ {vs : List V} {ds : List D}, RDs K M H vs ds → nods ds = true → DpAll K H vs (pds ds)
  | _, _, .nil, _ => by rw [pds]; exact .nil
  | _, _, .cons (d := d) (ds := ds) h t, q => by
    rw [nods, Bool.and_eq_true] at q
    rw [pds]
    exact .cons (RD.dp h q.1) (RDs.dp t q.2)
end
end
def shP (d : PyData) : Bool := d.plain && decide (d.depth ≤ 64)
theorem shP_of {d : PyData} (h : shP d = true) : d.plain = true ∧ d.depth ≤ 64 := by
  unfold shP at h
  rw [Bool.and_eq_true, decide_eq_true_eq] at h
  exact h
def rEqP (K : PySem.W.Frag) : R2 := fun x y H Q => ∃ d e, Dp K H x d ∧ Dp K H y e ∧ shP d = true ∧ shP e = true ∧ Q (.bl (PyData.eqv d e)) H
def rNeP (K : PySem.W.Frag) : R2 := fun x y H Q => ∃ d e, Dp K H x d ∧ Dp K H y e ∧ shP d = true ∧ shP e = true ∧ Q (.bl (!PyData.eqv d e)) H
def rInP (K : PySem.W.Frag) (neg : Bool) : R2 := fun x y H Q => ∃ d ds, Dp K H x d ∧ (Dp K H y (.list ds) ∧ shP (.list ds) = true ∨ Dp K H y (.tuple ds) ∧ shP (.tuple ds) = true) ∧ shP d = true ∧ Q (.bl (if neg then !ds.any fun z => PyData.eqv z d else ds.any fun z => PyData.eqv z d)) H
section
variable {X : Cx}
theorem op_eqP (hu : X.A.units + 64 < cLine) : OpR X (compareOp .Eq) (rEqP X.K) := by
  intro pins s σ H x y v u Q I rx ry ⟨d, e, hd, he, sd, se, q⟩
  obtain ⟨pd1, dd1⟩ := shP_of sd
  obtain ⟨pd2, dd2⟩ := shP_of se
  obtain ⟨as, r1⟩ := Dp.reads I d x v hd rx
  obtain ⟨bs, r2⟩ := Dp.reads I e y u he ry
  exact SeqAt.eq_plain r1 r2 pd1 pd2 (by omega) ⟨.bl _, H, I, rfl, q⟩
theorem op_neP (hu : X.A.units + 64 < cLine) : OpR X (compareOp .NotEq) (rNeP X.K) := by
  intro pins s σ H x y v u Q I rx ry ⟨d, e, hd, he, sd, se, q⟩
  obtain ⟨pd1, dd1⟩ := shP_of sd
  obtain ⟨pd2, dd2⟩ := shP_of se
  obtain ⟨as, r1⟩ := Dp.reads I d x v hd rx
  obtain ⟨bs, r2⟩ := Dp.reads I e y u he ry
  exact SeqAt.ne_plain r1 r2 pd1 pd2 (by omega) ⟨.bl _, H, I, rfl, q⟩
theorem op_inP (hu : X.A.units + 65 < cLine) : OpR X (compareOp .In) (rInP X.K false) := by
  intro pins s σ H x y v u Q I rx ry ⟨d, ds, hd, hy, sd, q⟩
  obtain ⟨pd1, dd1⟩ := shP_of sd
  obtain ⟨as, r1⟩ := Dp.reads I d x v hd rx
  rcases hy with ⟨he, se⟩ | ⟨he, se⟩
  · obtain ⟨pd2, dd2⟩ := shP_of se
    obtain ⟨bs, r2⟩ := Dp.reads I _ y u he ry
    exact SeqAt.in_list_data r2 r1 (by simpa only [PyData.plain] using pd2) pd1 (by omega) ⟨.bl _, H, I, rfl, q⟩
  · obtain ⟨pd2, dd2⟩ := shP_of se
    obtain ⟨bs, r2⟩ := Dp.reads I _ y u he ry
    exact SeqAt.in_tuple_data r2 r1 (by simpa only [PyData.plain] using pd2) pd1 (by omega) ⟨.bl _, H, I, rfl, q⟩
theorem op_notInP (hu : X.A.units + 65 < cLine) : OpR X (compareOp .NotIn) (rInP X.K true) := by
  intro pins s σ H x y v u Q I rx ry ⟨d, ds, hd, hy, sd, q⟩
  obtain ⟨pd1, dd1⟩ := shP_of sd
  obtain ⟨as, r1⟩ := Dp.reads I d x v hd rx
  rcases hy with ⟨he, se⟩ | ⟨he, se⟩
  · obtain ⟨pd2, dd2⟩ := shP_of se
    obtain ⟨bs, r2⟩ := Dp.reads I _ y u he ry
    exact SeqAt.notIn_list_data r2 r1 (by simpa only [PyData.plain] using pd2) pd1 (by omega) ⟨.bl _, H, I, rfl, q⟩
  · obtain ⟨pd2, dd2⟩ := shP_of se
    obtain ⟨bs, r2⟩ := Dp.reads I _ y u he ry
    exact SeqAt.notIn_tuple_data r2 r1 (by simpa only [PyData.plain] using pd2) pd1 (by omega) ⟨.bl _, H, I, rfl, q⟩
end
/-- may be compared -/
def okD (d : D) : Bool := nod d && shP (pd d)
/-- a value read through: what it is as plain data, so many cells deep -/
def rdN (S : Store) : Nat → W → Option D
  | _, .d d => some d
  | 0, _ => none
  | n + 1, .c k => match S[k]? with
    | some (.l ds) => some (.lst ds)
    | some (.w ws) => (rdAll (rdN S n) ws).map .lst
    | _ => none
  | n + 1, .t ws => (rdAll (rdN S n) ws).map .tup
  | _, _ => none
def rdW (S : Store) (w : W) : Option D := rdN S 6 w
@[simp] theorem rdW_d (S : Store) (d : D) : rdW S (.d d) = some d := rfl
section
variable {K : PySem.W.Frag} {mg : Str → Option Value} {M : Mp} {H : Hp}
theorem rdN_rd {S : Store} (rs : RS K M S H) : ∀ {n : Nat} {v : V} {w : W} {d : D}, RW K M H v w → rdN S n w = some d → RD K (M.cut 0) H v d
  | 0, _, _, d, .d rd, h => by
    have h' := Option.some.inj h
    subst h'
    exact rd.cut 0
  | n + 1, _, _, d, .d rd, h => by
    have h' := Option.some.inj h
    subst h'
    exact rd.cut 0
  | 0, _, _, d, .c _, h => by cases h
  | 0, _, _, d, .t _ _ _, h => by cases h
  | n + 1, _, _, d, .c (k := k) (a := a) ha, h => by
    have nl : ¬ (M.cut 0).live a := by
      rintro (z | z)
      · exact absurd (show a ∈ M.ad.take 0 from z) (by rw [List.take_zero]; exact List.not_mem_nil)
      · exact rs.dj a (List.mem_of_getElem? ha) z
    rw [rdN] at h
    cases hs : S[k]? with
    | none => rw [hs] at h; cases h
    | some c =>
      rw [hs] at h
      cases c with
      | l ds =>
        have h' := Option.some.inj h
        subst h'
        obtain ⟨xs, h1, h2⟩ := rs.ok k a _ ha hs
        exact .lst ⟨nl, h1⟩ (h2.cut 0)
      | w ws =>
        obtain ⟨xs, h1, h2⟩ := rs.ok k a _ ha hs
        obtain ⟨ds, hd, e⟩ := Option.map_eq_some_iff.mp h
        subst e
        exact .lst ⟨nl, h1⟩ (rdAll_rd (fun v w d r e => rdN_rd rs r e) h2 hd)
      | _ => cases h
  | n + 1, _, _, d, .t nl ha t, h => by
    rw [rdN] at h
    obtain ⟨ds, hd, e⟩ := Option.map_eq_some_iff.mp h
    subst e
    exact .tup ⟨Mp.cut_live nl, ha⟩ (rdAll_rd (fun v w d r e => rdN_rd rs r e) t hd)
  | 0, _, _, d, .g _, h => by cases h
  | 0, _, _, d, .j _, h => by cases h
  | 0, _, _, d, .s _, h => by cases h
  | _ + 1, _, _, d, .g _, h => by cases h
  | _ + 1, _, _, d, .j _, h => by cases h
  | _ + 1, _, _, d, .s _, h => by cases h
theorem rdW_rd {S : Store} {v : V} {w : W} {d : D} (rs : RS K M S H) (r : RW K M H v w) (h : rdW S w = some d) : RD K (M.cut 0) H v d := rdN_rd rs r h
theorem rdW_dp {S : Store} {v : V} {w : W} {d : D} (rs : RS K M S H) (r : RW K M H v w) (h : rdW S w = some d) (n : nod d = true) : Dp K H v (pd d) := (rdW_rd rs r h).dp n
def onDD (k : D → D → Store → Rs W) : O2 := fun x y S => match rdW S x, rdW S y with
  | some d, some e => k d e S
  | _, _ => .no
@[simp] theorem onDD_dd (k : D → D → Store → Rs W) (d e : D) (S : Store) : onDD k (.d d) (.d e) S = k d e S := rfl
theorem onDD_of {E : XK} {k : D → D → Store → Rs W} {x y : W} {S : Store} {Q : VK} (h : Post K mg M H E (RWK K) Q (onDD k x y S)) : ∃ d e, rdW S x = some d ∧ rdW S y = some e ∧ Post K mg M H E (RWK K) Q (k d e S) := by
  unfold onDD at h
  split at h
  · exact ⟨_, _, by assumption, by assumption, h⟩
  · exact (show False from h).elim
/-- ==, != of data -/
def eqB (a b : D) : Bool := PyData.eqv (pd a) (pd b)
def kEq (neg : Bool) (a b : D) (S : Store) : Rs W := match a, b with
  | .str x, .str y => .ok (.d (.bl (if neg then !decide (x = y) else decide (x = y)))) S
  | .dct, .str _ => .ok (.d (.bl neg)) S
  | .lst _, .str _ => .ok (.d (.bl neg)) S
  | .tup _, .str _ => .ok (.d (.bl neg)) S
  | .lst ds, .lst [] => .ok (.d (.bl (if neg then !ds.isEmpty else ds.isEmpty))) S
  | a, b => if okD a && okD b then .ok (.d (.bl (if neg then !eqB a b else eqB a b))) S else .no
def oEq : O2 := onDD (kEq false)
def oNe : O2 := onDD (kEq true)
theorem okD_and {a b : D} (h : (okD a && okD b) = true) : nod a = true ∧ shP (pd a) = true ∧ nod b = true ∧ shP (pd b) = true := by
  unfold okD at h
  simp only [Bool.and_eq_true] at h
  exact ⟨h.1.1, h.1.2, h.2.1, h.2.2⟩
theorem rdW_str {S : Store} {v : V} {w : W} {z : Str} (rs : RS K M S H) (r : RW K M H v w) (h : rdW S w = some (.str z)) : v = .str z := by
  cases rdW_rd rs r h
  rfl
theorem rdW_dct {S : Store} {v : V} {w : W} (rs : RS K M S H) (r : RW K M H v w) (h : rdW S w = some .dct) : ∃ a, v = .ref a ∧ H a = some (.dK []) := by
  cases rdW_rd rs r h with
  | dct n hd => exact ⟨_, rfl, hd⟩
theorem RDs.empty {vs : List V} {ds : List D} (t : RDs K M H vs ds) : vs.isEmpty = ds.isEmpty := by cases t <;> rfl
theorem kEq_of {neg : Bool} {S : Store} {v u : V} {x y : W} {d e : D} {Q : VK} {E : XK} (rs : RS K M S H) (rx : RW K M H v x) (ry : RW K M H u y) (hd : rdW S x = some d) (he : rdW S y = some e) (p : Post K mg M H E (RWK K) Q (kEq neg d e S)) :
    (∃ z z', v = .str z ∧ u = .str z' ∧ Q (.bl (if neg then !decide (z = z') else decide (z = z'))) H) ∨ (∃ a z, v = .ref a ∧ u = .str z ∧ (H a = some (.dK []) ∨ (∃ xs, SqL K H a xs) ∨ ∃ xs, SqT K H a xs) ∧ Q (.bl neg) H) ∨
    (∃ a b xs, v = .ref a ∧ u = .ref b ∧ SqL K H a xs ∧ SqL K H b [] ∧ Q (.bl (if neg then !xs.isEmpty else xs.isEmpty)) H) ∨
    (Dp K H v (pd d) ∧ Dp K H u (pd e) ∧ shP (pd d) = true ∧ shP (pd e) = true ∧ Q (.bl (if neg then !eqB d e else eqB d e)) H) := by
  unfold kEq at p
  split at p
  · exact .inl ⟨_, _, rdW_str rs rx hd, rdW_str rs ry he, p.ret rs (.d (.bl _))⟩
  · obtain ⟨a, e1, e2⟩ := rdW_dct rs rx hd
    exact .inr (.inl ⟨a, _, e1, rdW_str rs ry he, .inl e2, p.ret rs (.d (.bl _))⟩)
  · have r := rdW_rd rs rx hd
    cases r with
    | lst n t => exact .inr (.inl ⟨_, _, rfl, rdW_str rs ry he, .inr (.inl ⟨_, n.sq⟩), p.ret rs (.d (.bl _))⟩)
  · have r := rdW_rd rs rx hd
    cases r with
    | tup n t => exact .inr (.inl ⟨_, _, rfl, rdW_str rs ry he, .inr (.inr ⟨_, n.sq⟩), p.ret rs (.d (.bl _))⟩)
  · have r := rdW_rd rs rx hd
    have r2 := rdW_rd rs ry he
    cases r with
    | lst n t =>
      cases r2 with
      | lst n2 t2 =>
        cases t2
        have q := p.ret rs (.d (.bl _))
        rw [← t.empty] at q
        exact .inr (.inr (.inl ⟨_, _, _, rfl, rfl, n.sq, n2.sq, q⟩))
  · by_cases hc : (okD d && okD e) = true
    · rw [if_pos hc] at p
      obtain ⟨n1, s1, n2, s2⟩ := okD_and hc
      exact .inr (.inr (.inr ⟨rdW_dp rs rx hd n1, rdW_dp rs ry he n2, s1, s2, p.ret rs (.d (.bl _))⟩))
    · rw [if_neg hc] at p
      exact (show False from p).elim
theorem opF_eq : OpF K mg oEq (fun x y H Q => rEq x y H Q ∨ rEqDS K x y H Q ∨ rEqE K x y H Q ∨ rEqP K x y H Q) := by
  intro M S H v u x y E Q rs rx ry p
  obtain ⟨d, e, hd, he, p⟩ := onDD_of p
  rcases kEq_of rs rx ry hd he p with ⟨z, z', rfl, rfl, q⟩ | ⟨a, z, rfl, rfl, h, q⟩ | ⟨a, b, xs, rfl, rfl, h1, h2, q⟩ | ⟨a, b, c, f, q⟩
  · refine .inl ⟨rfl, ?_⟩
    have q2 : Q (.bl (decide (z = z'))) H := q
    rw [show decide (V.str z = V.str z') = decide (z = z') from decide_eq_decide.mpr ⟨fun e => V.str.inj e, fun e => congrArg _ e⟩]
    exact q2
  · exact .inr (.inl ⟨a, z, rfl, rfl, h, q⟩)
  · exact .inr (.inr (.inl ⟨a, b, xs, rfl, rfl, h1, h2, q⟩))
  · exact .inr (.inr (.inr ⟨_, _, a, b, c, f, q⟩))
theorem opF_ne : OpF K mg oNe (fun x y H Q => rNe x y H Q ∨ rNeDS K x y H Q ∨ rNeE K x y H Q ∨ rNeP K x y H Q) := by
  intro M S H v u x y E Q rs rx ry p
  obtain ⟨d, e, hd, he, p⟩ := onDD_of p
  rcases kEq_of rs rx ry hd he p with ⟨z, z', rfl, rfl, q⟩ | ⟨a, z, rfl, rfl, h, q⟩ | ⟨a, b, xs, rfl, rfl, h1, h2, q⟩ | ⟨a, b, c, f, q⟩
  · refine .inl ⟨rfl, ?_⟩
    have q2 : Q (.bl (!decide (z = z'))) H := q
    rw [show decide (V.str z = V.str z') = decide (z = z') from decide_eq_decide.mpr ⟨fun e => V.str.inj e, fun e => congrArg _ e⟩]
    exact q2
  · exact .inr (.inl ⟨a, z, rfl, rfl, h, q⟩)
  · exact .inr (.inr (.inl ⟨a, b, xs, rfl, rfl, h1, h2, q⟩))
  · exact .inr (.inr (.inr ⟨_, _, a, b, c, f, q⟩))
/-- texts alone -/
def strsD : List D → Option (List Str)
  | [] => some []
  | .str z :: ds => (strsD ds).map (z :: ·)
  | _ => none
theorem RDs.strs : ∀ {vs : List V} {ds : List D} {zs : List Str}, RDs K M H vs ds → strsD ds = some zs → vs = zs.map V.str
  | _, _, zs, .nil, e => by cases e; rfl
  | _, _, zs, .cons (ds := ds) h t, e => by
    cases h with
    | str z =>
      have e' : (strsD ds).map (z :: ·) = some zs := e
      cases q : strsD ds with
      | none => rw [q] at e'; cases e'
      | some ys =>
        rw [q] at e'
        cases e'
        rw [List.map_cons, t.strs q]
    | _ => cases e
theorem inV_strs (z : Str) (zs : List Str) : inV (.str z) (zs.map V.str) = zs.any fun y => decide (y = z) := by
  unfold inV
  rw [List.any_map]
  rfl
theorem flat_strs (zs : List Str) : (zs.map V.str).all flatV = true := by
  rw [List.all_map]
  exact List.all_eq_true.mpr fun _ _ => rfl
/-- in, not in a list or a tuple of data -/
def inB (a : D) (ds : List D) : Bool := ds.any fun z => eqB z a
def kInO (neg : Bool) (a b : D) (ds : List D) (S : Store) : Rs W := if okD a && okD b then .ok (.d (.bl (if neg then !inB a ds else inB a ds))) S else .no
def kInS (neg : Bool) (a b : D) (ds : List D) (S : Store) : Rs W := match a, strsD ds with
  | .str z, some zs => .ok (.d (.bl (if neg then !zs.any fun y => decide (y = z) else zs.any fun y => decide (y = z)))) S
  | a, _ => kInO neg a b ds S
def kIn (neg : Bool) (a b : D) (S : Store) : Rs W := match b with
  | .lst ds => kInS neg a (.lst ds) ds S
  | .tup ds => kInS neg a (.tup ds) ds S
  | _ => .no
def oIn : O2 := onDD (kIn false)
def oNotIn : O2 := onDD (kIn true)
theorem any_pds (ds : List D) (a : D) : ((pds ds).any fun z => PyData.eqv z (pd a)) = inB a ds := by
  rw [pds_map, List.any_map]
  rfl
theorem kIn_of {neg : Bool} {S : Store} {v u : V} {x y : W} {d e : D} {Q : VK} {E : XK} (rs : RS K M S H) (rx : RW K M H v x) (ry : RW K M H u y) (hd : rdW S x = some d) (he : rdW S y = some e) (p : Post K mg M H E (RWK K) Q (kIn neg d e S)) :
    rIn K neg v u H Q ∨ ∃ ds, (e = .lst ds ∨ e = .tup ds) ∧ Dp K H v (pd d) ∧ Dp K H u (pd e) ∧ shP (pd d) = true ∧ shP (pd e) = true ∧ Q (.bl (if neg then !inB d ds else inB d ds)) H := by
  have ord : ∀ ds, (e = .lst ds ∨ e = .tup ds) → Post K mg M H E (RWK K) Q (kInO neg d e ds S) → ∃ ds, (e = .lst ds ∨ e = .tup ds) ∧ Dp K H v (pd d) ∧ Dp K H u (pd e) ∧ shP (pd d) = true ∧ shP (pd e) = true ∧ Q (.bl (if neg then !inB d ds else inB d ds)) H := by
    intro ds h p
    unfold kInO at p
    by_cases hc : (okD d && okD e) = true
    · rw [if_pos hc] at p
      obtain ⟨n1, s1, n2, s2⟩ := okD_and hc
      exact ⟨ds, h, rdW_dp rs rx hd n1, rdW_dp rs ry he n2, s1, s2, p.ret rs (.d (.bl _))⟩
    · rw [if_neg hc] at p
      exact (show False from p).elim
  have all : ∀ ds, (e = .lst ds ∨ e = .tup ds) → Post K mg M H E (RWK K) Q (kInS neg d e ds S) → rIn K neg v u H Q ∨ ∃ ds, (e = .lst ds ∨ e = .tup ds) ∧ Dp K H v (pd d) ∧ Dp K H u (pd e) ∧ shP (pd d) = true ∧ shP (pd e) = true ∧ Q (.bl (if neg then !inB d ds else inB d ds)) H := by
    intro ds h p2
    unfold kInS at p2
    split at p2
    · rename_i z zs hz
      have q := p2.ret rs (.d (.bl _))
      have rd := rdW_rd rs ry he
      refine .inl ?_
      rcases h with h | h
      · subst h
        cases rd with
        | lst n t =>
          have ex := t.strs hz
          subst ex
          refine ⟨_, _, rfl, .inl n.sq, by rw [rdW_str rs rx hd]; rfl, flat_strs zs, ?_⟩
          rw [rdW_str rs rx hd, inV_strs]
          exact q
      · subst h
        cases rd with
        | tup n t =>
          have ex := t.strs hz
          subst ex
          refine ⟨_, _, rfl, .inr n.sq, by rw [rdW_str rs rx hd]; rfl, flat_strs zs, ?_⟩
          rw [rdW_str rs rx hd, inV_strs]
          exact q
    · exact .inr (ord ds h p2)
  unfold kIn at p
  split at p
  · exact all _ (.inl rfl) p
  · exact all _ (.inr rfl) p
  · exact (show False from p).elim
theorem opF_in : OpF K mg oIn (fun x y H Q => rIn K false x y H Q ∨ rInP K false x y H Q) := by
  intro M S H v u x y E Q rs rx ry p
  obtain ⟨d, e, hd, he, p⟩ := onDD_of p
  rcases kIn_of rs rx ry hd he p with q | ⟨ds, h, a1, a2, a3, a4, q⟩
  · exact .inl q
  · refine .inr ⟨pd d, pds ds, a1, ?_, a3, ?_⟩
    · rcases h with h | h
      · subst h
        rw [pd] at a2 a4
        exact .inl ⟨a2, a4⟩
      · subst h
        rw [pd] at a2 a4
        exact .inr ⟨a2, a4⟩
    · rw [any_pds]
      exact q
theorem opF_notIn : OpF K mg oNotIn (fun x y H Q => rIn K true x y H Q ∨ rInP K true x y H Q) := by
  intro M S H v u x y E Q rs rx ry p
  obtain ⟨d, e, hd, he, p⟩ := onDD_of p
  rcases kIn_of rs rx ry hd he p with q | ⟨ds, h, a1, a2, a3, a4, q⟩
  · exact .inl q
  · refine .inr ⟨pd d, pds ds, a1, ?_, a3, ?_⟩
    · rcases h with h | h
      · subst h
        rw [pd] at a2 a4
        exact .inl ⟨a2, a4⟩
      · subst h
        rw [pd] at a2 a4
        exact .inr ⟨a2, a4⟩
    · rw [any_pds]
      exact q
end
section
variable {X : Cx} {E : L2.St → XK} {a b c : Expr} {fa fb fc : Env → Store → Rs W} {pos : Pos}
theorem f_eq (hu : X.A.units + 64 < cLine) (ha : FE X E a fa) (hb : FE X E b fb) : FE X E (.Compare a [.Eq] [b] pos) (fOp oEq fa fb) := f_cmp (op_eq.or ((op_eqDS hu).or ((op_eqE (by omega)).or (op_eqP hu)))) opF_eq ha hb (nomark _)
theorem f_ne (hu : X.A.units + 64 < cLine) (ha : FE X E a fa) (hb : FE X E b fb) : FE X E (.Compare a [.NotEq] [b] pos) (fOp oNe fa fb) := f_cmp (op_ne.or ((op_neDS hu).or ((op_neE (by omega)).or (op_neP hu)))) opF_ne ha hb (nomark _)
theorem ft_eq (hu : X.A.units + 64 < cLine) (ha : FE X E a fa) (hb : FE X E b fb) : FT X E (.Compare a [.Eq] [b] pos) (fB (fOp oEq fa fb)) := ft_cmp (op_eq.or ((op_eqDS hu).or ((op_eqE (by omega)).or (op_eqP hu)))) opF_eq ha hb (nomark _)
theorem ft_ne (hu : X.A.units + 64 < cLine) (ha : FE X E a fa) (hb : FE X E b fb) : FT X E (.Compare a [.NotEq] [b] pos) (fB (fOp oNe fa fb)) := ft_cmp (op_ne.or ((op_neDS hu).or ((op_neE (by omega)).or (op_neP hu)))) opF_ne ha hb (nomark _)
theorem f_in (hu : X.A.units + 65 < cLine) (ha : FE X E a fa) (hb : FE X E b fb) (hm : behindInMarks .In b = false := by rfl) : FE X E (.Compare a [.In] [b] pos) (fOp oIn fa fb) := f_cmp (op_in_seq.or (op_inP hu)) opF_in ha hb hm
theorem f_notIn (hu : X.A.units + 65 < cLine) (ha : FE X E a fa) (hb : FE X E b fb) (hm : behindInMarks .NotIn b = false := by rfl) : FE X E (.Compare a [.NotIn] [b] pos) (fOp oNotIn fa fb) := f_cmp (op_notIn_seq.or (op_notInP hu)) opF_notIn ha hb hm
theorem ft_in (hu : X.A.units + 65 < cLine) (ha : FE X E a fa) (hb : FE X E b fb) (hm : behindInMarks .In b = false := by rfl) : FT X E (.Compare a [.In] [b] pos) (fB (fOp oIn fa fb)) := ft_cmp (op_in_seq.or (op_inP hu)) opF_in ha hb hm
theorem ft_notIn (hu : X.A.units + 65 < cLine) (ha : FE X E a fa) (hb : FE X E b fb) (hm : behindInMarks .NotIn b = false := by rfl) : FT X E (.Compare a [.NotIn] [b] pos) (fB (fOp oNotIn fa fb)) := ft_cmp (op_notIn_seq.or (op_notInP hu)) opF_notIn ha hb hm
end
end As

namespace As
open PySem PySem.Spec PyProof.Rows L2
/-! ### displays -/
/-- items: plain data, if all are -/
def mkT (ws : List W) (S : Store) : Rs W := if ws.length ≤ 100000 then (match unDs ws with
  | some ds => .ok (.d (.tup ds)) S
  | none => .ok (.t ws) S) else .no
def mkL (b : Bool) (ws : List W) (S : Store) : Rs W := if ws.length ≤ 100000 then newW b ws S else .no
section
variable {K : PySem.W.Frag} {mg : Str → Option Value}
theorem apF_tup : ApF K mg mkT (fun xs H Q => xs.length ≤ sizeLine ∧ ∀ p, H p = none → Q (.ref p) (upd H p (.tup xs))) := by
  intro M S H vs ws E Q rs r p
  unfold mkT at p
  by_cases hl : ws.length ≤ 100000
  · rw [if_pos hl] at p
    refine ⟨sl_of (by rw [r.length]; exact hl), fun q nq => ?_⟩
    cases hu : unDs ws with
    | some ds =>
      rw [hu] at p
      exact newT_ok rs nq (r.un hu) p
    | none =>
      rw [hu] at p
      have e := Ext.fz (M := M) (o := .tup vs) nq
      exact p M (.ref q) _ e (rs.fz nq) (.t (rs.fresh nq) upd_same (r.ext e))
  · rw [if_neg hl] at p
    exact (show False from p).elim
theorem apF_lst {b : Bool} : ApF K mg (mkL b) (fun xs H Q => xs.length ≤ sizeLine ∧ ∀ p, H p = none → Q (.ref p) (upd H p (.lst xs))) := by
  intro M S H vs ws E Q rs r p
  unfold mkL at p
  by_cases hl : ws.length ≤ 100000
  · rw [if_pos hl] at p
    exact ⟨sl_of (by rw [r.length]; exact hl), fun q nq => newW_ok rs nq r p⟩
  · rw [if_neg hl] at p
    exact (show False from p).elim
end
section
variable {X : Cx} {E : L2.St → XK} {a b c : Expr} {es : List Expr} {fa fb fc : Env → Store → Rs W} {fs : Env → Store → Rs (List W)} {pos : Pos}
theorem f_tup {x1} (h : FA X E es fs) : FE X E (.Tuple es x1 pos) (fApp mkT fs) := PE.imp (pe_tup h) (fApp_imp apF_tup)
theorem f_lst (b : Bool) (h : FA X E es fs) : FE X E (.List es pos) (fApp (mkL b) fs) := PE.imp (pe_lst h) (fApp_imp apF_lst)
end
/-! ### an item, a slice, a length -/
/-- what a value holds in order -/
def itW (S : Store) : W → Option (List W)
  | .d (.lst ds) => some (ds.map .d)
  | .d (.tup ds) => some (ds.map .d)
  | .t ws => some ws
  | .c k => match S[k]? with
    | some (.l ds) => some (ds.map .d)
    | some (.w ws) => some ws
    | _ => none
  | .s ns => some (ns.map fun i => .d (.int i))
  | _ => none
section
variable {K : PySem.W.Frag} {mg : Str → Option Value} {M : Mp} {H : Hp}
theorem rws_ints : ∀ ns : List Int, RWs K M H (ns.map V.int) (ns.map fun i => W.d (.int i))
  | [] => .nil
  | n :: ns => .cons (.d (.int n)) (rws_ints ns)
theorem itW_ok {S : Store} {v : V} {w : W} {ws : List W} (rs : RS K M S H) (r : RW K M H v w) (h : itW S w = some ws) : ∃ a xs, v = .ref a ∧ (SqL K H a xs ∨ SqT K H a xs) ∧ RWs K M H xs ws := by
  cases r with
  | d rd =>
    cases rd with
    | tup n t =>
      have h' := Option.some.inj h
      subst h'
      exact ⟨_, _, rfl, .inr n.sq, t.ws⟩
    | lst n t =>
      have h' := Option.some.inj h
      subst h'
      exact ⟨_, _, rfl, .inl n.sq, t.ws⟩
    | _ => cases h
  | t n ha t =>
    have h' := Option.some.inj h
    subst h'
    exact ⟨_, _, rfl, .inr (SqT.of ha), t⟩
  | @c k a ha =>
    cases hs : S[k]? with
    | none => rw [itW, hs] at h; cases h
    | some c =>
      rw [itW, hs] at h
      cases c with
      | l ds =>
        have h' := Option.some.inj h
        subst h'
        obtain ⟨xs, h1, h2⟩ := rs.ok k a _ ha hs
        exact ⟨a, xs, rfl, .inl (SqL.of h1), h2.ws⟩
      | w ds =>
        have h' := Option.some.inj h
        subst h'
        obtain ⟨xs, h1, h2⟩ := rs.ok k a _ ha hs
        exact ⟨a, xs, rfl, .inl (SqL.of h1), h2⟩
      | _ => cases h
  | g _ => cases h
  | j _ => cases h
  | @s a ns hs =>
    have h' := Option.some.inj h
    subst h'
    exact ⟨a, _, rfl, .inl (hs.elim (fun z => .inl z.2) .inr), rws_ints ns⟩
/-- the i-th, from the end where i is below nought -/
def oIx : O2 := fun x y S => match y with
  | .d (.int i) => match itW S x with
    | some ws => match atI ws i with
      | some w => .ok w S
      | none => .no
    | none => .no
  | _ => .no
theorem atI_rws {xs : List V} {ws : List W} {i : Int} {w : W} (r : RWs K M H xs ws) (h : atI ws i = some w) : ∃ v, atI xs i = some v ∧ RW K M H v w := by
  unfold atI at h ⊢
  rw [r.length]
  cases hj : ixN ws.length i with
  | none => rw [hj] at h; cases h
  | some j =>
    rw [hj] at h
    have h' : ws[j]? = some w := h
    obtain ⟨v, h1, h2⟩ := r.get h'
    exact ⟨v, h1, h2⟩
theorem opF_ix : OpF K mg oIx (fun x y H Q => rIxL K x y H Q ∨ rIxT K x y H Q) := by
  intro M S H v u x y E Q rs rx ry p
  unfold oIx at p
  split at p
  · rename_i i
    cases hi : itW S x with
    | none => rw [hi] at p; exact (show False from p).elim
    | some ws =>
      rw [hi] at p
      cases hw : atI ws i with
      | none => dsimp only at p; rw [hw] at p; exact (show False from p).elim
      | some w =>
        dsimp only at p
        rw [hw] at p
        obtain ⟨a, xs, rfl, hq, r⟩ := itW_ok rs rx hi
        obtain ⟨z, hz, rz⟩ := atI_rws r hw
        rcases hq with hq | hq
        · exact .inl ⟨a, xs, i, z, rfl, ry.i_, hq, hz, p.ret rs rz⟩
        · exact .inr ⟨a, xs, i, z, rfl, ry.i_, hq, hz, p.ret rs rz⟩
  · exact (show False from p).elim
/-- len -/
def aLen : OA := fun xs S => match xs with
  | [x] => match itW S x with
    | some ws => .ok (.d (.int ws.length)) S
    | none => .no
  | _ => .no
theorem apF_len : ApF K mg aLen (fun xs H Q => ∃ p ys, xs = [.ref p] ∧ (SqL K H p ys ∨ SqT K H p ys) ∧ Q (.int ys.length) H) := by
  intro M S H vs ws E Q rs r p
  unfold aLen at p
  split at p
  · rename_i x
    cases r with
    | cons rx rr =>
      cases rr
      cases hi : itW S x with
      | none => rw [hi] at p; exact (show False from p).elim
      | some ws =>
        rw [hi] at p
        obtain ⟨a, xs, rfl, hq, r⟩ := itW_ok rs rx hi
        refine ⟨a, xs, rfl, hq, ?_⟩
        rw [r.length]
        exact p.ret rs (.d (.int _))
  · exact (show False from p).elim
/-- list(..), tuple(..) -/
def aList (b : Bool) : OA := fun xs S => match xs with
  | [x] => match itW S x with
    | some ws => newW b ws S
    | none => .no
  | _ => .no
theorem apF_list {b : Bool} : ApF K mg (aList b) (fun xs H Q => ∃ p ys, xs = [.ref p] ∧ (SqL K H p ys ∨ SqT K H p ys) ∧ ∀ l, H l = none → Q (.ref l) (upd H l (.lst ys))) := by
  intro M S H vs ws E Q rs r p
  unfold aList at p
  split at p
  · rename_i x
    cases r with
    | cons rx rr =>
      cases rr
      cases hi : itW S x with
      | none => rw [hi] at p; exact (show False from p).elim
      | some ws =>
        rw [hi] at p
        obtain ⟨a, xs, rfl, hq, r⟩ := itW_ok rs rx hi
        exact ⟨a, xs, rfl, hq, fun l nl => newW_ok rs nl r p⟩
  · exact (show False from p).elim
def aTuple : OA := fun xs S => match xs with
  | [x] => match x with
    | .d (.tup ds) => .ok (.d (.tup ds)) S
    | _ => match itW S x with
      | some ws => match unDs ws with
        | some ds => newT ds S
        | none => .no
      | none => .no
  | _ => .no
theorem apF_tuple : ApF K mg aTuple (fun xs H Q => ∃ p ys, xs = [.ref p] ∧ ((SqL K H p ys ∧ ∀ l, H l = none → Q (.ref l) (upd H l (.tup ys))) ∨ (SqT K H p ys ∧ Q (.ref p) H))) := by
  intro M S H vs ws E Q rs r p
  unfold aTuple at p
  split at p
  · rename_i x
    cases r with
    | cons rx rr =>
      cases rr
      cases rx with
      | d rd =>
        cases rd with
        | tup n t => exact ⟨_, _, rfl, .inr ⟨n.sq, p.ret rs (.d (.tup n t))⟩⟩
        | lst n t =>
          have p' : Post K mg M H E (RWK K) Q (match unDs ((_ : List D).map W.d) with
            | some ds => newT ds S
            | none => .no) := p
          rw [unDs_map] at p'
          exact ⟨_, _, rfl, .inl ⟨n.sq, fun l nl => newT_ok rs nl t p'⟩⟩
        | _ => exact (show False from p).elim
      | @t a xs ws n ha t =>
        have p' : Post K mg M H E (RWK K) Q (match unDs ws with
          | some ds => newT ds S
          | none => .no) := p
        cases hu : unDs ws with
        | none => rw [hu] at p'; exact (show False from p').elim
        | some ds =>
          rw [hu] at p'
          exact ⟨_, _, rfl, .inr ⟨SqT.of ha, p'.ret rs (.d (.tup ⟨n, ha⟩ (t.un hu)))⟩⟩
      | @c k a ha =>
        have p' : Post K mg M H E (RWK K) Q (match itW S (.c k) with
          | some ws => match unDs ws with
            | some ds => newT ds S
            | none => .no
          | none => .no) := p
        cases hs : S[k]? with
        | none => rw [itW, hs] at p'; exact (show False from p').elim
        | some c =>
          rw [itW, hs] at p'
          cases c with
          | l ds =>
            dsimp only at p'
            rw [unDs_map] at p'
            obtain ⟨xs, h1, h2⟩ := rs.ok k a _ ha hs
            exact ⟨a, xs, rfl, .inl ⟨SqL.of h1, fun l nl => newT_ok rs nl h2 p'⟩⟩
          | w ws =>
            dsimp only at p'
            cases hu : unDs ws with
            | none => rw [hu] at p'; exact (show False from p').elim
            | some ds =>
              rw [hu] at p'
              obtain ⟨xs, h1, h2⟩ := rs.ok k a _ ha hs
              exact ⟨a, xs, rfl, .inl ⟨SqL.of h1, fun l nl => newT_ok rs nl (h2.un hu) p'⟩⟩
          | _ => exact (show False from p').elim
      | g _ => exact (show False from p).elim
      | j _ => exact (show False from p).elim
      | @s a ns hs =>
        have p' : Post K mg M H E (RWK K) Q (match unDs (ns.map fun i => W.d (.int i)) with
          | some ds => newT ds S
          | none => .no) := p
        cases hu : unDs (ns.map fun i => W.d (.int i)) with
        | none => rw [hu] at p'; exact (show False from p').elim
        | some ds =>
          rw [hu] at p'
          exact ⟨a, _, rfl, .inl ⟨hs.elim (fun z => .inl z.2) .inr, fun l nl => newT_ok rs nl ((rws_ints ns).un hu) p'⟩⟩
  · exact (show False from p).elim
/-- int(..) of a number, a truth; bool(..) -/
def aInt : OA := fun xs S => match xs with
  | [.d (.int i)] => .ok (.d (.int i)) S
  | [.d (.bl b)] => .ok (.d (.int (if b then 1 else 0))) S
  | _ => .no
/-- all, any -/
def unBs : List W → Option (List Bool)
  | [] => some []
  | .d (.bl b) :: ws => (unBs ws).map (b :: ·)
  | _ => none
theorem unBs_map (bs : List Bool) : unBs (bs.map fun b => W.d (.bl b)) = some bs := by
  induction bs with
  | nil => rfl
  | cons b bs ih => show (unBs (bs.map fun b => W.d (.bl b))).map (b :: ·) = _; rw [ih]; rfl
theorem RWs.bs : ∀ {vs : List V} {ws : List W} {bs : List Bool}, RWs K M H vs ws → unBs ws = some bs → vs = bs.map V.bl
  | _, _, bs, .nil, e => by cases e; rfl
  | _, _, bs, .cons (d := w) (ds := ws') h t, e => by
    cases h with
    | d rd =>
      cases rd with
      | bl b =>
        have e' : (unBs ws').map (b :: ·) = some bs := e
        cases q : unBs ws' with
        | none => rw [q] at e'; cases e'
        | some cs =>
          rw [q] at e'
          cases e'
          rw [List.map_cons, t.bs q]
      | _ => cases e
    | _ => cases e
/-- lists alone -/
def liW (S : Store) : W → Option (List W)
  | .d (.lst ds) => some (ds.map .d)
  | .c k => match S[k]? with
    | some (.l ds) => some (ds.map .d)
    | some (.w ws) => some ws
    | _ => none
  | _ => none
theorem liW_ok {S : Store} {v : V} {w : W} {ws : List W} (rs : RS K M S H) (r : RW K M H v w) (h : liW S w = some ws) : ∃ a xs, v = .ref a ∧ H a = some (.lst xs) ∧ RWs K M H xs ws := by
  cases r with
  | d rd =>
    cases rd with
    | lst n t =>
      have h' := Option.some.inj h
      subst h'
      exact ⟨_, _, rfl, n.2, t.ws⟩
    | _ => cases h
  | @c k a ha =>
    cases hs : S[k]? with
    | none => rw [liW, hs] at h; cases h
    | some c =>
      rw [liW, hs] at h
      cases c with
      | l ds =>
        have h' := Option.some.inj h
        subst h'
        obtain ⟨xs, h1, h2⟩ := rs.ok k a _ ha hs
        exact ⟨a, xs, rfl, h1, h2.ws⟩
      | w ds =>
        have h' := Option.some.inj h
        subst h'
        obtain ⟨xs, h1, h2⟩ := rs.ok k a _ ha hs
        exact ⟨a, xs, rfl, h1, h2⟩
      | _ => cases h
  | t _ _ _ => cases h
  | g _ => cases h
  | j _ => cases h
  | s _ => cases h
def aAll : OA := fun xs S => match xs with
  | [x] => match liW S x with
    | some ws => match unBs ws with
      | some bs => .ok (.d (.bl (bs.all id))) S
      | none => .no
    | none => .no
  | _ => .no
def aAny : OA := fun xs S => match xs with
  | [x] => match liW S x with
    | some ws => match unBs ws with
      | some bs => .ok (.d (.bl (bs.any id))) S
      | none => .no
    | none => .no
  | _ => .no
theorem apF_all : ApF K mg aAll (rAll K) := by
  intro M S H vs ws E Q rs r p
  unfold aAll at p
  split at p
  · rename_i x
    cases r with
    | cons rx rr =>
      cases rr
      cases hi : liW S x with
      | none => rw [hi] at p; exact (show False from p).elim
      | some ws =>
        rw [hi] at p
        dsimp only at p
        cases hb : unBs ws with
        | none => rw [hb] at p; exact (show False from p).elim
        | some bs =>
          rw [hb] at p
          obtain ⟨a, xs, rfl, hq, r⟩ := liW_ok rs rx hi
          have e := r.bs hb
          subst e
          exact ⟨a, bs, rfl, .inl (.inl hq), p.ret rs (.d (.bl _))⟩
  · exact (show False from p).elim
theorem apF_any : ApF K mg aAny (rAny K) := by
  intro M S H vs ws E Q rs r p
  unfold aAny at p
  split at p
  · rename_i x
    cases r with
    | cons rx rr =>
      cases rr
      cases hi : liW S x with
      | none => rw [hi] at p; exact (show False from p).elim
      | some ws =>
        rw [hi] at p
        dsimp only at p
        cases hb : unBs ws with
        | none => rw [hb] at p; exact (show False from p).elim
        | some bs =>
          rw [hb] at p
          obtain ⟨a, xs, rfl, hq, r⟩ := liW_ok rs rx hi
          have e := r.bs hb
          subst e
          exact ⟨a, bs, rfl, .inl (.inl hq), p.ret rs (.d (.bl _))⟩
  · exact (show False from p).elim
theorem apF_int : ApF K mg aInt (fun xs H Q => (∃ i, xs = [.int i] ∧ Q (.int i) H) ∨ (∃ b, xs = [.bl b] ∧ Q (.int (if b then 1 else 0)) H)) := by
  intro M S H vs ws E Q rs r p
  unfold aInt at p
  split at p
  · cases r with
    | cons rx rr =>
      cases rr
      exact .inl ⟨_, by rw [rx.i_], p.ret rs (.d (.int _))⟩
  · cases r with
    | cons rx rr =>
      cases rr
      exact .inr ⟨_, by rw [rx.b_], p.ret rs (.d (.int _))⟩
  · exact (show False from p).elim
/-- isinstance(x, T), T a built-in class -/
def isTy (n : String) : D → Bool := fun d => (kitB (tyD d) n).getD false
def knownTy (n : String) : Bool := n == "int" || n == "bool" || n == "str" || n == "tuple" || n == "list"
theorem kit_known {n : String} (h : knownTy n = true) (d : D) : kitB (tyD d) n = some (isTy n d) := by
  unfold knownTy at h
  simp only [Bool.or_eq_true, beq_iff_eq] at h
  unfold isTy
  rcases h with (((h | h) | h) | h) | h
  · subst h; rw [kit_int]; rfl
  · subst h; rw [kit_bool]; rfl
  · subst h; rw [kit_str]; rfl
  · subst h; rw [kit_tup]; rfl
  · subst h; rw [kit_lst]; rfl
theorem RD.ty {v : V} {d : D} (r : RD K M H v d) : TyX K H v (.type (tyD d)) := by
  cases r with
  | non => exact .base .non
  | bl b => exact .base (.bl b)
  | int i => exact .base (.int i)
  | str z => exact .base (.str z)
  | tup n t =>
    exact .base (.tup n.2)
  | lst n t =>
    exact .base (.lst n.2)
  | dct n h => exact .base (.dK h)
def aIsi : OA := fun xs S => match xs with
  | [x, .g (.ty n)] => match rdW S x with
    | some d => if knownTy n then .ok (.d (.bl (isTy n d))) S else .no
    | none => .no
  | _ => .no
theorem rdW_ty {S : Store} {v : V} {w : W} {d : D} (rs : RS K M S H) (r : RW K M H v w) (h : rdW S w = some d) : TyX K H v (.type (tyD d)) := (rdW_rd rs r h).ty
theorem apF_isi : ApF K mg aIsi (rIsi K) := by
  intro M S H vs ws E Q rs r p
  unfold aIsi at p
  split at p
  · rename_i x n
    cases r with
    | cons rx rr =>
      cases rr with
      | cons ry rr =>
        cases rr
        cases ry
        cases hd : rdW S x with
        | none => rw [hd] at p; exact (show False from p).elim
        | some d =>
          rw [hd] at p
          dsimp only at p
          by_cases hk : knownTy n = true
          · rw [if_pos hk] at p
            exact ⟨_, .ty n, _, _, _, rfl, .ty n, rdW_ty rs rx hd, kit_ty (kit_known hk d), p.ret rs (.d (.bl _))⟩
          · rw [if_neg hk] at p
            exact (show False from p).elim
  · exact (show False from p).elim
/-! ### put together -/
def oCatL (b : Bool) : O2 := fun x y S => match liW S x, liW S y with
  | some us, some ws => if us.length + ws.length ≤ 100000 then newW b (us ++ ws) S else .no
  | _, _ => .no
theorem opF_catL {b : Bool} : OpF K mg (oCatL b) rCat := by
  intro M S H v u x y E Q rs rx ry p
  unfold oCatL at p
  cases h1 : liW S x with
  | none => rw [h1] at p; exact (show False from p).elim
  | some us =>
    cases h2 : liW S y with
    | none => rw [h1, h2] at p; exact (show False from p).elim
    | some ws =>
      rw [h1, h2] at p
      dsimp only at p
      by_cases hl : us.length + ws.length ≤ 100000
      · rw [if_pos hl] at p
        obtain ⟨a, xs, rfl, ha, ra⟩ := liW_ok rs rx h1
        obtain ⟨c, zs, rfl, hc, rc⟩ := liW_ok rs ry h2
        exact ⟨a, c, xs, zs, rfl, rfl, ha, hc, sl_of (by rw [ra.length, rc.length]; exact hl), fun q nq => newW_ok rs nq (ra.append rc) p⟩
      · rw [if_neg hl] at p
        exact (show False from p).elim
def oCatT : O2 := fun x y S => match x, y with
  | .d (.tup ds), .d (.tup es) => if ds.length + es.length ≤ 100000 then newT (ds ++ es) S else .no
  | _, _ => .no
theorem opF_catT : OpF K mg oCatT (rCatA K) := by
  intro M S H v u x y E Q rs rx ry p
  unfold oCatT at p
  split at p
  · rename_i ds es
    by_cases hl : ds.length + es.length ≤ 100000
    · rw [if_pos hl] at p
      obtain ⟨a, xs, rfl, ha, ta⟩ := rx.t_
      obtain ⟨c, zs, rfl, hc, tc⟩ := ry.t_
      refine ⟨a, c, xs, zs, rfl, rfl, ha.sq, hc.sq, sl_of (by rw [ta.length, tc.length]; exact hl), fun e => ?_, fun _ e => ?_, fun _ _ q nq => newT_ok rs nq (ta.append tc) p⟩
      · subst e
        cases ta
        exact p.ret rs (.d (.tup hc tc))
      · subst e
        cases tc
        rw [List.append_nil] at p
        exact p.ret rs (.d (.tup ha ta))
    · rw [if_neg hl] at p
      exact (show False from p).elim
  · exact (show False from p).elim
/-- a list, so many times -/
def oRepL (b : Bool) : O2 := fun x y S => match liW S x, y with
  | some us, .d (.int k) => match unDs us with
    | some ds => if -(2 ^ 63) ≤ k ∧ k < 2 ^ 63 ∧ ds.length * k.toNat ≤ 100000 then newL b (List.replicate k.toNat ds).flatten S else .no
    | _ => .no
  | _, _ => .no
/-! ### cut out -/
/-- the cut of plain data, texts aside -/
def cutG {α : Type} (ds : List α) (lo hi : Option Int) : List α := (ds.drop (HT.sIx ds.length 0 lo)).take (HT.sIx ds.length ds.length hi - HT.sIx ds.length 0 lo)
theorem RWs.drop' : ∀ {vs : List V} {ws : List W} (n : Nat), RWs K M H vs ws → RWs K M H (vs.drop n) (ws.drop n)
  | _, _, 0, h => h
  | _, _, _ + 1, .nil => .nil
  | _, _, n + 1, .cons _ t => RWs.drop' n t
theorem RWs.take' : ∀ {vs : List V} {ws : List W} (n : Nat), RWs K M H vs ws → RWs K M H (vs.take n) (ws.take n)
  | _, _, 0, _ => .nil
  | _, _, _ + 1, .nil => .nil
  | _, _, n + 1, .cons h t => .cons h (RWs.take' n t)
theorem RWs.cutV {xs : List V} {ws : List W} (h : RWs K M H xs ws) (lo hi : Option Int) : RWs K M H (L2.cutV xs lo hi) (cutG ws lo hi) := by
  unfold L2.cutV cutG
  rw [h.length]
  exact (h.drop' _).take' _
def cutD (ds : List D) (lo hi : Option Int) : List D := (ds.drop (HT.sIx ds.length 0 lo)).take (HT.sIx ds.length ds.length hi - HT.sIx ds.length 0 lo)
theorem RDs.cutV {xs : List V} {ds : List D} (h : RDs K M H xs ds) (lo hi : Option Int) : RDs K M H (L2.cutV xs lo hi) (cutD ds lo hi) := by
  unfold L2.cutV cutD
  rw [h.length]
  exact (h.drop _).take _
abbrev OS := W → Option Int → Option Int → Store → Rs W
def SlF (K : PySem.W.Frag) (mg : Str → Option Value) (g : OS) (r : V → Option Int → Option Int → Hp → VK → Prop) : Prop := ∀ M S H v x lo hi E Q, RS K M S H → RW K M H v x → Post K mg M H E (RWK K) Q (g x lo hi S) → r v lo hi H Q
def oSlT : OS := fun x lo hi S => match x with
  | .d (.tup ds) => newT (cutD ds lo hi) S
  | _ => .no
def laW (S : Store) : W → Option (List W)
  | .s ns => some (ns.map fun i => .d (.int i))
  | w => liW S w
theorem laW_ok {S : Store} {v : V} {w : W} {ws : List W} (rs : RS K M S H) (r : RW K M H v w) (h : laW S w = some ws) : ∃ a xs, v = .ref a ∧ SqL K H a xs ∧ RWs K M H xs ws := by
  cases r with
  | @s a ns hs =>
    have h' := Option.some.inj h
    subst h'
    exact ⟨a, _, rfl, hs.elim (fun z => .inl z.2) .inr, rws_ints ns⟩
  | d rd =>
    obtain ⟨a, xs, e, q, r⟩ := liW_ok rs (.d rd) h
    exact ⟨a, xs, e, .inl (.inl q), r⟩
  | c ha =>
    obtain ⟨a, xs, e, q, r⟩ := liW_ok rs (.c ha) h
    exact ⟨a, xs, e, .inl (.inl q), r⟩
  | t _ _ _ => cases h
  | g _ => cases h
  | j _ => cases h
def oSlL (b : Bool) : OS := fun x lo hi S => match laW S x with
  | some ws => newW b (cutG ws lo hi) S
  | none => .no
theorem slF_T : SlF K mg oSlT (rSlA K) := by
  intro M S H v x lo hi E Q rs rx p
  unfold oSlT at p
  split at p
  · rename_i ds
    obtain ⟨a, xs, rfl, ha, ta⟩ := rx.t_
    refine ⟨a, xs, rfl, ha.sq, fun e => ?_, fun _ q nq => newT_ok rs nq (ta.cutV lo hi) p⟩
    have hc : cutD ds lo hi = ds := by
      unfold cutD
      rw [← ta.length, e.1, e.2, List.drop_zero, Nat.sub_zero, List.take_of_length_le (by rw [ta.length]; exact Nat.le_refl _)]
    rw [hc] at p
    exact p.ret rs (.d (.tup ha ta))
  · exact (show False from p).elim
theorem slF_L {b : Bool} : SlF K mg (oSlL b) (rSlL K) := by
  intro M S H v x lo hi E Q rs rx p
  unfold oSlL at p
  cases h1 : laW S x with
  | none => rw [h1] at p; exact (show False from p).elim
  | some ws =>
    rw [h1] at p
    obtain ⟨a, xs, rfl, ha, ra⟩ := laW_ok rs rx h1
    exact ⟨a, xs, rfl, ha, fun q nq => newW_ok rs nq (ra.cutV lo hi) p⟩
end
/-- a part of a slice -/
def pNo : Env → Store → Rs (Option Int) := fun _ S => .ok none S
def pSo (fa : Env → Store → Rs W) : Env → Store → Rs (Option Int) := fun ρ S => (fa ρ S).bind fun x S1 => match x with
  | .d (.int i) => .ok (some i) S1
  | _ => .no
abbrev RI : Mp → Hp → Option Int → Option Int → Prop := fun _ _ a b => a = b
section
variable {X : Cx} {E : L2.St → XK} {a b c : Expr} {es : List Expr} {fa fb fc : Env → Store → Rs W} {fs : Env → Store → Rs (List W)} {pos : Pos}
abbrev FO (X : Cx) (E : L2.St → XK) (e : Option Expr) (f : Env → Store → Rs (Option Int)) : Prop := PO X e (tG X.K X.mg E RI f)
theorem fo_no : FO X E none pNo := PO.imp po_none fun σ H Q h => by
  obtain ⟨M, ρ, S, rs, ro, p⟩ := h
  exact Post.ret (R := RI) rs rfl p
theorem fo_so (h : FE X E a fa) : FO X E (some a) (pSo fa) := PO.imp (po_some h) fun σ H Q h => by
  refine tG.bind (R := RWK X.K) (R' := RI) (g := fun _ x S1 => match x with
    | .d (.int i) => .ok (some i) S1
    | _ => .no) h fun v H1 M1 ρ x S1 rs ro r p => ?_
  cases r with
  | d rd =>
    cases rd with
    | int i => exact ⟨i, rfl, Post.ret (R := RI) rs rfl p⟩
    | _ => exact (show False from p).elim
  | _ => exact (show False from p).elim
def fSl (g : OS) (fa : Env → Store → Rs W) (fl fh : Env → Store → Rs (Option Int)) : Env → Store → Rs W := fun ρ S => (fa ρ S).bind fun x S1 => (fl ρ S1).bind fun lo S2 => (fh ρ S2).bind fun hi S3 => g x lo hi S3
theorem f_sl {r : V → Option Int → Option Int → Hp → VK → Prop} {g : OS} {lo hi : Option Expr} {fl fh : Env → Store → Rs (Option Int)} {p2 : Pos} (hr : SlR X r) (hg : SlF X.K X.mg g r) (he : FE X E a fa) (hl : FO X E lo fl) (hh : FO X E hi fh) :
    FE X E (.Subscript a (.Slice lo hi none p2) pos) (fSl g fa fl fh) := by
  refine PE.imp (pe_slice hr he hl hh) ?_
  rintro σ H Q ⟨M, ρ, S, rs, ro, p⟩
  refine ⟨M, ρ, S, rs, ro, Post.map (fun vx H1 q => ?_) (Post.bindE (R := RWK X.K) p)⟩
  obtain ⟨M1, x, S1, e1, rs1, rx, p1⟩ := q
  refine ⟨M1, ρ, S1, rs1, ro.ext e1, Post.map (fun vl H2 q => ?_) (Post.bindE (R := RI) p1)⟩
  obtain ⟨M2, l, S2, e2, rs2, rl, p2⟩ := q
  refine ⟨M2, ρ, S2, rs2, (ro.ext e1).ext e2, Post.map (fun vh H3 q => ?_) (Post.bindE (R := RI) p2)⟩
  obtain ⟨M3, h, S3, e3, rs3, rh, p3⟩ := q
  have rl' : vl = l := rl
  have rh' : vh = h := rh
  subst rl' rh'
  exact hg M3 S3 H3 vx x vl vh (E σ) Q rs3 ((RW.ext e2 rx).ext e3) p3
theorem f_slT {lo hi : Option Expr} {fl fh : Env → Store → Rs (Option Int)} {p2 : Pos} (he : FE X E a fa) (hl : FO X E lo fl) (hh : FO X E hi fh) : FE X E (.Subscript a (.Slice lo hi none p2) pos) (fSl oSlT fa fl fh) := f_sl sl_tupA slF_T he hl hh
theorem f_slL (b : Bool) {lo hi : Option Expr} {fl fh : Env → Store → Rs (Option Int)} {p2 : Pos} (he : FE X E a fa) (hl : FO X E lo fl) (hh : FO X E hi fh) : FE X E (.Subscript a (.Slice lo hi none p2) pos) (fSl (oSlL b) fa fl fh) := f_sl sl_list slF_L he hl hh
theorem f_idx (ha : FE X E a fa) (hb : FE X E b fb) (hs : PlainIx b := by exact fun _ _ => rfl) : FE X E (.Subscript a b pos) (fOp oIx fa fb) := f_ix (ix_list.or ix_tup) opF_ix ha hb hs
theorem f_catL (b' : Bool) (ha : FE X E a fa) (hb : FE X E b fb) : FE X E (.BinOp a .Add b pos) (fOp (oCatL b') fa fb) := f_op op_cat opF_catL ha hb
theorem f_catT (ha : FE X E a fa) (hb : FE X E b fb) : FE X E (.BinOp a .Add b pos) (fOp oCatT fa fb) := f_op op_catA opF_catT ha hb
end
/-! ### a list's methods, on a cell -/
abbrev OM := W → List W → Store → Rs W
def MtF (K : PySem.W.Frag) (mg : Str → Option Value) (T : String) (g : OM) (r : V → List V → Hp → VK → Prop) : Prop := ∀ M S H v x vs ws E Q, RS K M S H → RW K M H v x → RWs K M H vs ws → Post K mg M H E (RWK K) Q (g x ws S) → r v vs H Q
def fMt (k : W → Store → Prop) [∀ x S, Decidable (k x S)] (g : OM) (fa : Env → Store → Rs W) (fs : Env → Store → Rs (List W)) : Env → Store → Rs W := fun ρ S => (fa ρ S).bind fun x S1 => if k x S1 then (fs ρ S1).bind fun xs S2 => g x xs S2 else .no
def isCl (x : W) (S : Store) : Bool := (liW S x).isSome
section
variable {K : PySem.W.Frag} {mg : Str → Option Value} {M : Mp} {H : Hp}
theorem isCl_ty {S : Store} {x : W} {v : V} (rs : RS K M S H) (r : RW K M H v x) (h : isCl x S = true) : tyV K "list" v H := by
  unfold isCl at h
  obtain ⟨ws, hw⟩ := Option.isSome_iff_exists.mp h
  obtain ⟨a, xs, rfl, hq, _⟩ := liW_ok rs r hw
  exact .inl ⟨rfl, xs, .inl (.inl hq)⟩
end
section
variable {X : Cx} {E : L2.St → XK} {a b c : Expr} {es : List Expr} {fa fb fc : Env → Store → Rs W} {fs : Env → Store → Rs (List W)} {pos apos : Pos}
theorem fMt_imp {K : PySem.W.Frag} {mg : Str → Option Value} {g : OM} {r : V → List V → Hp → VK → Prop} (hg : MtF K mg "list" g r) : ∀ σ H Q, tG K mg E (RWK K) (fMt (fun x S => isCl x S = true) g fa fs) σ H Q → tBM K "list" r (tG K mg E (RWK K) fa) (tG K mg E (RWsK K) fs) σ H Q := by
  rintro σ H Q ⟨M, ρ, S, rs, ro, p⟩
  refine ⟨M, ρ, S, rs, ro, Post.map (fun vx H1 q => ?_) (Post.bindE (R := RWK K) p)⟩
  obtain ⟨M1, x, S1, e1, rs1, rx, p1⟩ := q
  by_cases hk : isCl x S1 = true
  · rw [if_pos hk] at p1
    refine ⟨isCl_ty rs1 rx hk, M1, ρ, S1, rs1, ro.ext e1, Post.map (fun vl H2 q => ?_) (Post.bindE (R := RWsK K) p1)⟩
    obtain ⟨M2, l, S2, e2, rs2, rl, p2⟩ := q
    exact hg M2 S2 H2 vx x vl l (E σ) Q rs2 (RW.ext e2 rx) rl p2
  · rw [if_neg hk] at p1
    exact (show False from p1).elim
theorem fMt0_imp {K : PySem.W.Frag} {mg : Str → Option Value} {g : OM} {r : V → List V → Hp → VK → Prop} (hg : MtF K mg "list" g r) : ∀ σ H Q, tG K mg E (RWK K) (fMt (fun x S => isCl x S = true) g fa aNil) σ H Q → tBM0 K "list" r (tG K mg E (RWK K) fa) σ H Q := by
  rintro σ H Q ⟨M, ρ, S, rs, ro, p⟩
  refine ⟨M, ρ, S, rs, ro, Post.map (fun vx H1 q => ?_) (Post.bindE (R := RWK K) p)⟩
  obtain ⟨M1, x, S1, e1, rs1, rx, p1⟩ := q
  by_cases hk : isCl x S1 = true
  · rw [if_pos hk] at p1
    exact ⟨isCl_ty rs1 rx hk, hg M1 S1 H1 vx x [] [] (E σ) Q rs1 rx .nil p1⟩
  · rw [if_neg hk] at p1
    exact (show False from p1).elim
/-- xs.append(e) -/
def mApp : OM := fun x ws S => match x, ws with
  | .c k, [w] => match liW S (.c k) with
    | some us => if us.length < 100000 then .ok (.d .non) (S.set k (reL (us ++ [w]))) else .no
    | none => .no
  | _, _ => .no
theorem mtF_app {K : PySem.W.Frag} {mg : Str → Option Value} : MtF K mg "list" mApp rAppend := by
  intro M S H v x vs ws E Q rs rx r p
  unfold mApp at p
  split at p
  · rename_i k w
    obtain ⟨a, rfl, ha⟩ := rx.c_
    cases r with
    | cons ry rr =>
      cases rr
      cases hs : liW S (.c k) with
      | none => rw [hs] at p; exact (show False from p).elim
      | some us =>
        rw [hs] at p
        dsimp only at p
        by_cases hl : us.length < 100000
        · rw [if_pos hl] at p
          obtain ⟨a', xs, e, h1, h2⟩ := liW_ok rs (.c ha) hs
          cases e
          have hz := h2.length
          refine ⟨a, xs, _, rfl, rfl, h1, sl_lt (by omega), ?_⟩
          obtain ⟨rs2, e2⟩ := rs.reL ha (h2.append (.cons ry .nil))
          exact p M .non _ e2 rs2 (.d .non)
        · rw [if_neg hl] at p
          exact (show False from p).elim
  · exact (show False from p).elim
theorem f_mt {name : Str} {id : String} {r : V → List V → Hp → VK → Prop} {g : OM} (slot : Slot "list" name id) (hty : typeOf (.builtin id) = pure (.type "method_descriptor")) (hm : MtR X id r) (hg : MtF X.K X.mg "list" g r) (ho : FE X E a fa) (ha : FA X E (b :: es) fs)
    (hbase : attributeBase a name X.env (eval a X.env) = eval a X.env := by rfl)
    (hfew : ((backTo pos (starEach (b :: es) X.env)).all (fun x => !x.1) && (backToKw pos (keywordEach [] X.env)).all (fun x => x.1.isSome)
      && decide ((b :: es).length + ([] : List Keyword).length + (if ([] : List Keyword).isEmpty then 0 else 1) < 30)) = true := by rfl)
    (hline : (apos.endLine == pos.line) = true := by rfl) (hs : starEach (b :: es) X.env = (false, eval b X.env) :: starEach es X.env := by rfl) (hplain : (backTo pos (starEach es X.env)).any (·.1) = false := by rfl) :
    FE X E (.Call (.Attribute a name apos) (b :: es) [] pos) (fMt (fun x S => isCl x S = true) g fa fs) := PE.imp (pe_bm PySem.F.plainAttrs_list slot hty hm ho ha hbase hfew hline hs hplain) (fMt_imp hg)
theorem f_mt0 {name : Str} {id : String} {r : V → List V → Hp → VK → Prop} {g : OM} (slot : Slot "list" name id) (hty : typeOf (.builtin id) = pure (.type "method_descriptor")) (hm : MtR X id r) (hg : MtF X.K X.mg "list" g r) (ho : FE X E a fa)
    (hbase : attributeBase a name X.env (eval a X.env) = eval a X.env := by rfl) (hline : (apos.endLine == pos.line) = true := by rfl) :
    FE X E (.Call (.Attribute a name apos) [] [] pos) (fMt (fun x S => isCl x S = true) g fa aNil) := PE.imp (pe_bm0 PySem.F.plainAttrs_list slot hty hm ho hbase hline) (fMt0_imp hg)
/-- xs.extend(ys): ys a list -/
def mExt : OM := fun x ws S => match x, ws with
  | .c k, [y] => match liW S (.c k), liW S y with
    | some us, some es => if us.length + es.length ≤ 100000 then .ok (.d .non) (S.set k (reL (us ++ es))) else .no
    | _, _ => .no
  | _, _ => .no
theorem mtF_ext {K : PySem.W.Frag} {mg : Str → Option Value} : MtF K mg "list" mExt rExtend := by
  intro M S H v x vs ws E Q rs rx r p
  unfold mExt at p
  split at p
  · rename_i k y
    obtain ⟨a, rfl, ha⟩ := rx.c_
    cases r with
    | cons ry rr =>
      cases rr
      cases hs : liW S (.c k) with
      | none => rw [hs] at p; exact (show False from p).elim
      | some us =>
        cases h1 : liW S y with
        | none => rw [hs, h1] at p; exact (show False from p).elim
        | some es =>
          rw [hs, h1] at p
          dsimp only at p
          by_cases hl : us.length + es.length ≤ 100000
          · rw [if_pos hl] at p
            obtain ⟨a', xs, e, g1, g2⟩ := liW_ok rs (.c ha) hs
            cases e
            obtain ⟨b, zs, rfl, hb, rb⟩ := liW_ok rs ry h1
            refine ⟨a, b, xs, zs, rfl, rfl, g1, hb, sl_of (by rw [g2.length, rb.length]; exact hl), ?_⟩
            obtain ⟨rs2, e2⟩ := rs.reL ha (g2.append rb)
            exact p M .non _ e2 rs2 (.d .non)
          · rw [if_neg hl] at p
            exact (show False from p).elim
  · exact (show False from p).elim
/-- xs.pop(), xs.pop(i), of what is there -/
def mPop : OM := fun x ws S => match x, ws with
  | .c k, [] => match liW S (.c k) with
    | some us => match us[us.length - 1]? with
      | some w => .ok w (S.set k (reL us.dropLast))
      | none => .no
    | none => .no
  | .c k, [.d (.int i)] => match liW S (.c k) with
    | some us => if -(2 ^ 63) ≤ i ∧ i < 2 ^ 63 then (match seqIndex? i us.length with
      | some j => match us[j]? with
        | some w => .ok w (S.set k (reL (us.eraseIdx j)))
        | none => .no
      | none => .no) else .no
    | none => .no
  | _, _ => .no
theorem RWs.eraseIdx {K : PySem.W.Frag} {M : Mp} {H : Hp} : ∀ {vs : List V} {ds : List W} (i : Nat), RWs K M H vs ds → RWs K M H (vs.eraseIdx i) (ds.eraseIdx i)
  | _, _, _, .nil => .nil
  | _, _, 0, .cons _ t => t
  | _, _, i + 1, .cons q t => .cons q (RWs.eraseIdx i t)
theorem RWs.dropLast {K : PySem.W.Frag} {M : Mp} {H : Hp} {vs : List V} {ds : List W} (h : RWs K M H vs ds) : RWs K M H vs.dropLast ds.dropLast := by
  rw [List.dropLast_eq_take, List.dropLast_eq_take, h.length]
  exact h.take' _
theorem RDs.eraseIdx {K : PySem.W.Frag} {M : Mp} {H : Hp} : ∀ {vs : List V} {ds : List D} (i : Nat), RDs K M H vs ds → RDs K M H (vs.eraseIdx i) (ds.eraseIdx i)
  | _, _, _, .nil => .nil
  | _, _, 0, .cons _ t => t
  | _, _, i + 1, .cons q t => .cons q (RDs.eraseIdx i t)
theorem RDs.dropLast {K : PySem.W.Frag} {M : Mp} {H : Hp} {vs : List V} {ds : List D} (h : RDs K M H vs ds) : RDs K M H vs.dropLast ds.dropLast := by
  rw [List.dropLast_eq_take, List.dropLast_eq_take, h.length]
  exact h.take _
theorem mtF_popAt {K : PySem.W.Frag} {mg : Str → Option Value} : MtF K mg "list" mPop (fun x vs H Q => (vs = [] → rPop x vs H Q) ∧ (vs ≠ [] → rPopAt x vs H Q)) := by
  intro M S H v x vs ws E Q rs rx r p
  unfold mPop at p
  split at p
  · rename_i k
    cases r
    obtain ⟨a, rfl, ha⟩ := rx.c_
    refine ⟨fun _ => ?_, fun z => absurd rfl z⟩
    cases hs : liW S (.c k) with
    | none => rw [hs] at p; exact (show False from p).elim
    | some us =>
      rw [hs] at p
      dsimp only at p
      cases hd : us[us.length - 1]? with
      | none => rw [hd] at p; exact (show False from p).elim
      | some d =>
        rw [hd] at p
        obtain ⟨a', xs, e, h1, h2⟩ := liW_ok rs (.c ha) hs
        cases e
        obtain ⟨y, hy, ry⟩ := h2.get hd
        rw [← h2.length] at hy
        refine ⟨a, xs, y, rfl, rfl, h1, hy, ?_⟩
        obtain ⟨rs2, e2⟩ := rs.reL ha h2.dropLast
        exact p M y _ e2 rs2 (ry.ext e2)
  · rename_i k i
    obtain ⟨a, rfl, ha⟩ := rx.c_
    cases r with
    | cons ri rr =>
      cases rr
      refine ⟨(fun z => by cases z), fun _ => ?_⟩
      cases hs : liW S (.c k) with
      | none => rw [hs] at p; exact (show False from p).elim
      | some us =>
        rw [hs] at p
        dsimp only at p
        by_cases hb : -(2 ^ 63) ≤ i ∧ i < 2 ^ 63
        · rw [if_pos hb] at p
          cases hj : seqIndex? i us.length with
          | none => rw [hj] at p; exact (show False from p).elim
          | some j =>
            rw [hj] at p
            dsimp only at p
            cases hd : us[j]? with
            | none => rw [hd] at p; exact (show False from p).elim
            | some d =>
              rw [hd] at p
              obtain ⟨a', xs, e, h1, h2⟩ := liW_ok rs (.c ha) hs
              cases e
              obtain ⟨y, hy, ry⟩ := h2.get hd
              refine ⟨a, xs, i, j, y, rfl, by rw [ri.i_], h1, hb.1, hb.2, by rw [h2.length]; exact hj, hy, ?_⟩
              obtain ⟨rs2, e2⟩ := rs.reL ha (h2.eraseIdx j)
              exact p M y _ e2 rs2 (ry.ext e2)
        · rw [if_neg hb] at p
          exact (show False from p).elim
  · exact (show False from p).elim
theorem f_append {b : Expr} {fb : Env → Store → Rs (List W)} (ho : FE X E a fa) (ha : FA X E (b :: es) fb)
    (hbase : attributeBase a "append" X.env (eval a X.env) = eval a X.env := by rfl)
    (hfew : ((backTo pos (starEach (b :: es) X.env)).all (fun x => !x.1) && (backToKw pos (keywordEach [] X.env)).all (fun x => x.1.isSome)
      && decide ((b :: es).length + ([] : List Keyword).length + (if ([] : List Keyword).isEmpty then 0 else 1) < 30)) = true := by rfl)
    (hline : (apos.endLine == pos.line) = true := by rfl) (hs : starEach (b :: es) X.env = (false, eval b X.env) :: starEach es X.env := by rfl) (hplain : (backTo pos (starEach es X.env)).any (·.1) = false := by rfl) :
    FE X E (.Call (.Attribute a "append" apos) (b :: es) [] pos) (fMt (fun x S => isCl x S = true) mApp fa fb) := f_mt PySem.F.slot_list_append PySem.F.type_list_append mt_append mtF_app ho ha hbase hfew hline hs hplain
/-- xs[i] = e -/
def sPut (fo fi fe : Env → Store → Rs W) : Sm := fun ρ S => (fe ρ S).st ρ fun w S1 => (fo ρ S1).st ρ fun o S2 => (fi ρ S2).st ρ fun i S3 => match o, i with
  | .c k, .d (.int z) => match liW S3 (.c k) with
    | some us => match ixN us.length z with
      | some j => .nx ρ (S3.set k (reL (us.set j w)))
      | none => .no
    | none => .no
  | _, _ => .no
theorem fs_put {o i e : Expr} {fo fi fe : Env → Store → Rs W} {tpos : Pos} (he : FE X E e fe) (ho : FE X E o fo) (hi : FE X E i fi)
    (ha : ∀ v, assign (.Subscript o i tpos) X.env v = (do
      let ov ← holding [v] (eval o X.env)
      let iv ← holding [v, ov] (eval i X.env)
      standAt tpos
      holding [v, ov, iv] (setItem ov iv v)
      release [v, ov, iv] []) := by intro _; rfl) (hs : swapsWithSole [.Subscript o i tpos] e pos.line X.env = pure false := by rfl) (hw : swappedStores [.Subscript o i tpos] e X.env = pure none := by rfl)
    (h1 : (assignEach [.Subscript o i tpos] X.env).map (·.2) = [assign (.Subscript o i tpos) X.env] := by rfl) : FS X E (.Assign [.Subscript o i tpos] e pos) (sPut fo fi fe) := by
  refine PS.imp (ps_asg he (pg_sub ho hi set_list ha) hs hw h1) ?_
  rintro Dd σ H ⟨M, ρ, S, rs, ro, p⟩
  refine ⟨M, ρ, S, rs, ro, Post.map (fun vw H1 q => ?_) (PostS.st (R := RWK X.K) ro p)⟩
  obtain ⟨M1, w, S1, e1, rs1, rw1, p1⟩ := q
  have ro1 := ro.ext e1
  refine ⟨M1, ρ, S1, rs1, ro1, Post.map (fun vo H2 q => ?_) (PostS.st (R := RWK X.K) ro1 p1)⟩
  obtain ⟨M2, o', S2, e2, rs2, rw2, p2⟩ := q
  have ro2 := ro1.ext e2
  refine ⟨M2, ρ, S2, rs2, ro2, Post.map (fun vi H3 q => ?_) (PostS.st (R := RWK X.K) ro2 p2)⟩
  obtain ⟨M3, i', S3, e3, rs3, rw3, p3⟩ := q
  have ro3 := ro2.ext e3
  have rwA := (RW.ext e2 rw1).ext e3
  have rwB := RW.ext e3 rw2
  have rwC : RW X.K M3 H3 vi i' := rw3
  split at p3
  · rename_i k z
    obtain ⟨a, rfl, ha⟩ := rwB.c_
    cases hk : liW S3 (.c k) with
    | none => rw [hk] at p3; exact (show False from p3).elim
    | some us =>
      rw [hk] at p3
      dsimp only at p3
      cases hj : ixN us.length z with
      | none => rw [hj] at p3; exact (show False from p3).elim
      | some j =>
        rw [hj] at p3
        obtain ⟨a', xs, e, h1, h2⟩ := liW_ok rs3 (.c ha) hk
        cases e
        refine ⟨a, xs, z, j, rfl, rwC.i_, h1, by rw [h2.length]; exact hj, ?_⟩
        obtain ⟨rs4, e4⟩ := rs3.reL ha (RWs.set rwA j h2)
        exact p3 M3 σ _ e4 rs4 (ro3.ext e4)
  · exact (show False from p3).elim
end
/-! ### what is gone through -/
def iList (fa : Env → Store → Rs W) : Env → Store → Rs Itm := fun ρ S => (fa ρ S).bind fun x S1 => match x with
  | .d (.lst ds) => .ok (ds.map .d, fun _ => True) S1
  | .c k => match S1[k]? with
    | some (.l ds) => .ok (ds.map .d, fun S => S[k]? = some (.l ds)) S1
    | some (.w ws) => .ok (ws, fun S => S[k]? = some (.w ws)) S1
    | _ => .no
  | _ => .no
def iTupF (fa : Env → Store → Rs W) : Env → Store → Rs Itm := fun ρ S => (fa ρ S).bind fun x S1 => match x with
  | .d (.tup ds) => .ok (ds.map .d, fun _ => True) S1
  | .t ws => .ok (ws, fun _ => True) S1
  | _ => .no
def rngW (lo : Int) : Nat → List W
  | 0 => []
  | n + 1 => .d (.int lo) :: rngW (lo + 1) n
theorem rngW_len (lo : Int) (n : Nat) : (rngW lo n).length = n := by
  induction n generalizing lo with
  | zero => rfl
  | succ n ih => rw [rngW, List.length_cons, ih]
theorem rngW_get {lo : Int} {n i : Nat} {w : W} (h : (rngW lo n)[i]? = some w) : i < n ∧ w = .d (.int (lo + i)) := by
  induction n generalizing lo i with
  | zero => simp [rngW] at h
  | succ n ih =>
    rw [rngW] at h
    cases i with
    | zero =>
      have := Option.some.inj h
      subst this
      exact ⟨Nat.succ_pos _, by simp⟩
    | succ i =>
      rw [List.getElem?_cons_succ] at h
      obtain ⟨a, b⟩ := ih h
      refine ⟨Nat.succ_lt_succ a, ?_⟩
      rw [b]
      have : lo + 1 + (i : Int) = lo + ((i + 1 : Nat) : Int) := by omega
      rw [this]
def smallI (i : Int) : Bool := decide (-(2 ^ 62) ≤ i) && decide (i < 2 ^ 62)
def iRange1 (fs : Env → Store → Rs (List W)) : Env → Store → Rs Itm := fun ρ S => (fs ρ S).bind fun xs S1 => match xs with
  | [.d (.int j)] => if smallI j then .ok (rngW 0 j.toNat, fun _ => True) S1 else .no
  | _ => .no
def iRange2 (fs : Env → Store → Rs (List W)) : Env → Store → Rs Itm := fun ρ S => (fs ρ S).bind fun xs S1 => match xs with
  | [.d (.int i), .d (.int j)] => if smallI i && smallI j then .ok (rngW i (j - i).toNat, fun _ => True) S1 else .no
  | _ => .no
/-- pairs of a place and an item -/
def enumW : Nat → List D → List W
  | _, [] => []
  | n, d :: ds => .d (.tup [.int n, d]) :: enumW (n + 1) ds
theorem enumW_len (n : Nat) (ds : List D) : (enumW n ds).length = ds.length := by
  induction ds generalizing n with
  | nil => rfl
  | cons d ds ih => rw [enumW, List.length_cons, List.length_cons, ih]
theorem enumW_get {n i : Nat} {ds : List D} {w : W} (h : (enumW n ds)[i]? = some w) : ∃ d, ds[i]? = some d ∧ w = .d (.tup [.int ((n + i : Nat) : Int), d]) := by
  induction ds generalizing n i with
  | nil => simp [enumW] at h
  | cons d ds ih =>
    rw [enumW] at h
    cases i with
    | zero => exact ⟨d, rfl, (Option.some.inj h).symm⟩
    | succ i =>
      rw [List.getElem?_cons_succ] at h
      obtain ⟨e, h1, h2⟩ := ih h
      exact ⟨e, h1, by rw [h2, show n + 1 + i = n + (i + 1) by omega]⟩
def pairW (n : Nat) : W → W
  | .d d => .d (.tup [.int n, d])
  | w => .t [.d (.int n), w]
def enumG : Nat → List W → List W
  | _, [] => []
  | n, w :: ws => pairW n w :: enumG (n + 1) ws
theorem enumG_len (n : Nat) (ws : List W) : (enumG n ws).length = ws.length := by
  induction ws generalizing n with
  | nil => rfl
  | cons d ds ih => rw [enumG, List.length_cons, List.length_cons, ih]
theorem enumG_get {n i : Nat} {ds : List W} {w : W} (h : (enumG n ds)[i]? = some w) : ∃ d, ds[i]? = some d ∧ w = pairW (n + i) d := by
  induction ds generalizing n i with
  | nil => simp [enumG] at h
  | cons d ds ih =>
    rw [enumG] at h
    cases i with
    | zero => exact ⟨d, rfl, (Option.some.inj h).symm⟩
    | succ i =>
      rw [List.getElem?_cons_succ] at h
      obtain ⟨e, h1, h2⟩ := ih h
      exact ⟨e, h1, by rw [h2, show n + 1 + i = n + (i + 1) by omega]⟩
theorem enumG_ds (n : Nat) (ds : List D) : enumG n (ds.map .d) = enumW n ds := by
  induction ds generalizing n with
  | nil => rfl
  | cons d ds ih => rw [List.map_cons, enumG, enumW, ih]; rfl
def iEnumL (fs : Env → Store → Rs (List W)) : Env → Store → Rs Itm := fun ρ S => (fs ρ S).bind fun xs S1 => match xs with
  | [.d (.lst ds)] => .ok (enumW 0 ds, fun _ => True) S1
  | [.c k] => match S1[k]? with
    | some (.l ds) => .ok (enumW 0 ds, fun S => S[k]? = some (.l ds)) S1
    | some (.w ws) => .ok (enumG 0 ws, fun S => S[k]? = some (.w ws)) S1
    | _ => .no
  | _ => .no
def iEnumT (fs : Env → Store → Rs (List W)) : Env → Store → Rs Itm := fun ρ S => (fs ρ S).bind fun xs S1 => match xs with
  | [.d (.tup ds)] => .ok (enumW 0 ds, fun _ => True) S1
  | _ => .no
def zipW : List D → List D → List W
  | d :: ds, e :: es => .d (.tup [d, e]) :: zipW ds es
  | _, _ => []
section
variable {X : Cx} {E : L2.St → XK} {a b c tg : Expr} {es : List Expr} {fa fb fc : Env → Store → Rs W} {fs : Env → Store → Rs (List W)} {pos apos : Pos}
theorem PI.imp {X : Cx} {tg it : Expr} {t t' : TI} (h : PI X tg it t) (i : ∀ σ H R, t' σ H R → t σ H R) : PI X tg it t' := ⟨fun pins s σ H R I q => h.run pins s σ H R I (i σ H R q)⟩
theorem PostI.bindE {K : PySem.W.Frag} {mg : Str → Option Value} {M : Mp} {H : Hp} {E : XK} {α β : Type} {R : Mp → Hp → β → α → Prop} {R' : It → Hp → Prop} {k : α → Store → Rs Itm} : ∀ {r : Rs α}, PostI K mg M H E R' (r.bind k) →
    Post K mg M H E R (fun b H1 => ∃ M1 a S1, Ext M M1 H H1 ∧ RS K M1 S1 H1 ∧ R M1 H1 b a ∧ PostI K mg M1 H1 E R' (k a S1)) r
  | .ok a S', p => fun M' b H' e rs r => ⟨M', a, S', e, rs, r, by
      cases hk : k a S' with
      | ok x S2 =>
        have p' : PostI K mg M H E R' (k a S') := p
        rw [hk] at p'
        exact fun M2 J H2 e2 => p' M2 J H2 (e.trans e2)
      | ex x S2 =>
        have p' : PostI K mg M H E R' (k a S') := p
        rw [hk] at p'
        exact fun M2 c d H2 e2 => p' M2 c d H2 (e.trans e2)
      | no =>
        have p' : PostI K mg M H E R' (k a S') := p
        rw [hk] at p'
        exact p'⟩
  | .ex e S', p => p
  | .no, p => p
/-- a list that stands -/
theorem it_list {K : PySem.W.Frag} {M : Mp} {H : Hp} {a : Addr} {xs : List V} {ds : List D} (n : NL M H a xs) (t : RDs K M H xs ds) : ItOk K M H (Itl K a) (ds.map .d) (fun _ => True) := by
  intro M1 S1 H1 x rs _
  have n1 := x.nl n
  have q : SqL K H1 a xs := n1.sq
  refine ⟨fun i w hw => ?_, ⟨xs, q, by rw [List.length_map, t.length]; exact Nat.le_refl _⟩⟩
  rw [List.getElem?_map] at hw
  cases hd : ds[i]? with
  | none => rw [hd] at hw; cases hw
  | some d =>
    rw [hd] at hw
    have hw' := Option.some.inj hw
    subst hw'
    obtain ⟨v, hv, rv⟩ := t.get hd
    refine ⟨⟨xs, v, q, hv⟩, fun z H2 y => ?_⟩
    obtain ⟨e1, e2⟩ := y
    subst e1
    have ez := e2 xs q
    rw [hv] at ez
    have ez' := Option.some.inj ez
    subst ez'
    exact ⟨fun a o h => h, .d (rv.ex0 x)⟩
theorem it_cell {K : PySem.W.Frag} {M : Mp} {H : Hp} {a : Addr} {k : Nat} {c : Cell} {ws : List W} (ha : M.ad[k]? = some a) (hc : ∀ {M1 : Mp} {H1 : Hp}, CellOk K M1 H1 a c → ∃ xs, H1 a = some (.lst xs) ∧ RWs K M1 H1 xs ws) : ItOk K M H (Itl K a) ws (fun S => S[k]? = some c) := by
  intro M1 S1 H1 x rs hg
  obtain ⟨more, em⟩ := x.ad
  have ha1 : M1.ad[k]? = some a := by
    rw [em, List.getElem?_append_left (List.getElem?_eq_some_iff.mp ha).1]
    exact ha
  obtain ⟨xs, h1, h2⟩ := hc (rs.ok k a c ha1 hg)
  have q : SqL K H1 a xs := SqL.of h1
  refine ⟨fun i w hw => ?_, ⟨xs, q, by rw [h2.length]; exact Nat.le_refl _⟩⟩
  obtain ⟨v, hv, rv⟩ := h2.get hw
  refine ⟨⟨xs, v, q, hv⟩, fun z H2 y => ?_⟩
  obtain ⟨e1, e2⟩ := y
  subst e1
  have ez := e2 xs q
  rw [hv] at ez
  have ez' := Option.some.inj ez
  subst ez'
  exact ⟨fun a o h => h, rv⟩
theorem fi_list (h : FE X E a fa) : FI X E tg a (iList fa) := by
  refine PI.imp (pi_list h) ?_
  rintro σ H R ⟨M, ρ, S, rs, ro, p⟩
  refine ⟨M, ρ, S, rs, ro, Post.map (fun v H1 q => ?_) (PostI.bindE (R := RWK X.K) p)⟩
  obtain ⟨M1, x, S1, e1, rs1, rx, p1⟩ := q
  cases rx with
  | d rd =>
    cases rd with
    | lst n t => exact ⟨_, rfl, ⟨_, n.sq⟩, p1 M1 _ H1 (Ext.refl _ _) rs1 (it_list n t)⟩
    | _ => exact (show False from p1).elim
  | @c k a' ha =>
    cases hk : S1[k]? with
    | none => dsimp only at p1; rw [hk] at p1; exact (show False from p1).elim
    | some c =>
      dsimp only at p1
      rw [hk] at p1
      cases c with
      | l ds =>
        obtain ⟨xs, h1, h2⟩ := rs1.ok k a' _ ha hk
        exact ⟨a', rfl, ⟨xs, SqL.of h1⟩, p1 M1 _ H1 (Ext.refl _ _) rs1 (it_cell ha fun {M2 H2} z => let ⟨xs, z1, z2⟩ := z; ⟨xs, z1, z2.ws⟩)⟩
      | w ds =>
        obtain ⟨xs, h1, h2⟩ := rs1.ok k a' _ ha hk
        exact ⟨a', rfl, ⟨xs, SqL.of h1⟩, p1 M1 _ H1 (Ext.refl _ _) rs1 (it_cell ha fun {M2 H2} z => let ⟨xs, z1, z2⟩ := z; ⟨xs, z1, z2⟩)⟩
      | _ => exact (show False from p1).elim
  | _ => exact (show False from p1).elim
theorem it_tup {K : PySem.W.Frag} {M : Mp} {H : Hp} {a : Addr} {xs : List V} {ws : List W} (n : NT K M H a xs) (t : RWs K M H xs ws) : ItOk K M H (Itt K a) ws (fun _ => True) := by
  intro M1 S1 H1 x rs _
  have n1 := x.nt n
  have q : SqT K H1 a xs := n1.sq
  refine ⟨fun i w hw => ?_, ⟨xs, q, by rw [t.length]; exact Nat.le_refl _⟩⟩
  obtain ⟨v, hv, rv⟩ := t.get hw
  refine ⟨⟨xs, v, q, hv⟩, fun z H2 y => ?_⟩
  obtain ⟨e1, e2⟩ := y
  subst e1
  have ez := e2 xs q
  rw [hv] at ez
  have ez' := Option.some.inj ez
  subst ez'
  exact ⟨fun a o h => h, rv.ex0 x⟩
theorem fi_tup (h : FE X E a fa) : FI X E tg a (iTupF fa) := by
  refine PI.imp (pi_tup h) ?_
  rintro σ H R ⟨M, ρ, S, rs, ro, p⟩
  refine ⟨M, ρ, S, rs, ro, Post.map (fun v H1 q => ?_) (PostI.bindE (R := RWK X.K) p)⟩
  obtain ⟨M1, x, S1, e1, rs1, rx, p1⟩ := q
  cases rx with
  | d rd =>
    cases rd with
    | tup n t => exact ⟨_, rfl, ⟨_, n.sq⟩, p1 M1 _ H1 (Ext.refl _ _) rs1 (it_tup n t.ws)⟩
    | _ => exact (show False from p1).elim
  | t nl ha t => exact ⟨_, rfl, ⟨_, SqT.of ha⟩, p1 M1 _ H1 (Ext.refl _ _) rs1 (it_tup ⟨nl, ha⟩ t)⟩
  | _ => exact (show False from p1).elim
theorem it_range {K : PySem.W.Frag} {M : Mp} {H : Hp} (lo : Int) (n : Nat) : ItOk K M H (Itr lo n) (rngW lo n) (fun _ => True) := by
  intro M1 S1 H1 x rs _
  refine ⟨fun i w hw => ?_, by rw [rngW_len]; exact Nat.le_refl n⟩
  obtain ⟨hi, e⟩ := rngW_get hw
  subst e
  refine ⟨hi, fun z H2 y => ?_⟩
  obtain ⟨e1, e2⟩ := y
  subst e1 e2
  exact ⟨fun a o h => h, .d (.int _)⟩
theorem smallI_ok {i : Int} (h : smallI i = true) : -(2 ^ 62) ≤ i ∧ i < 2 ^ 62 := by
  unfold smallI at h
  rw [Bool.and_eq_true, decide_eq_true_eq, decide_eq_true_eq] at h
  exact h
theorem fi_range1 {p : Pos} (hg : Gl X "range") (hm : X.mg "range" = none) (ha : FA X E [a] fs) (hs : starEach [a] X.env = [(false, eval a X.env)] := by rfl) : FI X E tg (.Call (.Name "range" p) [a] [] pos) (iRange1 fs) := by
  refine PI.imp (pi_range1 hg hm ha hs) ?_
  rintro σ H R ⟨M, ρ, S, rs, ro, p⟩
  refine ⟨M, ρ, S, rs, ro, Post.map (fun v H1 q => ?_) (PostI.bindE (R := RWsK X.K) p)⟩
  obtain ⟨M1, x, S1, e1, rs1, rx, p1⟩ := q
  split at p1
  · rename_i j
    by_cases hj : smallI j = true
    · rw [if_pos hj] at p1
      cases rx with
      | cons r rr =>
        cases rr
        obtain ⟨h1, h2⟩ := smallI_ok hj
        exact ⟨j, by rw [r.i_], h1, h2, p1 M1 _ H1 (Ext.refl _ _) rs1 (it_range 0 j.toNat)⟩
    · rw [if_neg hj] at p1
      exact (show False from p1).elim
  · exact (show False from p1).elim
theorem fi_range2 {p : Pos} (hg : Gl X "range") (hm : X.mg "range" = none) (ha : FA X E [a, b] fs) (hs : starEach [a, b] X.env = [(false, eval a X.env), (false, eval b X.env)] := by rfl) (hs2 : starEach [b] X.env = [(false, eval b X.env)] := by rfl) : FI X E tg (.Call (.Name "range" p) [a, b] [] pos) (iRange2 fs) := by
  refine PI.imp (pi_range2 hg hm ha hs hs2) ?_
  rintro σ H R ⟨M, ρ, S, rs, ro, p⟩
  refine ⟨M, ρ, S, rs, ro, Post.map (fun v H1 q => ?_) (PostI.bindE (R := RWsK X.K) p)⟩
  obtain ⟨M1, x, S1, e1, rs1, rx, p1⟩ := q
  split at p1
  · rename_i i j
    by_cases hj : (smallI i && smallI j) = true
    · rw [if_pos hj] at p1
      rw [Bool.and_eq_true] at hj
      cases rx with
      | cons r rr =>
        cases rr with
        | cons r2 rr =>
          cases rr
          obtain ⟨h1, h2⟩ := smallI_ok hj.1
          obtain ⟨h3, h4⟩ := smallI_ok hj.2
          exact ⟨i, j, by rw [r.i_, r2.i_], ⟨h1, h2, h3, h4⟩, p1 M1 _ H1 (Ext.refl _ _) rs1 (it_range i (j - i).toNat)⟩
    · rw [if_neg hj] at p1
      exact (show False from p1).elim
  · exact (show False from p1).elim
/-- enumerate: a list -/
theorem it_enumL {K : PySem.W.Frag} {M : Mp} {H : Hp} {a : Addr} {xs : List V} {ds : List D} (n : NL M H a xs) (t : RDs K M H xs ds) : ItOk K M H (Ite K a) (enumW 0 ds) (fun _ => True) := by
  intro M1 S1 H1 x rs _
  have q : SqL K H1 a xs := (x.nl n).sq
  refine ⟨fun i w hw => ?_, ⟨xs, q, by first | exact Nat.le_of_eq (by rw [enumW_len, t.length]) | rw [enumW_len, t.length]⟩⟩
  obtain ⟨d, hd, e⟩ := enumW_get hw
  subst e
  obtain ⟨v, hv, rv⟩ := t.get hd
  refine ⟨⟨xs, v, q, hv⟩, fun z H2 y => ?_⟩
  obtain ⟨T, u, e1, e2, e3, e4⟩ := y
  have eu := e4 xs q
  rw [hv] at eu
  have eu' := Option.some.inj eu
  subst e1 e3 eu'
  have ex := Ext.fz (M := M1) (o := .tup [.int (i : Nat), v]) e2
  refine ⟨fun a o h => ?_, .d (.tup ⟨rs.fresh e2, upd_same⟩ ?_)⟩
  · rw [upd_ne (ne_of_none h e2)]
    exact h
  · rw [Nat.zero_add]
    exact .cons (.int _) (.cons ((rv.ex0 x).ext ex) .nil)
theorem it_enumT {K : PySem.W.Frag} {M : Mp} {H : Hp} {a : Addr} {xs : List V} {ds : List D} (n : NT K M H a xs) (t : RDs K M H xs ds) : ItOk K M H (ItEt K a) (enumW 0 ds) (fun _ => True) := by
  intro M1 S1 H1 x rs _
  have q : SqT K H1 a xs := (x.nt n).sq
  refine ⟨fun i w hw => ?_, ⟨xs, q, by first | exact Nat.le_of_eq (by rw [enumW_len, t.length]) | rw [enumW_len, t.length]⟩⟩
  obtain ⟨d, hd, e⟩ := enumW_get hw
  subst e
  obtain ⟨v, hv, rv⟩ := t.get hd
  refine ⟨⟨xs, v, q, hv⟩, fun z H2 y => ?_⟩
  obtain ⟨T, u, e1, e2, e3, e4⟩ := y
  have eu := e4 xs q
  rw [hv] at eu
  have eu' := Option.some.inj eu
  subst e1 e3 eu'
  have ex := Ext.fz (M := M1) (o := .tup [.int (i : Nat), v]) e2
  refine ⟨fun a o h => ?_, .d (.tup ⟨rs.fresh e2, upd_same⟩ ?_)⟩
  · rw [upd_ne (ne_of_none h e2)]
    exact h
  · rw [Nat.zero_add]
    exact .cons (.int _) (.cons ((rv.ex0 x).ext ex) .nil)
theorem it_enumC {K : PySem.W.Frag} {M : Mp} {H : Hp} {a : Addr} {k : Nat} {c : Cell} {ws : List W} (ha : M.ad[k]? = some a) (hc : ∀ {M1 : Mp} {H1 : Hp}, CellOk K M1 H1 a c → ∃ xs, H1 a = some (.lst xs) ∧ RWs K M1 H1 xs ws) : ItOk K M H (Ite K a) (enumG 0 ws) (fun S => S[k]? = some c) := by
  intro M1 S1 H1 x rs hg
  obtain ⟨more, em⟩ := x.ad
  have ha1 : M1.ad[k]? = some a := by
    rw [em, List.getElem?_append_left (List.getElem?_eq_some_iff.mp ha).1]
    exact ha
  obtain ⟨xs, h1, h2⟩ := hc (rs.ok k a c ha1 hg)
  have q : SqL K H1 a xs := SqL.of h1
  refine ⟨fun i w hw => ?_, ⟨xs, q, by rw [enumG_len, h2.length]; exact Nat.le_refl _⟩⟩
  obtain ⟨d, hd, e⟩ := enumG_get hw
  subst e
  obtain ⟨v, hv, rv⟩ := h2.get hd
  refine ⟨⟨xs, v, q, hv⟩, fun z H2 y => ?_⟩
  obtain ⟨T, u, e1, e2, e3, e4⟩ := y
  have eu := e4 xs q
  rw [hv] at eu
  have eu' := Option.some.inj eu
  subst e1 e3 eu'
  have ex := Ext.fz (M := M1) (o := .tup [.int (i : Nat), v]) e2
  refine ⟨fun a o h => ?_, ?_⟩
  · rw [upd_ne (ne_of_none h e2)]
    exact h
  · rw [Nat.zero_add]
    have r2 := rv.ext ex
    cases d with
    | d d => exact .d (.tup ⟨rs.fresh e2, upd_same⟩ (.cons (.int _) (.cons (by cases r2 with | d r => exact r) .nil)))
    | _ => exact .t (rs.fresh e2) upd_same (.cons (.d (.int _)) (.cons r2 .nil))
theorem fi_enumL {p tpos : Pos} {elts : List Expr} {kk : Nat} (hg : Gl X "enumerate") (hm : X.mg "enumerate" = none) (ha : FA X E [a] fs) (hs : starEach [a] X.env = [(false, eval a X.env)] := by rfl) : FI X E (.Tuple elts kk tpos) (.Call (.Name "enumerate" p) [a] [] pos) (iEnumL fs) := by
  refine PI.imp (pi_enum hg hm ha hs) ?_
  rintro σ H R ⟨M, ρ, S, rs, ro, p⟩
  refine ⟨M, ρ, S, rs, ro, Post.map (fun v H1 q => ?_) (PostI.bindE (R := RWsK X.K) p)⟩
  obtain ⟨M1, x, S1, e1, rs1, rx, p1⟩ := q
  split at p1
  · cases rx with
    | cons r rr =>
      cases rr
      obtain ⟨a, xs, rfl, n, t⟩ := r.l_
      exact ⟨a, xs, rfl, n.sq, p1 M1 _ H1 (Ext.refl _ _) rs1 (it_enumL n t)⟩
  · rename_i k
    cases rx with
    | cons r rr =>
      cases rr
      obtain ⟨a', rfl, ha⟩ := r.c_
      cases hk : S1[k]? with
      | none => rw [hk] at p1; exact (show False from p1).elim
      | some c =>
        rw [hk] at p1
        cases c with
        | l ds =>
          obtain ⟨xs, h1, h2⟩ := rs1.ok k a' _ ha hk
          refine ⟨a', xs, rfl, SqL.of h1, p1 M1 _ H1 (Ext.refl _ _) rs1 ?_⟩
          rw [← enumG_ds]
          exact it_enumC ha fun {M2 H2} z => let ⟨xs, z1, z2⟩ := z; ⟨xs, z1, z2.ws⟩
        | w ds =>
          obtain ⟨xs, h1, h2⟩ := rs1.ok k a' _ ha hk
          exact ⟨a', xs, rfl, SqL.of h1, p1 M1 _ H1 (Ext.refl _ _) rs1 (it_enumC ha fun {M2 H2} z => let ⟨xs, z1, z2⟩ := z; ⟨xs, z1, z2⟩)⟩
        | _ => exact (show False from p1).elim
  · exact (show False from p1).elim
theorem fi_enumT {p tpos : Pos} {elts : List Expr} {kk : Nat} (hg : Gl X "enumerate") (hm : X.mg "enumerate" = none) (ha : FA X E [a] fs) (hs : starEach [a] X.env = [(false, eval a X.env)] := by rfl) : FI X E (.Tuple elts kk tpos) (.Call (.Name "enumerate" p) [a] [] pos) (iEnumT fs) := by
  refine PI.imp (pi_enumT hg hm ha hs) ?_
  rintro σ H R ⟨M, ρ, S, rs, ro, p⟩
  refine ⟨M, ρ, S, rs, ro, Post.map (fun v H1 q => ?_) (PostI.bindE (R := RWsK X.K) p)⟩
  obtain ⟨M1, x, S1, e1, rs1, rx, p1⟩ := q
  split at p1
  · cases rx with
    | cons r rr =>
      cases rr
      obtain ⟨a, xs, rfl, n, t⟩ := r.t_
      exact ⟨a, xs, rfl, n.sq, p1 M1 _ H1 (Ext.refl _ _) rs1 (it_enumT n t)⟩
  · exact (show False from p1).elim
def mPop0 : OM := fun x ws S => match ws with
  | [] => mPop x [] S
  | _ => .no
def mPop1 : OM := fun x ws S => match ws with
  | [i] => mPop x [i] S
  | _ => .no
theorem mtF_pop0 {K : PySem.W.Frag} {mg : Str → Option Value} : MtF K mg "list" mPop0 rPop := by
  intro M S H v x vs ws E Q rs rx r p
  unfold mPop0 at p
  split at p
  · cases r
    exact (mtF_popAt M S H v x [] [] E Q rs rx .nil p).1 rfl
  · exact (show False from p).elim
theorem mtF_pop1 {K : PySem.W.Frag} {mg : Str → Option Value} : MtF K mg "list" mPop1 rPopAt := by
  intro M S H v x vs ws E Q rs rx r p
  unfold mPop1 at p
  split at p
  · refine (mtF_popAt M S H v x vs _ E Q rs rx r p).2 fun z => ?_
    subst z
    cases r
  · exact (show False from p).elim
theorem f_popAt {es : List Expr} {fb : Env → Store → Rs (List W)} (ho : FE X E a fa) (ha : FA X E (b :: es) fb)
    (hbase : attributeBase a "pop" X.env (eval a X.env) = eval a X.env := by rfl)
    (hfew : ((backTo pos (starEach (b :: es) X.env)).all (fun x => !x.1) && (backToKw pos (keywordEach [] X.env)).all (fun x => x.1.isSome)
      && decide ((b :: es).length + ([] : List Keyword).length + (if ([] : List Keyword).isEmpty then 0 else 1) < 30)) = true := by rfl)
    (hline : (apos.endLine == pos.line) = true := by rfl) (hs : starEach (b :: es) X.env = (false, eval b X.env) :: starEach es X.env := by rfl) (hplain : (backTo pos (starEach es X.env)).any (·.1) = false := by rfl) :
    FE X E (.Call (.Attribute a "pop" apos) (b :: es) [] pos) (fMt (fun x S => isCl x S = true) mPop1 fa fb) := f_mt PySem.F.slot_list_pop PySem.F.type_list_pop mt_popAt mtF_pop1 ho ha hbase hfew hline hs hplain
/-- the built-ins by their names -/
theorem f_len {e : Expr} {es : List Expr} {p : Pos} (h1 : Gl X "len") (hm : X.mg "len" = none) (ha : FA X E (e :: es) fs) (he : starEach (e :: es) X.env = (false, eval e X.env) :: starEach es X.env := by rfl) (hpl : (backTo pos (starEach es X.env)).any (·.1) = false := by rfl) : FE X E (.Call (.Name "len" p) (e :: es) [] pos) (fApp aLen fs) :=
  f_callB call_len_seq apF_len h1 hm PySem.boot_len ha (by decide) (by decide) he hpl
theorem f_isi {e : Expr} {es : List Expr} {p : Pos} (h1 : Gl X "isinstance") (hm : X.mg "isinstance" = none) (ha : FA X E (e :: es) fs) (he : starEach (e :: es) X.env = (false, eval e X.env) :: starEach es X.env := by rfl) (hpl : (backTo pos (starEach es X.env)).any (·.1) = false := by rfl) : FE X E (.Call (.Name "isinstance" p) (e :: es) [] pos) (fApp aIsi fs) :=
  f_callB call_isi apF_isi h1 hm (by decide +kernel) ha (by decide) (by decide) he hpl
theorem f_all {e : Expr} {es : List Expr} {p : Pos} (hc : X.calm = true) (h1 : Gl X "all") (hm : X.mg "all" = none) (ha : FA X E (e :: es) fs) (he : starEach (e :: es) X.env = (false, eval e X.env) :: starEach es X.env := by rfl) (hpl : (backTo pos (starEach es X.env)).any (·.1) = false := by rfl) : FE X E (.Call (.Name "all" p) (e :: es) [] pos) (fApp aAll fs) :=
  f_callB (cr_all hc) apF_all h1 hm (by decide +kernel) ha (by decide) (by decide) he hpl
theorem f_any {e : Expr} {es : List Expr} {p : Pos} (hc : X.calm = true) (h1 : Gl X "any") (hm : X.mg "any" = none) (ha : FA X E (e :: es) fs) (he : starEach (e :: es) X.env = (false, eval e X.env) :: starEach es X.env := by rfl) (hpl : (backTo pos (starEach es X.env)).any (·.1) = false := by rfl) : FE X E (.Call (.Name "any" p) (e :: es) [] pos) (fApp aAny fs) :=
  f_callB (cr_any hc) apF_any h1 hm (by decide +kernel) ha (by decide) (by decide) he hpl
theorem f_list (b : Bool) {e : Expr} {es : List Expr} {p : Pos} (h1 : Gl X "list") (hm : X.mg "list" = none) (ha : FA X E (e :: es) fs) (he : starEach (e :: es) X.env = (false, eval e X.env) :: starEach es X.env := by rfl) (hpl : (backTo pos (starEach es X.env)).any (·.1) = false := by rfl) : FE X E (.Call (.Name "list" p) (e :: es) [] pos) (fApp (aList b) fs) :=
  f_callTy call_list_of apF_list h1 hm (by decide +kernel) ha (by decide) (by decide) he hpl
theorem f_tuple {e : Expr} {es : List Expr} {p : Pos} (h1 : Gl X "tuple") (hm : X.mg "tuple" = none) (ha : FA X E (e :: es) fs) (he : starEach (e :: es) X.env = (false, eval e X.env) :: starEach es X.env := by rfl) (hpl : (backTo pos (starEach es X.env)).any (·.1) = false := by rfl) : FE X E (.Call (.Name "tuple" p) (e :: es) [] pos) (fApp aTuple fs) :=
  f_callTy call_tuple_of apF_tuple h1 hm (by decide +kernel) ha (by decide) (by decide) he hpl
theorem f_intc {e : Expr} {es : List Expr} {p : Pos} (h1 : Gl X "int") (hm : X.mg "int" = none) (ha : FA X E (e :: es) fs) (he : starEach (e :: es) X.env = (false, eval e X.env) :: starEach es X.env := by rfl) (hpl : (backTo pos (starEach es X.env)).any (·.1) = false := by rfl) : FE X E (.Call (.Name "int" p) (e :: es) [] pos) (fApp aInt fs) :=
  f_callTy call_int1 apF_int h1 hm (by decide +kernel) ha (by decide) (by decide) he hpl
end
end As

namespace As
open PySem PySem.Spec PyProof.Rows L2
/-- a def as the top has left it -/
def DefAt (K : PySem.W.Frag) (mg : Str → Option Value) (x : Str) (st : Stmt) (ps : List Str) : Prop := ∃ f fd, Fun K x x st f fd ∧ mg x = some (.ref f) ∧ Binds K fd ps []
/-- a def and what it is worth -/
def DefOk (P : Program) (w : World) (K : PySem.W.Frag) (mg : Str → Option Value) (base : Heap) (x : Str) (ps : List Str) (k : Nat) (F : Fn) : Prop :=
  ∃ f fd, mg x = some (.ref f) ∧ PySem.W.keepIn K (.ref f) = true ∧ Binds K fd ps [] ∧ FnG P w K mg base (L2.CX P w) k f fd ps (spF K mg F)
section
variable {P : Program} {w : World} {K : PySem.W.Frag} {mg : Str → Option Value} {base : Heap}
theorem def_ok {x : Str} {st : Stmt} {N ps : List Str} {k : Nat} {b : Bool} {g : Sm} (F : DefAt K mg x st ps) (S : FnScope N ps (defScope st))
    (hb : ∀ (f : Addr) (cdv : Value) (A : Around) (outer : List PySem.Env) (s : Shared) (H : Hp) (E : XK), A.guards = some [] → Room k (A.deeper (envOfC x (defScope st) s.heap.objs.size f cdv)) →
      Takes (cxOf (L2.CX P w) P w K mg base N x (defScope st) f cdv A outer s H E) (fun cls d _ H => E cls d H) → PassesOwn (model P w) (cxOf (L2.CX P w) P w K mg base N x (defScope st) f cdv A outer s H E).A (cxOf (L2.CX P w) P w K mg base N x (defScope st) f cdv A outer s H E).env (cxOf (L2.CX P w) P w K mg base N x (defScope st) f cdv A outer s H E).xe →
      FSs (cxOf (L2.CX P w) P w K mg base N x (defScope st) f cdv A outer s H E) (fun _ => E) (defBody st) g) :
    DefOk P w K mg base x ps (k + 1) (fnF b ps.length N.length g) := by
  obtain ⟨f, fd, h1, h2, h3⟩ := F
  exact ⟨f, fd, h2, h1.kp, h3, fn_ok h1 S (hb f)⟩
theorem DefOk.eq {x : Str} {ps : List Str} {k : Nat} {F G : Fn} (h : DefOk P w K mg base x ps k F) (e : ∀ ws S, G ws S ≠ .no → F ws S = G ws S) : DefOk P w K mg base x ps k G := by
  obtain ⟨f, fd, h1, h2, h3, h4⟩ := h
  exact ⟨f, fd, h1, h2, h3, fn_eq h4 e⟩
end
section
variable {X : Cx} {E : L2.St → XK} {k j : Nat} {ps : List Str} {F : Fn} {x : Str} {p pos : Pos} {e : Expr} {es : List Expr} {fs : Env → Store → Rs (List W)}
theorem f_callD (h : DefOk X.prog X.w X.K X.mg X.base x ps k F) (gd : X.A.guards = some []) (hr : Room j X.A) (hj : k ≤ j) (hg : Gl X x) (tk : Takes X (fun cls d σ H => E σ cls d H)) (ha : FA X E (e :: es) fs) (hdb : (x == ("__debug__" : Str)) = false := by decide)
    (he : starEach (e :: es) X.env = (false, eval e X.env) :: starEach es X.env := by rfl) (hpl : (backTo pos (starEach es X.env)).any (·.1) = false := by rfl) : FE X E (.Call (.Name x p) (e :: es) [] pos) (fApp F fs) := by
  obtain ⟨f, fd, h1, h2, h3, h4⟩ := h
  exact f_call h4 gd (hr.mono hj) hg h1 h2 h3 tk ha hdb he hpl
/-- a whole number of the module's top -/
theorem f_gint {i : Int} (h : ∃ t, X.mg x = some (.int i t)) (hg : Gl X x) (hd : (x == ("__debug__" : Str)) = false := by decide) : FE X E (.Name x pos) (fK (.d (.int i))) := by
  obtain ⟨t, h⟩ := h
  exact f_glob (v := .int i) hg h ⟨t, rfl⟩ (fun _ _ => .d (.int i)) hd
end
theorem hu64 {A : Around} {k : Nat} (hr : Room k A) : A.units + 64 < cLine := hr.units
theorem take_n {X : Cx} : Takes X (fun cls d σ H => EN σ cls d H) := fun _ _ x => by
  obtain ⟨_, _, _, _, _, _, _, _, _, _, _, _, _, _, _, _, z⟩ := x
  exact z.elim
/-! ### the law's own call -/
def spLawF (K : PySem.W.Frag) : Sp := fun vs H Q _ => ∃ (a : Addr) (ns : List Int), vs = [.ref a] ∧ SqL K H a (ns.map V.int) ∧ ns.length ≤ 63 ∧ ∀ H', Q (.bl true) H'
theorem law_fn {P : Program} {w : World} {K : PySem.W.Frag} {mg : Str → Option Value} {base : Heap} {k : Nat} {f : Addr} {fd : FuncData} {ps : List Str} {F : Fn} (h : FnG P w K mg base (L2.CX P w) k f fd ps (spF K mg F)) (hp : ps.length = 1)
    (e : ∀ ns : List Int, ns.length ≤ 63 → ∃ S', F [.s ns] [] = .ok (.d (.bl true)) S') : FnG P w K mg base (L2.CX P w) k f fd ps (spLawF K) := by
  refine ⟨fun vs H Q E hs => ?_, fun A outer s H args us vs Q E gd hr e0 hb hv hs => ?_⟩
  · obtain ⟨a, ns, rfl, _⟩ := hs
    exact hp.symm
  · refine h.run A outer s H args us vs Q E gd hr e0 hb hv ?_
    obtain ⟨a, ns, rfl, hq, hl, q⟩ := hs
    obtain ⟨S', eS⟩ := e ns hl
    refine ⟨⟨fun _ => False, []⟩, [], [.s ns], ⟨List.nodup_nil, (fun a h => by cases h), rfl, (fun k a c h => by simp at h), fun a h => h.elim⟩, .cons (.s ?_) .nil, ?_⟩
    · rcases hq with hq | hq
      · exact .inl ⟨fun z => z.elim (fun z => by cases z) fun z => z, hq⟩
      · exact .inr hq
    · rw [eS]
      intro M' v H' _ _ r
      have := RW.b_ r
      subst this
      exact q H'
theorem cx_no {P : Program} {w : World} {out : List PySem.Env} {H : Hp} {s s' : Shared} {e : Value} (h : L2.CX P w out H s (fun _ _ _ => False) e s') : False := by
  obtain ⟨_, _, _, _, _, _, _, _, _, _, _, _, z⟩ := h
  exact z
end As

namespace As
open PySem PySem.Spec PyProof.Rows L2
section
variable {K : PySem.W.Frag} {mg : Str → Option Value} {M : Mp} {H : Hp}
def uNeg : O1 := fun x S => match x with
  | .d (.int i) => .ok (.d (.int (-i))) S
  | _ => .no
theorem unF_neg : UnF K mg uNeg (rU fun i => .int (-i)) := by
  intro M S H v x E Q rs rx p
  unfold uNeg at p
  split at p
  · exact ⟨_, rx.i_, p.ret rs (.d (.int _))⟩
  · exact (show False from p).elim
def fDct : Env → Store → Rs W := fun _ S => .ok (.d .dct) S
def uIsN : O1 := fun x S => match x with
  | .d .non => .ok (.d (.bl true)) S
  | .d _ => .ok (.d (.bl false)) S
  | .c _ => .ok (.d (.bl false)) S
  | .t _ => .ok (.d (.bl false)) S
  | _ => .no
def uNotN : O1 := fun x S => match x with
  | .d .non => .ok (.d (.bl false)) S
  | .d _ => .ok (.d (.bl true)) S
  | .c _ => .ok (.d (.bl true)) S
  | .t _ => .ok (.d (.bl true)) S
  | _ => .no
def rI1 (v : V) (H : Hp) (Q : VK) : Prop := Q (.bl (decide (v = .non))) H
def rN1 (v : V) (H : Hp) (Q : VK) : Prop := Q (.bl (!decide (v = .non))) H
theorem unF_isN : UnF K mg uIsN rI1 := by
  intro M S H v x E Q rs rx p
  unfold rI1
  cases rx with
  | d rd => cases rd <;> exact Post.ret (R := RWK K) rs (.d (.bl _)) p
  | c _ => exact Post.ret (R := RWK K) rs (.d (.bl _)) p
  | t _ _ _ => exact Post.ret (R := RWK K) rs (.d (.bl _)) p
  | _ => exact (show False from p).elim
theorem unF_notN : UnF K mg uNotN rN1 := by
  intro M S H v x E Q rs rx p
  unfold rN1
  cases rx with
  | d rd => cases rd <;> exact Post.ret (R := RWK K) rs (.d (.bl _)) p
  | c _ => exact Post.ret (R := RWK K) rs (.d (.bl _)) p
  | t _ _ _ => exact Post.ret (R := RWK K) rs (.d (.bl _)) p
  | _ => exact (show False from p).elim
theorem opF_repL {b : Bool} : OpF K mg (oRepL b) rRep := by
  intro M S H v u x y E Q rs rx ry p
  unfold oRepL at p
  split at p
  · rename_i us k h1
    cases h2 : unDs us with
    | none => rw [h2] at p; exact (show False from p).elim
    | some ds =>
      rw [h2] at p
      dsimp only at p
      by_cases hc : -(2 ^ 63) ≤ k ∧ k < 2 ^ 63 ∧ ds.length * k.toNat ≤ 100000
      · rw [if_pos hc] at p
        obtain ⟨a, xs, rfl, ha, ra⟩ := liW_ok rs rx h1
        have ta := ra.un h2
        exact ⟨a, k, xs, rfl, ry.i_, ha, hc.1, hc.2.1, sl_of (by rw [ta.length]; exact hc.2.2), fun q nq => newL_ok rs nq (ta.flat _) p⟩
      · rw [if_neg hc] at p
        exact (show False from p).elim
  · exact (show False from p).elim
def uRevT : O1 := fun x S => match x with
  | .d (.tup ds) => newT ds.reverse S
  | _ => .no
/-- truth of a value -/
def truD : D → Bool
  | .non => false
  | .bl b => b
  | .int i => i != 0
  | .str z => ((z.length : Int) != 0)
  | .tup ds => !ds.isEmpty
  | .lst ds => !ds.isEmpty
  | .dct => false
def smallD : D → Bool
  | .str z => decide (z.length ≤ 100000)
  | _ => true
def fTru (fa : Env → Store → Rs W) : Env → Store → Rs Bool := fun ρ S => (fa ρ S).bind fun x S1 => match rdW S1 x with
  | some d => if smallD d then .ok (truD d) S1 else .no
  | none => .no
theorem emp_of {vs : List V} {ds : List D} (t : RDs K M H vs ds) : vs.isEmpty = ds.isEmpty := by
  cases t <;> rfl
theorem tru_of {S : Store} {v : V} {x : W} {d : D} (rs : RS K M S H) (r : RW K M H v x) (h : rdW S x = some d) (hs : smallD d = true) : TruV K v H (truD d) := by
  cases rdW_rd rs r h with
  | non => rfl
  | bl b => rfl
  | int i => rfl
  | str z => exact ⟨sl_of (of_decide_eq_true hs), rfl⟩
  | tup n t => exact .inr (.inl ⟨_, n.sq, by rw [emp_of t]; rfl⟩)
  | lst n t => exact .inl ⟨_, n.sq, by rw [emp_of t]; rfl⟩
  | dct n hd => exact .inr (.inr ⟨[], hd, rfl⟩)
end
section
variable {X : Cx} {E : L2.St → XK} {a b c : Expr} {es : List Expr} {fa fb fc : Env → Store → Rs W} {fs : Env → Store → Rs (List W)} {pos apos : Pos}
theorem f_neg (ha : FE X E a fa) : FE X E (.UnaryOp .USub a pos) (fUn uNeg fa) := f_un un_neg unF_neg ha
theorem f_repL (b' : Bool) (ha : FE X E a fa) (hb : FE X E b fb) : FE X E (.BinOp a .Mult b pos) (fOp (oRepL b') fa fb) := f_op op_rep opF_repL ha hb
theorem f_dct : FE X E (.Dict [] [] pos) fDct := by
  refine PE.imp pe_dnewK ?_
  rintro σ H Q ⟨M, ρ, S, rs, ro, p⟩ q nq
  exact p M (.ref q) _ (Ext.fz nq) (rs.fz nq) (.d (.dct (rs.fresh nq) upd_same))
theorem f_isN {j : Nat} {p2 : Pos} (ha : FE X E a fa) : FE X E (.Compare a [.Is] [.Constant .none j p2] pos) (fUn uIsN fa) := PE.imp (pe_cmp (pc_isN ha)) fun σ H Q h => fUn_imp (K := X.K) (mg := X.mg) (r := rI1) unF_isN σ H Q h
theorem f_notN {j : Nat} {p2 : Pos} (ha : FE X E a fa) : FE X E (.Compare a [.IsNot] [.Constant .none j p2] pos) (fUn uNotN fa) := PE.imp (pe_cmp (pc_notN ha)) fun σ H Q h => fUn_imp (K := X.K) (mg := X.mg) (r := rN1) unF_notN σ H Q h
theorem ft_isN {j : Nat} {p2 : Pos} (ha : FE X E a fa) : FT X E (.Compare a [.Is] [.Constant .none j p2] pos) (fB (fUn uIsN fa)) := PT.imp (pt_cmp (pc_isN ha)) fun σ H Q h => fUn_imp (K := X.K) (mg := X.mg) (r := rI1) unF_isN σ H _ (fB_imp σ H Q h)
theorem ft_notN {j : Nat} {p2 : Pos} (ha : FE X E a fa) : FT X E (.Compare a [.IsNot] [.Constant .none j p2] pos) (fB (fUn uNotN fa)) := PT.imp (pt_cmp (pc_notN ha)) fun σ H Q h => fUn_imp (K := X.K) (mg := X.mg) (r := rN1) unF_notN σ H _ (fB_imp σ H Q h)
theorem ft_tru (ha : FE X E a fa) (he : ∀ whole, isTrue a X.env whole = (do let v ← whole; standAt a.pos; holding [v] (truthy v)) := by intro _; rfl) : FT X E a (fTru fa) := by
  refine PT.imp (pt_truth ha he) ?_
  intro σ H Q h
  refine tG.bind (R := RWK X.K) (R' := RB) (g := fun _ x S1 => match rdW S1 x with
    | some d => if smallD d then .ok (truD d) S1 else .no
    | none => .no) h fun v H1 M1 ρ x S1 rs ro r p => ?_
  cases hd : rdW S1 x with
  | none => rw [hd] at p; exact (show False from p).elim
  | some d =>
    rw [hd] at p
    dsimp only at p
    by_cases hs : smallD d = true
    · rw [if_pos hs] at p
      exact ⟨truD d, tru_of rs r hd hs, Post.ret (R := RB) rs rfl p⟩
    · rw [if_neg hs] at p
      exact (show False from p).elim
theorem f_revT {k : Nat} {p1 p2 p3 : Pos} (ha : FE X E a fa) : FE X E (.Subscript a (.Slice none none (some (.UnaryOp .USub (.Constant (.int 1) k p1) p2)) p3) pos) (fUn uRevT fa) := by
  refine PE.imp (pe_revT ha) ?_
  intro σ H Q h
  refine tG.bind (R := RWK X.K) (R' := RWK X.K) (g := fun _ x S1 => uRevT x S1) h fun v H1 M1 ρ x S1 rs ro r p => ?_
  unfold uRevT at p
  split at p
  · obtain ⟨q, xs, rfl, n, t⟩ := RW.t_ r
    exact ⟨q, xs, rfl, n.sq, fun z nz => newT_ok rs nz t.rev p⟩
  · exact (show False from p).elim
theorem f_extend {es : List Expr} {fb : Env → Store → Rs (List W)} (ho : FE X E a fa) (ha : FA X E (b :: es) fb)
    (hbase : attributeBase a "extend" X.env (eval a X.env) = eval a X.env := by rfl)
    (hfew : ((backTo pos (starEach (b :: es) X.env)).all (fun x => !x.1) && (backToKw pos (keywordEach [] X.env)).all (fun x => x.1.isSome)
      && decide ((b :: es).length + ([] : List Keyword).length + (if ([] : List Keyword).isEmpty then 0 else 1) < 30)) = true := by rfl)
    (hline : (apos.endLine == pos.line) = true := by rfl) (hs : starEach (b :: es) X.env = (false, eval b X.env) :: starEach es X.env := by rfl) (hplain : (backTo pos (starEach es X.env)).any (·.1) = false := by rfl) :
    FE X E (.Call (.Attribute a "extend" apos) (b :: es) [] pos) (fMt (fun x S => isCl x S = true) mExt fa fb) := f_mt PySem.F.slot_list_extend PySem.F.type_list_extend mt_extend mtF_ext ho ha hbase hfew hline hs hplain
end
end As

/-! repr of plain data, empty dicts among them -/
namespace As
open PySem PySem.Spec PyProof.Rows L2
def showD (d : D) : Bool := (pd d).showable && decide ((pd d).shown.length ≤ 1000000) && decide ((pd d).depth ≤ 50)
section
variable {X : Cx} {pins : List (Addr × Obj)} {σ : L2.St} {H : Hp} {s : Shared} {M : Mp}
theorem dct_at {a : Addr} (I : Inv X pins σ H s) (h : H a = some (.dK [])) : (a == sysModules) = false ∧ ∃ o ep, s.heap.get? a = some o ∧ o.cls = .type "dict" ∧ o.data = .dict #[] ep := by
  obtain ⟨_, hs, vs, kv, o, es, ep, e, ex, hd, _, pr, _⟩ := I.hok a _ h
  cases kv
  obtain ⟨l⟩ := es
  cases l with
  | nil => exact ⟨hs, o, ep, e, ex.1, hd⟩
  | cons x l => cases pr
mutual
theorem RD.rpK (I : Inv X pins σ H s) : ∀ {v : V} {d : D} {u : Value}, RD X.K M H v d → RelV v u → (pd d).showable = true → (pd d).shown.length ≤ sizeLine →
    (∃ as, Reads s.heap u (pd d) as) ∧ ∃ bs, ReadAtMost s.heap (pd d).depth bs ∧ ReprK X.prog X.w bs s.heap (pd d).depth u (pd d).shown
  | _, _, _, .non, r, _, _ => by
    cases r
    rw [pd]
    exact ⟨⟨_, .none⟩, [], (fun _ z => nomatch z), by simp only [PyData.shown]; exact .of_is .none _ _ _⟩
  | _, _, _, .bl b, r, _, _ => by
    cases r
    rw [pd]
    exact ⟨⟨_, .bool b⟩, [], (fun _ z => nomatch z), by simp only [PyData.shown]; exact .of_is (.bool b) _ _ _⟩
  | _, _, _, .int i, r, hs, _ => by
    obtain ⟨t, rfl⟩ := r
    rw [pd] at hs ⊢
    exact ⟨⟨_, .int i t⟩, [], (fun _ z => nomatch z), by simp only [PyData.shown]; exact .of_is (.int t (by simpa [PyData.showable] using hs)) _ _ _⟩
  | _, _, _, .str z, r, _, hz => by
    obtain ⟨t, rfl⟩ := r
    rw [pd] at hz ⊢
    exact ⟨⟨_, .str z t⟩, [], (fun _ z => nomatch z), by simp only [PyData.shown]; exact .of_is (.str z t (by simpa only [PyData.shown] using hz)) _ _ _⟩
  | _, _, _, .lst (a := a) (xs := xs) (ds := ds) n t, r, hs, hz => by
    cases r
    rw [pd] at hs hz ⊢
    obtain ⟨its, rv, ⟨o, k, e, c, dn, dt⟩, _⟩ := I.list (n.sq (K := X.K))
    have hs2 : PyData.showableAll (pds ds) = true := by simpa [PyData.showable] using hs
    have hz2 : (listText (PyData.shownAll (pds ds))).length ≤ sizeLine := by simpa only [PyData.shown] using hz
    obtain ⟨⟨as, ra⟩, bs, hb, hk⟩ := RDs.rpK I t rv hs2 fun x hx => Nat.le_trans (listText_mem_le hx) hz2
    have rd : Reads s.heap (.ref a) (.list (pds ds)) (a :: as) := .list e c dt (by simpa using ra)
    have out : a ∉ bs := not_mem_of_deeper rd (by simp only [PyData.depth]; omega) hb
    refine ⟨⟨_, rd⟩, a :: bs, ReadAtMost.cons rd (by simp only [PyData.depth]; omega) hb, ?_⟩
    simp only [PyData.depth, PyData.shown]
    cases its with
    | nil =>
      cases rv
      cases t
      rw [pds]
      simp only [PyData.shownAll, listText_nil]
      exact ReprK.listEmpty e c dt
    | cons y ys => exact ReprK.list e c dt out (by simpa using hk.length_eq) (fun i z ez => hk.item i z (by simpa using ez))
  | _, _, _, .tup (a := a) (xs := xs) (ds := ds) n t, r, hs, hz => by
    cases r
    rw [pd] at hs hz ⊢
    obtain ⟨its, rv, ⟨o, e, c, k, dt⟩, _⟩ := I.tuple n.sq
    have hs2 : PyData.showableAll (pds ds) = true := by simpa [PyData.showable] using hs
    have hz2 : (tupleText (PyData.shownAll (pds ds))).length ≤ sizeLine := by simpa only [PyData.shown] using hz
    obtain ⟨⟨as, ra⟩, bs, hb, hk⟩ := RDs.rpK I t rv hs2 fun x hx => Nat.le_trans (tupleText_mem_le hx) hz2
    have rd : Reads s.heap (.ref a) (.tuple (pds ds)) as := .tuple e c dt (by simpa using ra)
    have out : a ∉ bs := not_mem_of_deeper rd (by simp only [PyData.depth]; omega) hb
    refine ⟨⟨_, rd⟩, a :: bs, ReadAtMost.cons rd (by simp only [PyData.depth]; omega) hb, ?_⟩
    simp only [PyData.depth, PyData.shown]
    exact ReprK.tuple e c dt out (by simpa using hk)
  | _, _, _, .dct (a := a) n h, r, _, _ => by
    cases r
    rw [pd]
    obtain ⟨hsys, o, ep, e, c, dt⟩ := dct_at I h
    have rd : Reads s.heap (.ref a) (.dict []) (a :: [] ++ []) := .dict e c dt .nil .nil
    refine ⟨⟨_, rd⟩, a :: [], ReadAtMost.cons rd (n := 0) (Nat.zero_le _) (fun _ z => nomatch z), ?_⟩
    simp only [PyData.depth, PyData.shown]
    exact ReprK.dict e c dt hsys (fun z => nomatch z) .nil
theorem RDs.rpK (I : Inv X pins σ H s) : ∀ {vs : List V} {ds : List D} {us : List Value}, RDs X.K M H vs ds → Vals vs us → PyData.showableAll (pds ds) = true → (∀ t ∈ PyData.shownAll (pds ds), t.length ≤ sizeLine) →
    (∃ as, ReadsAll s.heap us (pds ds) as) ∧ ∃ bs, ReadAtMost s.heap (PyData.depthAll (pds ds)) bs ∧ ReprAllK X.prog X.w bs s.heap (PyData.depthAll (pds ds)) us (PyData.shownAll (pds ds))
  | _, _, _, .nil, r, _, _ => by
    cases r
    rw [pds]
    exact ⟨⟨_, .nil⟩, [], (fun _ z => nomatch z), by simp only [PyData.shownAll]; exact .nil⟩
  | _, _, _, .cons (d := d) (ds := ds) h t, r, hs, hz => by
    cases r with
    | cons r rr =>
      rw [pds] at hs hz ⊢
      rw [PyData.showableAll, Bool.and_eq_true] at hs
      obtain ⟨⟨a1, q1⟩, b1, hb1, k1⟩ := RD.rpK I h r hs.1 (hz _ (by simp only [PyData.shownAll]; exact List.mem_cons_self ..))
      obtain ⟨⟨a2, q2⟩, b2, hb2, k2⟩ := RDs.rpK I t rr hs.2 fun x hx => hz x (by simp only [PyData.shownAll]; exact List.mem_cons_of_mem _ hx)
      simp only [PyData.depthAll, PyData.shownAll]
      exact ⟨⟨_, .cons q1 q2⟩, b1 ++ b2, (hb1.mono (Nat.le_max_left _ _)).append (hb2.mono (Nat.le_max_right _ _)),
        .cons ((k1.more fun b hb => List.mem_append_left _ hb).level_le (Nat.le_max_left _ _)) (k2.more_le (fun b hb => List.mem_append_right _ hb) (Nat.le_max_right _ _))⟩
end
def aRepr : OA := fun xs S => match xs with
  | [x] => match rdW S x with
    | some d => if showD d then .ok (.d (.str (pd d).shown)) S else .no
    | none => .no
  | _ => .no
def rRepr (K : PySem.W.Frag) : List V → Hp → VK → Prop := fun xs H Q => ∃ (x : V) (d : D) (M : Mp), xs = [x] ∧ RD K M H x d ∧ showD d = true ∧ Q (.str (pd d).shown) H
theorem showD_ok {d : D} (h : showD d = true) : (pd d).showable = true ∧ (pd d).shown.length ≤ sizeLine ∧ (pd d).depth ≤ 50 := by
  unfold showD at h
  rw [Bool.and_eq_true, Bool.and_eq_true, decide_eq_true_eq, decide_eq_true_eq] at h
  exact ⟨h.1.1, Nat.le_trans h.1.2 (by decide), h.2⟩
theorem cr_repr (gd : X.A.guards = some []) (hu : X.A.units + 64 < cLine) : CallR X (.builtin "repr") (rRepr X.K) := by
  intro pins s σ H xs us Q I r h
  obtain ⟨x, d, M, rfl, rd, hs, q⟩ := h
  obtain ⟨h1, h2, h3⟩ := showD_ok hs
  cases r with
  | cons rx rr =>
    cases rr
    have fin : ∀ h' u tk, (∀ b o, s.heap.get? b = some o → h'.get? b = some o) → EP X pins σ Q (.str (pd d).shown u) { s with heap := h', toks := tk } := fun h' u tk hk => ⟨.str (pd d).shown, H, I.kept (t' := tk) hk, ⟨u, rfl⟩, q⟩
    cases rd with
    | non => cases rx; exact PySem.P.repr_of_none (by rw [pd] at fin; simp only [PyData.shown] at fin; exact fin s.heap s.toks (s.toks + 1) fun _ _ e => e)
    | bl b =>
      cases rx
      rw [pd] at fin
      simp only [PyData.shown] at fin
      exact PySem.P.repr_of_bool (fin s.heap s.toks (s.toks + 1) fun _ _ e => e)
    | int i =>
      obtain ⟨t, rfl⟩ := rx
      rw [pd] at fin h1
      simp only [PyData.shown] at fin
      exact PySem.P.repr_of_int (by simpa [PyData.showable] using h1) (fin s.heap s.toks (s.toks + 1) fun _ _ e => e)
    | str z =>
      obtain ⟨t, rfl⟩ := rx
      rw [pd] at fin h2
      simp only [PyData.shown] at fin h2
      exact PySem.P.repr_of_str (fin s.heap s.toks (s.toks + 1) fun _ _ e => e) h2
    | @lst a xs ds n t =>
      cases rx
      rw [pd] at fin h1 h2 h3
      obtain ⟨its, rv, ⟨o, k, e, c, dn, dt⟩, _⟩ := I.list (n.sq (K := X.K))
      have hs2 : PyData.showableAll (pds ds) = true := by simpa [PyData.showable] using h1
      have hz2 : (listText (PyData.shownAll (pds ds))).length ≤ sizeLine := by simpa only [PyData.shown] using h2
      obtain ⟨⟨as, ra⟩, bs, hb, hk⟩ := RDs.rpK I t rv hs2 fun x hx => Nat.le_trans (listText_mem_le hx) hz2
      have rdd : Reads s.heap (.ref a) (.list (pds ds)) (a :: as) := .list e c dt (by simpa using ra)
      have out : a ∉ bs := not_mem_of_deeper rdd (by simp only [PyData.depth]; omega) hb
      simp only [PyData.depth] at h3
      simp only [PyData.shown] at fin
      refine call_repr_slot (by omega) (show s.TypeIs (.ref a) "list" from ⟨o, e, c⟩) F.slot_list_repr.toG ?_
      cases its with
      | nil =>
        cases rv
        cases t
        rw [pds] at fin
        simp only [PyData.shownAll, listText_nil] at fin
        exact call_list_repr_empty ⟨o, e, c⟩ e dt ⟨_, _, rfl, fin s.heap _ _ fun _ _ z => z⟩
      | cons y ys => exact call_list_reprK e c dt out (by simpa using hk.length_eq) (fun i z ez => hk.item i z (by simpa using ez)) gd (fun b _ => Clear.nil b) (by show X.A.units + 1 + _ < cLine; omega) (fun _ _ z => z) (fun h' u tk hk => ⟨_, _, rfl, fin h' u tk hk⟩) hz2
    | @tup a xs ds n t =>
      cases rx
      rw [pd] at fin h1 h2 h3
      obtain ⟨its, rv, ⟨o, e, c, k, dt⟩, _⟩ := I.tuple n.sq
      have hs2 : PyData.showableAll (pds ds) = true := by simpa [PyData.showable] using h1
      have hz2 : (tupleText (PyData.shownAll (pds ds))).length ≤ sizeLine := by simpa only [PyData.shown] using h2
      obtain ⟨⟨as, ra⟩, bs, hb, hk⟩ := RDs.rpK I t rv hs2 fun x hx => Nat.le_trans (tupleText_mem_le hx) hz2
      have rdd : Reads s.heap (.ref a) (.tuple (pds ds)) as := .tuple e c dt (by simpa using ra)
      have out : a ∉ bs := not_mem_of_deeper rdd (by simp only [PyData.depth]; omega) hb
      simp only [PyData.depth] at h3
      simp only [PyData.shown] at fin
      exact call_repr_slot (by omega) (show s.TypeIs (.ref a) "tuple" from ⟨o, e, c⟩) F.slot_tuple_repr (call_tuple_reprK e c dt out (by simpa using hk) gd (fun b _ => Clear.nil b) (by show X.A.units + 1 + _ < cLine; omega) (fun _ _ z => z) (fun h' u tk hk => ⟨_, _, rfl, fin h' u tk hk⟩) hz2)
    | @dct a n hd =>
      cases rx
      rw [pd] at fin h1 h2 h3
      obtain ⟨hsys, o, ep, e, c, dt⟩ := dct_at I hd
      simp only [PyData.shown] at fin h2
      exact call_repr_slot (by omega) (show s.TypeIs (.ref a) "dict" from ⟨o, e, c⟩) F.slot_dict_repr (call_dict_reprK (d := 0) (as := []) e c dt hsys (fun z => nomatch z) .nil gd (fun b _ => Clear.nil b) (by show X.A.units + 1 + _ < cLine; omega) (fun _ _ z => z) (fun h' u tk hk => ⟨_, _, rfl, fin h' u tk hk⟩) h2)
end
section
variable {K : PySem.W.Frag} {mg : Str → Option Value} {M : Mp} {H : Hp}
theorem apF_repr : ApF K mg aRepr (rRepr K) := by
  intro M S H vs ws E Q rs r p
  unfold aRepr at p
  split at p
  · rename_i x
    cases r with
    | cons rx rr =>
      cases rr
      cases hd : rdW S x with
      | none => rw [hd] at p; exact (show False from p).elim
      | some d =>
        rw [hd] at p
        dsimp only at p
        by_cases hk : showD d = true
        · rw [if_pos hk] at p
          exact ⟨_, d, M.cut 0, rfl, rdW_rd rs rx hd, hk, p.ret rs (.d (.str _))⟩
        · rw [if_neg hk] at p
          exact (show False from p).elim
  · exact (show False from p).elim
end
section
variable {X : Cx} {E : L2.St → XK} {fs : Env → Store → Rs (List W)} {pos : Pos}
theorem f_repr {e : Expr} {es : List Expr} {p : Pos} (gd : X.A.guards = some []) (hu : X.A.units + 64 < cLine) (h1 : Gl X "repr") (hm : X.mg "repr" = none) (ha : FA X E (e :: es) fs) (he : starEach (e :: es) X.env = (false, eval e X.env) :: starEach es X.env := by rfl) (hpl : (backTo pos (starEach es X.env)).any (·.1) = false := by rfl) : FE X E (.Call (.Name "repr" p) (e :: es) [] pos) (fApp aRepr fs) :=
  f_callB (cr_repr gd hu) apF_repr h1 hm (by decide +kernel) ha (by decide) (by decide) he hpl
end
end As

/-! how the functions are worked out: one step a row, by simp -/
namespace As
open PySem PySem.Spec PyProof.Rows L2
/-- what stands in a slot -/
def sl (ρ : Env) (i : Nat) : Option W := (ρ[i]?).join
@[simp] theorem sl_c0 (a : Option W) (ρ : Env) : sl (a :: ρ) 0 = a := by cases a <;> rfl
@[simp] theorem sl_cs (a : Option W) (ρ : Env) (i : Nat) : sl (a :: ρ) (i + 1) = sl ρ i := rfl
theorem sl_set (ρ : Env) (i j : Nat) (v : Option W) : sl (ρ.set i v) j = if i = j then (if i < ρ.length then v else none) else sl ρ j := by
  unfold sl
  rw [List.getElem?_set]
  by_cases h : i = j
  · subst h
    by_cases h2 : i < ρ.length
    · simp [h2]
    · simp [h2]
  · simp [h]
theorem sl_some {ρ : Env} {i : Nat} {w : W} (h : ρ[i]? = some (some w)) : sl ρ i = some w := by unfold sl; rw [h]; rfl
theorem sl_at {ρ : Env} {i : Nat} {w : W} (h : sl ρ i = some w) : ρ[i]? = some (some w) := by
  unfold sl at h
  cases q : ρ[i]? with
  | none => rw [q] at h; cases h
  | some o =>
    rw [q] at h
    cases o with
    | none => cases h
    | some x =>
      have : some x = some w := h
      rw [this]
section
variable {ρ : Env} {S : Store}
theorem fVar_raw (i : Nat) : fVar i ρ S = match ρ[i]? with | some (some w) => .ok w S | _ => .no := rfl
@[simp] theorem fVar_ap (i : Nat) : fVar i ρ S = match sl ρ i with | some w => .ok w S | none => .no := by
  unfold fVar sl
  cases q : ρ[i]? with
  | none => rfl
  | some o => cases o <;> rfl
@[simp] theorem fK_ap (w : W) : fK w ρ S = .ok w S := rfl
@[simp] theorem fOp_ap (g : O2) (fa fb : Env → Store → Rs W) : fOp g fa fb ρ S = (fa ρ S).bind fun x S1 => (fb ρ S1).bind fun y S2 => g x y S2 := rfl
@[simp] theorem fUn_ap (g : O1) (fa : Env → Store → Rs W) : fUn g fa ρ S = (fa ρ S).bind fun x S1 => g x S1 := rfl
@[simp] theorem aNil_ap : aNil ρ S = .ok [] S := rfl
@[simp] theorem aCons_ap (fa : Env → Store → Rs W) (fr : Env → Store → Rs (List W)) : aCons fa fr ρ S = (fa ρ S).bind fun x S1 => (fr ρ S1).bind fun xs S2 => .ok (x :: xs) S2 := rfl
@[simp] theorem fApp_ap (g : OA) (fa : Env → Store → Rs (List W)) : fApp g fa ρ S = (fa ρ S).bind fun x S1 => g x S1 := rfl
@[simp] theorem fB_ap (fa : Env → Store → Rs W) : fB fa ρ S = (fa ρ S).bind fun x S1 => match x with | .d (.bl b) => .ok b S1 | _ => .no := rfl
@[simp] theorem tNotF_ap (f : Env → Store → Rs Bool) : tNotF f ρ S = (f ρ S).bind fun b S1 => .ok (!b) S1 := rfl
@[simp] theorem tAndF_ap (f g : Env → Store → Rs Bool) : tAndF f g ρ S = (f ρ S).bind fun b S1 => if b = true then g ρ S1 else .ok false S1 := rfl
@[simp] theorem tOrF_ap (f g : Env → Store → Rs Bool) : tOrF f g ρ S = (f ρ S).bind fun b S1 => if b = true then .ok true S1 else g ρ S1 := rfl
@[simp] theorem fNot_ap (fa : Env → Store → Rs W) : fNot fa ρ S = (fB fa ρ S).bind fun b S1 => .ok (.d (.bl (!b))) S1 := rfl
@[simp] theorem fAnd_ap (fa fb : Env → Store → Rs W) : fAnd fa fb ρ S = (fB fa ρ S).bind fun b S1 => if b = true then fb ρ S1 else .ok (.d (.bl false)) S1 := rfl
@[simp] theorem fOr_ap (fa fb : Env → Store → Rs W) : fOr fa fb ρ S = (fB fa ρ S).bind fun b S1 => if b = true then .ok (.d (.bl true)) S1 else fb ρ S1 := rfl
@[simp] theorem fIfE_ap (t : Env → Store → Rs Bool) (fa fb : Env → Store → Rs W) : fIfE t fa fb ρ S = (t ρ S).bind fun b S1 => if b = true then fa ρ S1 else fb ρ S1 := rfl
@[simp] theorem fChain_ap (g g' : O2) (fa fb fc : Env → Store → Rs W) : fChain g g' fa fb fc ρ S = (fa ρ S).bind fun x S1 => (fb ρ S1).bind fun y S2 => (g x y S2).bind fun z S3 => match z with
  | .d (.bl true) => (fc ρ S3).bind fun w S4 => g' y w S4
  | .d (.bl false) => .ok (.d (.bl false)) S3
  | _ => .no := rfl
@[simp] theorem fSl_ap (g : OS) (fa : Env → Store → Rs W) (fl fh : Env → Store → Rs (Option Int)) : fSl g fa fl fh ρ S = (fa ρ S).bind fun x S1 => (fl ρ S1).bind fun lo S2 => (fh ρ S2).bind fun hi S3 => g x lo hi S3 := rfl
@[simp] theorem pNo_ap : pNo ρ S = .ok none S := rfl
@[simp] theorem pSo_ap (fa : Env → Store → Rs W) : pSo fa ρ S = (fa ρ S).bind fun x S1 => match x with | .d (.int i) => .ok (some i) S1 | _ => .no := rfl
@[simp] theorem fMt_ap (g : OM) (fa : Env → Store → Rs W) (fs : Env → Store → Rs (List W)) : fMt (fun x S => isCl x S = true) g fa fs ρ S = (fa ρ S).bind fun x S1 => if isCl x S1 = true then (fs ρ S1).bind fun xs S2 => g x xs S2 else .no := rfl
@[simp] theorem fDct_ap : fDct ρ S = .ok (.d .dct) S := rfl
@[simp] theorem tYesF_ap : tYesF ρ S = .ok true S := rfl
/-- statements -/
@[simp] theorem sNil_ap : sNil ρ S = .nx ρ S := rfl
@[simp] theorem sSeq_ap (f g : Sm) : sSeq f g ρ S = match f ρ S with | .nx ρ' S' => g ρ' S' | o => o := rfl
@[simp] theorem sPass_ap : sPass ρ S = .nx ρ S := rfl
@[simp] theorem sExpr_ap (fa : Env → Store → Rs W) : sExpr fa ρ S = (fa ρ S).st ρ fun _ S1 => .nx ρ S1 := rfl
@[simp] theorem sRet_ap (fa : Env → Store → Rs W) : sRet fa ρ S = (fa ρ S).st ρ fun w S1 => .rt w S1 := rfl
@[simp] theorem sIf_ap (t : Env → Store → Rs Bool) (f g : Sm) : sIf t f g ρ S = (t ρ S).st ρ fun b S1 => if b = true then f ρ S1 else g ρ S1 := rfl
@[simp] theorem sSet_ap (i : Nat) (fa : Env → Store → Rs W) : sSet i fa ρ S = (fa ρ S).st ρ fun w S1 => .nx (ρ.set i (some w)) S1 := rfl
@[simp] theorem sAsg_ap (p : Pt) (fa : Env → Store → Rs W) : sAsg p fa ρ S = (fa ρ S).st ρ fun w S1 => match bindP p w ρ with | some ρ' => .nx ρ' S1 | none => .no := rfl
@[simp] theorem sPut_ap (fo fi fe : Env → Store → Rs W) : sPut fo fi fe ρ S = (fe ρ S).st ρ fun w S1 => (fo ρ S1).st ρ fun o S2 => (fi ρ S2).st ρ fun i S3 => match o, i with
  | .c k, .d (.int z) => match liW S3 (.c k) with
    | some us => match ixN us.length z with
      | some j => .nx ρ (S3.set k (reL (us.set j w)))
      | none => .no
    | none => .no
  | _, _ => .no := rfl
@[simp] theorem sFor_ap (fi : Env → Store → Rs Itm) (p : Pt) (body : Sm) : sFor fi p body ρ S = (fi ρ S).st ρ fun a S1 => forL p a.2 body a.1 ρ S1 := rfl
@[simp] theorem fLc_ap (b : Bool) (fi : Env → Store → Rs Itm) (p : Pt) (t : Env → Store → Rs Bool) (fe : Env → Store → Rs W) (vs : List Nat) : fLc b fi p t fe vs ρ S = (fi ρ S).bind fun a S1 => if a.1.length < 100000 then (compL p a.2 t fe (wipeE ρ vs) a.1 S1).bind fun us S2 => newW b us S2 else .no := rfl
@[simp] theorem iList_ap (fa : Env → Store → Rs W) : iList fa ρ S = (fa ρ S).bind fun x S1 => match x with
  | .d (.lst ds) => .ok (ds.map .d, fun _ : Store => True) S1
  | .c k => match S1[k]? with
    | some (.l ds) => .ok (ds.map .d, fun S : Store => S[k]? = some (.l ds)) S1
    | some (.w ws) => .ok (ws, fun S : Store => S[k]? = some (.w ws)) S1
    | _ => .no
  | _ => .no := rfl
@[simp] theorem iTupF_ap (fa : Env → Store → Rs W) : iTupF fa ρ S = (fa ρ S).bind fun x S1 => match x with
  | .d (.tup ds) => .ok (ds.map .d, fun _ : Store => True) S1
  | .t ws => .ok (ws, fun _ : Store => True) S1
  | _ => .no := rfl
@[simp] theorem iRange1_ap (fs : Env → Store → Rs (List W)) : iRange1 fs ρ S = (fs ρ S).bind fun xs S1 => match xs with
  | [.d (.int j)] => if smallI j then .ok (rngW 0 j.toNat, fun _ : Store => True) S1 else .no
  | _ => .no := rfl
@[simp] theorem iRange2_ap (fs : Env → Store → Rs (List W)) : iRange2 fs ρ S = (fs ρ S).bind fun xs S1 => match xs with
  | [.d (.int i), .d (.int j)] => if smallI i && smallI j then .ok (rngW i (j - i).toNat, fun _ : Store => True) S1 else .no
  | _ => .no := rfl
@[simp] theorem iEnumL_ap (fs : Env → Store → Rs (List W)) : iEnumL fs ρ S = (fs ρ S).bind fun xs S1 => match xs with
  | [.d (.lst ds)] => .ok (enumW 0 ds, fun _ : Store => True) S1
  | [.c k] => match S1[k]? with
    | some (.l ds) => .ok (enumW 0 ds, fun S : Store => S[k]? = some (.l ds)) S1
    | some (.w ws) => .ok (enumG 0 ws, fun S : Store => S[k]? = some (.w ws)) S1
    | _ => .no
  | _ => .no := rfl
@[simp] theorem iEnumT_ap (fs : Env → Store → Rs (List W)) : iEnumT fs ρ S = (fs ρ S).bind fun xs S1 => match xs with
  | [.d (.tup ds)] => .ok (enumW 0 ds, fun _ : Store => True) S1
  | _ => .no := rfl
end
/-! ### values -/
@[simp] theorem oAdd_ii (i j : Int) (S : Store) : oAdd (.d (.int i)) (.d (.int j)) S = .ok (.d (.int (i + j))) S := rfl
@[simp] theorem oSub_ii (i j : Int) (S : Store) : oSub (.d (.int i)) (.d (.int j)) S = .ok (.d (.int (i - j))) S := rfl
@[simp] theorem oMul_ii (i j : Int) (S : Store) : oMul (.d (.int i)) (.d (.int j)) S = if CMul i j then .ok (.d (.int (i * j))) S else .no := rfl
@[simp] theorem oDiv_ii (i j : Int) (S : Store) : oDiv (.d (.int i)) (.d (.int j)) S = if CDiv i j then .ok (.d (.int (i / j))) S else .no := rfl
@[simp] theorem oMod_ii (i j : Int) (S : Store) : oMod (.d (.int i)) (.d (.int j)) S = if 0 < j then .ok (.d (.int (i % j))) S else .no := rfl
@[simp] theorem oPow_ii (i j : Int) (S : Store) : oPow (.d (.int i)) (.d (.int j)) S = if CPow i j then .ok (.d (.int (i ^ j.toNat))) S else .no := rfl
@[simp] theorem oLt_ii (i j : Int) (S : Store) : oLt (.d (.int i)) (.d (.int j)) S = .ok (.d (.bl (decide (i < j)))) S := rfl
@[simp] theorem oLe_ii (i j : Int) (S : Store) : oLe (.d (.int i)) (.d (.int j)) S = .ok (.d (.bl (decide (i ≤ j)))) S := rfl
@[simp] theorem oGt_ii (i j : Int) (S : Store) : oGt (.d (.int i)) (.d (.int j)) S = .ok (.d (.bl (decide (j < i)))) S := rfl
@[simp] theorem oGe_ii (i j : Int) (S : Store) : oGe (.d (.int i)) (.d (.int j)) S = .ok (.d (.bl (decide (j ≤ i)))) S := rfl
@[simp] theorem uNeg_i (i : Int) (S : Store) : uNeg (.d (.int i)) S = .ok (.d (.int (-i))) S := rfl
/-- == of numbers, of texts -/
theorem okD_int (i : Int) : okD (.int i) = true := by
  unfold okD
  rw [pd]
  simp [nod, shP, PyData.plain, PyData.depth]
theorem okD_non : okD .non = true := by
  unfold okD
  rw [pd]
  simp [nod, shP, PyData.plain, PyData.depth]
theorem okD_bl (b : Bool) : okD (.bl b) = true := by
  unfold okD
  rw [pd]
  simp [nod, shP, PyData.plain, PyData.depth]
theorem eqB_ii (i j : Int) : eqB (.int i) (.int j) = decide (i = j) := by
  unfold eqB
  rw [pd, pd]
  by_cases h : i = j <;> simp [PyData.eqv, h]
@[simp] theorem kEq_ss (n : Bool) (x y : Str) (S : Store) : kEq n (.str x) (.str y) S = .ok (.d (.bl (if n then !decide (x = y) else decide (x = y)))) S := rfl
@[simp] theorem kEq_ii (n : Bool) (i j : Int) (S : Store) : kEq n (.int i) (.int j) S = .ok (.d (.bl (if n then !decide (i = j) else decide (i = j)))) S := by
  show (if (okD (.int i) && okD (.int j)) = true then Rs.ok (W.d (.bl (if n then !eqB (.int i) (.int j) else eqB (.int i) (.int j)))) S else .no) = _
  rw [okD_int, okD_int, Bool.and_self, if_pos rfl, eqB_ii]
@[simp] theorem oEq_dd (a b : D) (S : Store) : oEq (.d a) (.d b) S = kEq false a b S := rfl
@[simp] theorem oNe_dd (a b : D) (S : Store) : oNe (.d a) (.d b) S = kEq true a b S := rfl
/-- isinstance -/
theorem kTy_int : knownTy "int" = true := by decide
theorem kTy_bool : knownTy "bool" = true := by decide
theorem kTy_str : knownTy "str" = true := by decide
theorem kTy_tup : knownTy "tuple" = true := by decide
theorem kTy_lst : knownTy "list" = true := by decide
theorem isTy_int (d : D) : isTy "int" d = isInt d := by unfold isTy; rw [kit_int]; rfl
theorem isTy_bool (d : D) : isTy "bool" d = isBool d := by unfold isTy; rw [kit_bool]; rfl
theorem isTy_str (d : D) : isTy "str" d = isStr d := by unfold isTy; rw [kit_str]; rfl
theorem isTy_tup (d : D) : isTy "tuple" d = isTup d := by unfold isTy; rw [kit_tup]; rfl
theorem isTy_lst (d : D) : isTy "list" d = isLst d := by unfold isTy; rw [kit_lst]; rfl
@[simp] theorem aIsi_int (d : D) (S : Store) : aIsi [.d d, .g (.ty "int")] S = .ok (.d (.bl (isInt d))) S := by
  show (if knownTy "int" = true then Rs.ok (W.d (.bl (isTy "int" d))) S else .no) = _
  rw [kTy_int, if_pos rfl, isTy_int]
@[simp] theorem aIsi_bool (d : D) (S : Store) : aIsi [.d d, .g (.ty "bool")] S = .ok (.d (.bl (isBool d))) S := by
  show (if knownTy "bool" = true then Rs.ok (W.d (.bl (isTy "bool" d))) S else .no) = _
  rw [kTy_bool, if_pos rfl, isTy_bool]
@[simp] theorem aIsi_str (d : D) (S : Store) : aIsi [.d d, .g (.ty "str")] S = .ok (.d (.bl (isStr d))) S := by
  show (if knownTy "str" = true then Rs.ok (W.d (.bl (isTy "str" d))) S else .no) = _
  rw [kTy_str, if_pos rfl, isTy_str]
@[simp] theorem aIsi_tup (d : D) (S : Store) : aIsi [.d d, .g (.ty "tuple")] S = .ok (.d (.bl (isTup d))) S := by
  show (if knownTy "tuple" = true then Rs.ok (W.d (.bl (isTy "tuple" d))) S else .no) = _
  rw [kTy_tup, if_pos rfl, isTy_tup]
@[simp] theorem aIsi_lst (d : D) (S : Store) : aIsi [.d d, .g (.ty "list")] S = .ok (.d (.bl (isLst d))) S := by
  show (if knownTy "list" = true then Rs.ok (W.d (.bl (isTy "list" d))) S else .no) = _
  rw [kTy_lst, if_pos rfl, isTy_lst]
/-- displays, items -/
@[simp] theorem unDs_nil : unDs [] = some [] := rfl
@[simp] theorem unDs_cons (d : D) (ws : List W) : unDs (.d d :: ws) = (unDs ws).map (d :: ·) := rfl
@[simp] theorem unDs_all (ds : List D) : unDs (ds.map .d) = some ds := unDs_map ds
@[simp] theorem newL_f (ds : List D) (S : Store) : newL false ds S = .ok (.d (.lst ds)) S := rfl
@[simp] theorem newL_t (ds : List D) (S : Store) : newL true ds S = .ok (.c S.length) (S ++ [.l ds]) := rfl
@[simp] theorem newW_ds (b : Bool) (ds : List D) (S : Store) : newW b (ds.map .d) S = newL b ds S := by unfold newW; rw [unDs_map]
theorem newW_un {b : Bool} {ws : List W} {ds : List D} (h : unDs ws = some ds) (S : Store) : newW b ws S = newL b ds S := by unfold newW; rw [h]
@[simp] theorem newT_ap (ds : List D) (S : Store) : newT ds S = .ok (.d (.tup ds)) S := rfl
theorem mkT_ds (ds : List D) (S : Store) (h : ds.length ≤ 100000) : mkT (ds.map .d) S = .ok (.d (.tup ds)) S := by
  unfold mkT
  rw [List.length_map, if_pos h, unDs_map]
theorem mkL_ds (b : Bool) (ds : List D) (S : Store) (h : ds.length ≤ 100000) : mkL b (ds.map .d) S = newL b ds S := by
  unfold mkL newW
  rw [List.length_map, if_pos h, unDs_map]
@[simp] theorem itW_l (S : Store) (ds : List D) : itW S (.d (.lst ds)) = some (ds.map .d) := rfl
@[simp] theorem itW_t (S : Store) (ds : List D) : itW S (.d (.tup ds)) = some (ds.map .d) := rfl
@[simp] theorem itW_s (S : Store) (ns : List Int) : itW S (.s ns) = some (ns.map fun i => .d (.int i)) := rfl
@[simp] theorem itW_c0 (ds : List D) (S : Store) : itW (.l ds :: S) (.c 0) = some (ds.map .d) := rfl
@[simp] theorem itW_c1 (c : Cell) (ds : List D) (S : Store) : itW (c :: .l ds :: S) (.c 1) = some (ds.map .d) := rfl
@[simp] theorem itW_c2 (c c' : Cell) (ds : List D) (S : Store) : itW (c :: c' :: .l ds :: S) (.c 2) = some (ds.map .d) := rfl
@[simp] theorem liW_l (S : Store) (ds : List D) : liW S (.d (.lst ds)) = some (ds.map .d) := rfl
@[simp] theorem liW_c0 (ds : List D) (S : Store) : liW (.l ds :: S) (.c 0) = some (ds.map .d) := rfl
@[simp] theorem liW_c1 (c : Cell) (ds : List D) (S : Store) : liW (c :: .l ds :: S) (.c 1) = some (ds.map .d) := rfl
@[simp] theorem liW_c2 (c c' : Cell) (ds : List D) (S : Store) : liW (c :: c' :: .l ds :: S) (.c 2) = some (ds.map .d) := rfl
@[simp] theorem rdW_c0 (ds : List D) (S : Store) : rdW (.l ds :: S) (.c 0) = some (.lst ds) := rfl
@[simp] theorem rdW_c1 (c : Cell) (ds : List D) (S : Store) : rdW (c :: .l ds :: S) (.c 1) = some (.lst ds) := rfl
@[simp] theorem rdW_c2 (c c' : Cell) (ds : List D) (S : Store) : rdW (c :: c' :: .l ds :: S) (.c 2) = some (.lst ds) := rfl
@[simp] theorem isCl_l (S : Store) (ds : List D) : isCl (.d (.lst ds)) S = true := rfl
@[simp] theorem isCl_c0 (ds : List D) (S : Store) : isCl (.c 0) (.l ds :: S) = true := rfl
@[simp] theorem isCl_c1 (c : Cell) (ds : List D) (S : Store) : isCl (.c 1) (c :: .l ds :: S) = true := rfl
@[simp] theorem isCl_c2 (c c' : Cell) (ds : List D) (S : Store) : isCl (.c 2) (c :: c' :: .l ds :: S) = true := rfl
@[simp] theorem aLen_ap (x : W) (S : Store) : aLen [x] S = match itW S x with | some ws => .ok (.d (.int ws.length)) S | none => .no := rfl
theorem oIx_ap (x : W) (i : Int) (S : Store) : oIx x (.d (.int i)) S = match itW S x with
  | some ws => match atI ws i with
    | some w => .ok w S
    | none => .no
  | none => .no := rfl
theorem fnF_ap (b : Bool) (n m : Nat) (f : Sm) (ws : List W) (S : Store) : fnF b n m f ws S = if ws.length = n then fin b S.length (f (ws.map some ++ List.replicate (m - ws.length) none) S) else .no := rfl
@[simp] theorem fin_rt (n : Nat) (w : W) (S : Store) : fin false n (.rt w S) = .ok w S := rfl
@[simp] theorem fin_nx (n : Nat) (ρ : Env) (S : Store) : fin false n (.nx ρ S) = .ok (.d .non) S := rfl
@[simp] theorem fin_ex (n : Nat) (e : Exn) (ρ : Env) (S : Store) : fin false n (.ex e ρ S) = .ex e S := rfl
end As
namespace As
open PySem PySem.Spec PyProof.Rows L2
@[simp] theorem oIn_dd (a b : D) (S : Store) : oIn (.d a) (.d b) S = kIn false a b S := rfl
@[simp] theorem oNotIn_dd (a b : D) (S : Store) : oNotIn (.d a) (.d b) S = kIn true a b S := rfl
@[simp] theorem kIn_t (n : Bool) (a : D) (ds : List D) (S : Store) : kIn n a (.tup ds) S = kInS n a (.tup ds) ds S := rfl
@[simp] theorem kIn_l (n : Bool) (a : D) (ds : List D) (S : Store) : kIn n a (.lst ds) S = kInS n a (.lst ds) ds S := rfl
@[simp] theorem strsD_nil : strsD [] = some [] := rfl
@[simp] theorem strsD_cons (z : Str) (ds : List D) : strsD (.str z :: ds) = (strsD ds).map (z :: ·) := rfl
@[simp] theorem kInS_t (n : Bool) (as : List D) (b : D) (ds : List D) (S : Store) : kInS n (.tup as) b ds S = kInO n (.tup as) b ds S := rfl
@[simp] theorem kInS_i (n : Bool) (i : Int) (b : D) (ds : List D) (S : Store) : kInS n (.int i) b ds S = kInO n (.int i) b ds S := rfl
theorem kInS_s (n : Bool) (z : Str) (b : D) {ds : List D} {zs : List Str} (S : Store) (h : strsD ds = some zs) : kInS n (.str z) b ds S = .ok (.d (.bl (if n then !zs.any fun y => decide (y = z) else zs.any fun y => decide (y = z)))) S := by
  unfold kInS
  rw [h]
theorem kInO_ok {n : Bool} {a b : D} {ds : List D} {S : Store} (h1 : okD a = true) (h2 : okD b = true) : kInO n a b ds S = .ok (.d (.bl (if n then !inB a ds else inB a ds))) S := by
  unfold kInO
  rw [h1, h2, Bool.and_self, if_pos rfl]
/-! ### data that may be compared, by their depth -/
def okK (n : Nat) (d : D) : Bool := nod d && (pd d).plain && decide ((pd d).depth ≤ n)
theorem okK_D {n : Nat} {d : D} (h : okK n d = true) (hn : n ≤ 64) : okD d = true := by
  unfold okK at h
  unfold okD shP
  simp only [Bool.and_eq_true, decide_eq_true_eq] at h ⊢
  exact ⟨h.1.1, h.1.2, by omega⟩
theorem okK_int (n : Nat) (i : Int) : okK n (.int i) = true := by
  unfold okK
  rw [pd]
  simp [nod, PyData.plain, PyData.depth]
theorem okK_str (n : Nat) {z : Str} (_ : PyData.strOk z = true) : okK n (.str z) = true := by
  unfold okK
  rw [pd]
  simp [nod, PyData.plain, PyData.depth]
theorem okK_s (n : Nat) (z : Str) : okK n (.str z) = true := by
  unfold okK
  rw [pd]
  simp [nod, PyData.plain, PyData.depth]
theorem okK_all {n : Nat} : ∀ {ds : List D}, (∀ d ∈ ds, okK n d = true) → nods ds = true ∧ PyData.plainAll (pds ds) = true ∧ PyData.depthAll (pds ds) ≤ n
  | [], _ => by
    rw [nods, pds]
    simp [PyData.plainAll, PyData.depthAll]
  | d :: ds, h => by
    obtain ⟨h1, h2, h3⟩ := okK_all fun e he => h e (List.mem_cons_of_mem _ he)
    have h4 := h d (List.mem_cons_self ..)
    unfold okK at h4
    simp only [Bool.and_eq_true, decide_eq_true_eq] at h4
    rw [nods, pds]
    simp only [PyData.plainAll, PyData.depthAll, Bool.and_eq_true]
    exact ⟨⟨h4.1.1, h1⟩, ⟨h4.1.2, h2⟩, by omega⟩
theorem okK_tup {n : Nat} {ds : List D} (h : ∀ d ∈ ds, okK n d = true) : okK (n + 1) (.tup ds) = true := by
  obtain ⟨h1, h2, h3⟩ := okK_all h
  have h4 : (PyData.tuple (pds ds)).depth ≤ n + 1 := by rw [PyData.depth]; omega
  unfold okK
  rw [nod, pd]
  simp only [PyData.plain, Bool.and_eq_true, decide_eq_true_eq]
  exact ⟨⟨h1, h2⟩, h4⟩
theorem okK_lst {n : Nat} {ds : List D} (h : ∀ d ∈ ds, okK n d = true) : okK (n + 1) (.lst ds) = true := by
  obtain ⟨h1, h2, h3⟩ := okK_all h
  have h4 : (PyData.list (pds ds)).depth ≤ n + 1 := by rw [PyData.depth]; omega
  unfold okK
  rw [nod, pd]
  simp only [PyData.plain, Bool.and_eq_true, decide_eq_true_eq]
  exact ⟨⟨h1, h2⟩, h4⟩
def eqS (d : D) (z : Str) : Bool := match d with
  | .str x => decide (x = z)
  | _ => false
theorem okD_str0 (z : Str) : okD (.str z) = true := by
  unfold okD
  rw [pd]
  simp [nod, shP, PyData.plain, PyData.depth]
theorem kEq_S {n : Bool} {z : Str} (hz : PyData.strOk z = true) (d : D) (S : Store) : kEq n d (.str z) S = .ok (.d (.bl (if n then !eqS d z else eqS d z))) S := by
  have e0 : okD (.str z) = true := okD_str0 z
  cases d with
  | str x => rfl
  | dct => cases n <;> rfl
  | lst ds => cases n <;> rfl
  | tup ds => cases n <;> rfl
  | non =>
    show (if (okD .non && okD (.str z)) = true then Rs.ok (W.d (.bl (if n then !eqB .non (.str z) else eqB .non (.str z)))) S else .no) = _
    rw [okD_non, e0, Bool.and_self, if_pos rfl]
    have e1 : eqB .non (.str z) = false := by unfold eqB; rw [pd, pd]; simp [PyData.eqv]
    rw [e1]; rfl
  | bl b =>
    show (if (okD (.bl b) && okD (.str z)) = true then Rs.ok (W.d (.bl (if n then !eqB (.bl b) (.str z) else eqB (.bl b) (.str z)))) S else .no) = _
    rw [okD_bl, e0, Bool.and_self, if_pos rfl]
    have e1 : eqB (.bl b) (.str z) = false := by unfold eqB; rw [pd, pd]; simp [PyData.eqv]
    rw [e1]; rfl
  | int i =>
    show (if (okD (.int i) && okD (.str z)) = true then Rs.ok (W.d (.bl (if n then !eqB (.int i) (.str z) else eqB (.int i) (.str z)))) S else .no) = _
    rw [okD_int, e0, Bool.and_self, if_pos rfl]
    have e1 : eqB (.int i) (.str z) = false := by unfold eqB; rw [pd, pd]; simp [PyData.eqv]
    rw [e1]; rfl
@[simp] theorem kEq_nil (n : Bool) (ds : List D) (S : Store) : kEq n (.lst ds) (.lst []) S = .ok (.d (.bl (if n then !ds.isEmpty else ds.isEmpty))) S := rfl
/-! ### comprehensions whose parts change nothing -/
theorem compL_map {i : Nat} {g : Store → Prop} {fe : Env → Store → Rs W} {ρw : Env} {S : Store} (hg : g S) {f : D → D} : ∀ {ds : List D}, (∀ d ∈ ds, fe (ρw.set i (some (.d d))) S = .ok (.d (f d)) S) → compL (.n i) g tYesF fe ρw (ds.map .d) S = .ok ((ds.map f).map .d) S
  | [], _ => by rw [List.map_nil, compL, if_pos hg]; rfl
  | d :: ds, h => by
    rw [List.map_cons, compL, if_pos hg, bindP]
    dsimp only [tYesF]
    rw [h d (List.mem_cons_self ..)]
    dsimp only
    rw [compL_map hg fun e he => h e (List.mem_cons_of_mem _ he)]
    rfl
theorem compL_filter {i : Nat} {g : Store → Prop} {t : Env → Store → Rs Bool} {fe : Env → Store → Rs W} {ρw : Env} {S : Store} (hg : g S) {q : D → Bool} {f : D → D} : ∀ {ds : List D}, (∀ d ∈ ds, t (ρw.set i (some (.d d))) S = .ok (q d) S) → (∀ d ∈ ds, q d = true → fe (ρw.set i (some (.d d))) S = .ok (.d (f d)) S) →
    compL (.n i) g t fe ρw (ds.map .d) S = .ok (((ds.filter q).map f).map .d) S
  | [], _, _ => by rw [List.map_nil, compL, if_pos hg]; rfl
  | d :: ds, ht, h => by
    rw [List.map_cons, compL, if_pos hg, bindP]
    dsimp only
    rw [ht d (List.mem_cons_self ..)]
    have ih := compL_filter hg (fun e he => ht e (List.mem_cons_of_mem _ he)) fun e he => h e (List.mem_cons_of_mem _ he)
    cases hq : q d with
    | false =>
      dsimp only
      rw [ih, List.filter_cons, hq]
      rfl
    | true =>
      dsimp only
      rw [h d (List.mem_cons_self ..) hq]
      dsimp only
      rw [ih, List.filter_cons, hq]
      rfl
/-- over range(n) -/
theorem compL_range {i : Nat} {g : Store → Prop} {t : Env → Store → Rs Bool} {fe : Env → Store → Rs W} {ρw : Env} {S : Store} (hg : g S) {q : Int → Bool} {f : Int → D} : ∀ {n : Nat} {lo : Int}, (∀ k : Int, lo ≤ k → k < lo + n → t (ρw.set i (some (.d (.int k)))) S = .ok (q k) S) →
    (∀ k : Int, lo ≤ k → k < lo + n → q k = true → fe (ρw.set i (some (.d (.int k)))) S = .ok (.d (f k)) S) → compL (.n i) g t fe ρw (rngW lo n) S = .ok (((((List.range n).map fun j : Nat => lo + (j : Int)).filter q).map f).map .d) S
  | 0, lo, _, _ => by rw [rngW, compL, if_pos hg]; rfl
  | n + 1, lo, ht, h => by
    have e0 : ((List.range (n + 1)).map fun j : Nat => lo + (j : Int)) = lo :: (List.range n).map fun j : Nat => lo + 1 + (j : Int) := by
      rw [List.range_succ_eq_map, List.map_cons, List.map_map]
      congr 1
      · simp
      · refine List.map_congr_left fun j _ => ?_
        show lo + ((j + 1 : Nat) : Int) = lo + 1 + (j : Int)
        omega
    rw [e0, rngW, compL, if_pos hg, bindP]
    dsimp only
    rw [ht lo (Int.le_refl _) (by omega)]
    have ih := compL_range (n := n) (lo := lo + 1) hg (fun k a b => ht k (by omega) (by omega)) fun k a b => h k (by omega) (by omega)
    cases hq : q lo with
    | false =>
      dsimp only
      rw [ih, List.filter_cons, hq]
      rfl
    | true =>
      dsimp only
      rw [h lo (Int.le_refl _) (by omega) hq]
      dsimp only
      rw [ih, List.filter_cons, hq]
      rfl
/-- over enumerate -/
theorem compL_enum {i j : Nat} {g : Store → Prop} {fe : Env → Store → Rs W} {ρw : Env} {S : Store} (hg : g S) {f : Nat → D → D} : ∀ {ds : List D} {n : Nat}, (∀ k d, ds[k]? = some d → fe ((ρw.set i (some (.d (.int ((n + k : Nat) : Int))))).set j (some (.d d))) S = .ok (.d (f (n + k) d)) S) →
    compL (.t [.n i, .n j]) g tYesF fe ρw (enumW n ds) S = .ok (((ds.zipIdx n).map fun p => f p.2 p.1).map .d) S
  | [], n, _ => by rw [enumW, compL, if_pos hg]; rfl
  | d :: ds, n, h => by
    rw [enumW, compL, if_pos hg, bindP]
    dsimp only [unW]
    rw [List.map_cons, List.map_cons, List.map_nil, bindPs, bindP]
    dsimp only
    rw [bindPs, bindP]
    dsimp only
    rw [bindPs]
    dsimp only [tYesF]
    have h0 := h 0 d rfl
    rw [Nat.add_zero] at h0
    rw [h0]
    dsimp only
    rw [compL_enum hg (n := n + 1) fun k e he => ?_]
    · rfl
    · have := h (k + 1) e he
      rw [show n + (k + 1) = n + 1 + k by omega] at this
      exact this
/-- all, any of what was asked of each -/
theorem unBs_map' {α : Type} (f : α → Bool) (l : List α) : unBs ((l.map fun x => D.bl (f x)).map .d) = some (l.map f) := by
  induction l with
  | nil => rfl
  | cons a l ih =>
    show (unBs ((l.map fun x => D.bl (f x)).map .d)).map (f a :: ·) = _
    rw [ih]
    rfl
theorem aAll_map {α : Type} (f : α → Bool) (l : List α) (S : Store) : aAll [.d (.lst (l.map fun x => D.bl (f x)))] S = .ok (.d (.bl (l.all f))) S := by
  show (match unBs ((l.map fun x => D.bl (f x)).map .d) with | some bs => Rs.ok (W.d (.bl (bs.all id))) S | none => .no) = _
  rw [unBs_map']
  dsimp only
  rw [List.all_map]
  rfl
theorem aAny_map {α : Type} (f : α → Bool) (l : List α) (S : Store) : aAny [.d (.lst (l.map fun x => D.bl (f x)))] S = .ok (.d (.bl (l.any f))) S := by
  show (match unBs ((l.map fun x => D.bl (f x)).map .d) with | some bs => Rs.ok (W.d (.bl (bs.any id))) S | none => .no) = _
  rw [unBs_map']
  dsimp only
  rw [List.any_map]
  rfl
theorem eq_nil_lst (ds : List D) : eqB (.lst ds) (.lst []) = ds.isEmpty := by
  unfold eqB
  rw [pd, pd, pds]
  cases ds with
  | nil => rw [pds]; simp [PyData.eqv, PyData.eqvAll]
  | cons d ds => rw [pds]; simp [PyData.eqv, PyData.eqvAll]
end As

/-! several clauses, each with or without a name -/
namespace As
open PySem PySem.Spec PyProof.Rows L2
/-- an exception at hand, its flight ended here -/
def Hand (X : Cx) (pins : List (Addr × Obj)) (a : Addr) (cls : Value) (d : Option Addr) (σ : L2.St) (H : Hp) (s : Shared) : Prop :=
  ∃ B sI, Inv X pins σ H sI ∧ (∀ b o, sI.heap.get? b = some o → b ∉ frs X.stack → B.get? b = some o) ∧ sI.heap.UpToSlots s.heap ∧ HandSPX.FlyingZ B (X.env :: X.outer) a (Zc cls d) s.heap ∧ H a = none ∧ s.os = sI.os ∧ AllBare s.gens
section
variable {X : Cx} {pins : List (Addr × Obj)} {a : Addr} {cls : Value} {d : Option Addr} {σ : L2.St} {H : Hp} {s : Shared} {W : WX}
theorem Hand.inv (h : Hand X pins a cls d σ H s) : Inv X pins σ H s := by
  obtain ⟨B, sI, J, nb, up, fl, na, os, ag⟩ := h
  exact J.landed nb fl.1 up os ag
theorem Hand.obj (h : Hand X pins a cls d σ H s) : ∃ oe vs, s.heap.get? a = some oe ∧ Zc cls d oe ∧ oe.data = .fields vs := by
  obtain ⟨B, sI, J, nb, up, fl, na, os, ag⟩ := h
  exact fl.there
theorem Hand.out (hf : X.env.frame = some X.env.locals) (h : Hand X pins a cls d σ H s) : a ≠ X.env.locals ∧ a ∉ X.fs := by
  obtain ⟨oe, vs, he, hz, hd⟩ := h.obj
  obtain ⟨B, sI, J, nb, up, fl, na, os, ag⟩ := h
  have nfr : a ∉ frs (X.env :: X.outer) := fun hm => by
    obtain ⟨_, o', e', hnf⟩ := fl.2.2.1.mem hm
    cases he.symm.trans e'
    exact hnf _ hd
  refine ⟨fun z => nfr (List.mem_filterMap.mpr ⟨X.env, List.mem_cons_self, hf.trans (congrArg some z.symm)⟩), fun hm => ?_⟩
  obtain ⟨e, he', q⟩ := List.mem_filterMap.mp hm
  exact nfr (List.mem_filterMap.mpr ⟨e, .tail _ he', q⟩)
theorem Hand.na (h : Hand X pins a cls d σ H s) : H a = none := by
  obtain ⟨B, sI, J, nb, up, fl, na, os, ag⟩ := h
  exact na
/-- the suite's state -/
theorem Hand.suite (hf : X.env.frame = some X.env.locals) (h : Hand X pins a cls d σ H s) : ∃ oe, Zc cls d oe ∧ (∃ vs, oe.data = .fields vs) ∧ Inv (X.suite a ((a, oe) :: (X.pn ++ pins))) [] σ H s := by
  obtain ⟨oe, vs, he, hz, hd⟩ := h.obj
  exact ⟨oe, hz, ⟨vs, hd⟩, h.inv.suite he hd h.na (h.out hf).1 (h.out hf).2⟩
/-- its flight ended once more -/
theorem Hand.again {A : Around} {E : Value → Shared → Prop} {Q : Unit → Shared → Prop} (h : Hand X pins a cls d σ H s) (q : ∀ s', Hand X pins a cls d σ H s' → Q () s') : wpAny (model X.prog X.w) A (setFlight (.ref a) none) Q E s := by
  obtain ⟨B, sI, J, nb, up, fl, na, os, ag⟩ := h
  exact HandSPX.lands_againZ fl fun h' fl' up' => q _ ⟨B, sI, J, nb, up.trans up', fl', na, os, ag⟩
/-- no clause took it -/
theorem Hand.on (hs : X.stack = X.env :: X.outer) (hf : X.env.frame = some X.env.locals) (tk : Takes X W) {Q : Flow → Shared → Prop} (h : Hand X pins a cls d σ H s) (w : W cls d σ H) : wpAny (model X.prog X.w) X.A (handleBy (.ref a) X.env []) Q X.xe s := by
  obtain ⟨B, sI, J, nb, up, fl, na, os, ag⟩ := h
  have last : wpAny (model X.prog X.w) X.A (setFlight (.ref a) X.env.frame) (fun _ s4 => wpAny (model X.prog X.w) X.A (throw (.ref a) : Sem Flow) Q X.xe s4) X.xe s := hf ▸
    HandSPX.setFlight_upZ fl fun h' hh up' => wpAny_throw (tk _ _ ⟨a, B, sI, pins, σ, H, cls, d, rfl, J, nb, up.trans up', .inr (.inr (hs.symm ▸ hh)), na, os, ag, w⟩)
  obtain ⟨oe, vs, T, oT, ts', he, hz, hd, h1, hr⟩ := fl.2.2.2
  refine wpAny_handleBy_nil ?_
  unfold PySem.passOn
  refine wpAny_bind (wpAny_field he hd h1 ?_)
  have nn : ¬ ((Value.ref T == Value.none) = true) := by simp
  rw [if_neg nn]
  first
    | exact wpAny_bind (wpAny_pure (wpAny_bind last))
    | exact wpAny_bind last
/-- a clause's test -/
theorem Hand.test {x : Str} {c : Value} {np : Pos} {b : Bool} (hf : X.env.frame = some X.env.locals) (hc : Names X x c) (h : Hand X pins a cls d σ H s) (hb : PySem.W.exmOne X.K cls c = some b) {Q : Bool → Shared → Prop} {E1 E2 : Value → Shared → Prop} (q : Q b s) :
    wpAny (model X.prog X.w) (X.A.mark (some (.ref a))) (eval (.Name x np) X.env) (fun c s₁ => wpAny (model X.prog X.w) (X.A.mark (some (.ref a))) (excMatches (.ref a) c) Q E1 s₁) E2 s := by
  obtain ⟨oe, hz, hd, S⟩ := h.suite hf
  obtain ⟨oe', vs, he, hz', hd'⟩ := h.obj
  have LM := PySem.W.exm_one (M := model X.prog X.w) h.inv.kIn (e := a) (fun A Q E s k q => wpAny_typeOf_ref (k _ _ he) (by rw [hz'.1]; exact q)) hb
  obtain ⟨hg, hdbg, hm | ⟨hm, hv, hnn⟩⟩ := hc
  · exact ld_glob (X := X.suite a ((a, oe) :: (X.pn ++ pins))) S hg hm (LM.here q) hdbg
  · exact ld_blt (X := X.suite a ((a, oe) :: (X.pn ++ pins))) S hg hm hv (LM.here q) hnn hdbg
end
def endD (o : Option Nat) (D : Ends) : Ends := match o with
  | none => D
  | some i => { nx := fun σ' H' => D.nx (σ'.set i none) H', rt := D.rt, bk := fun σ' H' => D.bk (σ'.set i none) H', ct := fun σ' H' => D.ct (σ'.set i none) H' }
def putO (o : Option Nat) (a : Addr) (σ : L2.St) : L2.St := match o with
  | none => σ
  | some i => σ.set i (some (.ref a))
abbrev ClT := Value × Option Nat × (Addr → Value → Option Addr → TS)
def wAll (K : PySem.W.Frag) (Wout : WX) (D : Ends) : List ClT → WX
  | [] => Wout
  | (c, o, ts) :: r => fun cls d σ H => ∃ b, PySem.W.exmOne K cls c = some b ∧ (b = true → ∀ a, H a = none → ts a cls d (endD o D) (putO o a σ) H) ∧ (b = false → wAll K Wout D r cls d σ H)
def NameOk (X : Cx) (o : Option Nat) (n : Option Str) : Prop := match o, n with
  | none, none => True
  | some i, some m => X.N[i]? = some m ∧ X.env.kindOf m = some .local
  | _, _ => False
inductive ClsOk (X : Cx) : List ExceptHandler → List ClT → Prop
  | nil : ClsOk X [] []
  | cons {x : Str} {c : Value} {o : Option Nat} {n : Option Str} {ts : Addr → Value → Option Addr → TS} {b₀ : Stmt} {rest : List Stmt} {np p : Pos} {hds : List ExceptHandler} {l : List ClT} (hc : Names X x c) (hn : NameOk X o n)
      (hsu : ∀ (a : Addr) (oe : Obj) (cls : Value) (d : Option Addr) (pn : List (Addr × Obj)), Zc cls d oe → (∃ vs, oe.data = .fields vs) → PSs (X.suite a ((a, oe) :: pn)) (b₀ :: rest) (ts a cls d)) (r : ClsOk X hds l) :
      ClsOk X (.ExceptHandler (some (.Name x np)) n (b₀ :: rest) p :: hds) ((c, o, ts) :: l)
section
variable {X : Cx} {pins : List (Addr × Obj)} {a : Addr} {cls : Value} {d : Option Addr} {Wout : WX} {D : Ends}
/-- a suite, its name bound and gone again -/
theorem Hand.run {o : Option Nat} {n : Option Str} {ts : Addr → Value → Option Addr → TS} {b₀ : Stmt} {rest : List Stmt} {p : Pos} {σ : L2.St} {H : Hp} {s : Shared} {x : Value → Shared → Prop} (hf : X.env.frame = some X.env.locals) (hN : X.N.Nodup) (hn : NameOk X o n)
    (hsu : ∀ (a : Addr) (oe : Obj) (cls : Value) (d : Option Addr) (pn : List (Addr × Obj)), Zc cls d oe → (∃ vs, oe.data = .fields vs) → PSs (X.suite a ((a, oe) :: pn)) (b₀ :: rest) (ts a cls d)) (h : Hand X pins a cls d σ H s) (w : ts a cls d (endD o D) (putO o a σ) H) :
    codeAny (model X.prog X.w) (X.A.mark (some (.ref a))) (.handlers (.ref a) [.ExceptHandler none n (b₀ :: rest) p] X.env) (fun r s₂ => match r with
          | .ok f => (match (generalizing := false) n with
            | none => SP X pins D f s₂
            | some m => wpAny (model X.prog X.w) X.A (do bindName X.env m .none; unbindBehindTheSuite X.env m p) (fun _ s₃ => SP X pins D f s₃) X.xe s₂)
          | .error y => x y s₂) s := by
  have ok := h.inv.ok
  match o, n, hn with
  | none, none, _ =>
    refine codeAny_handlers_suite (h.again fun s4 h4 => ?_)
    obtain ⟨oe, hz, hd, S⟩ := h4.suite hf
    refine wpAny_mono ((hsu a oe cls d (X.pn ++ pins) hz hd).run [] _ _ H _ S w) (fun f s6 hsp => ?_) (fun _ _ z => False.elim z)
    cases f with
    | ret u => obtain ⟨v6, σ6, H6, S6, r6, q6⟩ := hsp; exact ⟨_, _, _, S6.unsuite ok, r6, q6⟩
    | next => obtain ⟨σ6, H6, S6, q6⟩ := hsp; exact ⟨_, _, S6.unsuite ok, q6⟩
    | brk => obtain ⟨σ6, H6, S6, q6⟩ := hsp; exact ⟨_, _, S6.unsuite ok, q6⟩
    | cont => obtain ⟨σ6, H6, S6, q6⟩ := hsp; exact ⟨_, _, S6.unsuite ok, q6⟩
  | some i, some m, hn =>
    obtain ⟨hi, hl⟩ := hn
    refine codeAny_handlers_suite_as (h.again fun s4 h4 => ?_)
    obtain ⟨oe, hz, hd, S⟩ := h4.suite hf
    refine store_ok (X := X.suite a ((a, oe) :: (X.pn ++ pins))) (v := .ref a) S hN hi (.inl hl) rfl (fun s5 S5 => ?_) (.inr hl)
    refine wpAny_mono ((hsu a oe cls d (X.pn ++ pins) hz hd).run [] s5 _ H _ S5 w) (fun f s6 hsp => ?_) (fun _ _ z => False.elim z)
    have gone : ∀ {σ6 : L2.St} {H6 : Hp} {Q : Shared → Prop}, Inv (X.suite a ((a, oe) :: (X.pn ++ pins))) [] σ6 H6 s6 → (∀ s7, Inv X pins (σ6.set i none) H6 s7 → Q s7) → wpAny (model X.prog X.w) X.A (do bindName X.env m .none; unbindBehindTheSuite X.env m p) (fun _ s7 => Q s7) X.xe s6 :=
      fun S6 hq => gone_ok (S6.unsuite ok) hN hi hl hq
    cases f with
    | ret u => obtain ⟨v6, σ6, H6, S6, r6, q6⟩ := hsp; exact gone S6 fun s7 J7 => ⟨_, _, _, J7, r6, q6⟩
    | next => obtain ⟨σ6, H6, S6, q6⟩ := hsp; exact gone S6 fun s7 J7 => ⟨_, _, J7, q6⟩
    | brk => obtain ⟨σ6, H6, S6, q6⟩ := hsp; exact gone S6 fun s7 J7 => ⟨_, _, J7, q6⟩
    | cont => obtain ⟨σ6, H6, S6, q6⟩ := hsp; exact gone S6 fun s7 J7 => ⟨_, _, J7, q6⟩
theorem Hand.clauses (hs : X.stack = X.env :: X.outer) (hf : X.env.frame = some X.env.locals) (hN : X.N.Nodup) (tk : Takes X Wout) {hds : List ExceptHandler} {l : List ClT} (hk : ClsOk X hds l) {σ : L2.St} {H : Hp} {s : Shared} (h : Hand X pins a cls d σ H s) (w : wAll X.K Wout D l cls d σ H) :
    wpAny (model X.prog X.w) X.A (handleBy (.ref a) X.env hds) (SP X pins D) X.xe s := by
  induction hk generalizing s with
  | nil => exact h.on hs hf tk w
  | @cons x c o n ts b₀ rest np p hds l hc hn hsu r ih =>
    obtain ⟨b, hb, yes, no⟩ := w
    refine wpAny_handleBy_cons (codeAny_handlers_test (h.test hf hc hb ?_)) (by intro q; cases q)
    cases b with
    | false => exact ih h (no rfl)
    | true => exact h.run (p := p) (x := fun y s₂ => cameBackBy (model X.prog X.w) X.A X.env X.xe y s₂) hf hN hn hsu (yes rfl a h.na)
/-- try: .. / except A as n: .. / except B: .. -/
theorem ps_try_all {body : List Stmt} {h₀ : ExceptHandler} {hds : List ExceptHandler} {l : List ClT} {pos : Pos} {tb : WX → TS} (hs : X.stack = X.env :: X.outer) (hf : X.env.frame = some X.env.locals) (hN : X.N.Nodup) (tk : Takes X Wout) (hb : ∀ (W : WX) (pn : List (Addr × Obj)) (xe : Value → Shared → Prop), Takes (X.tr pn xe) W → PassesOwn (model X.prog X.w) X.A X.env xe → PSs (X.tr pn xe) body (tb W))
    (hk : ClsOk X (h₀ :: hds) l) : PS X (.Try body (h₀ :: hds) [] [] pos) (fun D σ H => tb (wAll X.K Wout D l) D σ H) := by
  refine ⟨fun pins s σ H D I h => wpAny_Try_except ?_⟩
  have ok := I.ok
  refine wpAny_mono ((hb (wAll X.K Wout D l) (X.pn ++ pins) _ (fun u s' xx => ?_) PassesOwn.looking).run [] s σ H D (I.toTry _) h) (fun f s1 hsp => ?_) (fun e s1 he => he)
  · obtain ⟨a, B, sI, pins', σ', H', cls, d, rfl, J', nb, up, sky, na, os, ag, w⟩ := xx
    refine Sky.land Zc.steady (by rw [ok.frames, hs]) hf (by rw [← hs]; exact sky) fun h3 fl3 up3 => ?_
    exact Hand.clauses hs hf hN tk hk ⟨B, sI, J'.ofTry ok, nb, up.trans up3, fl3, na, os, ag⟩ w
  · cases f with
    | ret u => obtain ⟨v, σ', H', J', r, q⟩ := hsp; exact ⟨v, σ', H', J'.ofTry ok, r, q⟩
    | next => obtain ⟨σ', H', J', q⟩ := hsp; exact wpAny_execs_nil ⟨σ', H', J'.ofTry ok, q⟩
    | brk => obtain ⟨σ', H', J', q⟩ := hsp; exact ⟨σ', H', J'.ofTry ok, q⟩
    | cont => obtain ⟨σ', H', J', q⟩ := hsp; exact ⟨σ', H', J'.ofTry ok, q⟩
end
end As

/-! try in the layer -/
namespace As
open PySem PySem.Spec PyProof.Rows L2
abbrev Hdl := (Str → Bool) × Option Nat × (Exn → Addr → Sm)
def setX (o : Option Nat) (a : Addr) (ρ : Env) : Env := match o with
  | none => ρ
  | some i => ρ.set i (some (.g (.ref a)))
def offX (o : Option Nat) (ρ : Env) : Env := match o with
  | none => ρ
  | some i => ρ.set i none
def wipeX (o : Option Nat) : Ou → Ou
  | .nx ρ S => .nx (offX o ρ) S
  | .rt w S => .rt w S
  | .bk ρ S => .bk (offX o ρ) S
  | .ct ρ S => .ct (offX o ρ) S
  | .ex _ _ _ => .no
  | .no => .no
def tryH : List Hdl → Exn → Env → Store → Ou
  | [], e, ρ, S => .ex e ρ S
  | (q, o, h) :: hs, e, ρ, S => if q e.cls = true then wipeX o (h e 0 (setX o 0 ρ) S) else tryH hs e ρ S
def sTry (cl : List Str) (f : Sm) (hs : List Hdl) : Sm := fun ρ S => match f ρ S with
  | .ex e ρ' S' => if (cl.contains e.cls && e.fs.isNone) = true then tryH hs e ρ' S' else .no
  | o => o
section
variable {K : PySem.W.Frag} {mg : Str → Option Value} {M : Mp} {H : Hp} {E : L2.St → XK} {D : Ends}
theorem RO.setX {a : Addr} {vs : List (Option V)} {ρ : Env} (o : Option Nat) (r : RO K M H vs ρ) : RO K M H (putO o a vs) (setX o a ρ) := by
  cases o with
  | none => exact r
  | some i => exact RO.set (.g _) i r
theorem PostS.wipe {o : Option Nat} : ∀ {r : Ou}, PostS K mg M H E D (wipeX o r) → PostS K mg M H EN (endD o D) r
  | .nx ρ S, p => fun M' σ' H' e rs ro => by
    cases o with
    | none => exact p M' σ' H' e rs ro
    | some i => exact p M' (σ'.set i none) H' e rs (ro.none_at i)
  | .rt w S, p => fun M' v H' e rs r => by
    cases o with
    | none => exact p M' v H' e rs r
    | some i => exact p M' v H' e rs r
  | .bk ρ S, p => fun M' σ' H' e rs ro => by
    cases o with
    | none => exact p M' σ' H' e rs ro
    | some i => exact p M' (σ'.set i none) H' e rs (ro.none_at i)
  | .ct ρ S, p => fun M' σ' H' e rs ro => by
    cases o with
    | none => exact p M' σ' H' e rs ro
    | some i => exact p M' (σ'.set i none) H' e rs (ro.none_at i)
  | .ex _ _ _, p => (show False from p).elim
  | .no, p => p
/-- what a clause's suite asks: the exception is e's -/
def tCl (K : PySem.W.Frag) (mg : Str → Option Value) (cl : List Str) (h : Exn → Addr → Sm) : Addr → Value → Option Addr → TS := fun a cls d D σ H => ∃ (e : Exn) (C : Addr), cls = .ref C ∧ mg e.cls = some (.ref C) ∧ (cl.contains e.cls && e.fs.isNone) = true ∧ d = none ∧ tS K mg EN (h e a) D σ H
/-- the clauses of the model beside the clauses of the function -/
inductive ClsF (X : Cx) (cl : List Str) : List ExceptHandler → List Hdl → List ClT → Prop
  | nil : ClsF X cl [] [] []
  | cons {x : Str} {c : Value} {q : Str → Bool} {o : Option Nat} {n : Option Str} {h : Exn → Addr → Sm} {b₀ : Stmt} {rest : List Stmt} {np p : Pos} {hds : List ExceptHandler} {hs : List Hdl} {l : List ClT} (hc : Names X x c) (hn : NameOk X o n)
      (hx : ∀ k ∈ cl, ∀ C, X.mg k = some (.ref C) → PySem.W.exmOne X.K (.ref C) c = some (q k))
      (hu : ∀ e a ρ S, wipeX o (h e a (As.setX o a ρ) S) = wipeX o (h e 0 (As.setX o 0 ρ) S))
      (hsu : ∀ (a : Addr) (oe : Obj) (d : Option Addr) (pn : List (Addr × Obj)) (e : Exn) (C : Addr), Zc (.ref C) d oe → (∃ vs, oe.data = .fields vs) → X.mg e.cls = some (.ref C) → (cl.contains e.cls && e.fs.isNone) = true → d = none → FSs (X.suite a ((a, oe) :: pn)) EN (b₀ :: rest) (h e a)) (r : ClsF X cl hds hs l) :
      ClsF X cl (.ExceptHandler (some (.Name x np)) n (b₀ :: rest) p :: hds) ((q, o, h) :: hs) ((c, o, tCl X.K X.mg cl h) :: l)
theorem ClsF.ok {X : Cx} {cl : List Str} {hds : List ExceptHandler} {hs : List Hdl} {l : List ClT} (h : ClsF X cl hds hs l) : ClsOk X hds l := by
  induction h with
  | nil => exact .nil
  | cons hc hn hx hu hsu r ih =>
    refine .cons hc hn (fun a oe cls d pn hz hd => ⟨fun pins s σ H D I q => ?_⟩) ih
    obtain ⟨e, C, rfl, h1, h2, h3, t⟩ := q
    exact (hsu a oe d pn e C hz hd h1 h2 h3).run pins s σ H D I t
theorem ClsF.wish {X : Cx} {cl : List Str} {hds : List ExceptHandler} {hs : List Hdl} {l : List ClT} {E : L2.St → XK} {D : Ends} (h : ClsF X cl hds hs l) {M : Mp} {σ : L2.St} {cls : Value} {d : Option Addr} {H : Hp} {e : Exn} {ρ : Env} {S : Store}
    (rs : RS X.K M S H) (ro : RO X.K M H σ ρ) (rx : RX X.K X.mg M H e cls d) (hc : (cl.contains e.cls && e.fs.isNone) = true) (p : PostS X.K X.mg M H E D (tryH hs e ρ S)) : wAll X.K (fun cls d σ H => E σ cls d H) D l cls d σ H := by
  induction h with
  | nil => exact p M σ cls d H (Ext.refl _ _) rs ro rx
  | @cons x c q o n h b₀ rest np pp hds hs l hcn hn hx hu hsu r ih =>
    obtain ⟨C, e1, rfl, e3⟩ := id rx
    have hc2 := hc
    rw [Bool.and_eq_true] at hc2
    refine ⟨q e.cls, hx _ (by simpa using hc2.1) C e1, fun hq a ha => ?_, fun hq => ?_⟩
    · rw [tryH, if_pos hq, ← hu e a ρ S] at p
      have hz : e.fs = none := Option.isNone_iff_eq_none.mp hc2.2
      refine ⟨e, C, rfl, e1, hc, ?_, M, As.setX o a ρ, S, rs, ro.setX o, p.wipe⟩
      rw [hz] at e3
      exact e3
    · rw [tryH, if_neg (by rw [hq]; exact Bool.false_ne_true)] at p
      exact ih p
end
section
variable {X : Cx} {E : L2.St → XK}
/-- try: .. / except .. -/
theorem fs_try {cl : List Str} {body : List Stmt} {f : Sm} {h₀ : ExceptHandler} {hds : List ExceptHandler} {hs : List Hdl} {l : List ClT} {pos : Pos} (hst : X.stack = X.env :: X.outer) (hf : X.env.frame = some X.env.locals) (hN : X.N.Nodup) (tk : Takes X (fun cls d σ H => E σ cls d H))
    (hb : ∀ (E' : L2.St → XK) (pn : List (Addr × Obj)) (xe : Value → Shared → Prop), Takes (X.tr pn xe) (fun cls d σ H => E' σ cls d H) → PassesOwn (model X.prog X.w) X.A X.env xe → FSs (X.tr pn xe) E' body f)
    (hk : ClsF X cl (h₀ :: hds) hs l) : FS X E (.Try body (h₀ :: hds) [] [] pos) (sTry cl f hs) := by
  refine PS.imp (ps_try_all (tb := fun W => tS X.K X.mg (fun σ cls d H => W cls d σ H) f) hst hf hN tk (fun W pn xe t po => hb (fun σ cls d H => W cls d σ H) pn xe t po) hk.ok) fun D σ H q => ?_
  obtain ⟨M, ρ, S, rs, ro, p⟩ := q
  refine ⟨M, ρ, S, rs, ro, ?_⟩
  unfold sTry at p
  cases hf : f ρ S with
  | nx _ _ => rw [hf] at p; exact p
  | rt _ _ => rw [hf] at p; exact p
  | bk _ _ => rw [hf] at p; exact p
  | ct _ _ => rw [hf] at p; exact p
  | no => rw [hf] at p; exact p
  | ex e ρ' S' =>
    rw [hf] at p
    dsimp only at p
    by_cases hc : (cl.contains e.cls && e.fs.isNone) = true
    · rw [if_pos hc] at p
      exact fun M' σ' cls d H' x rs' ro' rx => hk.wish rs' ro' rx hc (PostS.ext x p)
    · rw [if_neg hc] at p
      exact (show False from p).elim
end
end As

/-! isinstance(e, C) of the exception that a suite holds -/
namespace As
open PySem PySem.Spec PyProof.Rows L2
def aIsE (a D : Addr) (b : Bool) : OA := fun xs S => match xs with
  | [.g (.ref a'), .g (.ref D')] => if a' = a ∧ D' = D then .ok (.d (.bl b)) S else .no
  | _ => .no
theorem apF_isE {K : PySem.W.Frag} {mg : Str → Option Value} {a C D : Addr} {b : Bool} (kit : PySem.W.kitOne K (.ref C) (.ref D) = some b) : ApF K mg (aIsE a D b) (rIsE K C a) := by
  intro M S H vs xs E Q rs r p
  unfold aIsE at p
  split at p
  · rename_i a' D'
    by_cases hc : a' = a ∧ D' = D
    · rw [if_pos hc] at p
      obtain ⟨rfl, rfl⟩ := hc
      cases r with
      | cons r1 r2 =>
        cases r2 with
        | cons r2 r3 =>
          cases r3
          cases r1
          cases r2
          exact ⟨.ref D', .ref D', b, rfl, (fun u hu => hu), kit, p.ret rs (.d (.bl _))⟩
    · rw [if_neg hc] at p
      exact (show False from p).elim
  · exact (show False from p).elim
def fIsE (i : Nat) (a : Addr) (b : Bool) : Env → Store → Rs W := fun ρ S => match ρ[i]? with
  | some (some (.g (.ref a'))) => if a' = a then .ok (.d (.bl b)) S else .no
  | _ => .no
theorem fIsE_eq (i : Nat) (a D : Addr) (b : Bool) : fApp (aIsE a D b) (aCons (fVar i) (aCons (fK (.g (.ref D))) aNil)) = fIsE i a b := by
  funext ρ S
  unfold fIsE
  rw [fApp_ap, aCons_ap, fVar_raw]
  cases h : ρ[i]? with
  | none => rfl
  | some o =>
    cases o with
    | none => rfl
    | some w =>
      simp only [Rs.bind_ok, aCons_ap, fK_ap, aNil_ap]
      unfold aIsE
      cases w with
      | g v =>
        cases v with
        | ref a' => simp
        | _ => rfl
      | _ => rfl
section
variable {X : Cx} {a C D : Addr} {oe : Obj} {pn : List (Addr × Obj)} {i : Nat} {b : Bool} {e : Expr} {nD : Str} {p p2 pos : Pos}
theorem f_isE (Ec : ExcC X.K C) (hz : Zc (.ref C) none oe) (hf : ∃ vs, oe.data = .fields vs) (kit : PySem.W.kitOne X.K (.ref C) (.ref D) = some b) (h1 : Gl X "isinstance") (hm : X.mg "isinstance" = none) (he : FE (X.suite a ((a, oe) :: pn)) EN e (fVar i)) (hg : Gl X nD) (gD : X.mg nD = some (.ref D)) (hd : (nD == ("__debug__" : Str)) = false)
    (hs : starEach [e, .Name nD p2] X.env = (false, eval e X.env) :: starEach [.Name nD p2] X.env := by rfl) (hpl : (backTo pos (starEach [.Name nD p2] X.env)).any (·.1) = false := by rfl) (hs2 : starEach [.Name nD p2] X.env = (false, eval (.Name nD p2) X.env) :: starEach [] X.env := by rfl) :
    FE (X.suite a ((a, oe) :: pn)) EN (.Call (.Name "isinstance" p) [e, .Name nD p2] [] pos) (fIsE i a b) := by
  rw [← fIsE_eq i a D b]
  exact f_callB (X := X.suite a ((a, oe) :: pn)) (call_isE Ec hz hf) (apF_isE kit) h1 hm (by decide +kernel) (fa_cons he (fa_cons (f_glob (X := X.suite a ((a, oe) :: pn)) (v := .ref D) hg gD rfl (fun _ _ => .g _) hd) fa_nil hs2) hs) (by decide) (by decide) hs hpl
@[simp] theorem fIsE_ap (i : Nat) (a : Addr) (b : Bool) (ρ : Env) (S : Store) : fIsE i a b ρ S = match ρ[i]? with
  | some (some (.g (.ref a'))) => if a' = a then .ok (.d (.bl b)) S else .no
  | _ => .no := rfl
end
/-! ### own classes of exceptions -/
structure ExOk (K : PySem.W.Frag) (mg : Str → Option Value) (c : Str) : Prop where
  ex : ∃ C, PySem.W.excIn K C [.type "ValueError", .type "Exception", .type "BaseException", .type "object"] "ValueError.__new__" = true ∧ mg c = some (.ref C) ∧ PySem.W.keepIn K (.ref C) = true ∧ PySem.W.subIn K (.ref C) (.type "BaseException") = some true ∧ PySem.W.typeIn K (.ref C) = some (.type "type") ∧ ExcC K C
structure IsOk (K : PySem.W.Frag) (mg : Str → Option Value) (c d : Str) (b : Bool) : Prop where
  ex : ∃ C D, mg c = some (.ref C) ∧ mg d = some (.ref D) ∧ PySem.W.exmOne K (.ref C) (.ref D) = some b ∧ PySem.W.kitOne K (.ref C) (.ref D) = some b
/-- all pairs of some classes with one -/
inductive IsAll (K : PySem.W.Frag) (mg : Str → Option Value) (d : Str) (q : Str → Bool) : List Str → Prop
  | nil : IsAll K mg d q []
  | cons {c : Str} {cl : List Str} (h : IsOk K mg c d (q c)) (r : IsAll K mg d q cl) : IsAll K mg d q (c :: cl)
theorem IsAll.get {K : PySem.W.Frag} {mg : Str → Option Value} {d : Str} {q : Str → Bool} {cl : List Str} (h : IsAll K mg d q cl) {k : Str} (hk : k ∈ cl) {C D : Addr} (gC : mg k = some (.ref C)) (gD : mg d = some (.ref D)) : PySem.W.exmOne K (.ref C) (.ref D) = some (q k) ∧ PySem.W.kitOne K (.ref C) (.ref D) = some (q k) := by
  induction h with
  | nil => cases hk
  | cons h r ih =>
    rcases List.mem_cons.mp hk with rfl | hk
    · obtain ⟨C', D', h1, h2, h3, h4⟩ := h.ex
      cases gC.symm.trans h1
      cases gD.symm.trans h2
      exact ⟨h3, h4⟩
    · exact ih hk
inductive ExAll (K : PySem.W.Frag) (mg : Str → Option Value) : List Str → Prop
  | nil : ExAll K mg []
  | cons {c : Str} {cl : List Str} (h : ExOk K mg c) (r : ExAll K mg cl) : ExAll K mg (c :: cl)
theorem ExAll.get {K : PySem.W.Frag} {mg : Str → Option Value} {cl : List Str} (h : ExAll K mg cl) {k : Str} (hk : k ∈ cl) {C : Addr} (gC : mg k = some (.ref C)) : ExcC K C := by
  induction h with
  | nil => cases hk
  | cons h r ih =>
    rcases List.mem_cons.mp hk with rfl | hk
    · obtain ⟨C', h1, h2, h3, h4, h5, h6⟩ := h.ex
      cases gC.symm.trans h2
      exact h6
    · exact ih hk
section
variable {X : Cx} {E : L2.St → XK} {p pos : Pos}
theorem fs_raiseX {c m : Str} {j : Nat} {p2 p3 : Pos} (hc : X.calm = true) (tk : Takes X (fun cls d σ H => E σ cls d H)) (h : ExOk X.K X.mg c) (hg : Gl X c) (hdb : (c == ("__debug__" : Str)) = false := by decide) : FS X E (.Raise (some (.Call (.Name c p) [.Constant (.str m) j p2] [] p3)) none pos) (fun ρ S => .ex ⟨c, none⟩ ρ S) := by
  obtain ⟨C, h1, h2, h3, h4, h5, _⟩ := h.ex
  exact fs_raise hc tk PySem.F.excBase_ValueError h1 h2 h3 (L2.raises_own h4 h5) hg hdb
def ClsE (X : Cx) (cl : List Str) (hds : List ExceptHandler) (hs : List Hdl) : Prop := ∃ l, ClsF X cl hds hs l
theorem clsE_nil {cl : List Str} : ClsE X cl [] [] := ⟨[], .nil⟩
theorem clsE_cons {cl : List Str} {x : Str} {q : Str → Bool} {o : Option Nat} {n : Option Str} {h : Exn → Addr → Sm} {b₀ : Stmt} {rest : List Stmt} {np pp : Pos} {hds : List ExceptHandler} {hs : List Hdl} (hX : ExOk X.K X.mg x) (hg : Gl X x) (hdb : (x == ("__debug__" : Str)) = false) (hn : NameOk X o n) (hx : IsAll X.K X.mg x q cl)
    (hu : ∀ e a ρ S, wipeX o (h e a (As.setX o a ρ) S) = wipeX o (h e 0 (As.setX o 0 ρ) S))
    (hsu : ∀ (a : Addr) (oe : Obj) (pn : List (Addr × Obj)) (e : Exn) (C : Addr), Zc (.ref C) none oe → (∃ vs, oe.data = .fields vs) → X.mg e.cls = some (.ref C) → e.cls ∈ cl → FSs (X.suite a ((a, oe) :: pn)) EN (b₀ :: rest) (h e a)) (r : ClsE X cl hds hs) :
    ClsE X cl (.ExceptHandler (some (.Name x np)) n (b₀ :: rest) pp :: hds) ((q, o, h) :: hs) := by
  obtain ⟨D, _, gD, _⟩ := hX.ex
  obtain ⟨l, r⟩ := r
  refine ⟨_, .cons ⟨hg, hdb, .inl gD⟩ hn (fun k hk C gC => (hx.get hk gC gD).1) hu (fun a oe d pn e C hz hd gC hc hdn => ?_) r⟩
  subst hdn
  rw [Bool.and_eq_true] at hc
  exact hsu a oe pn e C hz hd gC (by simpa using hc.1)
theorem fs_tryE {cl : List Str} {body : List Stmt} {f : Sm} {h₀ : ExceptHandler} {hds : List ExceptHandler} {hs : List Hdl} (hst : X.stack = X.env :: X.outer) (hf : X.env.frame = some X.env.locals) (hN : X.N.Nodup) (tk : Takes X (fun cls d σ H => E σ cls d H))
    (hb : ∀ (E' : L2.St → XK) (pn : List (Addr × Obj)) (xe : Value → Shared → Prop), Takes (X.tr pn xe) (fun cls d σ H => E' σ cls d H) → PassesOwn (model X.prog X.w) X.A X.env xe → FSs (X.tr pn xe) E' body f)
    (hk : ClsE X cl (h₀ :: hds) hs) : FS X E (.Try body (h₀ :: hds) [] [] pos) (sTry cl f hs) := by
  obtain ⟨l, hk⟩ := hk
  exact fs_try hst hf hN tk hb hk
theorem f_isEX {a C : Addr} {oe : Obj} {pn : List (Addr × Obj)} {i : Nat} {e : Expr} {k nD : Str} {q : Str → Bool} {cl : List Str} {p2 : Pos} (hk : k ∈ cl) (gC : X.mg k = some (.ref C)) (hE : ExAll X.K X.mg cl) (hI : IsAll X.K X.mg nD q cl) (hD : ExOk X.K X.mg nD) (hz : Zc (.ref C) none oe) (hf : ∃ vs, oe.data = .fields vs)
    (h1 : Gl X "isinstance") (hm : X.mg "isinstance" = none) (he : FE (X.suite a ((a, oe) :: pn)) EN e (fVar i)) (hg : Gl X nD) (hd : (nD == ("__debug__" : Str)) = false)
    (hs : starEach [e, .Name nD p2] X.env = (false, eval e X.env) :: starEach [.Name nD p2] X.env := by rfl) (hpl : (backTo pos (starEach [.Name nD p2] X.env)).any (·.1) = false := by rfl) (hs2 : starEach [.Name nD p2] X.env = (false, eval (.Name nD p2) X.env) :: starEach [] X.env := by rfl) :
    FE (X.suite a ((a, oe) :: pn)) EN (.Call (.Name "isinstance" p) [e, .Name nD p2] [] pos) (fIsE i a (q k)) := by
  obtain ⟨D, _, gD, _⟩ := hD.ex
  exact f_isE (hE.get hk gC) hz hf (hI.get hk gC gD).2 h1 hm he hg gD hd hs hpl hs2
end
end As

/-! comprehensions of two fors -/
namespace As
open PySem PySem.Spec PyProof.Rows L2
open Classical in
noncomputable def compL2 (p : Pt) (g : Store → Prop) (t : Env → Store → Rs Bool) (fi1 : Env → Store → Rs Itm) (p1 : Pt) (t1 : Env → Store → Rs Bool) (fe : Env → Store → Rs W) (vs1 : List Nat) (ρw : Env) : List W → Store → Rs (List W)
  | [], S => if g S then .ok [] S else .no
  | w :: ws, S => if g S then match bindP p w ρw with
      | some ρ1 => match t ρ1 S with
        | .ok true S1 => match fi1 ρ1 S1 with
          | .ok a S2 => match compL p1 a.2 t1 fe (wipeE ρ1 vs1) a.1 S2 with
            | .ok ds S3 => match compL2 p g t fi1 p1 t1 fe vs1 ρw ws S3 with
              | .ok es S4 => .ok (ds ++ es) S4
              | _ => .no
            | _ => .no
          | _ => .no
        | .ok false S1 => compL2 p g t fi1 p1 t1 fe vs1 ρw ws S1
        | _ => .no
      | none => .no
    else .no
noncomputable def fLc2 (b : Bool) (fi : Env → Store → Rs Itm) (p : Pt) (t : Env → Store → Rs Bool) (fi1 : Env → Store → Rs Itm) (p1 : Pt) (t1 : Env → Store → Rs Bool) (fe : Env → Store → Rs W) (vs vs1 : List Nat) : Env → Store → Rs W :=
  fun ρ S => (fi ρ S).bind fun a S1 => match compL2 p a.2 t fi1 p1 t1 fe vs1 (wipeE ρ vs) a.1 S1 with
    | .ok ds S2 => if ds.length < 100000 then newW b ds S2 else .no
    | _ => .no
section
variable {K : PySem.W.Frag} {mg : Str → Option Value}
/-- what is left to do -/
def FinL (K : PySem.W.Frag) (M' : Mp) (H' : Hp) (D : Addr) (Z : Hp → Prop) (N : Store → Prop) (acc : List W) : Rs (List W) → Prop
  | .ok ds S1 => (acc ++ ds).length < 100000 ∧ (∀ M1 H1 xs, Ext M' M1 H' H1 → RS K (M1.hide D) S1 H1 → H1 D = some (.lst xs) → RWs K (M1.hide D) H1 xs (acc ++ ds) → Z H1) ∧ N S1
  | _ => False
/-- the state between two turns -/
def MidL (K : PySem.W.Frag) (M' : Mp) (H' : Hp) (D : Addr) (R : Mp → Hp → Prop) (F : List W → Store → Prop) (H1 : Hp) : Prop :=
  ∃ M1 S1 acc xs, Ext M' M1 H' H1 ∧ RS K (M1.hide D) S1 H1 ∧ H1 D = some (.lst xs) ∧ RWs K (M1.hide D) H1 xs acc ∧ acc.length < 100000 ∧ F acc S1 ∧ R (M1.hide D) H1
theorem mid_ex0 {M' M1 : Mp} {H' H1 : Hp} {D : Addr} (nD : H' D = none) (e1 : Ext M' M1 H' H1) : Ex0 M' (M1.hide D) H' H1 := ⟨e1.ad, fun a o n h => by
  have q := (e1.live n h).1
  refine ⟨fun z => ?_, (e1.live n h).2⟩
  rcases z with z | z | z
  · exact q (.inl z)
  · exact q (.inr z)
  · rw [z, nD] at h
    cases h⟩
theorem hid_eq {M1 Ma : Mp} {D : Addr} (h : Ma.hid = (M1.hide D).hid) : Ma = Mp.hide ⟨M1.hid, Ma.ad⟩ D := by
  cases Ma
  cases h
  rfl
theorem mid_ext {M' M1 Ma : Mp} {H' H1 Ha : Hp} {D : Addr} (e1 : Ext M' M1 H' H1) (ea : Ext (M1.hide D) Ma H1 Ha) : Ext M' ⟨M1.hid, Ma.ad⟩ H' Ha := by
  obtain ⟨m1, q1⟩ := e1.ad
  obtain ⟨m2, q2⟩ := ea.ad
  have q2' : Ma.ad = M1.ad ++ m2 := q2
  refine ⟨e1.hid, ⟨m1 ++ m2, by show Ma.ad = _; rw [q2', q1, List.append_assoc]⟩, fun a o h n => ?_⟩
  obtain ⟨h1, n1⟩ := e1.st a o h n
  exact ea.st a o h1 n1
/-- from the state between two turns on -/
theorem mid_on {M' M1 Ma : Mp} {H' H1 Ha : Hp} {D : Addr} {S1 Sa : Store} {acc : List W} {xs : List V} {R : Mp → Hp → Prop} {F : List W → Store → Prop} (e1 : Ext M' M1 H' H1) (rs1 : RS K (M1.hide D) S1 H1) (hD : H1 D = some (.lst xs)) (td : RWs K (M1.hide D) H1 xs acc) (hl : acc.length < 100000)
    (ea : Ext (M1.hide D) Ma H1 Ha) (rsa : RS K Ma Sa Ha) (f : F acc Sa) (hR : R Ma Ha) : MidL K M' H' D R F Ha := by
  have h3 := hid_eq ea.hid
  refine ⟨⟨M1.hid, Ma.ad⟩, Sa, acc, xs, mid_ext e1 ea, ?_, (ea.st D _ hD fun z => rs1.dj D z (.inr rfl)).1, ?_, hl, f, h3 ▸ hR⟩
  · rw [← h3]
    exact rsa
  · have := td.ext ea
    rw [h3] at this
    exact this
/-- one more item -/
theorem mid_put {M' M1 Ma : Mp} {H' H1 Ha : Hp} {D : Addr} {S1 Sa : Store} {acc : List W} {xs : List V} {R : Mp → Hp → Prop} {F : List W → Store → Prop} {v : V} {d : W} (nD : H' D = none) (e1 : Ext M' M1 H' H1) (rs1 : RS K (M1.hide D) S1 H1) (hD : H1 D = some (.lst xs)) (td : RWs K (M1.hide D) H1 xs acc) (hl : acc.length + 1 < 100000)
    (ea : Ext (M1.hide D) Ma H1 Ha) (rsa : RS K Ma Sa Ha) (rd : RW K Ma Ha v d) (f : F (acc ++ [d]) Sa) (hR : ∀ o, R Ma (upd Ha D o)) : ∃ ac, Ha D = some (.lst ac) ∧ ac.length < sizeLine ∧ MidL K M' H' D R F (upd Ha D (.lst (ac ++ [v]))) := by
  have h4 := hid_eq ea.hid
  have hl2 := td.length
  refine ⟨xs, (ea.st D _ hD fun z => rs1.dj D z (.inr rfl)).1, Nat.lt_of_lt_of_le (show xs.length < 100000 by omega) (by decide), ?_⟩
  have hR4 := fun o => h4 ▸ hR o
  rw [h4] at rsa rd
  have td4 := td.ext ea
  rw [h4] at td4
  refine ⟨⟨M1.hid, Ma.ad⟩, Sa, acc ++ [d], _, ?_, rsa.hid_put, upd_same, (td4.append (.cons rd .nil)).ex0 hid_put, by rw [List.length_append]; exact hl, f, hR4 _⟩
  have z := mid_ext e1 ea
  exact ⟨z.hid, z.ad, fun a o h n => by
    rw [upd_ne (ne_of_none h nD)]
    exact z.st a o h n⟩
variable {E : L2.St → XK}
def NxtL (N : List W → Store → Prop) (acc : List W) : Rs (List W) → Prop
  | .ok ds S => N (acc ++ ds) S
  | _ => False
theorem lc2_imp {b : Bool} {fi fi1 : Env → Store → Rs Itm} {p p1 : Pt} {t t1 : Env → Store → Rs Bool} {fe : Env → Store → Rs W} {vs vs1 : List Nat} (hv : ∀ i ∈ p.nms, i ∈ vs) (hv1 : ∀ i ∈ p1.nms, i ∈ vs1) :
    ∀ σ H Q, tG K mg E (RWK K) (fLc2 b fi p t fi1 p1 t1 fe vs vs1) σ H Q → tLc2 (tI K mg E fi) (gP K p) (tG K mg EN RB t) (tI K mg EN fi1) (gP K p1) (tG K mg EN RB t1) (tG K mg EN (RWK K) fe) vs vs1 σ H Q := by
  intro σ H Q h
  obtain ⟨M, ρ, S, rs, ro, q⟩ := h
  refine ⟨M, ρ, S, rs, ro, ?_⟩
  unfold fLc2 at q
  cases hf : fi ρ S with
  | no => rw [hf] at q; exact q
  | ex e S' => rw [hf] at q; exact q
  | ok a S' =>
    rw [hf] at q
    obtain ⟨ws, g⟩ := a
    intro M' J H' e rs' it D nD
    have q0 : Post K mg M H (E σ) (RWK K) Q (match compL2 p g t fi1 p1 t1 fe vs1 (wipeE ρ vs) ws S' with
      | .ok ds S2 => if ds.length < 100000 then newW b ds S2 else .no
      | _ => .no) := q
    have ro' := (ro.ext e).wipe vs
    have q' := Post.ext e q0
    have fin : ∀ {M1 : Mp} {H1 : Hp} {S1 : Store} {xs : List V} {ds : List W}, Post K mg M' H' (E σ) (RWK K) Q (newW b ds S1) → Ext M' M1 H' H1 → RS K (M1.hide D) S1 H1 → H1 D = some (.lst xs) → RWs K (M1.hide D) H1 xs ds → Q (.ref D) H1 := by
      intro M1 H1 S1 xs us pp e1 r hD tt
      unfold newW at pp
      have rl : M1.ad.length = S1.length := r.len
      have atD : (M1.ad ++ [D])[S1.length]? = some D := by
        rw [← rl, List.getElem?_append_right (Nat.le_refl _), Nat.sub_self]
        rfl
      cases hu : unDs us with
      | none =>
        rw [hu] at pp
        obtain ⟨r2, e2⟩ := adoptW r hD tt rs' e1 nD
        exact pp _ (.ref D) H1 e2 r2 (.c atD)
      | some ds =>
        rw [hu] at pp
        cases b with
        | false =>
          refine pp M1 (.ref D) H1 e1 r.show_ (.d (.lst ⟨?_, hD⟩ ((tt.un hu).ex0 Ex0.show_)))
          rintro (z | z)
          · exact r.dj D z (.inr rfl)
          · exact rs'.hd D (e1.hid ▸ z) nD
        | true =>
          obtain ⟨r2, e2⟩ := adopt r hD (tt.un hu) rs' e1 nD
          exact pp _ (.ref D) H1 e2 r2 (.c atD)
    -- what is left of the outer walk
    let Fo : List W → Rs (List W) → Prop := fun acc r => match r with
      | .ok ds S1 => (acc ++ ds).length < 100000 ∧ ∀ M1 H1 xs, Ext M' M1 H' H1 → RS K (M1.hide D) S1 H1 → H1 D = some (.lst xs) → RWs K (M1.hide D) H1 xs (acc ++ ds) → Q (.ref D) H1
      | _ => False
    have start : Fo [] (compL2 p g t fi1 p1 t1 fe vs1 (wipeE ρ vs) ws S') := by
      cases hc : compL2 p g t fi1 p1 t1 fe vs1 (wipeE ρ vs) ws S' with
      | no => rw [hc] at q'; exact (show False from q').elim
      | ex e S1 => rw [hc] at q'; exact (show False from q').elim
      | ok ds S1 =>
        rw [hc] at q'
        dsimp only at q'
        by_cases hz : ds.length < 100000
        · rw [if_pos hz] at q'
          exact ⟨hz, fun M1 H1 xs e1 r hD tt => fin q' e1 r hD tt⟩
        · rw [if_neg hz] at q'
          exact (show False from q').elim
    have e0 : Ext M' M' H' (upd H' D (.lst [])) := ⟨rfl, ⟨[], (List.append_nil _).symm⟩, fun a o h n => ⟨by rw [upd_ne (ne_of_none h nD)]; exact h, n⟩⟩
    refine ⟨fun i m H1 => m = ws.length - i ∧ i ≤ ws.length ∧ MidL K M' H' D (fun _ _ => True) (fun acc S1 => Fo acc (compL2 p g t fi1 p1 t1 fe vs1 (wipeE ρ vs) (ws.drop i) S1)) H1,
      ⟨_, rfl, Nat.zero_le _, M', S', [], [], e0, rs'.hide nD, upd_same, .nil, by decide, start, trivial⟩, fun i m H1 h => ?_⟩
    obtain ⟨rfl, hi, M1, S1, acc, xs, e1, rs1, hD, td, hl, fi', _⟩ := h
    have x1 := mid_ex0 nD e1
    by_cases hlt : i < ws.length
    · refine .inr ?_
      rw [List.drop_eq_getElem_cons hlt, compL2] at fi'
      by_cases hg1 : g S1
      · rw [if_pos hg1] at fi'
        obtain ⟨iok, _⟩ := it (M1.hide D) S1 H1 x1 rs1 hg1
        obtain ⟨go, yl⟩ := iok i _ (List.getElem?_eq_getElem hlt)
        refine ⟨go, _, fun H' w => ⟨_, Nat.sub_succ_lt_self _ _ hlt, rfl, hlt, w⟩, fun x H2 y => ?_⟩
        obtain ⟨keep, rw2⟩ := yl x H2 y
        obtain ⟨rs2, e2⟩ := rs1.same keep
        have ro2 : RO K (M1.hide D) H2 (L2.wipe σ vs) (wipeE ρ vs) := (ro'.ex0 x1).ext e2
        cases hb : bindP p ws[i] (wipeE ρ vs) with
        | none => rw [hb] at fi'; exact (show False from fi').elim
        | some ρ2 =>
          rw [hb] at fi'
          dsimp only at fi'
          refine bindP_ok rw2 ro2 hb fun σ2 ro3 hw => ⟨by rw [hw vs hv]; exact wipe_wipe σ vs, ?_⟩
          refine ⟨M1.hide D, ρ2, S1, rs2, ro3, ?_⟩
          cases ht : t ρ2 S1 with
          | no => rw [ht] at fi'; exact (show False from fi').elim
          | ex _ _ => rw [ht] at fi'; exact (show False from fi').elim
          | ok c S3 =>
            rw [ht] at fi'
            intro M3 c' H3 e3 rs3 r3
            have r3' : c' = c := r3
            subst r3'
            cases c' with
            | false =>
              rw [if_neg Bool.false_ne_true]
              exact mid_on e1 rs1 hD td hl (e2.trans e3) rs3 fi' trivial
            | true =>
              rw [if_pos rfl]
              dsimp only at fi'
              refine ⟨M3, ρ2, S3, rs3, ro3.ext e3, ?_⟩
              cases hfi : fi1 ρ2 S3 with
              | no => rw [hfi] at fi'; exact (show False from fi').elim
              | ex _ _ => rw [hfi] at fi'; exact (show False from fi').elim
              | ok a1 S4 =>
                rw [hfi] at fi'
                obtain ⟨ws1, g1⟩ := a1
                dsimp only at fi'
                intro M4 J1 H4 e4 rs4 it1
                let N : List W → Store → Prop := fun ac Sx => Fo ac (compL2 p g t fi1 p1 t1 fe vs1 (wipeE ρ vs) (ws.drop (i + 1)) Sx)
                have nlt : ∀ ac Sx, N ac Sx → ac.length < 100000 := fun ac Sx z => by
                  have z' : Fo ac (compL2 p g t fi1 p1 t1 fe vs1 (wipeE ρ vs) (ws.drop (i + 1)) Sx) := z
                  cases hcc : compL2 p g t fi1 p1 t1 fe vs1 (wipeE ρ vs) (ws.drop (i + 1)) Sx with
                  | no => rw [hcc] at z'; exact (show False from z').elim
                  | ex _ _ => rw [hcc] at z'; exact (show False from z').elim
                  | ok es Sy =>
                    rw [hcc] at z'
                    have := z'.1
                    rw [List.length_append] at this
                    omega
                have fiN : NxtL N acc (compL p1 g1 t1 fe (wipeE ρ2 vs1) ws1 S4) := by
                  cases hcc : compL p1 g1 t1 fe (wipeE ρ2 vs1) ws1 S4 with
                  | no => rw [hcc] at fi'; exact (show False from fi').elim
                  | ex _ _ => rw [hcc] at fi'; exact (show False from fi').elim
                  | ok ds5 S5 =>
                    rw [hcc] at fi'
                    dsimp only at fi'
                    show Fo (acc ++ ds5) (compL2 p g t fi1 p1 t1 fe vs1 (wipeE ρ vs) (ws.drop (i + 1)) S5)
                    cases hc2 : compL2 p g t fi1 p1 t1 fe vs1 (wipeE ρ vs) (ws.drop (i + 1)) S5 with
                    | no => rw [hc2] at fi'; exact (show False from fi').elim
                    | ex _ _ => rw [hc2] at fi'; exact (show False from fi').elim
                    | ok es S6 =>
                      rw [hc2] at fi'
                      have f2 : (acc ++ (ds5 ++ es)).length < 100000 ∧ ∀ M1 H1 xs, Ext M' M1 H' H1 → RS K (M1.hide D) S6 H1 → H1 D = some (.lst xs) → RWs K (M1.hide D) H1 xs (acc ++ (ds5 ++ es)) → Q (.ref D) H1 := fi'
                      rw [← List.append_assoc] at f2
                      exact f2
                have ro4 := ((ro3.ext e3).ext e4).wipe vs1
                have e14 := (e2.trans e3).trans e4
                refine ⟨fun j k H5 => k = ws1.length - j ∧ j ≤ ws1.length ∧ MidL K M' H' D (fun Mx Hx => Ex0 M4 Mx H4 Hx) (fun ac S5 => NxtL N ac (compL p1 g1 t1 fe (wipeE ρ2 vs1) (ws1.drop j) S5)) H5,
                  ⟨_, rfl, Nat.zero_le _, mid_on e1 rs1 hD td hl e14 rs4 fiN (Ext.refl _ _).ex0⟩, fun j k H5 h5 => ?_⟩
                obtain ⟨rfl, hj, M5, S5, acc5, xs5, a1, a2, a3, a4, a5, a6, a7⟩ := h5
                by_cases hjl : j < ws1.length
                · refine .inr ?_
                  rw [List.drop_eq_getElem_cons hjl, compL] at a6
                  by_cases hg5 : g1 S5
                  · rw [if_pos hg5] at a6
                    obtain ⟨iok1, _⟩ := it1 (M5.hide D) S5 H5 a7 a2 hg5
                    obtain ⟨go1, yl1⟩ := iok1 j _ (List.getElem?_eq_getElem hjl)
                    refine ⟨go1, _, fun H' w => ⟨_, Nat.sub_succ_lt_self _ _ hjl, rfl, hjl, w⟩, fun x1 H6 y1 => ?_⟩
                    obtain ⟨keep1, rw6⟩ := yl1 x1 H6 y1
                    obtain ⟨rs6, e6⟩ := a2.same keep1
                    have ro6 := (ro4.ex0 a7).ext e6
                    cases hb1 : bindP p1 ws1[j] (wipeE ρ2 vs1) with
                    | none => rw [hb1] at a6; exact (show False from a6).elim
                    | some ρ6 =>
                      rw [hb1] at a6
                      dsimp only at a6
                      refine bindP_ok rw6 ro6 hb1 fun σ6 ro7 hw6 => ⟨by rw [hw6 vs1 hv1]; exact wipe_wipe σ2 vs1, ?_⟩
                      refine ⟨M5.hide D, ρ6, S5, rs6, ro7, ?_⟩
                      cases ht1 : t1 ρ6 S5 with
                      | no => rw [ht1] at a6; exact (show False from a6).elim
                      | ex _ _ => rw [ht1] at a6; exact (show False from a6).elim
                      | ok c1 S7 =>
                        rw [ht1] at a6
                        intro M7 c1' H7 e7 rs7 r7
                        have r7' : c1' = c1 := r7
                        subst r7'
                        cases c1' with
                        | false =>
                          rw [if_neg Bool.false_ne_true]
                          exact mid_on a1 a2 a3 a4 a5 (e6.trans e7) rs7 a6 (a7.trans (e6.trans e7).ex0)
                        | true =>
                          rw [if_pos rfl]
                          dsimp only at a6
                          refine ⟨M7, ρ6, S7, rs7, ro7.ext e7, ?_⟩
                          cases hfe : fe ρ6 S7 with
                          | no => rw [hfe] at a6; exact (show False from a6).elim
                          | ex _ _ => rw [hfe] at a6; exact (show False from a6).elim
                          | ok w S8 =>
                            rw [hfe] at a6
                            dsimp only at a6
                            intro M8 v H8 e8 rs8 r8
                            have rd : RW K M8 H8 v w := r8
                            have e58 := (e6.trans e7).trans e8
                            have h8 := hid_eq e58.hid
                            have x8 : Ex0 M4 M8 H4 H8 := a7.trans e58.ex0
                            have f8 : NxtL N (acc5 ++ [w]) (compL p1 g1 t1 fe (wipeE ρ2 vs1) (ws1.drop (j + 1)) S8) ∧ acc5.length + 1 < 100000 := by
                              cases hcc : compL p1 g1 t1 fe (wipeE ρ2 vs1) (ws1.drop (j + 1)) S8 with
                              | no => rw [hcc] at a6; exact (show False from a6).elim
                              | ex _ _ => rw [hcc] at a6; exact (show False from a6).elim
                              | ok ds9 S9 =>
                                rw [hcc] at a6
                                have a6' : N (acc5 ++ w :: ds9) S9 := a6
                                refine ⟨?_, ?_⟩
                                · show N (acc5 ++ [w] ++ ds9) S9
                                  rw [List.append_assoc]
                                  exact a6'
                                · have := nlt _ _ a6'
                                  rw [List.length_append, List.length_cons] at this
                                  omega
                            exact mid_put nD a1 a2 a3 a4 f8.2 e58 rs8 rd f8.1 fun o => x8.trans (by rw [h8]; exact hid_put)
                  · rw [if_neg hg5] at a6
                    exact (show False from a6).elim
                · have e5 : j = ws1.length := by omega
                  subst e5
                  rw [List.drop_length, compL] at a6
                  by_cases hg5 : g1 S5
                  · rw [if_pos hg5] at a6
                    have a6' : N (acc5 ++ []) S5 := a6
                    rw [List.append_nil] at a6'
                    exact .inl ⟨(it1 (M5.hide D) S5 H5 a7 a2 hg5).2, M5, S5, acc5, xs5, a1, a2, a3, a4, a5, a6', trivial⟩
                  · rw [if_neg hg5] at a6
                    exact (show False from a6).elim
      · rw [if_neg hg1] at fi'
        exact (show False from fi').elim
    · have e0 : i = ws.length := by omega
      subst e0
      rw [List.drop_length, compL2] at fi'
      by_cases hg1 : g S1
      · rw [if_pos hg1] at fi'
        exact .inl ⟨(it (M1.hide D) S1 H1 x1 rs1 hg1).2, fi'.2 M1 H1 xs e1 rs1 hD (by rw [List.append_nil]; exact td)⟩
      · rw [if_neg hg1] at fi'
        exact (show False from fi').elim
end
section
variable {X : Cx} {E : L2.St → XK} {pos : Pos}
theorem f_lc2 (b : Bool) {elt tg iter tg1 iter1 : Expr} {ifs ifs1 : List Expr} {scope : Scope} {own : List (Str × Nat)} {fi fi1 : Env → Store → Rs Itm} {p p1 : Pt} {t t1 : Env → Store → Rs Bool} {fe : Env → Store → Rs W} (hc : X.calm = true) (hN : X.N.Nodup) (hi : FI X E tg iter fi) (ok : BlkOk X.N X.env.scope scope own)
    (hg : ∀ (s : Shared) (H : Hp) (C : Addr) (cl : List (Str × Addr)) (fp : List Addr), PG (X.blk s H scope (compEnvC scope cl C X.env) fp) tg (gP X.K p))
    (ht : ∀ (s : Shared) (H : Hp) (C : Addr) (cl : List (Str × Addr)) (fp : List Addr), FTs (X.blk s H scope (compEnvC scope cl C X.env) fp) EN ifs t)
    (hi1 : ∀ (s : Shared) (H : Hp) (C : Addr) (cl : List (Str × Addr)) (fp : List Addr), FI (X.blk s H scope (compEnvC scope cl C X.env) fp) EN tg1 iter1 fi1)
    (hg1 : ∀ (s : Shared) (H : Hp) (C : Addr) (cl : List (Str × Addr)) (fp : List Addr), PG (X.blk s H scope (compEnvC scope cl C X.env) fp) tg1 (gP X.K p1))
    (ht1 : ∀ (s : Shared) (H : Hp) (C : Addr) (cl : List (Str × Addr)) (fp : List Addr), FTs (X.blk s H scope (compEnvC scope cl C X.env) fp) EN ifs1 t1)
    (he : ∀ (s : Shared) (H : Hp) (C : Addr) (cl : List (Str × Addr)) (fp : List Addr), FE (X.blk s H scope (compEnvC scope cl C X.env) fp) EN elt fe)
    (hv : ∀ i ∈ p.nms, i ∈ own.map (·.2) := by decide) (hv1 : ∀ i ∈ p1.nms, i ∈ own.map (·.2) := by decide) (hs : ∀ x, foldedSetIterable iter X.env x = pure x := by intro _; rfl) (hs1 : ∀ env x, foldedSetIterable iter1 env x = pure x := by intro _ _; rfl) :
    FE X E (.ListComp elt [⟨tg, iter, ifs, 0⟩, ⟨tg1, iter1, ifs1, 0⟩] scope pos) (fLc2 b fi p t fi1 p1 t1 fe (own.map (·.2)) p1.nms) :=
  PE.imp (pe_lc2 hc hN hi ok hv1 hg ht hi1 hg1 ht1 he hs hs1) (lc2_imp hv fun _ h => h)
theorem fs_setLc2 (b : Bool) {i : Nat} {y : Str} {py spos : Pos} {elt tg iter tg1 iter1 : Expr} {ifs ifs1 : List Expr} {scope : Scope} {own : List (Str × Nat)} {fi fi1 : Env → Store → Rs Itm} {p p1 : Pt} {t t1 : Env → Store → Rs Bool} {fe : Env → Store → Rs W} (hc : X.calm = true) (hN : X.N.Nodup) (hy : X.N[i]? = some y) (hyl : X.env.scope.names.lookup y = some .local)
    (hsw : swapsWith (.ListComp elt [⟨tg, iter, ifs, 0⟩, ⟨tg1, iter1, ifs1, 0⟩] scope pos) (some (.Name y py)) spos.line X.env = pure true) (hi : FI X E tg iter fi) (ok : BlkOk X.N X.env.scope scope own)
    (hg : ∀ (s : Shared) (H : Hp) (C : Addr) (cl : List (Str × Addr)) (fp : List Addr), PG (X.blk s H scope (compEnvC scope cl C X.env) fp) tg (gP X.K p))
    (ht : ∀ (s : Shared) (H : Hp) (C : Addr) (cl : List (Str × Addr)) (fp : List Addr), FTs (X.blk s H scope (compEnvC scope cl C X.env) fp) EN ifs t)
    (hi1 : ∀ (s : Shared) (H : Hp) (C : Addr) (cl : List (Str × Addr)) (fp : List Addr), FI (X.blk s H scope (compEnvC scope cl C X.env) fp) EN tg1 iter1 fi1)
    (hg1 : ∀ (s : Shared) (H : Hp) (C : Addr) (cl : List (Str × Addr)) (fp : List Addr), PG (X.blk s H scope (compEnvC scope cl C X.env) fp) tg1 (gP X.K p1))
    (ht1 : ∀ (s : Shared) (H : Hp) (C : Addr) (cl : List (Str × Addr)) (fp : List Addr), FTs (X.blk s H scope (compEnvC scope cl C X.env) fp) EN ifs1 t1)
    (he : ∀ (s : Shared) (H : Hp) (C : Addr) (cl : List (Str × Addr)) (fp : List Addr), FE (X.blk s H scope (compEnvC scope cl C X.env) fp) EN elt fe)
    (hv : ∀ i ∈ p.nms, i ∈ own.map (·.2) := by decide) (hv1 : ∀ i ∈ p1.nms, i ∈ own.map (·.2) := by decide) (hs : ∀ x, foldedSetIterable iter X.env x = pure x := by intro _; rfl) (hs1 : ∀ env x, foldedSetIterable iter1 env x = pure x := by intro _ _; rfl) :
    FS X E (.Assign [.Name y py] (.ListComp elt [⟨tg, iter, ifs, 0⟩, ⟨tg1, iter1, ifs1, 0⟩] scope pos) spos) (sSet i (fLc2 b fi p t fi1 p1 t1 fe (own.map (·.2)) p1.nms)) := by
  refine PS.imp (ps_setLc2 (wi1 := tI X.K X.mg EN fi1) (tt := tG X.K X.mg EN RB t) (tt1 := tG X.K X.mg EN RB t1) (te := tG X.K X.mg EN (RWK X.K) fe) hc hN hy hyl hsw hi ok hv1 hg ht hi1 hg1 ht1 he hs hs1) fun D σ H h => ?_
  have h1 : tG X.K X.mg E (RWK X.K) (fLc2 b fi p t fi1 p1 t1 fe (own.map (·.2)) p1.nms) σ H (fun x H1 => gName i x σ H1 D.nx) := tS.st (R := RWK X.K) (k := fun ρ w S1 => .nx (ρ.set i (some w)) S1) h fun b H1 M1 ρ a S1 rs ro r p => p M1 _ H1 (Ext.refl _ _) rs (RO.set r i ro)
  exact lc2_imp hv (fun _ h => h) σ H _ h1
end
end As

/-! xs.clear(), xs.reverse(), str(number) -/
namespace As
open PySem PySem.Spec PyProof.Rows L2
def mClear : OM := fun x ws S => match x, ws with
  | .c k, [] => match S[k]? with
    | some (.l _) => .ok (.d .non) (S.set k (.l []))
    | _ => .no
  | _, _ => .no
def mRev : OM := fun x ws S => match x, ws with
  | .c k, [] => match S[k]? with
    | some (.l ds) => .ok (.d .non) (S.set k (.l ds.reverse))
    | _ => .no
  | _, _ => .no
theorem RDs.reverse {K : PySem.W.Frag} {M : Mp} {H : Hp} {vs : List V} {ds : List D} (h : RDs K M H vs ds) : RDs K M H vs.reverse ds.reverse := by
  induction vs generalizing ds with
  | nil => cases h; exact .nil
  | cons v vs ih =>
    cases h with
    | cons r t =>
      rw [List.reverse_cons, List.reverse_cons]
      exact (ih t).append (.cons r .nil)
theorem mtF_clear {K : PySem.W.Frag} {mg : Str → Option Value} : MtF K mg "list" mClear rClear := by
  intro M S H v x vs ws E Q rs rx r p
  unfold mClear at p
  split at p
  · rename_i k
    obtain ⟨a, rfl, ha⟩ := rx.c_
    cases r
    cases hs : S[k]? with
    | none => rw [hs] at p; exact (show False from p).elim
    | some c =>
      rw [hs] at p
      cases c with
      | l ds =>
        obtain ⟨xs, h1, h2⟩ := rs.ok k a _ ha hs
        obtain ⟨rs2, e2⟩ := rs.put (o := .lst []) (c := .l []) ha fun e => ⟨_, upd_same, .nil⟩
        exact ⟨a, xs, rfl, rfl, h1, p M .non _ e2 rs2 (.d .non)⟩
      | _ => exact (show False from p).elim
  · exact (show False from p).elim
theorem mtF_rev {K : PySem.W.Frag} {mg : Str → Option Value} : MtF K mg "list" mRev rReverse := by
  intro M S H v x vs ws E Q rs rx r p
  unfold mRev at p
  split at p
  · rename_i k
    obtain ⟨a, rfl, ha⟩ := rx.c_
    cases r
    cases hs : S[k]? with
    | none => rw [hs] at p; exact (show False from p).elim
    | some c =>
      rw [hs] at p
      cases c with
      | l ds =>
        obtain ⟨xs, h1, h2⟩ := rs.ok k a _ ha hs
        obtain ⟨rs2, e2⟩ := rs.put (o := .lst xs.reverse) (c := .l ds.reverse) ha fun e => ⟨_, upd_same, h2.reverse.ext e⟩
        exact ⟨a, xs, rfl, rfl, h1, p M .non _ e2 rs2 (.d .non)⟩
      | _ => exact (show False from p).elim
  · exact (show False from p).elim
section
variable {X : Cx} {E : L2.St → XK} {a : Expr} {fa : Env → Store → Rs W} {pos apos : Pos}
theorem f_clear (ho : FE X E a fa) (hbase : attributeBase a "clear" X.env (eval a X.env) = eval a X.env := by rfl) (hline : (apos.endLine == pos.line) = true := by rfl) :
    FE X E (.Call (.Attribute a "clear" apos) [] [] pos) (fMt (fun x S => isCl x S = true) mClear fa aNil) := f_mt0 PySem.F.slot_list_clear PySem.F.type_list_clear mt_clear mtF_clear ho hbase hline
theorem f_reverse (ho : FE X E a fa) (hbase : attributeBase a "reverse" X.env (eval a X.env) = eval a X.env := by rfl) (hline : (apos.endLine == pos.line) = true := by rfl) :
    FE X E (.Call (.Attribute a "reverse" apos) [] [] pos) (fMt (fun x S => isCl x S = true) mRev fa aNil) := f_mt0 PySem.F.slot_list_reverse PySem.F.type_list_reverse mt_reverse mtF_rev ho hbase hline
end
/-- str(i) -/
def aStrI : OA := fun xs S => match xs with
  | [.d (.int i)] => if i.natAbs.log2 < 1920 then .ok (.d (.str (toString i))) S else .no
  | _ => .no
theorem apF_strI {K : PySem.W.Frag} {mg : Str → Option Value} : ApF K mg aStrI (fun xs H Q => ∃ i, xs = [.int i] ∧ i.natAbs.log2 < 1920 ∧ Q (.str (toString i)) H) := by
  intro M S H vs xs E Q rs r p
  unfold aStrI at p
  split at p
  · rename_i i
    by_cases hi : i.natAbs.log2 < 1920
    · rw [if_pos hi] at p
      cases r with
      | cons r1 r2 =>
        cases r2
        have := r1.i_
        subst this
        exact ⟨i, rfl, hi, p.ret rs (.d (.str _))⟩
    · rw [if_neg hi] at p
      exact (show False from p).elim
  · exact (show False from p).elim
theorem f_strI {X : Cx} {E : L2.St → XK} {fs : Env → Store → Rs (List W)} {pos : Pos} {e : Expr} {es : List Expr} {p : Pos} (h1 : Gl X "str") (hm : X.mg "str" = none) (ha : FA X E (e :: es) fs) (he : starEach (e :: es) X.env = (false, eval e X.env) :: starEach es X.env := by rfl) (hpl : (backTo pos (starEach es X.env)).any (·.1) = false := by rfl) : FE X E (.Call (.Name "str" p) (e :: es) [] pos) (fApp aStrI fs) :=
  f_callTy call_str_int apF_strI h1 hm (by decide +kernel) ha (by decide) (by decide) he hpl
end As

/-! isinstance(e, ValueError) of the exception that a suite holds -/
namespace As
open PySem PySem.Spec PyProof.Rows L2
def aIsEB (a : Addr) (n : String) (b : Bool) : OA := fun xs S => match xs with
  | [.g (.ref a'), .g (.ty n')] => if a' = a ∧ n' = n then .ok (.d (.bl b)) S else .no
  | _ => .no
theorem apF_isEB {K : PySem.W.Frag} {mg : Str → Option Value} {a C : Addr} {n : String} {b : Bool} (kit : PySem.W.kitOne K (.ref C) (.type n) = some b) : ApF K mg (aIsEB a n b) (rIsE K C a) := by
  intro M S H vs xs E Q rs r p
  unfold aIsEB at p
  split at p
  · rename_i a' n'
    by_cases hc : a' = a ∧ n' = n
    · rw [if_pos hc] at p
      obtain ⟨rfl, rfl⟩ := hc
      cases r with
      | cons r1 r2 =>
        cases r2 with
        | cons r2 r3 =>
          cases r3
          cases r1
          cases r2
          exact ⟨.ty n', .type n', b, rfl, (fun u hu => hu), kit, p.ret rs (.d (.bl _))⟩
    · rw [if_neg hc] at p
      exact (show False from p).elim
  · exact (show False from p).elim
theorem fIsEB_eq (i : Nat) (a : Addr) (n : String) (b : Bool) : fApp (aIsEB a n b) (aCons (fVar i) (aCons (fK (.g (.ty n))) aNil)) = fIsE i a b := by
  funext ρ S
  unfold fIsE
  rw [fApp_ap, aCons_ap, fVar_raw]
  cases h : ρ[i]? with
  | none => rfl
  | some o =>
    cases o with
    | none => rfl
    | some w =>
      simp only [Rs.bind_ok, aCons_ap, fK_ap, aNil_ap]
      unfold aIsEB
      cases w with
      | g v =>
        cases v with
        | ref a' => simp
        | _ => rfl
      | _ => rfl
/-- all of some classes are kinds of a built-in one -/
inductive IsB (K : PySem.W.Frag) (mg : Str → Option Value) (n : String) : List Str → Prop
  | nil : IsB K mg n []
  | cons {c : Str} {cl : List Str} (h : ∃ C, mg c = some (.ref C) ∧ PySem.W.kitOne K (.ref C) (.type n) = some true) (r : IsB K mg n cl) : IsB K mg n (c :: cl)
theorem IsB.get {K : PySem.W.Frag} {mg : Str → Option Value} {n : String} {cl : List Str} (h : IsB K mg n cl) {k : Str} (hk : k ∈ cl) {C : Addr} (gC : mg k = some (.ref C)) : PySem.W.kitOne K (.ref C) (.type n) = some true := by
  induction h with
  | nil => cases hk
  | cons h r ih =>
    rcases List.mem_cons.mp hk with rfl | hk
    · obtain ⟨C', h1, h2⟩ := h
      cases gC.symm.trans h1
      exact h2
    · exact ih hk
theorem f_isEB {X : Cx} {p pos : Pos} {a C : Addr} {oe : Obj} {pn : List (Addr × Obj)} {i : Nat} {e : Expr} {k nD : Str} {n : String} {cl : List Str} {p2 : Pos} (hk : k ∈ cl) (gC : X.mg k = some (.ref C)) (hE : ExAll X.K X.mg cl) (hI : IsB X.K X.mg n cl) (hz : Zc (.ref C) none oe) (hf : ∃ vs, oe.data = .fields vs)
    (h1 : Gl X "isinstance") (hm : X.mg "isinstance" = none) (he : FE (X.suite a ((a, oe) :: pn)) EN e (fVar i)) (hg : Gl X nD) (gD : X.mg nD = none) (hv : bootBuiltins nD = some (.type n)) (hn : nD ≠ "__name__" := by decide) (hd : (nD == ("__debug__" : Str)) = false := by decide)
    (hs : starEach [e, .Name nD p2] X.env = (false, eval e X.env) :: starEach [.Name nD p2] X.env := by rfl) (hpl : (backTo pos (starEach [.Name nD p2] X.env)).any (·.1) = false := by rfl) (hs2 : starEach [.Name nD p2] X.env = (false, eval (.Name nD p2) X.env) :: starEach [] X.env := by rfl) :
    FE (X.suite a ((a, oe) :: pn)) EN (.Call (.Name "isinstance" p) [e, .Name nD p2] [] pos) (fIsE i a true) := by
  rw [← fIsEB_eq i a n true]
  exact f_callB (X := X.suite a ((a, oe) :: pn)) (call_isE (hE.get hk gC) hz hf) (apF_isEB (hI.get hk gC)) h1 hm (by decide +kernel) (fa_cons he (fa_cons (f_ty (X := X.suite a ((a, oe) :: pn)) hg gD hv hn hd) fa_nil hs2) hs) (by decide) (by decide) hs hpl
end As

/-! isinstance(e, (A, B, ..)) of the exception that a suite holds -/
namespace As
open PySem PySem.Spec PyProof.Rows L2
def rIsET (K : PySem.W.Frag) (C a : Addr) : List V → Hp → VK → Prop := fun xs H Q => ∃ (tp : Addr) (Ds : List Addr) (b : Bool), xs = [.ref a, .ref tp] ∧ H tp = some (.tup (Ds.map V.ref)) ∧ PySem.W.kitAny K (.ref C) (Ds.map Value.ref) = some b ∧ Q (.bl b) H
theorem vals_refs : ∀ {Ds : List Addr} {us : List Value}, Vals (Ds.map V.ref) us → us = Ds.map Value.ref
  | [], _, .nil => rfl
  | D :: Ds, _, .cons r t => by
    have e : _ = Value.ref D := r
    rw [e, vals_refs t]
    rfl
theorem call_isET {X : Cx} {a C : Addr} {oe : Obj} {pn : List (Addr × Obj)} (Ec : ExcC X.K C) (hz : Zc (.ref C) none oe) (hf : ∃ vs, oe.data = .fields vs) : CallR (X.suite a ((a, oe) :: pn)) (.builtin "isinstance") (rIsET X.K C a) := by
  intro pins s σ H xs us Q I r h
  obtain ⟨tp, Ds, b, rfl, ht, e, q⟩ := h
  cases r with
  | cons rx rr =>
    cases rr with
    | cons rt rr =>
      cases rr
      cases rx
      cases rt
      have hget := (I.pin (a, oe) (List.mem_append_left _ (List.mem_cons_self ..))).1
      obtain ⟨vs, hv⟩ := hf
      have J : PySem.W.InstAt s.heap a oe C none := by
        obtain ⟨oc, od, oda, osl⟩ := oe
        obtain ⟨h1, h2⟩ := hz
        dsimp only at h1 h2 hv
        cases h1
        cases h2
        cases hv
        exact ⟨hget, rfl, rfl, trivial⟩
      obtain ⟨_, its, r2, o, ho, hc, n, hd⟩ := I.hok _ _ ht
      obtain ⟨oc, od, oda, osl⟩ := o
      have c1 : oc = .type "tuple" := hc
      have c2 : oda = .seq its.toArray n := hd
      cases c1
      cases c2
      cases vals_refs r2
      exact PySem.W.kia_tup (PySem.W.handS_kitx_exc Ec.hg Ec.hk Ec.hs Ec.hd Ec.ha Ec.hn Ec.ht Ec.hm) I.kIn J ho e (fun z => nomatch z) fun tk => ⟨.bl b, H, I.kept (t' := tk) fun _ _ z => z, rfl, q⟩
def unRefs : List W → Option (List Addr)
  | [] => some []
  | .g (.ref D) :: ws => (unRefs ws).map (D :: ·)
  | _ => none
theorem RWs.refs {K : PySem.W.Frag} {M : Mp} {H : Hp} {vs : List V} {ws : List W} {Ds : List Addr} (h : RWs K M H vs ws) (e : unRefs ws = some Ds) : vs = Ds.map V.ref := by
  induction ws generalizing vs Ds with
  | nil => cases h; cases e; rfl
  | cons w ws ih =>
    cases w with
    | g v =>
      cases v with
      | ref D =>
        cases h with
        | cons r t =>
          cases r
          have e' : (unRefs ws).map (D :: ·) = some Ds := e
          cases q : unRefs ws with
          | none => rw [q] at e'; cases e'
          | some Ys =>
            rw [q] at e'
            cases e'
            rw [List.map_cons, ih t q]
      | _ => cases e
    | _ => cases e
theorem unRefs_map (Ds : List Addr) : unRefs (Ds.map fun D => W.g (.ref D)) = some Ds := by
  induction Ds with
  | nil => rfl
  | cons D Ds ih =>
    show (unRefs (Ds.map fun D => W.g (.ref D))).map (D :: ·) = _
    rw [ih]
    rfl
def aIsET (a : Addr) (Ds : List Addr) (b : Bool) : OA := fun xs S => match xs with
  | [.g (.ref a'), .t ws] => if a' = a ∧ unRefs ws = some Ds then .ok (.d (.bl b)) S else .no
  | _ => .no
theorem apF_isET {K : PySem.W.Frag} {mg : Str → Option Value} {a C : Addr} {Ds : List Addr} {b : Bool} (kit : PySem.W.kitAny K (.ref C) (Ds.map Value.ref) = some b) : ApF K mg (aIsET a Ds b) (rIsET K C a) := by
  intro M S H vs xs E Q rs r p
  unfold aIsET at p
  split at p
  · rename_i a' ws
    by_cases hc : a' = a ∧ unRefs ws = some Ds
    · rw [if_pos hc] at p
      obtain ⟨rfl, hu⟩ := hc
      cases r with
      | cons r1 r2 =>
        cases r2 with
        | cons r2 r3 =>
          cases r3
          cases r1
          cases r2 with
          | @t tp xs _ nl ht tt =>
            rw [tt.refs hu] at ht
            exact ⟨tp, Ds, b, rfl, ht, kit, p.ret rs (.d (.bl _))⟩
    · rw [if_neg hc] at p
      exact (show False from p).elim
  · exact (show False from p).elim
def gRefs (Ds : List Addr) : Env → Store → Rs (List W) := fun _ S => .ok (Ds.map fun D => W.g (.ref D)) S
theorem unDs_refs (D : Addr) (ws : List W) : unDs (.g (.ref D) :: ws) = none := rfl
theorem fIsET_eq (i : Nat) (a D : Addr) (Ds : List Addr) (b : Bool) (hl : Ds.length < 100000) : fApp (aIsET a (D :: Ds) b) (aCons (fVar i) (aCons (fApp mkT (gRefs (D :: Ds))) aNil)) = fIsE i a b := by
  funext ρ S
  have hm : fApp mkT (gRefs (D :: Ds)) ρ S = .ok (.t ((D :: Ds).map fun D => W.g (.ref D))) S := by
    rw [fApp_ap]
    unfold gRefs
    rw [Rs.bind_ok]
    unfold mkT
    rw [if_pos (by rw [List.length_map, List.length_cons]; exact hl), List.map_cons, unDs_refs]
  unfold fIsE
  rw [fApp_ap, aCons_ap, fVar_raw]
  cases h : ρ[i]? with
  | none => rfl
  | some o =>
    cases o with
    | none => rfl
    | some w =>
      simp only [Rs.bind_ok, aCons_ap, hm, aNil_ap]
      unfold aIsET
      cases w with
      | g v =>
        cases v with
        | ref a' => simp [unRefs_map, unRefs]
        | _ => rfl
      | _ => rfl
section
variable {X : Cx} {E : L2.St → XK} {p pos : Pos}
/-- names of own classes in a row -/
def FGs (X : Cx) (E : L2.St → XK) (es : List Expr) (Ds : List Addr) : Prop := FA X E es (gRefs Ds)
theorem fgs_nil : FGs X E [] [] := fa_nil
theorem fgs_cons {nD : Str} {D : Addr} {es : List Expr} {Ds : List Addr} {p2 : Pos} (hg : Gl X nD) (gD : X.mg nD = some (.ref D)) (hd : (nD == ("__debug__" : Str)) = false) (r : FGs X E es Ds) (hs : starEach (.Name nD p2 :: es) X.env = (false, eval (.Name nD p2) X.env) :: starEach es X.env := by rfl) : FGs X E (.Name nD p2 :: es) (D :: Ds) := by
  have h := fa_cons (E := E) (f_glob (v := .ref D) hg gD rfl (fun _ _ => .g _) hd) r hs
  have e : aCons (fK (.g (.ref D))) (gRefs Ds) = gRefs (D :: Ds) := by
    funext ρ S
    rw [aCons_ap, fK_ap, Rs.bind_ok]
    rfl
  rw [e] at h
  exact h
theorem f_isET {a C D : Addr} {Ds : List Addr} {oe : Obj} {pn : List (Addr × Obj)} {i : Nat} {b : Bool} {e : Expr} {es : List Expr} {x1 : Nat} {p2 : Pos} (Ec : ExcC X.K C) (hz : Zc (.ref C) none oe) (hf : ∃ vs, oe.data = .fields vs) (kit : PySem.W.kitAny X.K (.ref C) ((D :: Ds).map Value.ref) = some b) (h1 : Gl X "isinstance") (hm : X.mg "isinstance" = none)
    (he : FE (X.suite a ((a, oe) :: pn)) EN e (fVar i)) (hr : FGs (X.suite a ((a, oe) :: pn)) EN es (D :: Ds)) (hl : Ds.length < 100000)
    (hs : starEach [e, .Tuple es x1 p2] X.env = (false, eval e X.env) :: starEach [.Tuple es x1 p2] X.env := by rfl) (hpl : (backTo pos (starEach [.Tuple es x1 p2] X.env)).any (·.1) = false := by rfl) (hs2 : starEach [.Tuple es x1 p2] X.env = (false, eval (.Tuple es x1 p2) X.env) :: starEach [] X.env := by rfl) :
    FE (X.suite a ((a, oe) :: pn)) EN (.Call (.Name "isinstance" p) [e, .Tuple es x1 p2] [] pos) (fIsE i a b) := by
  rw [← fIsET_eq i a D Ds b hl]
  exact f_callB (X := X.suite a ((a, oe) :: pn)) (call_isET Ec hz hf) (apF_isET kit) h1 hm (by decide +kernel) (fa_cons he (fa_cons (f_tup hr) fa_nil hs2) hs) (by decide) (by decide) hs hpl
end
end As

/-! dicts in cells: keys are numbers and texts, or tuples of these -/
namespace As
open PySem PySem.Spec PyProof.Rows L2
def keyD : D → Option Key
  | .int i => some (.inl i)
  | .str z => some (.inr z)
  | _ => none
def keysD : List D → Option (List Key)
  | [] => some []
  | d :: ds => match keyD d, keysD ds with
    | some k, some ks => some (k :: ks)
    | _, _ => none
section
variable {κ : Type} [DecidableEq κ]
def valW (kvs : List (κ × W)) (k : κ) : Option W := (kvs.find? fun kv => decide (kv.1 = k)).map (·.2)
def putW (kvs : List (κ × W)) (k : κ) (w : W) : List (κ × W) := if (kvs.any fun kv => decide (kv.1 = k)) = true then kvs.map (fun kv => if kv.1 = k then (kv.1, w) else kv) else kvs ++ [(k, w)]
variable {K : PySem.W.Frag} {M : Mp} {H : Hp}
def OW (K : PySem.W.Frag) (M : Mp) (H : Hp) : Option V → Option W → Prop
  | none, none => True
  | some v, some w => RW K M H v w
  | _, _ => False
theorem RK.val {gs : List (κ × V)} {kvs : List (κ × W)} (h : RK K M H gs kvs) (k : κ) : OW K M H (valV gs k) (valW kvs k) := by
  induction h with
  | nil => exact trivial
  | @cons k' v vs w ws r t ih =>
    by_cases hk : k' = k
    · have e1 : valV ((k', v) :: vs) k = some v := by simp [valV, List.find?_cons, hk]
      have e2 : valW ((k', w) :: ws) k = some w := by simp [valW, List.find?_cons, hk]
      rw [e1, e2]
      exact r
    · have e1 : valV ((k', v) :: vs) k = valV vs k := by simp [valV, List.find?_cons, hk]
      have e2 : valW ((k', w) :: ws) k = valW ws k := by simp [valW, List.find?_cons, hk]
      rw [e1, e2]
      exact ih
theorem RK.any {gs : List (κ × V)} {kvs : List (κ × W)} (h : RK K M H gs kvs) (k : κ) : (gs.any fun kv => decide (kv.1 = k)) = kvs.any fun kv => decide (kv.1 = k) := by
  induction h with
  | nil => rfl
  | cons r t ih => simp only [List.any_cons, ih]
theorem RK.mapPut {gs : List (κ × V)} {kvs : List (κ × W)} {v : V} {w : W} (h : RK K M H gs kvs) (r : RW K M H v w) (k : κ) : RK K M H (gs.map fun kv => if kv.1 = k then (kv.1, v) else kv) (kvs.map fun kv => if kv.1 = k then (kv.1, w) else kv) := by
  induction h with
  | nil => exact .nil
  | @cons k' v' vs w' ws r' t ih =>
    rw [List.map_cons, List.map_cons]
    by_cases hk : k' = k
    · rw [if_pos hk, if_pos hk]
      exact .cons r ih
    · rw [if_neg hk, if_neg hk]
      exact .cons r' ih
theorem RK.snoc {gs : List (κ × V)} {kvs : List (κ × W)} {v : V} {w : W} (h : RK K M H gs kvs) (r : RW K M H v w) (k : κ) : RK K M H (gs ++ [(k, v)]) (kvs ++ [(k, w)]) := by
  induction h with
  | nil => exact .cons r .nil
  | cons r' t ih => exact .cons r' ih
theorem RK.put {gs : List (κ × V)} {kvs : List (κ × W)} {v : V} {w : W} (h : RK K M H gs kvs) (r : RW K M H v w) (k : κ) : RK K M H (putK gs k v) (putW kvs k w) := by
  unfold putK putW
  rw [h.any k]
  by_cases hk : (kvs.any fun kv => decide (kv.1 = k)) = true
  · rw [if_pos hk, if_pos hk]
    exact h.mapPut r k
  · rw [if_neg hk, if_neg hk]
    exact h.snoc r k
end
section
variable {K : PySem.W.Frag} {M : Mp} {H : Hp}
theorem keyD_v {v : V} {d : D} {k : Key} (r : RD K M H v d) (h : keyD d = some k) : v = kV k := by
  cases r with
  | int i => cases h; rfl
  | str z => cases h; rfl
  | _ => cases h
theorem keysD_v : ∀ {vs : List V} {ds : List D} {ks : List Key}, RDs K M H vs ds → keysD ds = some ks → vs = ks.map kV
  | _, _, ks, .nil, e => by cases e; rfl
  | _, _, ks, .cons (d := d) (ds := ds) r t, e => by
    rw [keysD] at e
    cases h1 : keyD d with
    | none => rw [h1] at e; cases e
    | some k =>
      rw [h1] at e
      cases h2 : keysD ds with
      | none => rw [h2] at e; cases e
      | some ks2 =>
        rw [h2] at e
        cases e
        rw [List.map_cons, keyD_v r h1, keysD_v t h2]
/-- what the dict of a cell holds at a key -/
def dGet (S : Store) (x y : W) : Option (Option W) := match x, y with
  | .c k, .d d => match S[k]? with
    | some (.dk kvs) => (keyD d).map fun q => valW kvs q
    | some (.dt kvs) => match d with
      | .tup ds => (keysD ds).map fun q => valW kvs q
      | _ => none
    | _ => none
  | _, _ => none
theorem dGet_ok {S : Store} {u v : V} {x y : W} {o : Option W} (rs : RS K M S H) (rx : RW K M H u x) (ry : RW K M H v y) (h : dGet S x y = some o) : ∃ a ov, u = .ref a ∧ DGet H a v ov ∧ OW K M H ov o := by
  unfold dGet at h
  split at h
  · rename_i k d
    obtain ⟨a, rfl, ha⟩ := rx.c_
    have rd : RD K M H v d := by
      cases ry with
      | d r => exact r
    cases hs : S[k]? with
    | none => rw [hs] at h; cases h
    | some c =>
      rw [hs] at h
      have ok := rs.ok k a c ha hs
      cases c with
      | dk kvs =>
        obtain ⟨gs, h1, h2⟩ := ok
        dsimp only at h
        obtain ⟨q, hq, e⟩ := Option.map_eq_some_iff.mp h
        cases e
        rw [keyD_v rd hq]
        exact ⟨a, valV gs q, rfl, DGet.k h1, h2.val q⟩
      | dt kvs =>
        obtain ⟨gs, h1, h2⟩ := ok
        dsimp only at h
        cases rd with
        | @tup b xs ds n t =>
          dsimp only at h
          obtain ⟨q, hq, e⟩ := Option.map_eq_some_iff.mp h
          cases e
          have hb : H b = some (.tup (q.map kV)) := by rw [← keysD_v t hq]; exact n.2
          exact ⟨a, valV gs q, rfl, DGet.t h1 hb, h2.val q⟩
        | _ => cases h
      | _ => cases h
  · cases h
end
/-- y in d -/
def oDIn : O2 := fun y x S => match dGet S x y with
  | some o => .ok (.d (.bl o.isSome)) S
  | none => .no
def oDNotIn : O2 := fun y x S => match dGet S x y with
  | some o => .ok (.d (.bl (!o.isSome))) S
  | none => .no
/-- d[y] -/
def oDGet : O2 := fun x y S => match dGet S x y with
  | some (some w) => .ok w S
  | _ => .no
section
variable {X : Cx} {E : L2.St → XK} {a b : Expr} {fa fb : Env → Store → Rs W} {pos : Pos}
def rDIn : R2 := fun y x H Q => ∃ a o, x = .ref a ∧ DGet H a y o ∧ Q (.bl o.isSome) H
def rDNotIn : R2 := fun y x H Q => ∃ a o, x = .ref a ∧ DGet H a y o ∧ Q (.bl (!o.isSome)) H
theorem op_din (hu : X.A.units + 65 < cLine) : OpR X (compareOp .In) rDIn := by
  intro pins s σ H x y v u Q I rx ry h
  obtain ⟨c, o, rfl, g, q⟩ := h
  cases ry
  exact d_in (by omega) I g rx fun s' I' => ⟨.bl o.isSome, H, I', rfl, q⟩
theorem op_dnotIn (hu : X.A.units + 65 < cLine) : OpR X (compareOp .NotIn) rDNotIn := by
  intro pins s σ H x y v u Q I rx ry h
  obtain ⟨c, o, rfl, g, q⟩ := h
  cases ry
  exact d_notIn (by omega) I g rx fun s' I' => ⟨.bl (!o.isSome), H, I', rfl, q⟩
theorem OW.some_eq {K : PySem.W.Frag} {M : Mp} {H : Hp} {ov : Option V} {o : Option W} (h : OW K M H ov o) : ov.isSome = o.isSome := by
  cases ov <;> cases o
  · rfl
  · exact (show False from h).elim
  · exact (show False from h).elim
  · rfl
theorem opF_din {K : PySem.W.Frag} {mg : Str → Option Value} : OpF K mg oDIn rDIn := by
  intro M S H v u x y E Q rs rx ry p
  unfold oDIn at p
  cases hg : dGet S y x with
  | none => rw [hg] at p; exact (show False from p).elim
  | some o =>
    rw [hg] at p
    obtain ⟨c, ov, rfl, g, w⟩ := dGet_ok rs ry rx hg
    refine ⟨c, ov, rfl, g, ?_⟩
    rw [w.some_eq]
    exact p.ret rs (.d (.bl _))
theorem opF_dnotIn {K : PySem.W.Frag} {mg : Str → Option Value} : OpF K mg oDNotIn rDNotIn := by
  intro M S H v u x y E Q rs rx ry p
  unfold oDNotIn at p
  cases hg : dGet S y x with
  | none => rw [hg] at p; exact (show False from p).elim
  | some o =>
    rw [hg] at p
    obtain ⟨c, ov, rfl, g, w⟩ := dGet_ok rs ry rx hg
    refine ⟨c, ov, rfl, g, ?_⟩
    rw [w.some_eq]
    exact p.ret rs (.d (.bl _))
theorem f_din (hu : X.A.units + 65 < cLine) (ha : FE X E a fa) (hb : FE X E b fb) (hm : behindInMarks .In b = false := by rfl) : FE X E (.Compare a [.In] [b] pos) (fOp oDIn fa fb) := f_cmp (op_din hu) opF_din ha hb hm
theorem f_dnotIn (hu : X.A.units + 65 < cLine) (ha : FE X E a fa) (hb : FE X E b fb) (hm : behindInMarks .NotIn b = false := by rfl) : FE X E (.Compare a [.NotIn] [b] pos) (fOp oDNotIn fa fb) := f_cmp (op_dnotIn hu) opF_dnotIn ha hb hm
theorem ft_din (hu : X.A.units + 65 < cLine) (ha : FE X E a fa) (hb : FE X E b fb) (hm : behindInMarks .In b = false := by rfl) : FT X E (.Compare a [.In] [b] pos) (fB (fOp oDIn fa fb)) := ft_cmp (op_din hu) opF_din ha hb hm
theorem ft_dnotIn (hu : X.A.units + 65 < cLine) (ha : FE X E a fa) (hb : FE X E b fb) (hm : behindInMarks .NotIn b = false := by rfl) : FT X E (.Compare a [.NotIn] [b] pos) (fB (fOp oDNotIn fa fb)) := ft_cmp (op_dnotIn hu) opF_dnotIn ha hb hm
/-- {} as a cell -/
def fDnT : Env → Store → Rs W := fun _ S => .ok (.c S.length) (S ++ [.dt []])
def fDnK : Env → Store → Rs W := fun _ S => .ok (.c S.length) (S ++ [.dk []])
theorem f_dnT : FE X E (.Dict [] [] pos) fDnT := PE.imp pe_dnewT fun σ H Q h => by
  obtain ⟨M, ρ, S, rs, ro, p⟩ := h
  intro q np
  have n := rs.new (c := .dt []) (o := .dT []) np ⟨[], upd_same, .nil⟩
  refine p _ (.ref q) _ n.2 n.1 (.c ?_)
  show (M.ad ++ [q])[S.length]? = _
  rw [← rs.len, List.getElem?_append_right (Nat.le_refl _), Nat.sub_self]
  rfl
theorem f_dnK : FE X E (.Dict [] [] pos) fDnK := PE.imp pe_dnewK fun σ H Q h => by
  obtain ⟨M, ρ, S, rs, ro, p⟩ := h
  intro q np
  have n := rs.new (c := .dk []) (o := .dK []) np ⟨[], upd_same, .nil⟩
  refine p _ (.ref q) _ n.2 n.1 (.c ?_)
  show (M.ad ++ [q])[S.length]? = _
  rw [← rs.len, List.getElem?_append_right (Nat.le_refl _), Nat.sub_self]
  rfl
end
/-- d[y] = v -/
def dPut (S : Store) (x y w : W) : Option Store := match x, y with
  | .c k, .d d => match S[k]? with
    | some (.dk kvs) => if kvs.length < 100000 then (keyD d).map fun q => S.set k (.dk (putW kvs q w)) else none
    | some (.dt kvs) => if kvs.length < 100000 then (match d with
      | .tup ds => (keysD ds).map fun q => S.set k (.dt (putW kvs q w))
      | _ => none) else none
    | _ => none
  | _, _ => none
theorem dPut_ok {K : PySem.W.Frag} {M : Mp} {H : Hp} {S S' : Store} {u v z : V} {x y w : W} (rs : RS K M S H) (rx : RW K M H u x) (ry : RW K M H v y) (rz : RW K M H z w) (h : dPut S x y w = some S') : ∃ a H', u = .ref a ∧ DPut H a v z H' ∧ RS K M S' H' ∧ Ext M M H H' := by
  unfold dPut at h
  split at h
  · rename_i k d
    obtain ⟨a, rfl, ha⟩ := rx.c_
    have rd : RD K M H v d := by
      cases ry with
      | d r => exact r
    cases hs : S[k]? with
    | none => rw [hs] at h; cases h
    | some c =>
      rw [hs] at h
      have ok := rs.ok k a c ha hs
      cases c with
      | dk kvs =>
        obtain ⟨gs, h1, h2⟩ := ok
        dsimp only at h
        by_cases hl : kvs.length < 100000
        · rw [if_pos hl] at h
          obtain ⟨q, hq, e⟩ := Option.map_eq_some_iff.mp h
          cases e
          rw [keyD_v rd hq]
          have hz : gs.length < sizeLine := by rw [h2.length]; exact Nat.lt_of_lt_of_le hl (by decide)
          obtain ⟨rs2, e2⟩ := rs.put (o := .dK (putK gs q z)) (c := .dk (putW kvs q w)) ha fun e => ⟨_, upd_same, (h2.ext e).put (rz.ext e) q⟩
          exact ⟨a, _, rfl, DPut.k h1 hz, rs2, e2⟩
        · rw [if_neg hl] at h
          cases h
      | dt kvs =>
        obtain ⟨gs, h1, h2⟩ := ok
        dsimp only at h
        by_cases hl : kvs.length < 100000
        · rw [if_pos hl] at h
          cases rd with
          | @tup b xs ds n t =>
            dsimp only at h
            obtain ⟨q, hq, e⟩ := Option.map_eq_some_iff.mp h
            cases e
            have hb : H b = some (.tup (q.map kV)) := by rw [← keysD_v t hq]; exact n.2
            have hz : gs.length < sizeLine := by rw [h2.length]; exact Nat.lt_of_lt_of_le hl (by decide)
            obtain ⟨rs2, e2⟩ := rs.put (o := .dT (putK gs q z)) (c := .dt (putW kvs q w)) ha fun e => ⟨_, upd_same, (h2.ext e).put (rz.ext e) q⟩
            exact ⟨a, _, rfl, DPut.t h1 hb hz, rs2, e2⟩
          | _ => cases h
        · rw [if_neg hl] at h
          cases h
      | _ => cases h
  · cases h
def sDPutF (fo fi fe : Env → Store → Rs W) : Sm := fun ρ S => (fe ρ S).st ρ fun w S1 => (fo ρ S1).st ρ fun o S2 => (fi ρ S2).st ρ fun i S3 => match dPut S3 o i w with
  | some S4 => .nx ρ S4
  | none => .no
section
variable {X : Cx} {E : L2.St → XK} {pos : Pos}
theorem fs_dput {o i e : Expr} {fo fi fe : Env → Store → Rs W} {tpos : Pos} (hu : X.A.units + 65 < cLine) (he : FE X E e fe) (ho : FE X E o fo) (hi : FE X E i fi) (hs : swapsWith e (some (.Subscript o i tpos)) pos.line X.env = pure false := by rfl) :
    FS X E (.Assign [.Subscript o i tpos] e pos) (sDPutF fo fi fe) := by
  refine PS.imp (ps_dput (by omega) ho hi he hs) ?_
  rintro Dd σ H ⟨M, ρ, S, rs, ro, p⟩
  refine ⟨M, ρ, S, rs, ro, Post.map (fun vw H1 q => ?_) (PostS.st (R := RWK X.K) ro p)⟩
  obtain ⟨M1, w, S1, e1, rs1, rw1, p1⟩ := q
  have ro1 := ro.ext e1
  refine ⟨M1, ρ, S1, rs1, ro1, Post.map (fun vo H2 q => ?_) (PostS.st (R := RWK X.K) ro1 p1)⟩
  obtain ⟨M2, o', S2, e2, rs2, rw2, p2⟩ := q
  have ro2 := ro1.ext e2
  refine ⟨M2, ρ, S2, rs2, ro2, Post.map (fun vi H3 q => ?_) (PostS.st (R := RWK X.K) ro2 p2)⟩
  obtain ⟨M3, i', S3, e3, rs3, rw3, p3⟩ := q
  cases hd : dPut S3 o' i' w with
  | none => rw [hd] at p3; exact (show False from p3).elim
  | some S4 =>
    rw [hd] at p3
    obtain ⟨a, H4, ex, g, rs4, e4⟩ := dPut_ok rs3 (RW.ext e3 rw2) rw3 (RW.ext e3 (RW.ext e2 rw1)) hd
    exact ⟨a, H4, ex, g, p3 M3 σ H4 e4 rs4 ((ro2.ext e3).ext e4)⟩
end
end As

/-! xs.count(y), items of any depth -/
namespace As
open PySem PySem.Spec PyProof.Rows L2
def rCountD (K : PySem.W.Frag) : V → List V → Hp → VK → Prop := fun x xs H Q => ∃ (a : Addr) (y : V) (d : PyData) (ds : List PyData), x = V.ref a ∧ xs = [y] ∧ Dp K H (V.ref a) (.list ds) ∧ Dp K H y d ∧ shP (.list ds) = true ∧ shP d = true ∧ Q (.int ((ds.countP fun z => PyData.eqv z d : Nat) : Int)) H
theorem mt_countD {X : Cx} (hu : X.A.units + 65 < cLine) : MtR X "list.count" (rCountD X.K) := by
  intro pins s σ H x xs v us Q I rx rxs h
  obtain ⟨a, y, d, ds, rfl, rfl, hl, hy, sl, sd, q⟩ := h
  cases rx
  cases rxs with
  | cons ry rt =>
    rename_i uy ut
    cases rt
    obtain ⟨bs, r1⟩ := Dp.reads I d y uy hy ry
    obtain ⟨pl1, dl1⟩ := shP_of sl
    obtain ⟨pl2, dl2⟩ := shP_of sd
    have cs : PyData.plainAll ds = true := by simpa only [PyData.plain] using pl1
    cases hl with
    | lst hs ha =>
      obtain ⟨its, rv, ⟨⟨cls, dd, data, sls⟩, n, ho, hc, hdn, hdt⟩, hlen⟩ := I.list hs
      cases hc
      cases hdt
      obtain ⟨as, h4⟩ := Dp.readsAll I ds _ its ha rv
      have hmap : its.map (SeqAt.readOf s.heap) = ds := SeqAt.readsAll_map_plain ds its as cs h4
      refine call_meets PySem.F.slot_list_count ⟨_, ho, rfl⟩ PySem.F.entry_list_count (PySem.F.args_list_count_2 _ _)
        (SeqAt.list_countAt a its.toArray n dd sls uy fun u => PyData.eqv (SeqAt.readOf s.heap u) d) ⟨ho, SeqAt.items_plain (vs := its.toArray) (show ReadsAll s.heap its.toArray.toList ds as from h4) r1 cs pl2 (by omega), ?_⟩
      have e : (its.toArray.toList.countP fun u => PyData.eqv (SeqAt.readOf s.heap u) d) = ds.countP fun z => PyData.eqv z d := by
        rw [← hmap, List.countP_map]
        rfl
      rw [e]
      exact ⟨.int _, H, I.tok _, ⟨_, rfl⟩, q⟩
def mCount : OM := fun x ws S => match ws with
  | [y] => match rdW S x, rdW S y with
    | some (.lst ds), some d => if (okD (.lst ds) && okD d) = true then .ok (.d (.int ((ds.countP fun z => eqB z d : Nat) : Int))) S else .no
    | _, _ => .no
  | _ => .no
theorem count_pds (ds : List D) (d : D) : ((pds ds).countP fun z => PyData.eqv z (pd d)) = ds.countP fun z => eqB z d := by
  rw [pds_map, List.countP_map]
  rfl
theorem mtF_count {K : PySem.W.Frag} {mg : Str → Option Value} : MtF K mg "list" mCount (rCountD K) := by
  intro M S H v x vs ws E Q rs rx r p
  unfold mCount at p
  split at p
  · rename_i y
    cases r with
    | cons ry rr =>
      cases rr
      split at p
      · rename_i ds d h1 h2
        by_cases hc : (okD (.lst ds) && okD d) = true
        · rw [if_pos hc] at p
          obtain ⟨n1, s1, n2, s2⟩ := okD_and hc
          have hd := rdW_dp rs rx h1 n1
          have rl := rdW_rd rs rx h1
          cases rl with
          | lst n t =>
            rw [pd] at hd s1
            refine ⟨_, _, pd d, pds ds, rfl, rfl, hd, rdW_dp rs ry h2 n2, s1, s2, ?_⟩
            rw [count_pds]
            exact p.ret rs (.d (.int _))
        · rw [if_neg hc] at p
          exact (show False from p).elim
      · exact (show False from p).elim
  · exact (show False from p).elim
section
variable {X : Cx} {E : L2.St → XK} {a b : Expr} {es : List Expr} {fa : Env → Store → Rs W} {pos apos : Pos}
theorem f_count {fb : Env → Store → Rs (List W)} (hu : X.A.units + 65 < cLine) (ho : FE X E a fa) (ha : FA X E (b :: es) fb)
    (hbase : attributeBase a "count" X.env (eval a X.env) = eval a X.env := by rfl)
    (hfew : ((backTo pos (starEach (b :: es) X.env)).all (fun x => !x.1) && (backToKw pos (keywordEach [] X.env)).all (fun x => x.1.isSome)
      && decide ((b :: es).length + ([] : List Keyword).length + (if ([] : List Keyword).isEmpty then 0 else 1) < 30)) = true := by rfl)
    (hline : (apos.endLine == pos.line) = true := by rfl) (hs : starEach (b :: es) X.env = (false, eval b X.env) :: starEach es X.env := by rfl) (hplain : (backTo pos (starEach es X.env)).any (·.1) = false := by rfl) :
    FE X E (.Call (.Attribute a "count" apos) (b :: es) [] pos) (fMt (fun x S => isCl x S = true) mCount fa fb) := f_mt PySem.F.slot_list_count PySem.F.type_list_count (mt_countD hu) mtF_count ho ha hbase hfew hline hs hplain
end
end As

/-! isinstance(e, (A, B, ..)), the classes by their names -/
namespace As
open PySem PySem.Spec PyProof.Rows L2
inductive IsRow (X : Cx) (E : L2.St → XK) (cl : List Str) : List Expr → (Str → Bool) → Prop
  | nil : IsRow X E cl [] (fun _ => false)
  | cons {d : Str} {q q' : Str → Bool} {es : List Expr} {p2 : Pos} (hX : ExOk X.K X.mg d) (hI : IsAll X.K X.mg d q cl) (hg : Gl X d) (hd : (d == ("__debug__" : Str)) = false) (hs : starEach (.Name d p2 :: es) X.env = (false, eval (.Name d p2) X.env) :: starEach es X.env) (r : IsRow X E cl es q') : IsRow X E cl (.Name d p2 :: es) (fun k => q k || q' k)
theorem IsRow.get {X : Cx} {E : L2.St → XK} {cl : List Str} {es : List Expr} {q : Str → Bool} (h : IsRow X E cl es q) : ∃ Ds : List Addr, FGs X E es Ds ∧ Ds.length = es.length ∧ ∀ k ∈ cl, ∀ C, X.mg k = some (.ref C) → PySem.W.kitAny X.K (.ref C) (Ds.map Value.ref) = some (q k) := by
  induction h with
  | nil => exact ⟨[], fgs_nil, rfl, fun _ _ _ _ => rfl⟩
  | @cons d q q' es p2 hX hI hg hd hs r ih =>
    obtain ⟨Ds, h1, h2, h3⟩ := ih
    obtain ⟨D, _, gD, _⟩ := hX.ex
    refine ⟨D :: Ds, fgs_cons hg gD hd h1 hs, by rw [List.length_cons, List.length_cons, h2], fun k hk C gC => ?_⟩
    have e1 := (hI.get hk gC gD).2
    rw [List.map_cons]
    unfold PySem.W.kitAny
    rw [e1]
    show _ = some (q k || q' k)
    cases q k with
    | true => rfl
    | false =>
      dsimp only
      rw [h3 k hk C gC, Bool.false_or]
theorem f_isER {X : Cx} {p pos : Pos} {a C : Addr} {oe : Obj} {pn : List (Addr × Obj)} {i : Nat} {k : Str} {q : Str → Bool} {e e1 : Expr} {es : List Expr} {x1 : Nat} {p2 : Pos} {cl : List Str} (hk : k ∈ cl) (gC : X.mg k = some (.ref C)) (hE : ExAll X.K X.mg cl) (hz : Zc (.ref C) none oe) (hf : ∃ vs, oe.data = .fields vs)
    (hr : IsRow (X.suite a ((a, oe) :: pn)) EN cl (e1 :: es) q) (hl : es.length < 100000) (h1 : Gl X "isinstance") (hm : X.mg "isinstance" = none) (he : FE (X.suite a ((a, oe) :: pn)) EN e (fVar i))
    (hs : starEach [e, .Tuple (e1 :: es) x1 p2] X.env = (false, eval e X.env) :: starEach [.Tuple (e1 :: es) x1 p2] X.env := by rfl) (hpl : (backTo pos (starEach [.Tuple (e1 :: es) x1 p2] X.env)).any (·.1) = false := by rfl) (hs2 : starEach [.Tuple (e1 :: es) x1 p2] X.env = (false, eval (.Tuple (e1 :: es) x1 p2) X.env) :: starEach [] X.env := by rfl) :
    FE (X.suite a ((a, oe) :: pn)) EN (.Call (.Name "isinstance" p) [e, .Tuple (e1 :: es) x1 p2] [] pos) (fIsE i a (q k)) := by
  obtain ⟨Ds, g1, g2, g3⟩ := hr.get
  cases Ds with
  | nil => cases g2
  | cons D Ds => exact f_isET (hE.get hk gC) hz hf (g3 k hk C gC) h1 hm he g1 (by rw [List.length_cons, List.length_cons] at g2; omega) hs hpl hs2
end As

/-! what a result must be, by what is wished of it: the functions worked out by wishes -/
namespace As
open PySem PySem.Spec PyProof.Rows L2
def Rs.wp {α : Type} (r : Rs α) (Q : α → Store → Prop) (X : Exn → Store → Prop) : Prop := match r with
  | .ok a S => Q a S
  | .ex e S => X e S
  | .no => False
abbrev noX : Exn → Store → Prop := fun _ _ => False
@[simp] theorem Rs.wp_ok {α : Type} (a : α) (S : Store) (Q : α → Store → Prop) (X : Exn → Store → Prop) : (Rs.ok a S).wp Q X = Q a S := rfl
@[simp] theorem Rs.wp_ex {α : Type} (e : Exn) (S : Store) (Q : α → Store → Prop) (X : Exn → Store → Prop) : (Rs.ex e S).wp Q X = X e S := rfl
@[simp] theorem Rs.wp_no {α : Type} (Q : α → Store → Prop) (X : Exn → Store → Prop) : (Rs.no : Rs α).wp Q X = False := rfl
@[simp] theorem Rs.wp_bind {α β : Type} (r : Rs α) (k : α → Store → Rs β) (Q : β → Store → Prop) (X : Exn → Store → Prop) : (r.bind k).wp Q X = r.wp (fun a S => (k a S).wp Q X) X := by cases r <;> rfl
@[simp] theorem Rs.wp_ite {α : Type} (c : Prop) [Decidable c] (r s : Rs α) (Q : α → Store → Prop) (X : Exn → Store → Prop) : (if c then r else s).wp Q X = if c then r.wp Q X else s.wp Q X := by by_cases h : c <;> simp [h]
theorem Rs.wp.mono {α : Type} {r : Rs α} {Q Q' : α → Store → Prop} {X X' : Exn → Store → Prop} (h : r.wp Q X) (i : ∀ a S, Q a S → Q' a S) (j : ∀ e S, X e S → X' e S) : r.wp Q' X' := by
  cases r with
  | ok a S => exact i a S h
  | ex e S => exact j e S h
  | no => exact h
theorem Rs.wp.run {α : Type} {r : Rs α} {Q Q' : α → Store → Prop} {X' : Exn → Store → Prop} (h : r.wp Q noX) (i : ∀ a S, Q a S → Q' a S) : r.wp Q' X' := h.mono i fun _ _ z => z.elim
theorem Rs.wp_eq {α : Type} {r : Rs α} {a : α} {S : Store} (h : r.wp (fun b T => b = a ∧ T = S) noX) : r = .ok a S := by
  cases r with
  | ok b T => obtain ⟨rfl, rfl⟩ := h; rfl
  | ex e T => exact h.elim
  | no => exact h.elim
theorem Rs.wp_ex' {α : Type} {r : Rs α} {Q : α → Store → Prop} (h : r.wp Q noX) : ∃ a S, r = .ok a S ∧ Q a S := by
  cases r with
  | ok b T => exact ⟨b, T, rfl, h⟩
  | ex e T => exact h.elim
  | no => exact h.elim
structure Po where
  nx : Env → Store → Prop
  rt : W → Store → Prop
  bk : Env → Store → Prop
  ct : Env → Store → Prop
  ex : Exn → Store → Prop
def Ou.wp (o : Ou) (D : Po) : Prop := match o with
  | .nx ρ S => D.nx ρ S
  | .rt w S => D.rt w S
  | .bk ρ S => D.bk ρ S
  | .ct ρ S => D.ct ρ S
  | .ex e _ S => D.ex e S
  | .no => False
section
variable {ρ : Env} {S : Store} {D : Po}
@[simp] theorem Ou.wp_nx : (Ou.nx ρ S).wp D = D.nx ρ S := rfl
@[simp] theorem Ou.wp_rt (w : W) : (Ou.rt w S).wp D = D.rt w S := rfl
@[simp] theorem Ou.wp_bk : (Ou.bk ρ S).wp D = D.bk ρ S := rfl
@[simp] theorem Ou.wp_ct : (Ou.ct ρ S).wp D = D.ct ρ S := rfl
@[simp] theorem Ou.wp_ex (e : Exn) : (Ou.ex e ρ S).wp D = D.ex e S := rfl
@[simp] theorem Ou.wp_no : Ou.no.wp D = False := rfl
@[simp] theorem Ou.wp_ite (c : Prop) [Decidable c] (r s : Ou) : (if c then r else s).wp D = if c then r.wp D else s.wp D := by by_cases h : c <;> simp [h]
theorem Ou.wp.mono {o : Ou} {D D' : Po} (h : o.wp D) (nx : ∀ ρ S, D.nx ρ S → D'.nx ρ S) (rt : ∀ w S, D.rt w S → D'.rt w S) (bk : ∀ ρ S, D.bk ρ S → D'.bk ρ S) (ct : ∀ ρ S, D.ct ρ S → D'.ct ρ S) (ex : ∀ e S, D.ex e S → D'.ex e S) : o.wp D' := by
  cases o with
  | nx ρ S => exact nx ρ S h
  | rt w S => exact rt w S h
  | bk ρ S => exact bk ρ S h
  | ct ρ S => exact ct ρ S h
  | ex e ρ S => exact ex e S h
  | no => exact h
@[simp] theorem st_wp {α : Type} (r : Rs α) (k : α → Store → Ou) : (r.st ρ k).wp D = r.wp (fun a S => (k a S).wp D) D.ex := by cases r <;> rfl
theorem sSeq_wp (f g : Sm) : (sSeq f g ρ S).wp D = (f ρ S).wp { D with nx := fun ρ' S' => (g ρ' S').wp D } := by
  rw [sSeq_ap]
  cases f ρ S <;> rfl
theorem seq_wp {f g : Sm} (h : (f ρ S).wp { D with nx := fun ρ' S' => (g ρ' S').wp D }) : (sSeq f g ρ S).wp D := by rw [sSeq_wp]; exact h
theorem fin_wp {b : Bool} {n : Nat} {o : Ou} {Q : W → Store → Prop} {X : Exn → Store → Prop} (h : o.wp ⟨fun _ S => (cutR b n (.d .non) S).wp Q X, fun w S => (cutR b n w S).wp Q X, fun _ _ => False, fun _ _ => False, fun e S => if b then lowS n (S.take n) = true ∧ X e (S.take n) else X e S⟩) : (fin b n o).wp Q X := by
  cases o with
  | nx ρ S => exact h
  | rt w S => exact h
  | bk ρ S => exact h.elim
  | ct ρ S => exact h.elim
  | ex e ρ S =>
    cases b with
    | false => exact h
    | true =>
      have h' : lowS n (S.take n) = true ∧ X e (S.take n) := h
      show (if true = true then (if lowS n (S.take n) = true then Rs.ex e (S.take n) else .no) else Rs.ex e S).wp Q X
      rw [if_pos rfl, if_pos h'.1]
      exact h'.2
  | no => exact h
theorem fin_wpf {n : Nat} {o : Ou} {Q : W → Store → Prop} {X : Exn → Store → Prop} (h : o.wp ⟨fun _ S => Q (.d .non) S, Q, fun _ _ => False, fun _ _ => False, X⟩) : (fin false n o).wp Q X := fin_wp h
/-- a def: what its body must do -/
theorem fn_wpf {n m : Nat} {f : Sm} {ws : List W} {Q : W → Store → Prop} {X : Exn → Store → Prop} (hn : ws.length = n) (h : (f (ws.map some ++ List.replicate (m - ws.length) none) S).wp ⟨fun _ S => Q (.d .non) S, Q, fun _ _ => False, fun _ _ => False, X⟩) : (fnF false n m f ws S).wp Q X := by
  rw [fnF_ap, if_pos hn]
  exact fin_wpf h
/-- one that lets its own cells go -/
theorem cut_wp {n : Nat} {w w' : W} {Q : W → Store → Prop} {X : Exn → Store → Prop} (h : cutW n S w = some w') (hl : lowS n (S.take n) = true) (q : Q w' (S.take n)) : (cutR true n w S).wp Q X := by
  unfold cutR
  rw [if_pos rfl, h]
  dsimp only
  rw [if_pos hl]
  exact q
theorem fn_wpt {n m : Nat} {f : Sm} {ws : List W} {Q : W → Store → Prop} {X : Exn → Store → Prop} (hn : ws.length = n) (h : (f (ws.map some ++ List.replicate (m - ws.length) none) S).wp ⟨fun _ T => (cutR true S.length (.d .non) T).wp Q X, fun w T => (cutR true S.length w T).wp Q X, fun _ _ => False, fun _ _ => False, fun e T => lowS S.length (T.take S.length) = true ∧ X e (T.take S.length)⟩) : (fnF true n m f ws S).wp Q X := by
  rw [fnF_ap, if_pos hn]
  refine fin_wp (h.mono (fun _ _ h => h) (fun _ _ h => h) (fun _ _ h => h) (fun _ _ h => h) fun e T h => ?_)
  simpa using h
/-! ### loops -/
theorem forL_wp {p : Pt} {g : Store → Prop} {body : Sm} {ws : List W} (I : List W → List W → Env → Store → Prop) (h0 : I [] ws ρ S) (hg : ∀ a b ρ S, I a b ρ S → g S)
    (hs : ∀ a w b ρ S, a ++ w :: b = ws → I a (w :: b) ρ S → ∃ ρ1, bindP p w ρ = some ρ1 ∧ (body ρ1 S).wp ⟨I (a ++ [w]) b, D.rt, D.nx, I (a ++ [w]) b, D.ex⟩) (he : ∀ ρ S, I ws [] ρ S → D.nx ρ S) : (forL p g body ws ρ S).wp D := by
  have main : ∀ (b a : List W) (ρ : Env) (S : Store), a ++ b = ws → I a b ρ S → (forL p g body b ρ S).wp D := by
    intro b
    induction b with
    | nil =>
      intro a ρ S e h
      rw [List.append_nil] at e
      subst e
      rw [forL, if_pos (hg _ _ _ _ h)]
      exact he _ _ h
    | cons w b ih =>
      intro a ρ S e h
      obtain ⟨ρ1, e1, h1⟩ := hs a w b ρ S e h
      rw [forL, if_pos (hg _ _ _ _ h), e1]
      dsimp only
      have e2 : a ++ [w] ++ b = ws := by rw [← e]; simp
      cases hb : body ρ1 S with
      | nx ρ2 S2 => rw [hb] at h1; exact ih (a ++ [w]) ρ2 S2 e2 h1
      | ct ρ2 S2 => rw [hb] at h1; exact ih (a ++ [w]) ρ2 S2 e2 h1
      | bk ρ2 S2 => rw [hb] at h1; exact h1
      | rt w S2 => rw [hb] at h1; exact h1
      | ex e ρ2 S2 => rw [hb] at h1; exact h1
      | no => rw [hb] at h1; exact h1
  exact main ws [] ρ S rfl h0
/-- over a list of plain data -/
theorem forD_wp {i : Nat} {g : Store → Prop} {body : Sm} {ds : List As.D} {D : Po} (I : List As.D → Env → Store → Prop) (h0 : I [] ρ S) (hg : ∀ a ρ S, I a ρ S → g S)
    (hs : ∀ a d b ρ S, a ++ d :: b = ds → I a ρ S → (body (ρ.set i (some (.d d))) S).wp ⟨I (a ++ [d]), D.rt, D.nx, I (a ++ [d]), D.ex⟩) (he : ∀ ρ S, I ds ρ S → D.nx ρ S) : (forL (.n i) g body (ds.map .d) ρ S).wp D := by
  refine forL_wp (fun a _ ρ S => ∃ a', a = a'.map .d ∧ I a' ρ S) ⟨[], rfl, h0⟩ (fun a b ρ S h => by obtain ⟨a', _, h⟩ := h; exact hg a' ρ S h) (fun a w b ρ S e h => ?_) fun ρ S h => ?_
  · obtain ⟨a', rfl, h⟩ := h
    refine ⟨_, by rw [bindP], ?_⟩
    have e' : ∃ d b', w = .d d ∧ b = b'.map .d ∧ a' ++ d :: b' = ds := by
      have l := congrArg List.length e
      have hd : ds = a' ++ ds.drop a'.length := by
        have h1 : (ds.map W.d).take a'.length = a'.map W.d := by rw [← e, List.take_left' (by simp)]
        have h2 : ds.take a'.length = a' := by
          have h3 := congrArg unDs h1
          rw [← List.map_take, unDs_map, unDs_map] at h3
          exact Option.some.inj h3
        conv => lhs; rw [← List.take_append_drop a'.length ds, h2]
      have h3 : (ds.drop a'.length).map W.d = w :: b := by
        have : (ds.map W.d).drop a'.length = w :: b := by rw [← e, List.drop_left' (by simp)]
        rw [List.map_drop]; exact this
      cases hdd : ds.drop a'.length with
      | nil => rw [hdd] at h3; cases h3
      | cons d b' =>
        rw [hdd] at h3 hd
        rw [List.map_cons] at h3
        injection h3 with h4 h5
        exact ⟨d, b', h4.symm, h5.symm, hd.symm⟩
    obtain ⟨d, b', rfl, rfl, e'⟩ := e'
    refine (hs a' d b' ρ S e' h).mono ?_ (fun _ _ h => h) (fun _ _ h => h) ?_ fun _ _ h => h
    · exact fun ρ S h => ⟨a' ++ [d], by simp, h⟩
    · exact fun ρ S h => ⟨a' ++ [d], by simp, h⟩
  · obtain ⟨a', e, h⟩ := h
    have : a' = ds := by
      have h3 := congrArg unDs e
      rw [unDs_map, unDs_map] at h3
      exact (Option.some.inj h3).symm
    subst this
    exact he ρ S h
/-- over range -/
theorem forR_wp {i : Nat} {g : Store → Prop} {body : Sm} {n : Nat} {lo : Int} {D : Po} (I : Nat → Env → Store → Prop) (h0 : I 0 ρ S) (hg : ∀ a ρ S, I a ρ S → g S)
    (hs : ∀ k ρ S, k < n → I k ρ S → (body (ρ.set i (some (.d (.int (lo + k))))) S).wp ⟨I (k + 1), D.rt, D.nx, I (k + 1), D.ex⟩) (he : ∀ ρ S, I n ρ S → D.nx ρ S) : (forL (.n i) g body (rngW lo n) ρ S).wp D := by
  have main : ∀ (m k : Nat) (lo' : Int) (ρ : Env) (S : Store), k + m = n → lo' = lo + k → I k ρ S → (forL (.n i) g body (rngW lo' m) ρ S).wp D := by
    intro m
    induction m with
    | zero =>
      intro k lo' ρ S e _ h
      rw [rngW, forL, if_pos (hg _ _ _ h)]
      rw [Nat.add_zero] at e
      subst e
      exact he _ _ h
    | succ m ih =>
      intro k lo' ρ S e el h
      subst el
      rw [rngW, forL, if_pos (hg _ _ _ h), bindP]
      dsimp only
      have h1 := hs k ρ S (by omega) h
      cases hb : body (ρ.set i (some (.d (.int (lo + k))))) S with
      | nx ρ2 S2 => rw [hb] at h1; exact ih (k + 1) _ ρ2 S2 (by omega) (by rw [Int.add_assoc]; rfl) h1
      | ct ρ2 S2 => rw [hb] at h1; exact ih (k + 1) _ ρ2 S2 (by omega) (by rw [Int.add_assoc]; rfl) h1
      | bk ρ2 S2 => rw [hb] at h1; exact h1
      | rt w S2 => rw [hb] at h1; exact h1
      | ex e ρ2 S2 => rw [hb] at h1; exact h1
      | no => rw [hb] at h1; exact h1
  exact main n 0 lo ρ S (by omega) (by simp) h0
/-- over enumerate -/
theorem forE_wp {i j : Nat} {g : Store → Prop} {body : Sm} {ds : List As.D} {D : Po} (I : Nat → Env → Store → Prop) (h0 : I 0 ρ S) (hg : ∀ a ρ S, I a ρ S → g S)
    (hs : ∀ k d ρ S, ds[k]? = some d → I k ρ S → (body ((ρ.set i (some (.d (.int k)))).set j (some (.d d))) S).wp ⟨I (k + 1), D.rt, D.nx, I (k + 1), D.ex⟩) (he : ∀ ρ S, I ds.length ρ S → D.nx ρ S) : (forL (.t [.n i, .n j]) g body (enumW 0 ds) ρ S).wp D := by
  have main : ∀ (m : List As.D) (k : Nat) (ρ : Env) (S : Store), ds.drop k = m → k ≤ ds.length → I k ρ S → (forL (.t [.n i, .n j]) g body (enumW k m) ρ S).wp D := by
    intro m
    induction m with
    | nil =>
      intro k ρ S e hk h
      rw [enumW, forL, if_pos (hg _ _ _ h)]
      have : k = ds.length := by
        have := congrArg List.length e
        rw [List.length_drop, List.length_nil] at this
        omega
      subst this
      exact he _ _ h
    | cons d m ih =>
      intro k ρ S e hk h
      have hd : ds[k]? = some d := by
        have := congrArg (fun l => l[0]?) e
        simpa using this
      have hlt : k < ds.length := (List.getElem?_eq_some_iff.mp hd).1
      have e2 : ds.drop (k + 1) = m := by
        rw [← List.tail_drop, e]; rfl
      rw [enumW, forL, if_pos (hg _ _ _ h)]
      have hb0 : bindP (.t [.n i, .n j]) (.d (.tup [.int k, d])) ρ = some ((ρ.set i (some (.d (.int k)))).set j (some (.d d))) := rfl
      rw [hb0]
      dsimp only
      have h1 := hs k d ρ S hd h
      cases hb : body ((ρ.set i (some (.d (.int k)))).set j (some (.d d))) S with
      | nx ρ2 S2 => rw [hb] at h1; exact ih (k + 1) ρ2 S2 e2 hlt h1
      | ct ρ2 S2 => rw [hb] at h1; exact ih (k + 1) ρ2 S2 e2 hlt h1
      | bk ρ2 S2 => rw [hb] at h1; exact h1
      | rt w S2 => rw [hb] at h1; exact h1
      | ex e ρ2 S2 => rw [hb] at h1; exact h1
      | no => rw [hb] at h1; exact h1
  exact main ds 0 ρ S rfl (Nat.zero_le _) h0
/-- while -/
theorem whL_wp {t : Env → Store → Rs Bool} {body : Sm} (I : Nat → Env → Store → Prop) (n : Nat) (h0 : ∃ m, m < n ∧ I m ρ S)
    (hs : ∀ m ρ S, I m ρ S → (t ρ S).wp (fun b S1 => if b = true then (body ρ S1).wp ⟨fun ρ' S' => ∃ m', m' < m ∧ I m' ρ' S', D.rt, D.nx, fun ρ' S' => ∃ m', m' < m ∧ I m' ρ' S', D.ex⟩ else D.nx ρ S1) D.ex) : (whL t body n ρ S).wp D := by
  have main : ∀ (n m : Nat) (ρ : Env) (S : Store), m < n → I m ρ S → (whL t body n ρ S).wp D := by
    intro n
    induction n with
    | zero => intro m ρ S h _; omega
    | succ n ih =>
      intro m ρ S hm h
      rw [whL, st_wp]
      refine (hs m ρ S h).mono (fun b S1 h1 => ?_) fun _ _ h => h
      cases b with
      | false =>
        rw [if_neg (by decide)] at h1 ⊢
        exact h1
      | true =>
        rw [if_pos rfl] at h1 ⊢
        cases hb : body ρ S1 with
        | nx ρ2 S2 => rw [hb] at h1; obtain ⟨m', l, h2⟩ := h1; exact ih m' ρ2 S2 (by omega) h2
        | ct ρ2 S2 => rw [hb] at h1; obtain ⟨m', l, h2⟩ := h1; exact ih m' ρ2 S2 (by omega) h2
        | bk ρ2 S2 => rw [hb] at h1; exact h1
        | rt w S2 => rw [hb] at h1; exact h1
        | ex e ρ2 S2 => rw [hb] at h1; exact h1
        | no => rw [hb] at h1; exact h1
  obtain ⟨m, l, h⟩ := h0
  exact main n m ρ S l h
/-! ### comprehensions with effects -/
theorem compL_wp {p : Pt} {g : Store → Prop} {t : Env → Store → Rs Bool} {fe : Env → Store → Rs W} {ρw : Env} {ws : List W} {Q : List W → Store → Prop} {X : Exn → Store → Prop} (I : List W → List W → Store → Prop) (h0 : I [] [] S) (hg : ∀ a us S, I a us S → g S)
    (hs : ∀ a w b us S, a ++ w :: b = ws → I a us S → ∃ ρ1, bindP p w ρw = some ρ1 ∧ (t ρ1 S).wp (fun b S1 => if b = true then (fe ρ1 S1).wp (fun w' S2 => I (a ++ [w]) (us ++ [w']) S2) noX else I (a ++ [w]) us S1) noX) (he : ∀ us S, I ws us S → Q us S) : (compL p g t fe ρw ws S).wp Q X := by
  have nx : ∀ (b : List W) (S : Store), ∀ e S3, compL p g t fe ρw b S ≠ .ex e S3 := by
    intro b
    induction b with
    | nil =>
      intro S e S3 z
      rw [compL] at z
      split at z <;> cases z
    | cons w b ih =>
      intro S e S3 z
      rw [compL] at z
      split at z
      · split at z
        · split at z
          · split at z
            · split at z <;> cases z
            · cases z
          · exact ih _ _ _ z
          · cases z
        · cases z
      · cases z
  have main : ∀ (b a : List W) (us : List W) (S : Store), a ++ b = ws → I a us S → (compL p g t fe ρw b S).wp (fun es S' => I ws (us ++ es) S') X := by
    intro b
    induction b with
    | nil =>
      intro a us S e h
      rw [List.append_nil] at e
      subst e
      rw [compL, if_pos (hg _ _ _ h)]
      rw [Rs.wp_ok, List.append_nil]
      exact h
    | cons w b ih =>
      intro a us S e h
      obtain ⟨ρ1, e1, h1⟩ := hs a w b us S e h
      have e2 : a ++ [w] ++ b = ws := by rw [← e]; simp
      rw [compL, if_pos (hg _ _ _ h), e1]
      dsimp only
      cases ht : t ρ1 S with
      | no => rw [ht] at h1; exact h1.elim
      | ex e S1 => rw [ht] at h1; exact h1.elim
      | ok b1 S1 =>
        rw [ht, Rs.wp_ok] at h1
        cases b1 with
        | false =>
          rw [if_neg (by decide)] at h1
          exact ih (a ++ [w]) us S1 e2 h1
        | true =>
          rw [if_pos rfl] at h1
          cases hf : fe ρ1 S1 with
          | no => rw [hf] at h1; exact h1.elim
          | ex e S2 => rw [hf] at h1; exact h1.elim
          | ok w' S2 =>
            rw [hf, Rs.wp_ok] at h1
            have h2 := ih (a ++ [w]) (us ++ [w']) S2 e2 h1
            cases hc : compL p g t fe ρw b S2 with
            | no => rw [hc] at h2; exact h2.elim
            | ex e S3 => exact absurd hc (nx b S2 e S3)
            | ok es S3 =>
              rw [hc, Rs.wp_ok, List.append_assoc] at h2
              simpa [hf, hc] using h2
  exact (main ws [] [] S rfl h0).mono (fun es S' h => he es S' h) fun _ _ h => h
/-! ### slots -/
@[simp] theorem gcE_len (n : Nat) : ∀ ρ : Env, (gcE n ρ).length = ρ.length
  | [] => rfl
  | none :: ρ => by rw [gcE, List.length_cons, List.length_cons, gcE_len n ρ]
  | some w :: ρ => by rw [gcE, List.length_cons, List.length_cons, gcE_len n ρ]
theorem gcE_get {n : Nat} : ∀ {ρ : Env} {i : Nat} {w : W}, ρ[i]? = some (some w) → w.low n = true → (gcE n ρ)[i]? = some (some w)
  | [], i, w, h, _ => by simp at h
  | none :: ρ, 0, w, h, _ => by simp at h
  | none :: ρ, i + 1, w, h, hl => by
    rw [gcE, List.getElem?_cons_succ]
    rw [List.getElem?_cons_succ] at h
    exact gcE_get h hl
  | some w' :: ρ, 0, w, h, hl => by
    have e : w' = w := by simpa using h
    subst e
    rw [gcE, if_pos hl]
    rfl
  | some w' :: ρ, i + 1, w, h, hl => by
    rw [gcE, List.getElem?_cons_succ]
    rw [List.getElem?_cons_succ] at h
    exact gcE_get h hl
theorem sl_gc {n : Nat} {ρ : Env} {i : Nat} {w : W} (h : sl ρ i = some w) (hl : w.low n = true) : sl (gcE n ρ) i = some w := sl_some (gcE_get (sl_at h) hl)
theorem sGc_wp {f : Sm} (h : (f ρ S).wp { D with nx := fun ρ' S' => lowS S.length (S'.take S.length) = true ∧ D.nx (gcE S.length ρ') (S'.take S.length), ct := fun ρ' S' => lowS S.length (S'.take S.length) = true ∧ D.ct (gcE S.length ρ') (S'.take S.length) }) : (sGc f ρ S).wp D := by
  unfold sGc
  cases hf : f ρ S with
  | nx ρ' S' => rw [hf] at h; dsimp only; obtain ⟨h1, h2⟩ := h; rw [if_pos h1]; exact h2
  | ct ρ' S' => rw [hf] at h; dsimp only; obtain ⟨h1, h2⟩ := h; rw [if_pos h1]; exact h2
  | bk ρ' S' => rw [hf] at h; exact h
  | rt w S' => rw [hf] at h; exact h
  | ex e ρ' S' => rw [hf] at h; exact h
  | no => rw [hf] at h; exact h
end
end As
namespace As
open PySem PySem.Spec PyProof.Rows L2
def lenOk (ws : List W) : Bool := decide (ws.length < 100000)
theorem lenOk_of {ws : List W} (h : ws.length < 100000) : lenOk ws = true := decide_eq_true h
theorem lenOk_to {ws : List W} (h : lenOk ws = true) : ws.length < 100000 := of_decide_eq_true h
theorem fLc_wp {b : Bool} {fi : Env → Store → Rs Itm} {p : Pt} {t : Env → Store → Rs Bool} {fe : Env → Store → Rs W} {vs : List Nat} {ρ : Env} {S : Store} {Q : W → Store → Prop} {X : Exn → Store → Prop}
    (h : (fi ρ S).wp (fun a S1 => lenOk a.1 = true ∧ (compL p a.2 t fe (wipeE ρ vs) a.1 S1).wp (fun us S2 => (newW b us S2).wp Q X) X) X) : (fLc b fi p t fe vs ρ S).wp Q X := by
  rw [fLc_ap, Rs.wp_bind]
  refine h.mono (fun a S1 h => ?_) fun _ _ h => h
  have h1 := lenOk_to h.1
  have h2 := h.2
  clear h
  by_cases hl : a.1.length < 100000
  · simp only [hl, if_true, Rs.wp_bind]
    exact h2
  · exact absurd h1 hl
theorem iRange1_wp {fs : Env → Store → Rs (List W)} {ρ : Env} {S : Store} {Q : Itm → Store → Prop} {X : Exn → Store → Prop} (h : (fs ρ S).wp (fun xs S1 => ∃ n : Nat, xs = [.d (.int n)] ∧ smallI n = true ∧ Q (rngW 0 n, fun _ => True) S1) X) : (iRange1 fs ρ S).wp Q X := by
  rw [iRange1_ap, Rs.wp_bind]
  refine h.mono (fun xs S1 h => ?_) fun _ _ h => h
  refine h.elim fun n h => ?_
  have e := h.1
  have sm := h.2.1
  have q := h.2.2
  rw [e]
  show (if smallI (n : Int) = true then Rs.ok (rngW 0 (n : Int).toNat, fun _ : Store => True) S1 else .no).wp Q X
  rw [if_pos sm, Int.toNat_natCast]
  exact q
theorem iRange2_wp {fs : Env → Store → Rs (List W)} {ρ : Env} {S : Store} {Q : Itm → Store → Prop} {X : Exn → Store → Prop} (h : (fs ρ S).wp (fun xs S1 => ∃ (i : Int) (n : Nat), xs = [.d (.int i), .d (.int (i + n))] ∧ (smallI i && smallI (i + n)) = true ∧ Q (rngW i n, fun _ => True) S1) X) : (iRange2 fs ρ S).wp Q X := by
  rw [iRange2_ap, Rs.wp_bind]
  refine h.mono (fun xs S1 h => ?_) fun _ _ h => h
  refine h.elim fun i h => h.elim fun n h => ?_
  have e := h.1
  have sm := h.2.1
  have q := h.2.2
  rw [e]
  show (if (smallI i && smallI (i + n)) = true then Rs.ok (rngW i (i + n - i).toNat, fun _ : Store => True) S1 else .no).wp Q X
  rw [if_pos sm, show (i + n - i).toNat = n by omega]
  exact q
end As

namespace As
open PySem PySem.Spec PyProof.Rows L2
def Rs.wx {α : Type} (r : Rs α) (f : α → Store → Ou) : Ou := match r with
  | .ok a S => f a S
  | _ => .no
@[simp] theorem Rs.wx_ok {α : Type} (a : α) (S : Store) (f : α → Store → Ou) : (Rs.ok a S).wx f = f a S := rfl
@[simp] theorem Rs.wx_ex {α : Type} (e : Exn) (S : Store) (f : α → Store → Ou) : (Rs.ex e S : Rs α).wx f = .no := rfl
@[simp] theorem Rs.wx_no {α : Type} (f : α → Store → Ou) : (Rs.no : Rs α).wx f = .no := rfl
theorem wipeX_st {α : Type} (o : Option Nat) (r : Rs α) (ρ : Env) (k : α → Store → Ou) : wipeX o (r.st ρ k) = r.wx fun a S => wipeX o (k a S) := by cases r <;> rfl
theorem wipeX_nx (o : Option Nat) (ρ : Env) (S : Store) : wipeX o (.nx ρ S) = .nx (offX o ρ) S := rfl
theorem wipeX_rt (o : Option Nat) (w : W) (S : Store) : wipeX o (.rt w S) = .rt w S := rfl
end As

/-! what all laws want: cells by what stands in them, plain data, draws -/
namespace As
open PySem PySem.Spec PyProof.Rows L2
/-! ### cells -/
theorem map_erase {α β : Type} (f : α → β) : ∀ (l : List α) (j : Nat), (l.eraseIdx j).map f = (l.map f).eraseIdx j
  | [], _ => rfl
  | _ :: _, 0 => rfl
  | a :: l, j + 1 => by rw [List.eraseIdx_cons_succ, List.map_cons, List.map_cons, List.eraseIdx_cons_succ, map_erase f l j]
section
variable {S : Store} {k : Nat} {xs : List D}
theorem c_li (h : S[k]? = some (.l xs)) : liW S (.c k) = some (xs.map .d) := by simp [liW, h]
theorem c_it (h : S[k]? = some (.l xs)) : itW S (.c k) = some (xs.map .d) := by simp [itW, liW, h]
theorem c_is (h : S[k]? = some (.l xs)) : isCl (.c k) S = true := by simp [isCl, liW, h]
theorem c_rd (h : S[k]? = some (.l xs)) : rdW S (.c k) = some (.lst xs) := by simp [rdW, rdN, h]
theorem cutW_c {n : Nat} (h : S[k]? = some (.l xs)) (hk : n ≤ k) : cutW n S (.c k) = some (.d (.lst xs)) := by
  have : ¬ k < n := by omega
  simp [cutW, frN, this, hk, h]
theorem cutW_tc {n : Nat} {a : D} (h : S[k]? = some (.l xs)) (hk : n ≤ k) : cutW n S (.t [.d a, .c k]) = some (.d (.tup [a, .lst xs])) := by
  have : ¬ k < n := by omega
  simp [cutW, frN, rdAll, lowAll, W.low, this, hk, h]
theorem c_lt {c : Cell} (h : S[k]? = some c) : k < S.length := (List.getElem?_eq_some_iff.mp h).1
theorem c_app (h : S[k]? = some (.l xs)) (hl : xs.length < 100000) (d : D) : mApp (.c k) [.d d] S = .ok (.d .non) (S.set k (.l (xs ++ [d]))) := by
  have e : reL (xs.map W.d ++ [W.d d]) = .l (xs ++ [d]) := by
    have := reL_ds (xs ++ [d])
    rwa [List.map_append] at this
  simp [mApp, liW, h, hl, e]
theorem c_ext (h : S[k]? = some (.l xs)) {ys : List D} {y : W} (hy : liW S y = some (ys.map .d)) (hl : xs.length + ys.length ≤ 100000) : mExt (.c k) [y] S = .ok (.d .non) (S.set k (.l (xs ++ ys))) := by
  have e : reL (xs.map W.d ++ ys.map W.d) = .l (xs ++ ys) := by
    have := reL_ds (xs ++ ys)
    rwa [List.map_append] at this
  simp [mExt, c_li h, hy, hl, e]
theorem c_put {ρ : Env} {fo fi fe : Env → Store → Rs W} {z : Int} {j : Nat} {d : D} (h : S[k]? = some (.l xs)) (he : fe ρ S = .ok (.d d) S) (ho : fo ρ S = .ok (.c k) S) (hi : fi ρ S = .ok (.d (.int z)) S) (hj : ixN xs.length z = some j) : sPut fo fi fe ρ S = .nx ρ (S.set k (.l (xs.set j d))) := by
  have e : reL ((xs.map W.d).set j (W.d d)) = .l (xs.set j d) := by
    have := reL_ds (xs.set j d)
    rwa [List.map_set] at this
  simp [he, ho, hi, c_li h, hj, e]
theorem c_pop {i : Int} {j : Nat} {d : D} (h : S[k]? = some (.l xs)) (hb : -(2 ^ 63) ≤ i ∧ i < 2 ^ 63) (hj : seqIndex? i xs.length = some j) (hd : xs[j]? = some d) : mPop1 (.c k) [.d (.int i)] S = .ok (.d d) (S.set k (.l (xs.eraseIdx j))) := by
  have e : reL ((xs.map W.d).eraseIdx j) = .l (xs.eraseIdx j) := by
    have := reL_ds (xs.eraseIdx j)
    rwa [map_erase] at this
  simp only [mPop1, mPop, c_li h, List.length_map, if_pos hb, hj, List.getElem?_map, hd, Option.map_some, e]
end
theorem cutG_ds (ds : List D) (lo hi : Option Int) : cutG (ds.map W.d) lo hi = (cutD ds lo hi).map W.d := by
  unfold cutG cutD
  rw [List.length_map, List.map_take, List.map_drop]
theorem e_slL {b : Bool} {x : W} {xs : List D} {S : Store} {lo hi : Option Int} (h : laW S x = some (xs.map .d)) : oSlL b x lo hi S = newL b (cutD xs lo hi) S := by
  simp only [oSlL, h, cutG_ds, newW_ds]
theorem e_catL {b : Bool} {x y : W} {xs ys : List D} {S : Store} (h : liW S x = some (xs.map .d)) (h2 : liW S y = some (ys.map .d)) (hl : xs.length + ys.length ≤ 100000) : oCatL b x y S = newL b (xs ++ ys) S := by
  simp only [oCatL, h, h2, List.length_map, if_pos hl, ← List.map_append, newW_ds]
@[simp] theorem wipe0 (ρ : Env) : wipeE ρ [] = ρ := rfl
@[simp] theorem wipe1 (ρ : Env) (i : Nat) (vs : List Nat) : wipeE ρ (i :: vs) = (wipeE ρ vs).set i none := rfl
@[simp] theorem oSlT_t (ds : List D) (lo hi : Option Int) (S : Store) : oSlT (.d (.tup ds)) lo hi S = newT (cutD ds lo hi) S := rfl
theorem cutD_take (ds : List D) (k : Nat) (h : k ≤ ds.length) : cutD ds none (some (k : Int)) = ds.take k := by
  unfold cutD
  have e0 : HT.sIx ds.length 0 none = 0 := rfl
  have e1 : HT.sIx ds.length ds.length (some (k : Int)) = k := by
    unfold HT.sIx
    have h0 : ¬ ((k : Int) < 0) := by omega
    simp [h0]
    omega
  rw [e0, e1]
  rfl
theorem cutD_drop (ds : List D) (k : Nat) (h : k ≤ ds.length) : cutD ds (some (k : Int)) none = ds.drop k := by
  unfold cutD
  have e0 : HT.sIx ds.length ds.length none = ds.length := rfl
  have e1 : HT.sIx ds.length 0 (some (k : Int)) = k := by
    unfold HT.sIx
    have h0 : ¬ ((k : Int) < 0) := by omega
    simp [h0]
    omega
  rw [e0, e1, List.take_of_length_le (by rw [List.length_drop]; omega)]
theorem fnF_of {b : Bool} {n m : Nat} {f : Sm} {ws : List W} {S : Store} {ρ : Env} {o : Ou} (hl : ws.length = n) (hρ : ws.map some ++ List.replicate (m - ws.length) none = ρ) (h : f ρ S = o) : fnF b n m f ws S = fin b S.length o := by
  rw [fnF_ap, if_pos hl, hρ, h]
theorem sSeq_nx {f g : Sm} {ρ ρ' : Env} {S S' : Store} (h : f ρ S = .nx ρ' S') : sSeq f g ρ S = g ρ' S' := by rw [sSeq_ap, h]
theorem fLc_of {b : Bool} {fi : Env → Store → Rs Itm} {p : Pt} {t : Env → Store → Rs Bool} {fe : Env → Store → Rs W} {vs : List Nat} {ρ : Env} {S S1 S2 : Store} {ws us : List W} {g : Store → Prop}
    (hi : fi ρ S = .ok (ws, g) S1) (hl : ws.length < 100000) (hc : compL p g t fe (wipeE ρ vs) ws S1 = .ok us S2) : fLc b fi p t fe vs ρ S = newW b us S2 := by
  rw [fLc_ap, hi, Rs.bind_ok]
  dsimp only
  rw [if_pos hl, hc, Rs.bind_ok]
/-- [e for x in ds]: nothing changes -/
theorem lc_map {b : Bool} {fi : Env → Store → Rs Itm} {i : Nat} {fe : Env → Store → Rs W} {vs : List Nat} {ρ : Env} {S S1 : Store} {ds : List D} {g : Store → Prop} {f : D → D}
    (hi : fi ρ S = .ok (ds.map .d, g) S1) (hl : ds.length < 100000) (hg : g S1) (h : ∀ d ∈ ds, fe ((wipeE ρ vs).set i (some (.d d))) S1 = .ok (.d (f d)) S1) : fLc b fi (.n i) tYesF fe vs ρ S = newL b (ds.map f) S1 := by
  rw [fLc_of hi (by rw [List.length_map]; exact hl) (compL_map hg h), newW_ds]
theorem lc_filter {b : Bool} {fi : Env → Store → Rs Itm} {i : Nat} {t : Env → Store → Rs Bool} {fe : Env → Store → Rs W} {vs : List Nat} {ρ : Env} {S S1 : Store} {ds : List D} {g : Store → Prop} {q : D → Bool} {f : D → D}
    (hi : fi ρ S = .ok (ds.map .d, g) S1) (hl : ds.length < 100000) (hg : g S1) (ht : ∀ d ∈ ds, t ((wipeE ρ vs).set i (some (.d d))) S1 = .ok (q d) S1) (h : ∀ d ∈ ds, q d = true → fe ((wipeE ρ vs).set i (some (.d d))) S1 = .ok (.d (f d)) S1) :
    fLc b fi (.n i) t fe vs ρ S = newL b ((ds.filter q).map f) S1 := by
  rw [fLc_of hi (by rw [List.length_map]; exact hl) (compL_filter hg ht h), newW_ds]
theorem lc_enum {b : Bool} {fi : Env → Store → Rs Itm} {i j : Nat} {fe : Env → Store → Rs W} {vs : List Nat} {ρ : Env} {S S1 : Store} {ds : List D} {g : Store → Prop} {f : Nat → D → D}
    (hi : fi ρ S = .ok (enumW 0 ds, g) S1) (hl : ds.length < 100000) (hg : g S1) (h : ∀ (k : Nat) d, ds[k]? = some d → fe (((wipeE ρ vs).set i (some (.d (.int (k : Int))))).set j (some (.d d))) S1 = .ok (.d (f k d)) S1) : fLc b fi (.t [.n i, .n j]) tYesF fe vs ρ S = newL b (ds.zipIdx.map fun p => f p.2 p.1) S1 := by
  rw [fLc_of hi (by rw [enumW_len]; exact hl) (compL_enum (n := 0) hg fun k d hd => by
    have := h k d hd
    simpa using this), newW_ds]
theorem sm_ok {n : Nat} (h : n < 100000) : smallI (n : Int) = true := by
  unfold smallI
  rw [Bool.and_eq_true, decide_eq_true_eq, decide_eq_true_eq]
  constructor <;> omega
theorem ir1 {fs : Env → Store → Rs (List W)} {ρ : Env} {S S' : Store} {n : Nat} (h : fs ρ S = .ok [.d (.int (n : Int))] S') (hn : n < 100000) : iRange1 fs ρ S = .ok (rngW 0 n, fun _ => True) S' := by
  rw [iRange1_ap, h, Rs.bind_ok]
  dsimp only
  rw [if_pos (sm_ok hn), Int.toNat_natCast]
/-! ### displays, items -/
@[simp] theorem mkT1 (a : D) (S : Store) : mkT [.d a] S = .ok (.d (.tup [a])) S := mkT_ds [a] S (by simp)
@[simp] theorem mkT0 (S : Store) : mkT [] S = .ok (.d (.tup [])) S := mkT_ds [] S (by simp)
@[simp] theorem mkT2 (a b : D) (S : Store) : mkT [.d a, .d b] S = .ok (.d (.tup [a, b])) S := mkT_ds [a, b] S (by simp)
@[simp] theorem mkT3 (a b c : D) (S : Store) : mkT [.d a, .d b, .d c] S = .ok (.d (.tup [a, b, c])) S := mkT_ds [a, b, c] S (by simp)
@[simp] theorem mkL0 (b : Bool) (S : Store) : mkL b [] S = newL b [] S := mkL_ds b [] S (by simp)
@[simp] theorem mkL1 (x : Bool) (a : D) (S : Store) : mkL x [.d a] S = newL x [a] S := mkL_ds x [a] S (by simp)
@[simp] theorem mkL2 (x : Bool) (a b : D) (S : Store) : mkL x [.d a, .d b] S = newL x [a, b] S := mkL_ds x [a, b] S (by simp)
@[simp] theorem mkL3 (x : Bool) (a b c : D) (S : Store) : mkL x [.d a, .d b, .d c] S = newL x [a, b, c] S := mkL_ds x [a, b, c] S (by simp)
@[simp] theorem ix0 (a : D) (l : List D) (S : Store) : oIx (.d (.tup (a :: l))) (.d (.int 0)) S = .ok (.d a) S := by simp [oIx_ap, atI, ixN]
@[simp] theorem ix1 (a b : D) (l : List D) (S : Store) : oIx (.d (.tup (a :: b :: l))) (.d (.int 1)) S = .ok (.d b) S := by
  have h : (1 : Int) < (l.length : Int) + 1 + 1 := by omega
  simp [oIx_ap, atI, ixN, h]
theorem ixAt {S : Store} {x : W} {xs : List D} (h : itW S x = some (xs.map .d)) {v : Nat} {d : D} (hd : xs[v]? = some d) : oIx x (.d (.int (v : Int))) S = .ok (.d d) S := by
  have hv := (List.getElem?_eq_some_iff.mp hd).1
  rw [oIx_ap, h]
  have : (v : Int) < (xs.length : Int) := by omega
  simp [atI, ixN, this, hd]
@[simp] theorem aInt_b (b : Bool) (S : Store) : aInt [.d (.bl b)] S = .ok (.d (.int (if b = true then 1 else 0))) S := rfl
theorem pick2 (x y : D) (b : Bool) (S : Store) : oIx (.d (.lst [x, y])) (.d (.int (if b = true then 1 else 0))) S = .ok (.d (if b = true then y else x)) S := by
  cases b <;> simp [oIx_ap, atI, ixN]
/-! ### words -/
theorem st_read : PyData.strOk "read" = true := by decide +kernel
theorem st_write : PyData.strOk "write" = true := by decide +kernel
theorem st_lax : PyData.strOk "lax" = true := by decide +kernel
theorem st_still : PyData.strOk "still" = true := by decide +kernel
theorem st_whole : PyData.strOk "whole" = true := by decide +kernel
theorem w_ne_r : ¬ (Str.ofString "write" = Str.ofString "read") := by decide
theorem r_ne_w : ¬ (Str.ofString "read" = Str.ofString "write") := by decide
theorem eqS_eq {d : D} {z : Str} (h : eqS d z = true) : d = .str z := by
  cases d with
  | str x => simp [eqS] at h; rw [h]
  | _ => cases h
theorem okK_le {n m : Nat} {d : D} (h : okK n d = true) (hn : n ≤ m) : okK m d = true := by
  unfold okK at h ⊢
  simp only [Bool.and_eq_true, decide_eq_true_eq] at h ⊢
  exact ⟨h.1, by omega⟩
theorem okK_non (n : Nat) : okK n .non = true := by
  unfold okK
  rw [pd]
  simp [nod, PyData.plain, PyData.depth]
theorem okK_bl (n : Nat) (b : Bool) : okK n (.bl b) = true := by
  unfold okK
  rw [pd]
  simp [nod, PyData.plain, PyData.depth]
theorem kEq_ok {neg : Bool} {a b : D} {n : Nat} (ha : okK n a = true) (hb : okK n b = true) (hn : n ≤ 64) (S : Store) : kEq neg a b S = .ok (.d (.bl (if neg then !eqB a b else eqB a b))) S := by
  have h1 := okK_D ha hn
  have h2 := okK_D hb hn
  unfold kEq
  split
  · rename_i x y
    have e : eqB (.str x) (.str y) = decide (x = y) := by
      unfold eqB
      rw [pd, pd]
      by_cases h : x = y <;> simp [PyData.eqv, h]
    rw [e]
  · simp [okD, nod] at h1
  · rename_i ds y
    have e : eqB (.lst ds) (.str y) = false := by unfold eqB; rw [pd, pd]; simp [PyData.eqv]
    rw [e]
    cases neg <;> rfl
  · rename_i ds y
    have e : eqB (.tup ds) (.str y) = false := by unfold eqB; rw [pd, pd]; simp [PyData.eqv]
    rw [e]
    cases neg <;> rfl
  · rename_i ds
    rw [eq_nil_lst]
  · rw [h1, h2, Bool.and_self, if_pos rfl]
/-- over enumerate, any target -/
theorem forEp_wp {p : Pt} {g : Store → Prop} {body : Sm} {ds : List D} {ρ : Env} {S : Store} {Z : Po} (I : Nat → Env → Store → Prop) (h0 : I 0 ρ S) (hg : ∀ a ρ S, I a ρ S → g S)
    (hs : ∀ (k : Nat) d ρ S, ds[k]? = some d → I k ρ S → ∃ ρ1, bindP p (.d (.tup [.int (k : Int), d])) ρ = some ρ1 ∧ (body ρ1 S).wp ⟨I (k + 1), Z.rt, Z.nx, I (k + 1), Z.ex⟩) (he : ∀ ρ S, I ds.length ρ S → Z.nx ρ S) : (forL p g body (enumW 0 ds) ρ S).wp Z := by
  have len : ∀ (a b : List W), a ++ b = enumW 0 ds → a.length ≤ ds.length := fun a b e => by
    have := congrArg List.length e
    rw [List.length_append, enumW_len] at this
    omega
  refine forL_wp (fun a b ρ S => I a.length ρ S) h0 (fun a b ρ S h => hg _ ρ S h) (fun a w b ρ S e h => ?_) fun ρ S h => he ρ S ?_
  · have hw : (enumW 0 ds)[a.length]? = some w := by rw [← e, List.getElem?_append_right (Nat.le_refl _), Nat.sub_self]; rfl
    obtain ⟨d, hd, ew⟩ := enumW_get hw
    rw [Nat.zero_add] at ew
    subst ew
    obtain ⟨ρ1, h1, h2⟩ := hs a.length d ρ S hd h
    refine ⟨ρ1, h1, h2.mono ?_ (fun _ _ h => h) (fun _ _ h => h) ?_ fun _ _ h => h⟩ <;> (intro ρ S h; rw [List.length_append]; exact h)
  · rw [enumW_len] at h
    exact h
theorem take_succ_get {α : Type} {l : List α} {k : Nat} {a : α} (h : l[k]? = some a) : l.take (k + 1) = l.take k ++ [a] := by
  rw [List.take_succ, h]
  rfl
theorem zipIdx_get {α : Type} {l : List α} {k : Nat} {a : α} (h : l[k]? = some a) : l.zipIdx[k]? = some (a, k) := by
  rw [List.getElem?_zipIdx, h]
  simp
end As

namespace As
open PySem PySem.Spec PyProof.Rows L2
/-! ### is_whole -/
-- slots: 0:thing
noncomputable def gIsWhole : Sm :=
    (sRet (fAnd (fApp aIsi (aCons (fVar 0) (aCons (fK (.g (.ty "int"))) aNil))) (fNot (fApp aIsi (aCons (fVar 0) (aCons (fK (.g (.ty "bool"))) aNil))))))
noncomputable def FIsWhole : Fn := fnF false 1 1 gIsWhole
/-! ### is_number -/
-- slots: 0:thing 1:many
noncomputable def gIsNumber : Sm :=
    (sRet (fAnd (fApp FIsWhole (aCons (fVar 0) aNil)) (fChain oLe oLt (fK (.d (.int 0))) (fVar 0) (fVar 1))))
noncomputable def FIsNumber : Fn := fnF false 2 2 gIsNumber
/-! ### is_box -/
-- slots: 0:thing
noncomputable def gIsBox : Sm :=
    (sRet (fApp FIsNumber (aCons (fVar 0) (aCons (fOp oAdd (fK (.d (.int 100000000))) (fK (.d (.int 1)))) aNil))))
noncomputable def FIsBox : Fn := fnF false 1 1 gIsBox
/-! ### is_one_of -/
-- slots: 0:thing 1:words
noncomputable def gIsOneOf : Sm :=
    (sRet (fAnd (fApp aIsi (aCons (fVar 0) (aCons (fK (.g (.ty "str"))) aNil))) (fOp oIn (fVar 0) (fVar 1))))
noncomputable def FIsOneOf : Fn := fnF false 2 2 gIsOneOf
/-! ### is_step -/
-- slots: 0:thing
noncomputable def gIsStep : Sm :=
    (sSeq (sIf (tOrF (tNotF (fB (fApp aIsi (aCons (fVar 0) (aCons (fK (.g (.ty "tuple"))) aNil))))) (fB (fOp oNe (fApp aLen (aCons (fVar 0) aNil)) (fK (.d (.int 2))))))
    (sRet (fK (.d (.bl false)))) sNil)
    (sRet (fAnd (fApp FIsOneOf (aCons (fOp oIx (fVar 0) (fK (.d (.int 0)))) (aCons (fApp mkT (aCons (fK (.d (.str "read"))) (aCons (fK (.d (.str "write"))) aNil))) aNil))) (fApp FIsBox (aCons (fOp oIx (fVar 0) (fK (.d (.int 1)))) aNil)))))
noncomputable def FIsStep : Fn := fnF false 1 1 gIsStep
/-! ### may_follow -/
-- slots: 0:step 1:ahead
noncomputable def gMayFollow : Sm :=
    (sRet (fAnd (fOp oNotIn (fVar 0) (fVar 1)) (fOp oNotIn (fApp mkT (aCons (fK (.d (.str "write"))) (aCons (fOp oIx (fVar 0) (fK (.d (.int 1)))) aNil))) (fVar 1))))
noncomputable def FMayFollow : Fn := fnF false 2 2 gMayFollow
/-! ### is_dealing -/
-- slots: 0:thing 1:step 2:place
noncomputable def gIsDealing : Sm :=
    (sSeq (sIf (tOrF (tNotF (fB (fApp aIsi (aCons (fVar 0) (aCons (fK (.g (.ty "tuple"))) aNil))))) (tNotF (fB (fChain oLe oLe (fK (.d (.int 1))) (fApp aLen (aCons (fVar 0) aNil)) (fK (.d (.int 8)))))))
    (sRet (fK (.d (.bl false)))) sNil)
    (sSeq (sIf (tNotF (fB (fApp aAll (aCons (fLc false (iTupF (fVar 0)) (.n 1) tYesF (fApp FIsStep (aCons (fVar 1) aNil)) [1]) aNil))))
    (sRet (fK (.d (.bl false)))) sNil)
    (sRet (fApp aAll (aCons (fLc false (iEnumT (aCons (fVar 0) aNil)) (.t [.n 2, .n 1]) tYesF (fApp FMayFollow (aCons (fVar 1) (aCons (fSl oSlT (fVar 0) pNo (pSo (fVar 2))) aNil))) [2, 1]) aNil)))))
noncomputable def FIsDealing : Fn := fnF false 1 3 gIsDealing
/-! ### are_dealings -/
-- slots: 0:thing 1:dealing
noncomputable def gAreDealings : Sm :=
    (sSeq (sIf (tOrF (tNotF (fB (fApp aIsi (aCons (fVar 0) (aCons (fK (.g (.ty "list"))) aNil))))) (tNotF (fB (fChain oLe oLe (fK (.d (.int 1))) (fApp aLen (aCons (fVar 0) aNil)) (fK (.d (.int 100)))))))
    (sRet (fK (.d (.bl false)))) sNil)
    (sRet (fApp aAll (aCons (fLc false (iList (fVar 0)) (.n 1) tYesF (fApp FIsDealing (aCons (fVar 1) aNil)) [1]) aNil))))
noncomputable def FAreDealings : Fn := fnF false 1 2 gAreDealings
/-! ### check_dealings -/
-- slots: 0:thing
noncomputable def gCheckDealings : Sm :=
    (sIf (tNotF (fB (fApp FAreDealings (aCons (fVar 0) aNil))))
    (fun ρ S => .ex ⟨"NoDealings", none⟩ ρ S) sNil)
noncomputable def FCheckDealings : Fn := fnF false 1 1 gCheckDealings
end As

namespace As
open PySem PySem.Spec PyProof.Rows L2
/-! ### places_in -/
-- slots: 0:dealings 1:told 2:number 3:dealing 4:place 5:word 6:box
noncomputable def gPlacesIn : Sm :=
    (sSeq (sSet 1 (fApp (mkL true) aNil))
    (sSeq (sFor (iEnumL (aCons (fVar 0) aNil)) (.t [.n 2, .n 3])
    (sFor (iEnumT (aCons (fVar 3) aNil)) (.t [.n 4, (.t [.n 5, .n 6])])
      (sIf (tAndF (fB (fOp oEq (fVar 5) (fK (.d (.str "read"))))) (fB (fOp oNotIn (fApp mkT (aCons (fK (.d (.str "write"))) (aCons (fVar 6) aNil))) (fVar 3))))
        (sExpr (fMt (fun x S => isCl x S = true) mApp (fVar 1) (aCons (fApp mkT (aCons (fVar 2) (aCons (fVar 4) aNil))) aNil))) sNil)))
    (sRet (fVar 1))))
noncomputable def FPlacesIn : Fn := fnF false 1 7 gPlacesIn
/-! ### are_places -/
-- slots: 0:dealings 1:thing 2:wide 3:met 4:place 5:part
noncomputable def gArePlaces : Sm :=
    (sSeq (sIf (tNotF (fB (fApp aIsi (aCons (fVar 1) (aCons (fK (.g (.ty "list"))) aNil)))))
    (sRet (fK (.d (.bl false)))) sNil)
    (sSeq (sSet 2 (fApp FPlacesIn (aCons (fVar 0) aNil)))
    (sSeq (sSet 3 fDnT)
    (sSeq (sFor (iList (fVar 1)) (.n 4)
    (sSeq (sIf (tOrF (tNotF (fB (fApp aIsi (aCons (fVar 4) (aCons (fK (.g (.ty "tuple"))) aNil))))) (tNotF (fB (fApp aAll (aCons (fLc false (iTupF (fVar 4)) (.n 5) tYesF (fApp FIsWhole (aCons (fVar 5) aNil)) [5]) aNil)))))
      (sRet (fK (.d (.bl false)))) sNil)
      (sSeq (sIf (tOrF (fB (fOp oNotIn (fVar 4) (fVar 2))) (fB (fOp oDIn (fVar 4) (fVar 3))))
      (sRet (fK (.d (.bl false)))) sNil)
      (sDPutF (fVar 3) (fVar 4) (fK (.d (.bl true)))))))
    (sRet (fK (.d (.bl true))))))))
noncomputable def FArePlaces : Fn := fnF true 2 6 gArePlaces
/-! ### widened_dealing -/
-- slots: 0:number 1:dealing 2:places 3:steps 4:place 5:step
noncomputable def gWidenedDealing : Sm :=
    (sSeq (sSet 3 (fApp (mkL true) aNil))
    (sSeq (sFor (iEnumT (aCons (fVar 1) aNil)) (.t [.n 4, .n 5])
    (sSeq (sExpr (fMt (fun x S => isCl x S = true) mApp (fVar 3) (aCons (fVar 5) aNil)))
      (sIf (fB (fOp oIn (fApp mkT (aCons (fVar 0) (aCons (fVar 4) aNil))) (fVar 2)))
      (sExpr (fMt (fun x S => isCl x S = true) mApp (fVar 3) (aCons (fApp mkT (aCons (fK (.d (.str "write"))) (aCons (fOp oIx (fVar 5) (fK (.d (.int 1)))) aNil))) aNil))) sNil)))
    (sRet (fApp aTuple (aCons (fVar 3) aNil)))))
noncomputable def FWidenedDealing : Fn := fnF true 3 6 gWidenedDealing
/-! ### put_in -/
-- slots: 0:dealings 1:places 2:told 3:dealing 4:number
noncomputable def gPutIn : Sm :=
    (sSeq (sSet 2 (fLc true (iEnumL (aCons (fVar 0) aNil)) (.t [.n 4, .n 3]) tYesF (fApp FWidenedDealing (aCons (fVar 4) (aCons (fVar 3) (aCons (fVar 1) aNil)))) [4, 3]))
    (sSeq (sIf (fB (fApp aAny (aCons (fLc false (iList (fVar 2)) (.n 3) tYesF (fOp oGt (fApp aLen (aCons (fVar 3) aNil)) (fK (.d (.int 8)))) [3]) aNil)))
    (fun ρ S => .ex ⟨"NoRoom", none⟩ ρ S) sNil)
    (sRet (fVar 2))))
noncomputable def FPutIn : Fn := fnF false 2 5 gPutIn
/-! ### wide_places -/
-- slots: 0:dealings
noncomputable def gWidePlaces : Sm :=
    (sSeq (sExpr (fApp FCheckDealings (aCons (fVar 0) aNil)))
    (sRet (fApp FPlacesIn (aCons (fVar 0) aNil))))
noncomputable def FWidePlaces : Fn := fnF false 1 1 gWidePlaces
/-! ### widened -/
-- slots: 0:dealings 1:places
noncomputable def gWidened : Sm :=
    (sSeq (sExpr (fApp FCheckDealings (aCons (fVar 0) aNil)))
    (sSeq (sIf (tNotF (fB (fApp FArePlaces (aCons (fVar 0) (aCons (fVar 1) aNil)))))
    (fun ρ S => .ex ⟨"NoPlaces", none⟩ ρ S) sNil)
    (sRet (fApp FPutIn (aCons (fVar 0) (aCons (fVar 1) aNil))))))
noncomputable def FWidened : Fn := fnF false 2 2 gWidened
end As

namespace As
open PySem PySem.Spec PyProof.Rows L2
def topS (i : Nat) : Stmt := PySem.Challenge.pw_asifalone_k67_wide_places_and_widened.main.body.getD i (.Pass ⟨0, 0, 0, 0⟩)
def isXAloneError : Str → Bool := fun k => (["NoDealings", "NoPlaces", "NoRoom"] : List Str).contains k
def isXNoDealings : Str → Bool := fun k => (["NoDealings"] : List Str).contains k
def isXNoPlaces : Str → Bool := fun k => (["NoPlaces"] : List Str).contains k
def isXNoRoom : Str → Bool := fun k => (["NoRoom"] : List Str).contains k
def isXTooMany : Str → Bool := fun k => ([] : List Str).contains k
structure Mx (K : PySem.W.Frag) (mg : Str → Option Value) : Prop where
  isinstance : mg "isinstance" = none
  int : mg "int" = none
  bool : mg "bool" = none
  str : mg "str" = none
  tuple : mg "tuple" = none
  list : mg "list" = none
  len : mg "len" = none
  all : mg "all" = none
  any : mg "any" = none
  enumerate : mg "enumerate" = none
  range : mg "range" = none
  repr : mg "repr" = none
  ValueError : mg "ValueError" = none
  c_MOST_BOX : ∃ t, mg "MOST_BOX" = some (.int 100000000 t)
  c_MOST_STEPS : ∃ t, mg "MOST_STEPS" = some (.int 8 t)
  c_MOST_DEALINGS : ∃ t, mg "MOST_DEALINGS" = some (.int 100 t)
  x_all : ExAll K mg ["NoDealings", "NoPlaces", "NoRoom"]
  x_AloneError : ExOk K mg "AloneError"
  i_AloneError : IsAll K mg "AloneError" isXAloneError ["NoDealings", "NoPlaces", "NoRoom"]
  x_NoDealings : ExOk K mg "NoDealings"
  i_NoDealings : IsAll K mg "NoDealings" isXNoDealings ["NoDealings", "NoPlaces", "NoRoom"]
  x_NoPlaces : ExOk K mg "NoPlaces"
  i_NoPlaces : IsAll K mg "NoPlaces" isXNoPlaces ["NoDealings", "NoPlaces", "NoRoom"]
  x_NoRoom : ExOk K mg "NoRoom"
  i_NoRoom : IsAll K mg "NoRoom" isXNoRoom ["NoDealings", "NoPlaces", "NoRoom"]
  x_TooMany : ExOk K mg "TooMany"
  i_TooMany : IsAll K mg "TooMany" isXTooMany ["NoDealings", "NoPlaces", "NoRoom"]
  b_ValueError : IsB K mg "ValueError" ["NoDealings", "NoPlaces", "NoRoom"]
/-! ### is_whole -/
abbrev sIsWhole : Stmt := topS 10
abbrev nIsWhole : List Str := ["thing"]
theorem scIsWhole : FnScope nIsWhole ["thing"] (defScope sIsWhole) := ⟨rfl, rfl, rfl, by decide +kernel, rfl, by decide +kernel, by decide +kernel⟩
theorem d_IsWhole {P : Program} {w : World} {K : PySem.W.Frag} {mg : Str → Option Value} {base : Heap} (M : Mx K mg) (D : DefAt K mg "is_whole" sIsWhole ["thing"])  : DefOk P w K mg base "is_whole" ["thing"] 1 FIsWhole := by
  refine def_ok D scIsWhole (fun f cdv A outer s H E gd hr tk hp => ?_)
  exact (fs_one (fs_ret (f_and (f_isi (by rfl) M.isinstance (fa_cons (fv 0) (fa_cons (f_ty (n := "int") (by rfl) M.int (by decide +kernel)) fa_nil))) (f_one (f_not (f_isi (by rfl) M.isinstance (fa_cons (fv 0) (fa_cons (f_ty (n := "bool") (by rfl) M.bool (by decide +kernel)) fa_nil))))))))
/-! ### is_number -/
abbrev sIsNumber : Stmt := topS 11
abbrev nIsNumber : List Str := ["thing", "many"]
theorem scIsNumber : FnScope nIsNumber ["thing", "many"] (defScope sIsNumber) := ⟨rfl, rfl, rfl, by decide +kernel, rfl, by decide +kernel, by decide +kernel⟩
theorem d_IsNumber {P : Program} {w : World} {K : PySem.W.Frag} {mg : Str → Option Value} {base : Heap} (M : Mx K mg) (D : DefAt K mg "is_number" sIsNumber ["thing", "many"]) (dIsWhole : DefOk P w K mg base "is_whole" ["thing"] 1 FIsWhole) : DefOk P w K mg base "is_number" ["thing", "many"] 2 FIsNumber := by
  refine def_ok D scIsNumber (fun f cdv A outer s H E gd hr tk hp => ?_)
  exact (fs_one (fs_ret (f_and (f_callD dIsWhole gd hr (by decide) (by rfl) tk (fa_cons (fv 0) fa_nil)) (f_one (f_chain_le_lt f_int (fv 0) (fv 1))))))
/-! ### is_box -/
abbrev sIsBox : Stmt := topS 12
abbrev nIsBox : List Str := ["thing"]
theorem scIsBox : FnScope nIsBox ["thing"] (defScope sIsBox) := ⟨rfl, rfl, rfl, by decide +kernel, rfl, by decide +kernel, by decide +kernel⟩
theorem d_IsBox {P : Program} {w : World} {K : PySem.W.Frag} {mg : Str → Option Value} {base : Heap} (M : Mx K mg) (D : DefAt K mg "is_box" sIsBox ["thing"]) (dIsNumber : DefOk P w K mg base "is_number" ["thing", "many"] 2 FIsNumber) : DefOk P w K mg base "is_box" ["thing"] 3 FIsBox := by
  refine def_ok D scIsBox (fun f cdv A outer s H E gd hr tk hp => ?_)
  exact (fs_one (fs_ret (f_callD dIsNumber gd hr (by decide) (by rfl) tk (fa_cons (fv 0) (fa_cons (f_add (f_gint M.c_MOST_BOX (by rfl)) f_int) fa_nil)))))
/-! ### is_one_of -/
abbrev sIsOneOf : Stmt := topS 13
abbrev nIsOneOf : List Str := ["thing", "words"]
theorem scIsOneOf : FnScope nIsOneOf ["thing", "words"] (defScope sIsOneOf) := ⟨rfl, rfl, rfl, by decide +kernel, rfl, by decide +kernel, by decide +kernel⟩
theorem d_IsOneOf {P : Program} {w : World} {K : PySem.W.Frag} {mg : Str → Option Value} {base : Heap} (M : Mx K mg) (D : DefAt K mg "is_one_of" sIsOneOf ["thing", "words"])  : DefOk P w K mg base "is_one_of" ["thing", "words"] 1 FIsOneOf := by
  refine def_ok D scIsOneOf (fun f cdv A outer s H E gd hr tk hp => ?_)
  have hu5 := hu65 hr
  exact (fs_one (fs_ret (f_and (f_isi (by rfl) M.isinstance (fa_cons (fv 0) (fa_cons (f_ty (n := "str") (by rfl) M.str (by decide +kernel)) fa_nil))) (f_one (f_in hu5 (fv 0) (fv 1))))))
/-! ### is_step -/
abbrev sIsStep : Stmt := topS 14
abbrev nIsStep : List Str := ["thing"]
theorem scIsStep : FnScope nIsStep ["thing"] (defScope sIsStep) := ⟨rfl, rfl, rfl, by decide +kernel, rfl, by decide +kernel, by decide +kernel⟩
theorem d_IsStep {P : Program} {w : World} {K : PySem.W.Frag} {mg : Str → Option Value} {base : Heap} (M : Mx K mg) (D : DefAt K mg "is_step" sIsStep ["thing"]) (dIsBox : DefOk P w K mg base "is_box" ["thing"] 3 FIsBox) (dIsOneOf : DefOk P w K mg base "is_one_of" ["thing", "words"] 1 FIsOneOf) : DefOk P w K mg base "is_step" ["thing"] 4 FIsStep := by
  refine def_ok D scIsStep (fun f cdv A outer s H E gd hr tk hp => ?_)
  have hu := hu64 hr
  exact (fs_cons (fs_if (ft_pw (fw_or (ft_not (ft_val (f_isi (by rfl) M.isinstance (fa_cons (fv 0) (fa_cons (f_ty (n := "tuple") (by rfl) M.tuple (by decide +kernel)) fa_nil))))) (fw_or1 (ft_ne hu (f_len (by rfl) M.len (fa_cons (fv 0) fa_nil)) f_int))))
    (fs_one (fs_ret f_bl)) fs_nil)
    (fs_one (fs_ret (f_and (f_callD dIsOneOf gd hr (by decide) (by rfl) tk (fa_cons (f_idx (fv 0) f_int) (fa_cons (f_tup (fa_cons f_str (fa_cons f_str fa_nil))) fa_nil))) (f_one (f_callD dIsBox gd hr (by decide) (by rfl) tk (fa_cons (f_idx (fv 0) f_int) fa_nil)))))))
/-! ### may_follow -/
abbrev sMayFollow : Stmt := topS 15
abbrev nMayFollow : List Str := ["step", "ahead"]
theorem scMayFollow : FnScope nMayFollow ["step", "ahead"] (defScope sMayFollow) := ⟨rfl, rfl, rfl, by decide +kernel, rfl, by decide +kernel, by decide +kernel⟩
theorem d_MayFollow {P : Program} {w : World} {K : PySem.W.Frag} {mg : Str → Option Value} {base : Heap} (M : Mx K mg) (D : DefAt K mg "may_follow" sMayFollow ["step", "ahead"])  : DefOk P w K mg base "may_follow" ["step", "ahead"] 1 FMayFollow := by
  refine def_ok D scMayFollow (fun f cdv A outer s H E gd hr tk hp => ?_)
  have hu5 := hu65 hr
  exact (fs_one (fs_ret (f_and (f_notIn hu5 (fv 0) (fv 1)) (f_one (f_notIn hu5 (f_tup (fa_cons f_str (fa_cons (f_idx (fv 0) f_int) fa_nil))) (fv 1))))))
/-! ### is_dealing -/
abbrev sIsDealing : Stmt := topS 16
abbrev nIsDealing : List Str := ["thing", "step", "place"]
theorem scIsDealing : FnScope nIsDealing ["thing"] (defScope sIsDealing) := ⟨rfl, rfl, rfl, by decide +kernel, rfl, by decide +kernel, by decide +kernel⟩
theorem d_IsDealing {P : Program} {w : World} {K : PySem.W.Frag} {mg : Str → Option Value} {base : Heap} (M : Mx K mg) (D : DefAt K mg "is_dealing" sIsDealing ["thing"]) (dIsStep : DefOk P w K mg base "is_step" ["thing"] 4 FIsStep) (dMayFollow : DefOk P w K mg base "may_follow" ["step", "ahead"] 1 FMayFollow) : DefOk P w K mg base "is_dealing" ["thing"] 5 FIsDealing := by
  refine def_ok D scIsDealing (fun f cdv A outer s H E gd hr tk hp => ?_)
  exact (fs_cons (fs_if (ft_pw (fw_or (ft_not (ft_val (f_isi (by rfl) M.isinstance (fa_cons (fv 0) (fa_cons (f_ty (n := "tuple") (by rfl) M.tuple (by decide +kernel)) fa_nil))))) (fw_or1 (ft_not (ft_chain_le_le f_int (f_len (by rfl) M.len (fa_cons (fv 0) fa_nil)) (f_gint M.c_MOST_STEPS (by rfl)))))))
    (fs_one (fs_ret f_bl)) fs_nil)
    (fs_cons (fs_if (ft_not (ft_val (f_all rfl (by rfl) M.all (fa_cons (f_lc false (own := [("step", 1)]) (p := (.n 1)) rfl scIsDealing.nd (fi_tup (fv 0)) (blkOk_by (own := [("step", 1)]) (N := nIsDealing) (sc := defScope sIsDealing) (by decide +kernel)) (fun _ _ _ _ _ => (gp_n (i := 1) scIsDealing.nd rfl (.inl rfl))) (fun _ _ _ _ _ => fts_nil) (fun _ _ _ _ _ => (f_callD dIsStep gd hr (by decide) (by rfl) take_n (fa_cons (fv 1) fa_nil)))) fa_nil))))
    (fs_one (fs_ret f_bl)) fs_nil)
    (fs_one (fs_ret (f_all rfl (by rfl) M.all (fa_cons (f_lc false (own := [("place", 2), ("step", 1)]) (p := (.t [.n 2, .n 1])) rfl scIsDealing.nd (fi_enumT (by rfl) M.enumerate (fa_cons (fv 0) fa_nil)) (blkOk_by (own := [("place", 2), ("step", 1)]) (N := nIsDealing) (sc := defScope sIsDealing) (by decide +kernel)) (fun _ _ _ _ _ => (gp_t rfl (gps_cons (gp_n (i := 2) scIsDealing.nd rfl (.inl rfl)) (gps_cons (gp_n (i := 1) scIsDealing.nd rfl (.inl rfl)) gps_nil)))) (fun _ _ _ _ _ => fts_nil) (fun _ _ _ _ _ => (f_callD dMayFollow gd hr (by decide) (by rfl) take_n (fa_cons (fv 1) (fa_cons (f_slT (fv 0) fo_no (fo_so (fv 2))) fa_nil))))) fa_nil))))))
/-! ### are_dealings -/
abbrev sAreDealings : Stmt := topS 17
abbrev nAreDealings : List Str := ["thing", "dealing"]
theorem scAreDealings : FnScope nAreDealings ["thing"] (defScope sAreDealings) := ⟨rfl, rfl, rfl, by decide +kernel, rfl, by decide +kernel, by decide +kernel⟩
theorem d_AreDealings {P : Program} {w : World} {K : PySem.W.Frag} {mg : Str → Option Value} {base : Heap} (M : Mx K mg) (D : DefAt K mg "are_dealings" sAreDealings ["thing"]) (dIsDealing : DefOk P w K mg base "is_dealing" ["thing"] 5 FIsDealing) : DefOk P w K mg base "are_dealings" ["thing"] 6 FAreDealings := by
  refine def_ok D scAreDealings (fun f cdv A outer s H E gd hr tk hp => ?_)
  exact (fs_cons (fs_if (ft_pw (fw_or (ft_not (ft_val (f_isi (by rfl) M.isinstance (fa_cons (fv 0) (fa_cons (f_ty (n := "list") (by rfl) M.list (by decide +kernel)) fa_nil))))) (fw_or1 (ft_not (ft_chain_le_le f_int (f_len (by rfl) M.len (fa_cons (fv 0) fa_nil)) (f_gint M.c_MOST_DEALINGS (by rfl)))))))
    (fs_one (fs_ret f_bl)) fs_nil)
    (fs_one (fs_ret (f_all rfl (by rfl) M.all (fa_cons (f_lc false (own := [("dealing", 1)]) (p := (.n 1)) rfl scAreDealings.nd (fi_list (fv 0)) (blkOk_by (own := [("dealing", 1)]) (N := nAreDealings) (sc := defScope sAreDealings) (by decide +kernel)) (fun _ _ _ _ _ => (gp_n (i := 1) scAreDealings.nd rfl (.inl rfl))) (fun _ _ _ _ _ => fts_nil) (fun _ _ _ _ _ => (f_callD dIsDealing gd hr (by decide) (by rfl) take_n (fa_cons (fv 1) fa_nil)))) fa_nil)))))
/-! ### check_dealings -/
abbrev sCheckDealings : Stmt := topS 18
abbrev nCheckDealings : List Str := ["thing"]
theorem scCheckDealings : FnScope nCheckDealings ["thing"] (defScope sCheckDealings) := ⟨rfl, rfl, rfl, by decide +kernel, rfl, by decide +kernel, by decide +kernel⟩
theorem d_CheckDealings {P : Program} {w : World} {K : PySem.W.Frag} {mg : Str → Option Value} {base : Heap} (M : Mx K mg) (D : DefAt K mg "check_dealings" sCheckDealings ["thing"]) (dAreDealings : DefOk P w K mg base "are_dealings" ["thing"] 6 FAreDealings) : DefOk P w K mg base "check_dealings" ["thing"] 7 FCheckDealings := by
  refine def_ok D scCheckDealings (fun f cdv A outer s H E gd hr tk hp => ?_)
  exact (fs_one (fs_if (ft_not (ft_val (f_callD dAreDealings gd hr (by decide) (by rfl) tk (fa_cons (fv 0) fa_nil))))
    (fs_one (fs_raiseX rfl tk M.x_NoDealings (by rfl))) fs_nil))
/-! ### places_in -/
abbrev sPlacesIn : Stmt := topS 20
abbrev nPlacesIn : List Str := ["dealings", "told", "number", "dealing", "place", "word", "box"]
theorem scPlacesIn : FnScope nPlacesIn ["dealings"] (defScope sPlacesIn) := ⟨rfl, rfl, rfl, by decide +kernel, rfl, by decide +kernel, by decide +kernel⟩
theorem d_PlacesIn {P : Program} {w : World} {K : PySem.W.Frag} {mg : Str → Option Value} {base : Heap} (M : Mx K mg) (D : DefAt K mg "places_in" sPlacesIn ["dealings"])  : DefOk P w K mg base "places_in" ["dealings"] 1 FPlacesIn := by
  refine def_ok D scPlacesIn (fun f cdv A outer s H E gd hr tk hp => ?_)
  have hu5 := hu65 hr
  have hu := hu64 hr
  exact (fs_cons (fs_set (i := 1) scPlacesIn.nd rfl (.inl rfl) (f_lst true fa_nil))
    (fs_cons (fs_for (p := (.t [.n 2, .n 3])) hp rfl (fi_enumL (by rfl) M.enumerate (fa_cons (fv 0) fa_nil)) (gp_t rfl (gps_cons (gp_n (i := 2) scPlacesIn.nd rfl (.inl rfl)) (gps_cons (gp_n (i := 3) scPlacesIn.nd rfl (.inl rfl)) gps_nil)))
    (fs_one (fs_for (p := (.t [.n 4, (.t [.n 5, .n 6])])) hp rfl (fi_enumT (by rfl) M.enumerate (fa_cons (fv 3) fa_nil)) (gp_t rfl (gps_cons (gp_n (i := 4) scPlacesIn.nd rfl (.inl rfl)) (gps_cons (gp_t rfl (gps_cons (gp_n (i := 5) scPlacesIn.nd rfl (.inl rfl)) (gps_cons (gp_n (i := 6) scPlacesIn.nd rfl (.inl rfl)) gps_nil))) gps_nil)))
      (fs_one (fs_if (ft_pw (fw_and (ft_eq hu (fv 5) f_str) (fw_and1 (ft_notIn hu5 (f_tup (fa_cons f_str (fa_cons (fv 6) fa_nil))) (fv 3)))))
        (fs_one (fs_expr (f_append (fv 1) (fa_cons (f_tup (fa_cons (fv 2) (fa_cons (fv 4) fa_nil))) fa_nil)))) fs_nil)))))
    (fs_one (fs_ret (fv 1)))))
/-! ### are_places -/
abbrev sArePlaces : Stmt := topS 21
abbrev nArePlaces : List Str := ["dealings", "thing", "wide", "met", "place", "part"]
theorem scArePlaces : FnScope nArePlaces ["dealings", "thing"] (defScope sArePlaces) := ⟨rfl, rfl, rfl, by decide +kernel, rfl, by decide +kernel, by decide +kernel⟩
theorem d_ArePlaces {P : Program} {w : World} {K : PySem.W.Frag} {mg : Str → Option Value} {base : Heap} (M : Mx K mg) (D : DefAt K mg "are_places" sArePlaces ["dealings", "thing"]) (dPlacesIn : DefOk P w K mg base "places_in" ["dealings"] 1 FPlacesIn) (dIsWhole : DefOk P w K mg base "is_whole" ["thing"] 1 FIsWhole) : DefOk P w K mg base "are_places" ["dealings", "thing"] 2 FArePlaces := by
  refine def_ok D scArePlaces (fun f cdv A outer s H E gd hr tk hp => ?_)
  have hu5 := hu65 hr
  exact (fs_cons (fs_if (ft_not (ft_val (f_isi (by rfl) M.isinstance (fa_cons (fv 1) (fa_cons (f_ty (n := "list") (by rfl) M.list (by decide +kernel)) fa_nil)))))
    (fs_one (fs_ret f_bl)) fs_nil)
    (fs_cons (fs_set (i := 2) scArePlaces.nd rfl (.inl rfl) (f_callD dPlacesIn gd hr (by decide) (by rfl) tk (fa_cons (fv 0) fa_nil)))
    (fs_cons (fs_set (i := 3) scArePlaces.nd rfl (.inl rfl) f_dnT)
    (fs_cons (fs_for (p := (.n 4)) hp rfl (fi_list (fv 1)) (gp_n (i := 4) scArePlaces.nd rfl (.inl rfl))
    (fs_cons (fs_if (ft_pw (fw_or (ft_not (ft_val (f_isi (by rfl) M.isinstance (fa_cons (fv 4) (fa_cons (f_ty (n := "tuple") (by rfl) M.tuple (by decide +kernel)) fa_nil))))) (fw_or1 (ft_not (ft_val (f_all rfl (by rfl) M.all (fa_cons (f_lc false (own := [("part", 5)]) (p := (.n 5)) rfl scArePlaces.nd (fi_tup (fv 4)) (blkOk_by (own := [("part", 5)]) (N := nArePlaces) (sc := defScope sArePlaces) (by decide +kernel)) (fun _ _ _ _ _ => (gp_n (i := 5) scArePlaces.nd rfl (.inl rfl))) (fun _ _ _ _ _ => fts_nil) (fun _ _ _ _ _ => (f_callD dIsWhole gd hr (by decide) (by rfl) take_n (fa_cons (fv 5) fa_nil)))) fa_nil)))))))
      (fs_one (fs_ret f_bl)) fs_nil)
      (fs_cons (fs_if (ft_pw (fw_or (ft_notIn hu5 (fv 4) (fv 2)) (fw_or1 (ft_din hu5 (fv 4) (fv 3)))))
      (fs_one (fs_ret f_bl)) fs_nil)
      (fs_one (fs_dput hu5 f_bl (fv 3) (fv 4))))))
    (fs_one (fs_ret f_bl))))))
/-! ### widened_dealing -/
abbrev sWidenedDealing : Stmt := topS 22
abbrev nWidenedDealing : List Str := ["number", "dealing", "places", "steps", "place", "step"]
theorem scWidenedDealing : FnScope nWidenedDealing ["number", "dealing", "places"] (defScope sWidenedDealing) := ⟨rfl, rfl, rfl, by decide +kernel, rfl, by decide +kernel, by decide +kernel⟩
theorem d_WidenedDealing {P : Program} {w : World} {K : PySem.W.Frag} {mg : Str → Option Value} {base : Heap} (M : Mx K mg) (D : DefAt K mg "widened_dealing" sWidenedDealing ["number", "dealing", "places"])  : DefOk P w K mg base "widened_dealing" ["number", "dealing", "places"] 1 FWidenedDealing := by
  refine def_ok D scWidenedDealing (fun f cdv A outer s H E gd hr tk hp => ?_)
  have hu5 := hu65 hr
  exact (fs_cons (fs_set (i := 3) scWidenedDealing.nd rfl (.inl rfl) (f_lst true fa_nil))
    (fs_cons (fs_for (p := (.t [.n 4, .n 5])) hp rfl (fi_enumT (by rfl) M.enumerate (fa_cons (fv 1) fa_nil)) (gp_t rfl (gps_cons (gp_n (i := 4) scWidenedDealing.nd rfl (.inl rfl)) (gps_cons (gp_n (i := 5) scWidenedDealing.nd rfl (.inl rfl)) gps_nil)))
    (fs_cons (fs_expr (f_append (fv 3) (fa_cons (fv 5) fa_nil)))
      (fs_one (fs_if (ft_in hu5 (f_tup (fa_cons (fv 0) (fa_cons (fv 4) fa_nil))) (fv 2))
      (fs_one (fs_expr (f_append (fv 3) (fa_cons (f_tup (fa_cons f_str (fa_cons (f_idx (fv 5) f_int) fa_nil))) fa_nil)))) fs_nil))))
    (fs_one (fs_ret (f_tuple (by rfl) M.tuple (fa_cons (fv 3) fa_nil))))))
/-! ### put_in -/
abbrev sPutIn : Stmt := topS 23
abbrev nPutIn : List Str := ["dealings", "places", "told", "dealing", "number"]
theorem scPutIn : FnScope nPutIn ["dealings", "places"] (defScope sPutIn) := ⟨rfl, rfl, rfl, by decide +kernel, rfl, by decide +kernel, by decide +kernel⟩
theorem d_PutIn {P : Program} {w : World} {K : PySem.W.Frag} {mg : Str → Option Value} {base : Heap} (M : Mx K mg) (D : DefAt K mg "put_in" sPutIn ["dealings", "places"]) (dWidenedDealing : DefOk P w K mg base "widened_dealing" ["number", "dealing", "places"] 1 FWidenedDealing) : DefOk P w K mg base "put_in" ["dealings", "places"] 2 FPutIn := by
  refine def_ok D scPutIn (fun f cdv A outer s H E gd hr tk hp => ?_)
  exact (fs_cons (fs_setLc true (i := 2) (own := [("number", 4), ("dealing", 3)]) (p := (.t [.n 4, .n 3])) rfl scPutIn.nd rfl rfl (sw_true rfl rfl rfl (by decide +kernel)) (fi_enumL (by rfl) M.enumerate (fa_cons (fv 0) fa_nil)) (blkOk_by (own := [("number", 4), ("dealing", 3)]) (N := nPutIn) (sc := defScope sPutIn) (by decide +kernel)) (fun _ _ _ _ _ => (gp_t rfl (gps_cons (gp_n (i := 4) scPutIn.nd rfl (.inl rfl)) (gps_cons (gp_n (i := 3) scPutIn.nd rfl (.inl rfl)) gps_nil)))) (fun _ _ _ _ _ => fts_nil) (fun _ _ _ _ _ => (f_callD dWidenedDealing gd hr (by decide) (by rfl) take_n (fa_cons (fv 4) (fa_cons (fv 3) (fa_cons (fv 1) fa_nil))))))
    (fs_cons (fs_if (ft_val (f_any rfl (by rfl) M.any (fa_cons (f_lc false (own := [("dealing", 3)]) (p := (.n 3)) rfl scPutIn.nd (fi_list (fv 2)) (blkOk_by (own := [("dealing", 3)]) (N := nPutIn) (sc := defScope sPutIn) (by decide +kernel)) (fun _ _ _ _ _ => (gp_n (i := 3) scPutIn.nd rfl (.inl rfl))) (fun _ _ _ _ _ => fts_nil) (fun _ _ _ _ _ => (f_gt (f_len (by rfl) M.len (fa_cons (fv 3) fa_nil)) (f_gint M.c_MOST_STEPS (by rfl))))) fa_nil)))
    (fs_one (fs_raiseX rfl tk M.x_NoRoom (by rfl))) fs_nil)
    (fs_one (fs_ret (fv 2)))))
/-! ### wide_places -/
abbrev sWidePlaces : Stmt := topS 24
abbrev nWidePlaces : List Str := ["dealings"]
theorem scWidePlaces : FnScope nWidePlaces ["dealings"] (defScope sWidePlaces) := ⟨rfl, rfl, rfl, by decide +kernel, rfl, by decide +kernel, by decide +kernel⟩
theorem d_WidePlaces {P : Program} {w : World} {K : PySem.W.Frag} {mg : Str → Option Value} {base : Heap} (M : Mx K mg) (D : DefAt K mg "wide_places" sWidePlaces ["dealings"]) (dCheckDealings : DefOk P w K mg base "check_dealings" ["thing"] 7 FCheckDealings) (dPlacesIn : DefOk P w K mg base "places_in" ["dealings"] 1 FPlacesIn) : DefOk P w K mg base "wide_places" ["dealings"] 8 FWidePlaces := by
  refine def_ok D scWidePlaces (fun f cdv A outer s H E gd hr tk hp => ?_)
  exact (fs_cons (fs_expr (f_callD dCheckDealings gd hr (by decide) (by rfl) tk (fa_cons (fv 0) fa_nil)))
    (fs_one (fs_ret (f_callD dPlacesIn gd hr (by decide) (by rfl) tk (fa_cons (fv 0) fa_nil)))))
/-! ### widened -/
abbrev sWidened : Stmt := topS 25
abbrev nWidened : List Str := ["dealings", "places"]
theorem scWidened : FnScope nWidened ["dealings", "places"] (defScope sWidened) := ⟨rfl, rfl, rfl, by decide +kernel, rfl, by decide +kernel, by decide +kernel⟩
theorem d_Widened {P : Program} {w : World} {K : PySem.W.Frag} {mg : Str → Option Value} {base : Heap} (M : Mx K mg) (D : DefAt K mg "widened" sWidened ["dealings", "places"]) (dCheckDealings : DefOk P w K mg base "check_dealings" ["thing"] 7 FCheckDealings) (dArePlaces : DefOk P w K mg base "are_places" ["dealings", "thing"] 2 FArePlaces) (dPutIn : DefOk P w K mg base "put_in" ["dealings", "places"] 2 FPutIn) : DefOk P w K mg base "widened" ["dealings", "places"] 8 FWidened := by
  refine def_ok D scWidened (fun f cdv A outer s H E gd hr tk hp => ?_)
  exact (fs_cons (fs_expr (f_callD dCheckDealings gd hr (by decide) (by rfl) tk (fa_cons (fv 0) fa_nil)))
    (fs_cons (fs_if (ft_not (ft_val (f_callD dArePlaces gd hr (by decide) (by rfl) tk (fa_cons (fv 0) (fa_cons (fv 1) fa_nil)))))
    (fs_one (fs_raiseX rfl tk M.x_NoPlaces (by rfl))) fs_nil)
    (fs_one (fs_ret (f_callD dPutIn gd hr (by decide) (by rfl) tk (fa_cons (fv 0) (fa_cons (fv 1) fa_nil)))))))
/-! ### _law_cell_at -/
abbrev sLCellAt : Stmt := topS 27
abbrev nLCellAt : List Str := ["_law_script", "_law_k"]
theorem scLCellAt : FnScope nLCellAt ["_law_script", "_law_k"] (defScope sLCellAt) := ⟨rfl, rfl, rfl, by decide +kernel, rfl, by decide +kernel, by decide +kernel⟩
-- slots: 0:_law_script 1:_law_k
noncomputable def gLCellAt : Sm :=
    (sSeq (sIf (fB (fOp oLt (fVar 1) (fApp aLen (aCons (fVar 0) aNil))))
    (sRet (fOp oIx (fVar 0) (fVar 1))) sNil)
    (sRet (fK (.d (.int 0)))))
noncomputable def FLCellAt : Fn := fnF false 2 2 gLCellAt
theorem d_LCellAt {P : Program} {w : World} {K : PySem.W.Frag} {mg : Str → Option Value} {base : Heap} (M : Mx K mg) (D : DefAt K mg "_law_cell_at" sLCellAt ["_law_script", "_law_k"])  : DefOk P w K mg base "_law_cell_at" ["_law_script", "_law_k"] 1 FLCellAt := by
  refine def_ok D scLCellAt (fun f cdv A outer s H E gd hr tk hp => ?_)
  exact (fs_cons (fs_if (ft_lt (fv 1) (f_len (by rfl) M.len (fa_cons (fv 0) fa_nil)))
    (fs_one (fs_ret (f_idx (fv 0) (fv 1)))) fs_nil)
    (fs_one (fs_ret f_int)))
/-! ### _law_digit -/
abbrev sLDigit : Stmt := topS 28
abbrev nLDigit : List Str := ["_law_state", "_law_base", "_law_cell", "_law_found", "_law_number"]
theorem scLDigit : FnScope nLDigit ["_law_state", "_law_base"] (defScope sLDigit) := ⟨rfl, rfl, rfl, by decide +kernel, rfl, by decide +kernel, by decide +kernel⟩
-- slots: 0:_law_state 1:_law_base 2:_law_cell 3:_law_found 4:_law_number
noncomputable def gLDigit : Sm :=
    (sSeq (sIf (fB (fOp oEq (fApp aLen (aCons (fVar 0) aNil)) (fK (.d (.int 1)))))
    (sSeq (sSet 2 (fOp oIx (fVar 0) (fK (.d (.int 0)))))
      (sSeq (sPut (fVar 0) (fK (.d (.int 0))) (fOp oIx (fApp (mkL false) (aCons (fK (.d (.int 0))) (aCons (fVar 2) aNil))) (fApp aInt (aCons (fOp oGe (fVar 2) (fOp oPow (fK (.d (.int 10))) (fK (.d (.int 18))))) aNil))))
      (sExpr (fMt (fun x S => isCl x S = true) mExt (fVar 0) (aCons (fApp (mkL false) (aCons (fOp oMod (fVar 2) (fK (.d (.int 2147483647)))) (aCons (fK (.d (.int 0))) aNil))) aNil))))) sNil)
    (sSeq (sIf (fB (fOp oGt (fOp oIx (fVar 0) (fK (.d (.int 0)))) (fK (.d (.int 0)))))
    (sSeq (sSet 3 (fOp oMod (fOp oIx (fVar 0) (fK (.d (.int 0)))) (fVar 1)))
      (sSeq (sPut (fVar 0) (fK (.d (.int 0))) (fOp oDiv (fOp oIx (fVar 0) (fK (.d (.int 0)))) (fVar 1)))
      (sRet (fVar 3)))) sNil)
    (sSeq (sPut (fVar 0) (fK (.d (.int 2))) (fOp oAdd (fOp oIx (fVar 0) (fK (.d (.int 2)))) (fK (.d (.int 1)))))
    (sSeq (sSet 4 (fOp oMod (fOp oMul (fOp oAdd (fOp oAdd (fOp oIx (fVar 0) (fK (.d (.int 1)))) (fOp oMul (fK (.d (.int 7919))) (fOp oIx (fVar 0) (fK (.d (.int 2)))))) (fK (.d (.int 1)))) (fK (.d (.int 48271)))) (fK (.d (.int 2147483647)))))
    (sSeq (sSet 4 (fOp oMod (fOp oMul (fVar 4) (fOp oAdd (fOp oDiv (fVar 4) (fK (.d (.int 1009)))) (fK (.d (.int 69621))))) (fK (.d (.int 2147483647)))))
    (sRet (fOp oMod (fOp oMod (fOp oMul (fVar 4) (fOp oAdd (fOp oDiv (fVar 4) (fK (.d (.int 2003)))) (fK (.d (.int 40692))))) (fK (.d (.int 2147483399)))) (fVar 1))))))))
noncomputable def FLDigit : Fn := fnF false 2 5 gLDigit
theorem d_LDigit {P : Program} {w : World} {K : PySem.W.Frag} {mg : Str → Option Value} {base : Heap} (M : Mx K mg) (D : DefAt K mg "_law_digit" sLDigit ["_law_state", "_law_base"])  : DefOk P w K mg base "_law_digit" ["_law_state", "_law_base"] 1 FLDigit := by
  refine def_ok D scLDigit (fun f cdv A outer s H E gd hr tk hp => ?_)
  have hu := hu64 hr
  exact (fs_cons (fs_if (ft_eq hu (f_len (by rfl) M.len (fa_cons (fv 0) fa_nil)) f_int)
    (fs_cons (fs_set (i := 2) scLDigit.nd rfl (.inl rfl) (f_idx (fv 0) f_int))
      (fs_cons (fs_put (f_idx (f_lst false (fa_cons f_int (fa_cons (fv 2) fa_nil))) (f_intc (by rfl) M.int (fa_cons (f_ge (fv 2) (f_pow f_int f_int)) fa_nil))) (fv 0) f_int)
      (fs_one (fs_expr (f_extend (fv 0) (fa_cons (f_lst false (fa_cons (f_mod (fv 2) f_int) (fa_cons f_int fa_nil))) fa_nil)))))) fs_nil)
    (fs_cons (fs_if (ft_gt (f_idx (fv 0) f_int) f_int)
    (fs_cons (fs_set (i := 3) scLDigit.nd rfl (.inl rfl) (f_mod (f_idx (fv 0) f_int) (fv 1)))
      (fs_cons (fs_put (f_div (f_idx (fv 0) f_int) (fv 1)) (fv 0) f_int)
      (fs_one (fs_ret (fv 3))))) fs_nil)
    (fs_cons (fs_put (f_add (f_idx (fv 0) f_int) f_int) (fv 0) f_int)
    (fs_cons (fs_set (i := 4) scLDigit.nd rfl (.inl rfl) (f_mod (f_mul (f_add (f_add (f_idx (fv 0) f_int) (f_mul f_int (f_idx (fv 0) f_int))) f_int) f_int) f_int))
    (fs_cons (fs_set (i := 4) scLDigit.nd rfl (.inl rfl) (f_mod (f_mul (fv 4) (f_add (f_div (fv 4) f_int) f_int)) f_int))
    (fs_one (fs_ret (f_mod (f_mod (f_mul (fv 4) (f_add (f_div (fv 4) f_int) f_int)) f_int) (fv 1)))))))))
/-! ### _law_of -/
abbrev sLOf : Stmt := topS 29
abbrev nLOf : List Str := ["_law_state", "_law_some"]
theorem scLOf : FnScope nLOf ["_law_state", "_law_some"] (defScope sLOf) := ⟨rfl, rfl, rfl, by decide +kernel, rfl, by decide +kernel, by decide +kernel⟩
-- slots: 0:_law_state 1:_law_some
noncomputable def gLOf : Sm :=
    (sRet (fOp oIx (fVar 1) (fApp FLDigit (aCons (fVar 0) (aCons (fApp aLen (aCons (fVar 1) aNil)) aNil)))))
noncomputable def FLOf : Fn := fnF false 2 2 gLOf
theorem d_LOf {P : Program} {w : World} {K : PySem.W.Frag} {mg : Str → Option Value} {base : Heap} (M : Mx K mg) (D : DefAt K mg "_law_of" sLOf ["_law_state", "_law_some"]) (dLDigit : DefOk P w K mg base "_law_digit" ["_law_state", "_law_base"] 1 FLDigit) : DefOk P w K mg base "_law_of" ["_law_state", "_law_some"] 2 FLOf := by
  refine def_ok D scLOf (fun f cdv A outer s H E gd hr tk hp => ?_)
  exact (fs_one (fs_ret (f_idx (fv 1) (f_callD dLDigit gd hr (by decide) (by rfl) tk (fa_cons (fv 0) (fa_cons (f_len (by rfl) M.len (fa_cons (fv 1) fa_nil)) fa_nil))))))
/-! ### _law_dealing -/
abbrev sLDealing : Stmt := topS 30
abbrev nLDealing : List Str := ["_law_state", "_law_few", "_law_most", "_law_steps", "_law_k", "_law_word", "_law_box"]
theorem scLDealing : FnScope nLDealing ["_law_state", "_law_few", "_law_most"] (defScope sLDealing) := ⟨rfl, rfl, rfl, by decide +kernel, rfl, by decide +kernel, by decide +kernel⟩
-- slots: 0:_law_state 1:_law_few 2:_law_most 3:_law_steps 4:_law_k 5:_law_word 6:_law_box
noncomputable def gLDealing : Sm :=
    (sSeq (sSet 3 (fApp (mkL true) aNil))
    (sSeq (sFor (iRange1 (aCons (fOp oAdd (fK (.d (.int 1))) (fApp FLDigit (aCons (fVar 0) (aCons (fVar 2) aNil)))) aNil)) (.n 4)
    (sSeq (sSet 5 (fOp oIx (fApp (mkL false) (aCons (fK (.d (.str "read"))) (aCons (fK (.d (.str "read"))) (aCons (fK (.d (.str "write"))) aNil)))) (fApp FLDigit (aCons (fVar 0) (aCons (fK (.d (.int 3))) aNil)))))
      (sSeq (sSet 6 (fApp FLDigit (aCons (fVar 0) (aCons (fVar 1) aNil))))
      (sSeq (sIf (fB (fOp oEq (fApp FLDigit (aCons (fVar 0) (aCons (fK (.d (.int 12))) aNil))) (fK (.d (.int 0)))))
      (sSet 6 (fApp FLDigit (aCons (fVar 0) (aCons (fOp oAdd (fOp oPow (fK (.d (.int 10))) (fK (.d (.int 8)))) (fK (.d (.int 1)))) aNil)))) sNil)
      (sIf (tAndF (fB (fOp oNotIn (fApp mkT (aCons (fVar 5) (aCons (fVar 6) aNil))) (fVar 3))) (fB (fOp oNotIn (fApp mkT (aCons (fK (.d (.str "write"))) (aCons (fVar 6) aNil))) (fVar 3))))
      (sExpr (fMt (fun x S => isCl x S = true) mApp (fVar 3) (aCons (fApp mkT (aCons (fVar 5) (aCons (fVar 6) aNil))) aNil))) sNil)))))
    (sRet (fApp aTuple (aCons (fVar 3) aNil)))))
noncomputable def FLDealing : Fn := fnF true 3 7 gLDealing
theorem d_LDealing {P : Program} {w : World} {K : PySem.W.Frag} {mg : Str → Option Value} {base : Heap} (M : Mx K mg) (D : DefAt K mg "_law_dealing" sLDealing ["_law_state", "_law_few", "_law_most"]) (dLDigit : DefOk P w K mg base "_law_digit" ["_law_state", "_law_base"] 1 FLDigit) : DefOk P w K mg base "_law_dealing" ["_law_state", "_law_few", "_law_most"] 2 FLDealing := by
  refine def_ok D scLDealing (fun f cdv A outer s H E gd hr tk hp => ?_)
  have hu5 := hu65 hr
  have hu := hu64 hr
  exact (fs_cons (fs_set (i := 3) scLDealing.nd rfl (.inl rfl) (f_lst true fa_nil))
    (fs_cons (fs_for (p := (.n 4)) hp rfl (fi_range1 (by rfl) M.range (fa_cons (f_add f_int (f_callD dLDigit gd hr (by decide) (by rfl) tk (fa_cons (fv 0) (fa_cons (fv 2) fa_nil)))) fa_nil)) (gp_n (i := 4) scLDealing.nd rfl (.inl rfl))
    (fs_cons (fs_set (i := 5) scLDealing.nd rfl (.inl rfl) (f_idx (f_lst false (fa_cons f_str (fa_cons f_str (fa_cons f_str fa_nil)))) (f_callD dLDigit gd hr (by decide) (by rfl) tk (fa_cons (fv 0) (fa_cons f_int fa_nil)))))
      (fs_cons (fs_set (i := 6) scLDealing.nd rfl (.inl rfl) (f_callD dLDigit gd hr (by decide) (by rfl) tk (fa_cons (fv 0) (fa_cons (fv 1) fa_nil))))
      (fs_cons (fs_if (ft_eq hu (f_callD dLDigit gd hr (by decide) (by rfl) tk (fa_cons (fv 0) (fa_cons f_int fa_nil))) f_int)
      (fs_one (fs_set (i := 6) scLDealing.nd rfl (.inl rfl) (f_callD dLDigit gd hr (by decide) (by rfl) tk (fa_cons (fv 0) (fa_cons (f_add (f_pow f_int f_int) f_int) fa_nil))))) fs_nil)
      (fs_one (fs_if (ft_pw (fw_and (ft_notIn hu5 (f_tup (fa_cons (fv 5) (fa_cons (fv 6) fa_nil))) (fv 3)) (fw_and1 (ft_notIn hu5 (f_tup (fa_cons f_str (fa_cons (fv 6) fa_nil))) (fv 3)))))
      (fs_one (fs_expr (f_append (fv 3) (fa_cons (f_tup (fa_cons (fv 5) (fa_cons (fv 6) fa_nil))) fa_nil)))) fs_nil))))))
    (fs_one (fs_ret (f_tuple (by rfl) M.tuple (fa_cons (fv 3) fa_nil))))))
/-! ### _law_places -/
abbrev sLPlaces : Stmt := topS 31
abbrev nLPlaces : List Str := ["_law_some", "_law_found", "_law_number", "_law_dealing_here", "_law_k", "_law_step"]
theorem scLPlaces : FnScope nLPlaces ["_law_some"] (defScope sLPlaces) := ⟨rfl, rfl, rfl, by decide +kernel, rfl, by decide +kernel, by decide +kernel⟩
-- slots: 0:_law_some 1:_law_found 2:_law_number 3:_law_dealing_here 4:_law_k 5:_law_step
noncomputable def gLPlaces : Sm :=
    (sSeq (sSet 1 (fApp (mkL true) aNil))
    (sSeq (sFor (iEnumL (aCons (fVar 0) aNil)) (.t [.n 2, .n 3])
    (sFor (iEnumT (aCons (fVar 3) aNil)) (.t [.n 4, .n 5])
      (sIf (tAndF (fB (fOp oEq (fOp oIx (fVar 5) (fK (.d (.int 0)))) (fK (.d (.str "read"))))) (fB (fOp oNotIn (fApp mkT (aCons (fK (.d (.str "write"))) (aCons (fOp oIx (fVar 5) (fK (.d (.int 1)))) aNil))) (fVar 3))))
        (sExpr (fMt (fun x S => isCl x S = true) mApp (fVar 1) (aCons (fApp mkT (aCons (fVar 2) (aCons (fVar 4) aNil))) aNil))) sNil)))
    (sRet (fVar 1))))
noncomputable def FLPlaces : Fn := fnF true 1 6 gLPlaces
theorem d_LPlaces {P : Program} {w : World} {K : PySem.W.Frag} {mg : Str → Option Value} {base : Heap} (M : Mx K mg) (D : DefAt K mg "_law_places" sLPlaces ["_law_some"])  : DefOk P w K mg base "_law_places" ["_law_some"] 1 FLPlaces := by
  refine def_ok D scLPlaces (fun f cdv A outer s H E gd hr tk hp => ?_)
  have hu5 := hu65 hr
  have hu := hu64 hr
  exact (fs_cons (fs_set (i := 1) scLPlaces.nd rfl (.inl rfl) (f_lst true fa_nil))
    (fs_cons (fs_for (p := (.t [.n 2, .n 3])) hp rfl (fi_enumL (by rfl) M.enumerate (fa_cons (fv 0) fa_nil)) (gp_t rfl (gps_cons (gp_n (i := 2) scLPlaces.nd rfl (.inl rfl)) (gps_cons (gp_n (i := 3) scLPlaces.nd rfl (.inl rfl)) gps_nil)))
    (fs_one (fs_for (p := (.t [.n 4, .n 5])) hp rfl (fi_enumT (by rfl) M.enumerate (fa_cons (fv 3) fa_nil)) (gp_t rfl (gps_cons (gp_n (i := 4) scLPlaces.nd rfl (.inl rfl)) (gps_cons (gp_n (i := 5) scLPlaces.nd rfl (.inl rfl)) gps_nil)))
      (fs_one (fs_if (ft_pw (fw_and (ft_eq hu (f_idx (fv 5) f_int) f_str) (fw_and1 (ft_notIn hu5 (f_tup (fa_cons f_str (fa_cons (f_idx (fv 5) f_int) fa_nil))) (fv 3)))))
        (fs_one (fs_expr (f_append (fv 1) (fa_cons (f_tup (fa_cons (fv 2) (fa_cons (fv 4) fa_nil))) fa_nil)))) fs_nil)))))
    (fs_one (fs_ret (fv 1)))))
/-! ### _law_drawn -/
abbrev sLDrawn : Stmt := topS 32
abbrev nLDrawn : List Str := ["_law_state", "_law_wide", "_law_left", "_law_found", "_law_pair"]
theorem scLDrawn : FnScope nLDrawn ["_law_state", "_law_wide"] (defScope sLDrawn) := ⟨rfl, rfl, rfl, by decide +kernel, rfl, by decide +kernel, by decide +kernel⟩
-- slots: 0:_law_state 1:_law_wide 2:_law_left 3:_law_found 4:_law_pair
noncomputable def gLDrawn : Sm :=
    (sSeq (sSet 2 (fLc true (iList (fVar 1)) (.n 4) (fB (fOp oGt (fApp FLDigit (aCons (fVar 0) (aCons (fK (.d (.int 3))) aNil))) (fK (.d (.int 0))))) (fVar 4) [4]))
    (sSeq (sIf (fB (fOp oEq (fApp FLDigit (aCons (fVar 0) (aCons (fK (.d (.int 4))) aNil))) (fK (.d (.int 0)))))
    (sSet 2 (fApp (aList true) (aCons (fVar 1) aNil))) sNil)
    (sSeq (sSet 3 (fApp (mkL true) aNil))
    (sSeq (fun ρ S => whL (fB (fOp oNe (fVar 2) (fApp (mkL false) aNil)))
    (sExpr (fMt (fun x S => isCl x S = true) mApp (fVar 3) (aCons (fMt (fun x S => isCl x S = true) mPop1 (fVar 2) (aCons (fApp FLDigit (aCons (fVar 0) (aCons (fApp aLen (aCons (fVar 2) aNil)) aNil))) aNil)) aNil))) 200 ρ S)
    (sRet (fVar 3))))))
noncomputable def FLDrawn : Fn := fnF true 2 5 gLDrawn
theorem d_LDrawn {P : Program} {w : World} {K : PySem.W.Frag} {mg : Str → Option Value} {base : Heap} (M : Mx K mg) (D : DefAt K mg "_law_drawn" sLDrawn ["_law_state", "_law_wide"]) (dLDigit : DefOk P w K mg base "_law_digit" ["_law_state", "_law_base"] 1 FLDigit) : DefOk P w K mg base "_law_drawn" ["_law_state", "_law_wide"] 2 FLDrawn := by
  refine def_ok D scLDrawn (fun f cdv A outer s H E gd hr tk hp => ?_)
  have hu := hu64 hr
  exact (fs_cons (fs_setLc true (i := 2) (own := [("_law_pair", 4)]) (p := (.n 4)) rfl scLDrawn.nd rfl rfl (sw_true rfl rfl rfl (by decide +kernel)) (fi_list (fv 1)) (blkOk_by (own := [("_law_pair", 4)]) (N := nLDrawn) (sc := defScope sLDrawn) (by decide +kernel)) (fun _ _ _ _ _ => (gp_n (i := 4) scLDrawn.nd rfl (.inl rfl))) (fun _ _ _ _ _ => (fts_one (ft_gt (f_callD dLDigit gd hr (by decide) (by rfl) take_n (fa_cons (fv 0) (fa_cons f_int fa_nil))) f_int))) (fun _ _ _ _ _ => (fv 4)))
    (fs_cons (fs_if (ft_eq hu (f_callD dLDigit gd hr (by decide) (by rfl) tk (fa_cons (fv 0) (fa_cons f_int fa_nil))) f_int)
    (fs_one (fs_set (i := 2) scLDrawn.nd rfl (.inl rfl) (f_list true (by rfl) M.list (fa_cons (fv 1) fa_nil)))) fs_nil)
    (fs_cons (fs_set (i := 3) scLDrawn.nd rfl (.inl rfl) (f_lst true fa_nil))
    (fs_cons (fs_while 200 hp (ft_ne hu (fv 2) (f_lst false fa_nil))
    (fs_one (fs_expr (f_append (fv 3) (fa_cons (f_popAt (fv 2) (fa_cons (f_callD dLDigit gd hr (by decide) (by rfl) tk (fa_cons (fv 0) (fa_cons (f_len (by rfl) M.len (fa_cons (fv 2) fa_nil)) fa_nil))) fa_nil)) fa_nil)))))
    (fs_one (fs_ret (fv 3)))))))
/-! ### _law_odd -/
abbrev sLOdd : Stmt := topS 33
abbrev nLOdd : List Str := ["_law_state", "_law_some", "_law_number", "_law_k", "_law_odd_here"]
theorem scLOdd : FnScope nLOdd ["_law_state", "_law_some"] (defScope sLOdd) := ⟨rfl, rfl, rfl, by decide +kernel, rfl, by decide +kernel, by decide +kernel⟩
-- slots: 0:_law_state 1:_law_some 2:_law_number 3:_law_k 4:_law_odd_here
noncomputable def gLOdd : Sm :=
    (sSeq (sSet 2 (fApp FLDigit (aCons (fVar 0) (aCons (fApp aLen (aCons (fVar 1) aNil)) aNil))))
    (sSeq (sSet 3 (fApp FLDigit (aCons (fVar 0) (aCons (fApp aLen (aCons (fOp oIx (fVar 1) (fVar 2)) aNil)) aNil))))
    (sSeq (sSet 4 (fApp (mkL false) (aCons (fApp mkT (aCons (fVar 2) (aCons (fVar 3) aNil))) (aCons (fApp mkT (aCons (fVar 2) (aCons (fApp aLen (aCons (fOp oIx (fVar 1) (fVar 2)) aNil)) aNil))) (aCons (fApp mkT (aCons (fApp aLen (aCons (fVar 1) aNil)) (aCons (fK (.d (.int 0))) aNil))) (aCons (fApp mkT (aCons (fVar 2) (aCons (fUn uNeg (fK (.d (.int 1)))) aNil))) (aCons (fApp mkT (aCons (fUn uNeg (fK (.d (.int 1)))) (aCons (fK (.d (.int 0))) aNil))) (aCons (fApp mkT (aCons (fK (.d (.bl true))) (aCons (fVar 3) aNil))) (aCons (fApp mkT (aCons (fVar 2) (aCons (fK (.d (.bl false))) aNil))) aNil)))))))))
    (sSeq (sSet 4 (fOp (oCatL false) (fVar 4) (fApp (mkL false) (aCons (fApp (mkL false) (aCons (fVar 2) (aCons (fVar 3) aNil))) (aCons (fApp mkT (aCons (fVar 2) aNil)) (aCons (fApp mkT (aCons (fVar 2) (aCons (fVar 3) (aCons (fK (.d (.int 0))) aNil)))) (aCons (fK (.d .non)) (aCons (fVar 2) (aCons (fK (.d (.str "0"))) (aCons (fApp mkT (aCons (fApp aStrI (aCons (fVar 2) aNil)) (aCons (fVar 3) aNil))) (aCons (fApp mkT (aCons (fOp oPow (fK (.d (.int 10))) (fK (.d (.int 40)))) (aCons (fVar 3) aNil))) (aCons (fApp mkT aNil) aNil))))))))))))
    (sRet (fApp FLOf (aCons (fVar 0) (aCons (fVar 4) aNil))))))))
noncomputable def FLOdd : Fn := fnF false 2 5 gLOdd
theorem d_LOdd {P : Program} {w : World} {K : PySem.W.Frag} {mg : Str → Option Value} {base : Heap} (M : Mx K mg) (D : DefAt K mg "_law_odd" sLOdd ["_law_state", "_law_some"]) (dLDigit : DefOk P w K mg base "_law_digit" ["_law_state", "_law_base"] 1 FLDigit) (dLOf : DefOk P w K mg base "_law_of" ["_law_state", "_law_some"] 2 FLOf) : DefOk P w K mg base "_law_odd" ["_law_state", "_law_some"] 3 FLOdd := by
  refine def_ok D scLOdd (fun f cdv A outer s H E gd hr tk hp => ?_)
  exact (fs_cons (fs_set (i := 2) scLOdd.nd rfl (.inl rfl) (f_callD dLDigit gd hr (by decide) (by rfl) tk (fa_cons (fv 0) (fa_cons (f_len (by rfl) M.len (fa_cons (fv 1) fa_nil)) fa_nil))))
    (fs_cons (fs_set (i := 3) scLOdd.nd rfl (.inl rfl) (f_callD dLDigit gd hr (by decide) (by rfl) tk (fa_cons (fv 0) (fa_cons (f_len (by rfl) M.len (fa_cons (f_idx (fv 1) (fv 2)) fa_nil)) fa_nil))))
    (fs_cons (fs_set (i := 4) scLOdd.nd rfl (.inl rfl) (f_lst false (fa_cons (f_tup (fa_cons (fv 2) (fa_cons (fv 3) fa_nil))) (fa_cons (f_tup (fa_cons (fv 2) (fa_cons (f_len (by rfl) M.len (fa_cons (f_idx (fv 1) (fv 2)) fa_nil)) fa_nil))) (fa_cons (f_tup (fa_cons (f_len (by rfl) M.len (fa_cons (fv 1) fa_nil)) (fa_cons f_int fa_nil))) (fa_cons (f_tup (fa_cons (fv 2) (fa_cons (f_neg f_int) fa_nil))) (fa_cons (f_tup (fa_cons (f_neg f_int) (fa_cons f_int fa_nil))) (fa_cons (f_tup (fa_cons f_bl (fa_cons (fv 3) fa_nil))) (fa_cons (f_tup (fa_cons (fv 2) (fa_cons f_bl fa_nil))) fa_nil)))))))))
    (fs_cons (fs_set (i := 4) scLOdd.nd rfl (.inl rfl) (f_catL false (fv 4) (f_lst false (fa_cons (f_lst false (fa_cons (fv 2) (fa_cons (fv 3) fa_nil))) (fa_cons (f_tup (fa_cons (fv 2) fa_nil)) (fa_cons (f_tup (fa_cons (fv 2) (fa_cons (fv 3) (fa_cons f_int fa_nil)))) (fa_cons f_non (fa_cons (fv 2) (fa_cons f_str (fa_cons (f_tup (fa_cons (f_strI (by rfl) M.str (fa_cons (fv 2) fa_nil)) (fa_cons (fv 3) fa_nil))) (fa_cons (f_tup (fa_cons (f_pow f_int f_int) (fa_cons (fv 3) fa_nil))) (fa_cons (f_tup fa_nil) fa_nil))))))))))))
    (fs_one (fs_ret (f_callD dLOf gd hr (by decide) (by rfl) tk (fa_cons (fv 0) (fa_cons (fv 4) fa_nil)))))))))
/-! ### _law_spoilt -/
abbrev sLSpoilt : Stmt := topS 34
abbrev nLSpoilt : List Str := ["_law_state", "_law_some", "_law_pairs", "_law_way", "_law_place"]
theorem scLSpoilt : FnScope nLSpoilt ["_law_state", "_law_some", "_law_pairs"] (defScope sLSpoilt) := ⟨rfl, rfl, rfl, by decide +kernel, rfl, by decide +kernel, by decide +kernel⟩
-- slots: 0:_law_state 1:_law_some 2:_law_pairs 3:_law_way 4:_law_place
noncomputable def gLSpoilt : Sm :=
    (sSeq (sSet 3 (fApp FLDigit (aCons (fVar 0) (aCons (fK (.d (.int 8))) aNil))))
    (sSeq (sSet 4 (fApp FLDigit (aCons (fVar 0) (aCons (fOp oAdd (fApp aLen (aCons (fVar 2) aNil)) (fK (.d (.int 1)))) aNil))))
    (sSeq (sIf (fB (fOp oEq (fVar 3) (fK (.d (.int 0)))))
    (sRet (fApp FLOf (aCons (fVar 0) (aCons (fApp (mkL false) (aCons (fApp aTuple (aCons (fVar 2) aNil)) (aCons (fK (.d .non)) (aCons fDct (aCons (fK (.d (.int 5))) (aCons (fK (.d (.str "places"))) aNil)))))) aNil)))) sNil)
    (sSeq (sIf (fB (fOp oEq (fVar 3) (fK (.d (.int 1)))))
    (sRet (fOp (oCatL false) (fVar 2) (fSl (oSlL false) (fVar 2) pNo (pSo (fK (.d (.int 1))))))) sNil)
    (sRet (fOp (oCatL false) (fOp (oCatL false) (fSl (oSlL false) (fVar 2) pNo (pSo (fVar 4))) (fApp (mkL false) (aCons (fApp FLOdd (aCons (fVar 0) (aCons (fVar 1) aNil))) aNil))) (fSl (oSlL false) (fVar 2) (pSo (fVar 4)) pNo)))))))
noncomputable def FLSpoilt : Fn := fnF false 3 5 gLSpoilt
theorem d_LSpoilt {P : Program} {w : World} {K : PySem.W.Frag} {mg : Str → Option Value} {base : Heap} (M : Mx K mg) (D : DefAt K mg "_law_spoilt" sLSpoilt ["_law_state", "_law_some", "_law_pairs"]) (dLDigit : DefOk P w K mg base "_law_digit" ["_law_state", "_law_base"] 1 FLDigit) (dLOf : DefOk P w K mg base "_law_of" ["_law_state", "_law_some"] 2 FLOf) (dLOdd : DefOk P w K mg base "_law_odd" ["_law_state", "_law_some"] 3 FLOdd) : DefOk P w K mg base "_law_spoilt" ["_law_state", "_law_some", "_law_pairs"] 4 FLSpoilt := by
  refine def_ok D scLSpoilt (fun f cdv A outer s H E gd hr tk hp => ?_)
  have hu := hu64 hr
  exact (fs_cons (fs_set (i := 3) scLSpoilt.nd rfl (.inl rfl) (f_callD dLDigit gd hr (by decide) (by rfl) tk (fa_cons (fv 0) (fa_cons f_int fa_nil))))
    (fs_cons (fs_set (i := 4) scLSpoilt.nd rfl (.inl rfl) (f_callD dLDigit gd hr (by decide) (by rfl) tk (fa_cons (fv 0) (fa_cons (f_add (f_len (by rfl) M.len (fa_cons (fv 2) fa_nil)) f_int) fa_nil))))
    (fs_cons (fs_if (ft_eq hu (fv 3) f_int)
    (fs_one (fs_ret (f_callD dLOf gd hr (by decide) (by rfl) tk (fa_cons (fv 0) (fa_cons (f_lst false (fa_cons (f_tuple (by rfl) M.tuple (fa_cons (fv 2) fa_nil)) (fa_cons f_non (fa_cons f_dct (fa_cons f_int (fa_cons f_str fa_nil)))))) fa_nil))))) fs_nil)
    (fs_cons (fs_if (ft_eq hu (fv 3) f_int)
    (fs_one (fs_ret (f_catL false (fv 2) (f_slL false (fv 2) fo_no (fo_so f_int))))) fs_nil)
    (fs_one (fs_ret (f_catL false (f_catL false (f_slL false (fv 2) fo_no (fo_so (fv 4))) (f_lst false (fa_cons (f_callD dLOdd gd hr (by decide) (by rfl) tk (fa_cons (fv 0) (fa_cons (fv 1) fa_nil))) fa_nil))) (f_slL false (fv 2) (fo_so (fv 4)) fo_no))))))))
/-! ### _law_is_pair -/
abbrev sLIsPair : Stmt := topS 35
abbrev nLIsPair : List Str := ["_law_thing", "_law_wide", "_law_part"]
theorem scLIsPair : FnScope nLIsPair ["_law_thing", "_law_wide"] (defScope sLIsPair) := ⟨rfl, rfl, rfl, by decide +kernel, rfl, by decide +kernel, by decide +kernel⟩
-- slots: 0:_law_thing 1:_law_wide 2:_law_part
noncomputable def gLIsPair : Sm :=
    (sSeq (sIf (tOrF (tNotF (fB (fApp aIsi (aCons (fVar 0) (aCons (fK (.g (.ty "tuple"))) aNil))))) (fB (fOp oNe (fApp aLen (aCons (fVar 0) aNil)) (fK (.d (.int 2))))))
    (sRet (fK (.d (.bl false)))) sNil)
    (sSeq (sIf (fB (fOp oNe (fLc false (iTupF (fVar 0)) (.n 2) (tOrF (tNotF (fB (fApp aIsi (aCons (fVar 2) (aCons (fK (.g (.ty "int"))) aNil))))) (fB (fApp aIsi (aCons (fVar 2) (aCons (fK (.g (.ty "bool"))) aNil))))) (fVar 2) [2]) (fApp (mkL false) aNil)))
    (sRet (fK (.d (.bl false)))) sNil)
    (sRet (fOp oIn (fVar 0) (fVar 1)))))
noncomputable def FLIsPair : Fn := fnF false 2 3 gLIsPair
theorem d_LIsPair {P : Program} {w : World} {K : PySem.W.Frag} {mg : Str → Option Value} {base : Heap} (M : Mx K mg) (D : DefAt K mg "_law_is_pair" sLIsPair ["_law_thing", "_law_wide"])  : DefOk P w K mg base "_law_is_pair" ["_law_thing", "_law_wide"] 1 FLIsPair := by
  refine def_ok D scLIsPair (fun f cdv A outer s H E gd hr tk hp => ?_)
  have hu5 := hu65 hr
  have hu := hu64 hr
  exact (fs_cons (fs_if (ft_pw (fw_or (ft_not (ft_val (f_isi (by rfl) M.isinstance (fa_cons (fv 0) (fa_cons (f_ty (n := "tuple") (by rfl) M.tuple (by decide +kernel)) fa_nil))))) (fw_or1 (ft_ne hu (f_len (by rfl) M.len (fa_cons (fv 0) fa_nil)) f_int))))
    (fs_one (fs_ret f_bl)) fs_nil)
    (fs_cons (fs_if (ft_ne hu (f_lc false (own := [("_law_part", 2)]) (p := (.n 2)) rfl scLIsPair.nd (fi_tup (fv 0)) (blkOk_by (own := [("_law_part", 2)]) (N := nLIsPair) (sc := defScope sLIsPair) (by decide +kernel)) (fun _ _ _ _ _ => (gp_n (i := 2) scLIsPair.nd rfl (.inl rfl))) (fun _ _ _ _ _ => (fts_one (ft_pw (fw_or (ft_not (ft_val (f_isi (by rfl) M.isinstance (fa_cons (fv 2) (fa_cons (f_ty (n := "int") (by rfl) M.int (by decide +kernel)) fa_nil))))) (fw_or1 (ft_val (f_isi (by rfl) M.isinstance (fa_cons (fv 2) (fa_cons (f_ty (n := "bool") (by rfl) M.bool (by decide +kernel)) fa_nil))))))))) (fun _ _ _ _ _ => (fv 2))) (f_lst false fa_nil))
    (fs_one (fs_ret f_bl)) fs_nil)
    (fs_one (fs_ret (f_in hu5 (fv 0) (fv 1))))))
/-! ### _law_due -/
abbrev sLDue : Stmt := topS 36
abbrev nLDue : List Str := ["_law_some", "_law_pairs", "_law_wide", "_law_found", "_law_number", "_law_dealing_here", "_law_steps", "_law_k", "_law_step", "_law_pair"]
theorem scLDue : FnScope nLDue ["_law_some", "_law_pairs", "_law_wide"] (defScope sLDue) := ⟨rfl, rfl, rfl, by decide +kernel, rfl, by decide +kernel, by decide +kernel⟩
-- slots: 0:_law_some 1:_law_pairs 2:_law_wide 3:_law_found 4:_law_number 5:_law_dealing_here 6:_law_steps 7:_law_k 8:_law_step 9:_law_pair
noncomputable def gLDue : Sm :=
    (sSeq (sIf (tOrF (tNotF (fB (fApp aIsi (aCons (fVar 1) (aCons (fK (.g (.ty "list"))) aNil))))) (fB (fOp oNe (fLc false (iList (fVar 1)) (.n 9) (tNotF (fB (fApp FLIsPair (aCons (fVar 9) (aCons (fVar 2) aNil))))) (fVar 9) [9]) (fApp (mkL false) aNil))))
    (sRet (fApp mkT (aCons (fK (.d (.str "places"))) aNil))) sNil)
    (sSeq (sIf (fB (fOp oNe (fLc false (iList (fVar 1)) (.n 9) (fB (fOp oGt (fMt (fun x S => isCl x S = true) mCount (fVar 1) (aCons (fVar 9) aNil)) (fK (.d (.int 1))))) (fVar 9) [9]) (fApp (mkL false) aNil)))
    (sRet (fApp mkT (aCons (fK (.d (.str "places"))) aNil))) sNil)
    (sSeq (sSet 3 (fApp (mkL true) aNil))
    (sSeq (sFor (iEnumL (aCons (fVar 0) aNil)) (.t [.n 4, .n 5])
    (sSeq (sSet 6 (fApp (mkL true) aNil))
      (sSeq (sFor (iEnumT (aCons (fVar 5) aNil)) (.t [.n 7, .n 8])
      (sSeq (sExpr (fMt (fun x S => isCl x S = true) mApp (fVar 6) (aCons (fVar 8) aNil)))
        (sIf (fB (fOp oIn (fApp mkT (aCons (fVar 4) (aCons (fVar 7) aNil))) (fVar 1)))
        (sExpr (fMt (fun x S => isCl x S = true) mApp (fVar 6) (aCons (fApp mkT (aCons (fK (.d (.str "write"))) (aCons (fOp oIx (fVar 8) (fK (.d (.int 1)))) aNil))) aNil))) sNil)))
      (sExpr (fMt (fun x S => isCl x S = true) mApp (fVar 3) (aCons (fApp aTuple (aCons (fVar 6) aNil)) aNil))))))
    (sSeq (sIf (fB (fOp oNe (fLc false (iList (fVar 3)) (.n 6) (fB (fOp oGt (fApp aLen (aCons (fVar 6) aNil)) (fK (.d (.int 8))))) (fVar 6) [6]) (fApp (mkL false) aNil)))
    (sRet (fApp mkT (aCons (fK (.d (.str "room"))) aNil))) sNil)
    (sRet (fApp mkT (aCons (fK (.d (.str "told"))) (aCons (fVar 3) aNil)))))))))
noncomputable def FLDue : Fn := fnF true 3 10 gLDue
theorem d_LDue {P : Program} {w : World} {K : PySem.W.Frag} {mg : Str → Option Value} {base : Heap} (M : Mx K mg) (D : DefAt K mg "_law_due" sLDue ["_law_some", "_law_pairs", "_law_wide"]) (dLIsPair : DefOk P w K mg base "_law_is_pair" ["_law_thing", "_law_wide"] 1 FLIsPair) : DefOk P w K mg base "_law_due" ["_law_some", "_law_pairs", "_law_wide"] 2 FLDue := by
  refine def_ok D scLDue (fun f cdv A outer s H E gd hr tk hp => ?_)
  have hu5 := hu65 hr
  have hu := hu64 hr
  exact (fs_cons (fs_if (ft_pw (fw_or (ft_not (ft_val (f_isi (by rfl) M.isinstance (fa_cons (fv 1) (fa_cons (f_ty (n := "list") (by rfl) M.list (by decide +kernel)) fa_nil))))) (fw_or1 (ft_ne hu (f_lc false (own := [("_law_pair", 9)]) (p := (.n 9)) rfl scLDue.nd (fi_list (fv 1)) (blkOk_by (own := [("_law_pair", 9)]) (N := nLDue) (sc := defScope sLDue) (by decide +kernel)) (fun _ _ _ _ _ => (gp_n (i := 9) scLDue.nd rfl (.inl rfl))) (fun _ _ _ _ _ => (fts_one (ft_not (ft_val (f_callD dLIsPair gd hr (by decide) (by rfl) take_n (fa_cons (fv 9) (fa_cons (fv 2) fa_nil))))))) (fun _ _ _ _ _ => (fv 9))) (f_lst false fa_nil)))))
    (fs_one (fs_ret (f_tup (fa_cons f_str fa_nil)))) fs_nil)
    (fs_cons (fs_if (ft_ne hu (f_lc false (own := [("_law_pair", 9)]) (p := (.n 9)) rfl scLDue.nd (fi_list (fv 1)) (blkOk_by (own := [("_law_pair", 9)]) (N := nLDue) (sc := defScope sLDue) (by decide +kernel)) (fun _ _ _ _ _ => (gp_n (i := 9) scLDue.nd rfl (.inl rfl))) (fun _ _ _ _ _ => (fts_one (ft_gt (f_count hu5 (fv 1) (fa_cons (fv 9) fa_nil)) f_int))) (fun _ _ _ _ _ => (fv 9))) (f_lst false fa_nil))
    (fs_one (fs_ret (f_tup (fa_cons f_str fa_nil)))) fs_nil)
    (fs_cons (fs_set (i := 3) scLDue.nd rfl (.inl rfl) (f_lst true fa_nil))
    (fs_cons (fs_for (p := (.t [.n 4, .n 5])) hp rfl (fi_enumL (by rfl) M.enumerate (fa_cons (fv 0) fa_nil)) (gp_t rfl (gps_cons (gp_n (i := 4) scLDue.nd rfl (.inl rfl)) (gps_cons (gp_n (i := 5) scLDue.nd rfl (.inl rfl)) gps_nil)))
    (fs_cons (fs_set (i := 6) scLDue.nd rfl (.inl rfl) (f_lst true fa_nil))
      (fs_cons (fs_for (p := (.t [.n 7, .n 8])) hp rfl (fi_enumT (by rfl) M.enumerate (fa_cons (fv 5) fa_nil)) (gp_t rfl (gps_cons (gp_n (i := 7) scLDue.nd rfl (.inl rfl)) (gps_cons (gp_n (i := 8) scLDue.nd rfl (.inl rfl)) gps_nil)))
      (fs_cons (fs_expr (f_append (fv 6) (fa_cons (fv 8) fa_nil)))
        (fs_one (fs_if (ft_in hu5 (f_tup (fa_cons (fv 4) (fa_cons (fv 7) fa_nil))) (fv 1))
        (fs_one (fs_expr (f_append (fv 6) (fa_cons (f_tup (fa_cons f_str (fa_cons (f_idx (fv 8) f_int) fa_nil))) fa_nil)))) fs_nil))))
      (fs_one (fs_expr (f_append (fv 3) (fa_cons (f_tuple (by rfl) M.tuple (fa_cons (fv 6) fa_nil)) fa_nil)))))))
    (fs_cons (fs_if (ft_ne hu (f_lc false (own := [("_law_steps", 6)]) (p := (.n 6)) rfl scLDue.nd (fi_list (fv 3)) (blkOk_by (own := [("_law_steps", 6)]) (N := nLDue) (sc := defScope sLDue) (by decide +kernel)) (fun _ _ _ _ _ => (gp_n (i := 6) scLDue.nd rfl (.inl rfl))) (fun _ _ _ _ _ => (fts_one (ft_gt (f_len (by rfl) M.len (fa_cons (fv 6) fa_nil)) f_int))) (fun _ _ _ _ _ => (fv 6))) (f_lst false fa_nil))
    (fs_one (fs_ret (f_tup (fa_cons f_str fa_nil)))) fs_nil)
    (fs_one (fs_ret (f_tup (fa_cons f_str (fa_cons (fv 3) fa_nil))))))))))
/-! ### _law_told -/
abbrev sLTold : Stmt := topS 37
abbrev nLTold : List Str := ["_law_some", "_law_pairs", "e"]
theorem scLTold : FnScope nLTold ["_law_some", "_law_pairs"] (defScope sLTold) := ⟨rfl, rfl, rfl, by decide +kernel, rfl, by decide +kernel, by decide +kernel⟩
-- slots: 0:_law_some 1:_law_pairs 2:e
noncomputable def gLTold : Sm :=
    (sTry ["NoDealings", "NoPlaces", "NoRoom"] (sRet (fApp mkT (aCons (fK (.d (.str "told"))) (aCons (fApp FWidened (aCons (fVar 0) (aCons (fVar 1) aNil))) aNil)))) [(isXNoDealings, (some 2), fun e a => (sRet (fSl oSlT (fApp mkT (aCons (fK (.d (.str "dealings"))) aNil)) pNo (pSo (fApp aInt (aCons (fAnd (fIsE 2 a (isXAloneError e.cls)) (fNot (fIsE 2 a (isXNoPlaces e.cls || (isXNoRoom e.cls || (isXTooMany e.cls || false)))))) aNil)))))), (isXNoPlaces, (some 2), fun e a => (sRet (fSl oSlT (fApp mkT (aCons (fK (.d (.str "places"))) aNil)) pNo (pSo (fApp aInt (aCons (fAnd (fIsE 2 a (isXAloneError e.cls)) (fNot (fIsE 2 a (isXNoDealings e.cls || (isXNoRoom e.cls || (isXTooMany e.cls || false)))))) aNil)))))), (isXNoRoom, (some 2), fun e a => (sRet (fSl oSlT (fApp mkT (aCons (fK (.d (.str "room"))) aNil)) pNo (pSo (fApp aInt (aCons (fAnd (fIsE 2 a (isXAloneError e.cls)) (fNot (fIsE 2 a (isXNoDealings e.cls || (isXNoPlaces e.cls || (isXTooMany e.cls || false)))))) aNil))))))])
noncomputable def FLTold : Fn := fnF false 2 3 gLTold
theorem d_LTold {P : Program} {w : World} {K : PySem.W.Frag} {mg : Str → Option Value} {base : Heap} (M : Mx K mg) (D : DefAt K mg "_law_told" sLTold ["_law_some", "_law_pairs"]) (dWidened : DefOk P w K mg base "widened" ["dealings", "places"] 8 FWidened) : DefOk P w K mg base "_law_told" ["_law_some", "_law_pairs"] 9 FLTold := by
  refine def_ok D scLTold (fun f cdv A outer s H E gd hr tk hp => ?_)
  exact (fs_one (fs_tryE (cl := ["NoDealings", "NoPlaces", "NoRoom"]) rfl rfl scLTold.nd tk (fun E' pn xe tk hp => (fs_one (fs_ret (f_tup (fa_cons f_str (fa_cons (f_callD dWidened gd hr (by decide) (by rfl) tk (fa_cons (fv 0) (fa_cons (fv 1) fa_nil))) fa_nil))))))
    (clsE_cons (q := isXNoDealings) (o := (some 2)) (h := fun e a => (sRet (fSl oSlT (fApp mkT (aCons (fK (.d (.str "dealings"))) aNil)) pNo (pSo (fApp aInt (aCons (fAnd (fIsE 2 a (isXAloneError e.cls)) (fNot (fIsE 2 a (isXNoPlaces e.cls || (isXNoRoom e.cls || (isXTooMany e.cls || false)))))) aNil)))))) M.x_NoDealings (by rfl) (by decide) ⟨rfl, rfl⟩ M.i_NoDealings (fun e a ρ S => by cases hi : decide (2 < ρ.length) <;> simp_all [As.setX, wipeX_st, wipeX_nx, wipeX_rt, offX, List.getElem?_set, fIsE, mkT]) (fun a oe pn e C hz hf gC hk => (fs_one (fs_ret (f_slT (f_tup (fa_cons f_str fa_nil)) fo_no (fo_so (f_intc (by rfl) M.int (fa_cons (f_and (f_isEX (cl := ["NoDealings", "NoPlaces", "NoRoom"]) hk gC M.x_all M.i_AloneError M.x_AloneError hz hf (by rfl) M.isinstance (fv 2) (by rfl) (by decide)) (f_one (f_not (f_isER (cl := ["NoDealings", "NoPlaces", "NoRoom"]) hk gC M.x_all hz hf (.cons M.x_NoPlaces M.i_NoPlaces (by rfl) (by decide) (by rfl) (.cons M.x_NoRoom M.i_NoRoom (by rfl) (by decide) (by rfl) (.cons M.x_TooMany M.i_TooMany (by rfl) (by decide) (by rfl) .nil))) (by decide) (by rfl) M.isinstance (fv 2))))) fa_nil)))))))
    (clsE_cons (q := isXNoPlaces) (o := (some 2)) (h := fun e a => (sRet (fSl oSlT (fApp mkT (aCons (fK (.d (.str "places"))) aNil)) pNo (pSo (fApp aInt (aCons (fAnd (fIsE 2 a (isXAloneError e.cls)) (fNot (fIsE 2 a (isXNoDealings e.cls || (isXNoRoom e.cls || (isXTooMany e.cls || false)))))) aNil)))))) M.x_NoPlaces (by rfl) (by decide) ⟨rfl, rfl⟩ M.i_NoPlaces (fun e a ρ S => by cases hi : decide (2 < ρ.length) <;> simp_all [As.setX, wipeX_st, wipeX_nx, wipeX_rt, offX, List.getElem?_set, fIsE, mkT]) (fun a oe pn e C hz hf gC hk => (fs_one (fs_ret (f_slT (f_tup (fa_cons f_str fa_nil)) fo_no (fo_so (f_intc (by rfl) M.int (fa_cons (f_and (f_isEX (cl := ["NoDealings", "NoPlaces", "NoRoom"]) hk gC M.x_all M.i_AloneError M.x_AloneError hz hf (by rfl) M.isinstance (fv 2) (by rfl) (by decide)) (f_one (f_not (f_isER (cl := ["NoDealings", "NoPlaces", "NoRoom"]) hk gC M.x_all hz hf (.cons M.x_NoDealings M.i_NoDealings (by rfl) (by decide) (by rfl) (.cons M.x_NoRoom M.i_NoRoom (by rfl) (by decide) (by rfl) (.cons M.x_TooMany M.i_TooMany (by rfl) (by decide) (by rfl) .nil))) (by decide) (by rfl) M.isinstance (fv 2))))) fa_nil)))))))
    (clsE_cons (q := isXNoRoom) (o := (some 2)) (h := fun e a => (sRet (fSl oSlT (fApp mkT (aCons (fK (.d (.str "room"))) aNil)) pNo (pSo (fApp aInt (aCons (fAnd (fIsE 2 a (isXAloneError e.cls)) (fNot (fIsE 2 a (isXNoDealings e.cls || (isXNoPlaces e.cls || (isXTooMany e.cls || false)))))) aNil)))))) M.x_NoRoom (by rfl) (by decide) ⟨rfl, rfl⟩ M.i_NoRoom (fun e a ρ S => by cases hi : decide (2 < ρ.length) <;> simp_all [As.setX, wipeX_st, wipeX_nx, wipeX_rt, offX, List.getElem?_set, fIsE, mkT]) (fun a oe pn e C hz hf gC hk => (fs_one (fs_ret (f_slT (f_tup (fa_cons f_str fa_nil)) fo_no (fo_so (f_intc (by rfl) M.int (fa_cons (f_and (f_isEX (cl := ["NoDealings", "NoPlaces", "NoRoom"]) hk gC M.x_all M.i_AloneError M.x_AloneError hz hf (by rfl) M.isinstance (fv 2) (by rfl) (by decide)) (f_one (f_not (f_isER (cl := ["NoDealings", "NoPlaces", "NoRoom"]) hk gC M.x_all hz hf (.cons M.x_NoDealings M.i_NoDealings (by rfl) (by decide) (by rfl) (.cons M.x_NoPlaces M.i_NoPlaces (by rfl) (by decide) (by rfl) (.cons M.x_TooMany M.i_TooMany (by rfl) (by decide) (by rfl) .nil))) (by decide) (by rfl) M.isinstance (fv 2))))) fa_nil)))))))
    clsE_nil)))))
/-! ### _law_refused -/
abbrev sLRefused : Stmt := topS 38
abbrev nLRefused : List Str := ["_law_some", "e"]
theorem scLRefused : FnScope nLRefused ["_law_some"] (defScope sLRefused) := ⟨rfl, rfl, rfl, by decide +kernel, rfl, by decide +kernel, by decide +kernel⟩
-- slots: 0:_law_some 1:e
noncomputable def gLRefused : Sm :=
    (sSeq (sTry ["NoDealings", "NoPlaces", "NoRoom"] (sExpr (fApp FWidePlaces (aCons (fVar 0) aNil))) [(isXNoDealings, (some 1), fun e a => (sRet (fAnd (fIsE 1 a true) (fNot (fIsE 1 a (isXNoPlaces e.cls || (isXNoRoom e.cls || (isXTooMany e.cls || false))))))))])
    (sRet (fK (.d (.bl false)))))
noncomputable def FLRefused : Fn := fnF false 1 2 gLRefused
theorem d_LRefused {P : Program} {w : World} {K : PySem.W.Frag} {mg : Str → Option Value} {base : Heap} (M : Mx K mg) (D : DefAt K mg "_law_refused" sLRefused ["_law_some"]) (dWidePlaces : DefOk P w K mg base "wide_places" ["dealings"] 8 FWidePlaces) : DefOk P w K mg base "_law_refused" ["_law_some"] 9 FLRefused := by
  refine def_ok D scLRefused (fun f cdv A outer s H E gd hr tk hp => ?_)
  exact (fs_cons (fs_tryE (cl := ["NoDealings", "NoPlaces", "NoRoom"]) rfl rfl scLRefused.nd tk (fun E' pn xe tk hp => (fs_one (fs_expr (f_callD dWidePlaces gd hr (by decide) (by rfl) tk (fa_cons (fv 0) fa_nil)))))
    (clsE_cons (q := isXNoDealings) (o := (some 1)) (h := fun e a => (sRet (fAnd (fIsE 1 a true) (fNot (fIsE 1 a (isXNoPlaces e.cls || (isXNoRoom e.cls || (isXTooMany e.cls || false)))))))) M.x_NoDealings (by rfl) (by decide) ⟨rfl, rfl⟩ M.i_NoDealings (fun e a ρ S => by cases hi : decide (1 < ρ.length) <;> simp_all [As.setX, wipeX_st, wipeX_nx, wipeX_rt, offX, List.getElem?_set, fIsE, mkT]) (fun a oe pn e C hz hf gC hk => (fs_one (fs_ret (f_and (f_isEB (cl := ["NoDealings", "NoPlaces", "NoRoom"]) hk gC M.x_all M.b_ValueError hz hf (by rfl) M.isinstance (fv 1) (by rfl) M.ValueError (by decide +kernel)) (f_one (f_not (f_isER (cl := ["NoDealings", "NoPlaces", "NoRoom"]) hk gC M.x_all hz hf (.cons M.x_NoPlaces M.i_NoPlaces (by rfl) (by decide) (by rfl) (.cons M.x_NoRoom M.i_NoRoom (by rfl) (by decide) (by rfl) (.cons M.x_TooMany M.i_TooMany (by rfl) (by decide) (by rfl) .nil))) (by decide) (by rfl) M.isinstance (fv 1))))))))
    clsE_nil))
    (fs_one (fs_ret f_bl)))
/-! ### _law_right -/
abbrev sLRight : Stmt := topS 39
abbrev nLRight : List Str := ["_law_some", "_law_pairs", "_law_wide", "_law_kept", "_law_due_here", "_law_turn", "_law_found", "_law_told_here"]
theorem scLRight : FnScope nLRight ["_law_some", "_law_pairs"] (defScope sLRight) := ⟨rfl, rfl, rfl, by decide +kernel, rfl, by decide +kernel, by decide +kernel⟩
-- slots: 0:_law_some 1:_law_pairs 2:_law_wide 3:_law_kept 4:_law_due_here 5:_law_turn 6:_law_found 7:_law_told_here
noncomputable def gLRight : Sm :=
    (sSeq (sSet 2 (fApp FLPlaces (aCons (fVar 0) aNil)))
    (sSeq (sSet 3 (fApp mkT (aCons (fApp aRepr (aCons (fVar 0) aNil)) (aCons (fApp aRepr (aCons (fVar 1) aNil)) aNil))))
    (sSeq (sSet 4 (fApp FLDue (aCons (fVar 0) (aCons (fVar 1) (aCons (fVar 2) aNil)))))
    (sSeq (sFor (iRange1 (aCons (fK (.d (.int 2))) aNil)) (.n 5)
    (sSeq (sSet 6 (fApp FWidePlaces (aCons (fVar 0) aNil)))
      (sSeq (sIf (tOrF (tNotF (fB (fApp aIsi (aCons (fVar 6) (aCons (fK (.g (.ty "list"))) aNil))))) (tOrF (fB (fOp oNe (fVar 6) (fVar 2))) (fB (fOp oNe (fApp aRepr (aCons (fVar 6) aNil)) (fApp aRepr (aCons (fVar 2) aNil))))))
      (sRet (fK (.d (.bl false)))) sNil)
      (sSeq (sExpr (fMt (fun x S => isCl x S = true) mApp (fVar 6) (aCons (fApp mkT (aCons (fK (.d (.int 0))) (aCons (fK (.d (.int 0))) aNil))) aNil)))
      (sSeq (sSet 7 (fApp FLTold (aCons (fVar 0) (aCons (fVar 1) aNil))))
      (sSeq (sIf (tOrF (fB (fOp oNe (fVar 7) (fVar 4))) (fB (fOp oNe (fApp aRepr (aCons (fVar 7) aNil)) (fApp aRepr (aCons (fVar 4) aNil)))))
      (sRet (fK (.d (.bl false)))) sNil)
      (sIf (fB (fOp oEq (fOp oIx (fVar 7) (fK (.d (.int 0)))) (fK (.d (.str "told")))))
      (sExpr (fMt (fun x S => isCl x S = true) mClear (fOp oIx (fVar 7) (fK (.d (.int 1)))) aNil)) sNil)))))))
    (sRet (fOp oEq (fApp mkT (aCons (fApp aRepr (aCons (fVar 0) aNil)) (aCons (fApp aRepr (aCons (fVar 1) aNil)) aNil))) (fVar 3)))))))
noncomputable def FLRight : Fn := fnF false 2 8 gLRight
theorem d_LRight {P : Program} {w : World} {K : PySem.W.Frag} {mg : Str → Option Value} {base : Heap} (M : Mx K mg) (D : DefAt K mg "_law_right" sLRight ["_law_some", "_law_pairs"]) (dLPlaces : DefOk P w K mg base "_law_places" ["_law_some"] 1 FLPlaces) (dLDue : DefOk P w K mg base "_law_due" ["_law_some", "_law_pairs", "_law_wide"] 2 FLDue) (dWidePlaces : DefOk P w K mg base "wide_places" ["dealings"] 8 FWidePlaces) (dLTold : DefOk P w K mg base "_law_told" ["_law_some", "_law_pairs"] 9 FLTold) : DefOk P w K mg base "_law_right" ["_law_some", "_law_pairs"] 10 FLRight := by
  refine def_ok D scLRight (fun f cdv A outer s H E gd hr tk hp => ?_)
  have hu := hu64 hr
  exact (fs_cons (fs_set (i := 2) scLRight.nd rfl (.inl rfl) (f_callD dLPlaces gd hr (by decide) (by rfl) tk (fa_cons (fv 0) fa_nil)))
    (fs_cons (fs_set (i := 3) scLRight.nd rfl (.inl rfl) (f_tup (fa_cons (f_repr gd hu (by rfl) M.repr (fa_cons (fv 0) fa_nil)) (fa_cons (f_repr gd hu (by rfl) M.repr (fa_cons (fv 1) fa_nil)) fa_nil))))
    (fs_cons (fs_set (i := 4) scLRight.nd rfl (.inl rfl) (f_callD dLDue gd hr (by decide) (by rfl) tk (fa_cons (fv 0) (fa_cons (fv 1) (fa_cons (fv 2) fa_nil)))))
    (fs_cons (fs_for (p := (.n 5)) hp rfl (fi_range1 (by rfl) M.range (fa_cons f_int fa_nil)) (gp_n (i := 5) scLRight.nd rfl (.inl rfl))
    (fs_cons (fs_set (i := 6) scLRight.nd rfl (.inl rfl) (f_callD dWidePlaces gd hr (by decide) (by rfl) tk (fa_cons (fv 0) fa_nil)))
      (fs_cons (fs_if (ft_pw (fw_or (ft_not (ft_val (f_isi (by rfl) M.isinstance (fa_cons (fv 6) (fa_cons (f_ty (n := "list") (by rfl) M.list (by decide +kernel)) fa_nil))))) (fw_or (ft_ne hu (fv 6) (fv 2)) (fw_or1 (ft_ne hu (f_repr gd hu (by rfl) M.repr (fa_cons (fv 6) fa_nil)) (f_repr gd hu (by rfl) M.repr (fa_cons (fv 2) fa_nil)))))))
      (fs_one (fs_ret f_bl)) fs_nil)
      (fs_cons (fs_expr (f_append (fv 6) (fa_cons (f_tup (fa_cons f_int (fa_cons f_int fa_nil))) fa_nil)))
      (fs_cons (fs_set (i := 7) scLRight.nd rfl (.inl rfl) (f_callD dLTold gd hr (by decide) (by rfl) tk (fa_cons (fv 0) (fa_cons (fv 1) fa_nil))))
      (fs_cons (fs_if (ft_pw (fw_or (ft_ne hu (fv 7) (fv 4)) (fw_or1 (ft_ne hu (f_repr gd hu (by rfl) M.repr (fa_cons (fv 7) fa_nil)) (f_repr gd hu (by rfl) M.repr (fa_cons (fv 4) fa_nil))))))
      (fs_one (fs_ret f_bl)) fs_nil)
      (fs_one (fs_if (ft_eq hu (f_idx (fv 7) f_int) f_str)
      (fs_one (fs_expr (f_clear (f_idx (fv 7) f_int)))) fs_nil))))))))
    (fs_one (fs_ret (f_eq hu (f_tup (fa_cons (f_repr gd hu (by rfl) M.repr (fa_cons (fv 0) fa_nil)) (fa_cons (f_repr gd hu (by rfl) M.repr (fa_cons (fv 1) fa_nil)) fa_nil))) (fv 3))))))))
/-! ### law -/
abbrev sLaw : Stmt := topS 40
abbrev nLaw : List Str := ["_law_script", "_law_cell", "_law_some", "_law_pairs", "_law_bad", "_law_state", "_law_few", "_law_most", "_law_k"]
theorem scLaw : FnScope nLaw ["_law_script"] (defScope sLaw) := ⟨rfl, rfl, rfl, by decide +kernel, rfl, by decide +kernel, by decide +kernel⟩
-- slots: 0:_law_script 1:_law_cell 2:_law_some 3:_law_pairs 4:_law_bad 5:_law_state 6:_law_few 7:_law_most 8:_law_k
noncomputable def gLaw : Sm :=
    (sSeq (sFor (iList (fOp (oCatL false) (fApp (mkL false) (aCons (fApp FLCellAt (aCons (fVar 0) (aCons (fK (.d (.int 0))) aNil))) aNil)) (fSl (oSlL false) (fVar 0) (pSo (fK (.d (.int 1)))) (pSo (fK (.d (.int 8))))))) (.n 1)
    (sGc (sSeq (sSet 5 (fApp (mkL true) (aCons (fVar 1) aNil)))
      (sSeq (sSet 6 (fOp oAdd (fK (.d (.int 1))) (fApp FLDigit (aCons (fVar 5) (aCons (fK (.d (.int 6))) aNil)))))
      (sSeq (sSet 7 (fOp oIx (fApp (mkL false) (aCons (fK (.d (.int 8))) (aCons (fK (.d (.int 3))) aNil))) (fApp FLDigit (aCons (fVar 5) (aCons (fK (.d (.int 2))) aNil)))))
      (sSeq (sSet 2 (fLc false (iRange1 (aCons (fOp oAdd (fK (.d (.int 1))) (fApp FLDigit (aCons (fVar 5) (aCons (fK (.d (.int 6))) aNil)))) aNil)) (.n 8) tYesF (fApp FLDealing (aCons (fVar 5) (aCons (fVar 6) (aCons (fVar 7) aNil)))) [8]))
      (sSeq (sSet 3 (fApp FLDrawn (aCons (fVar 5) (aCons (fApp FLPlaces (aCons (fVar 2) aNil)) aNil))))
      (sSeq (sIf (fB (fOp oEq (fApp FLDigit (aCons (fVar 5) (aCons (fK (.d (.int 2))) aNil))) (fK (.d (.int 0)))))
      (sSet 3 (fApp FLSpoilt (aCons (fVar 5) (aCons (fVar 2) (aCons (fVar 3) aNil))))) sNil)
      (sSeq (sIf (tNotF (fB (fApp FLRight (aCons (fVar 2) (aCons (fVar 3) aNil)))))
      (sRet (fK (.d (.bl false)))) sNil)
      (sIf (fB (fOp oEq (fApp FLDigit (aCons (fVar 5) (aCons (fK (.d (.int 8))) aNil))) (fK (.d (.int 0)))))
      (sSeq (sSet 4 (fApp FLOf (aCons (fVar 5) (aCons (fApp (mkL false) (aCons (fApp (mkL false) aNil) (aCons (fApp aTuple (aCons (fVar 2) aNil)) (aCons (fOp (oCatL false) (fVar 2) (fApp (mkL false) (aCons (fApp mkT aNil) aNil))) (aCons (fOp (oRepL false) (fApp (mkL false) (aCons (fOp oIx (fVar 2) (fK (.d (.int 0)))) aNil)) (fK (.d (.int 101)))) (aCons (fK (.d .non)) (aCons (fApp (mkL false) (aCons (fApp (aList false) (aCons (fOp oIx (fVar 2) (fK (.d (.int 0)))) aNil)) aNil)) aNil))))))) aNil))))
        (sIf (tOrF (tNotF (fB (fApp FLRefused (aCons (fVar 4) aNil)))) (fB (fOp oNe (fApp FLTold (aCons (fVar 4) (aCons (fVar 3) aNil))) (fApp mkT (aCons (fK (.d (.str "dealings"))) aNil)))))
        (sRet (fK (.d (.bl false)))) sNil)) sNil))))))))))
    (sRet (fK (.d (.bl true)))))
noncomputable def FLaw : Fn := fnF true 1 9 gLaw
theorem d_Law {P : Program} {w : World} {K : PySem.W.Frag} {mg : Str → Option Value} {base : Heap} {f : Addr} {fd : FuncData} (M : Mx K mg) (D : Fun K "law" "law" sLaw f fd) (dLCellAt : DefOk P w K mg base "_law_cell_at" ["_law_script", "_law_k"] 1 FLCellAt) (dLDigit : DefOk P w K mg base "_law_digit" ["_law_state", "_law_base"] 1 FLDigit) (dLDealing : DefOk P w K mg base "_law_dealing" ["_law_state", "_law_few", "_law_most"] 2 FLDealing) (dLDrawn : DefOk P w K mg base "_law_drawn" ["_law_state", "_law_wide"] 2 FLDrawn) (dLPlaces : DefOk P w K mg base "_law_places" ["_law_some"] 1 FLPlaces) (dLSpoilt : DefOk P w K mg base "_law_spoilt" ["_law_state", "_law_some", "_law_pairs"] 4 FLSpoilt) (dLRight : DefOk P w K mg base "_law_right" ["_law_some", "_law_pairs"] 10 FLRight) (dLOf : DefOk P w K mg base "_law_of" ["_law_state", "_law_some"] 2 FLOf) (dLTold : DefOk P w K mg base "_law_told" ["_law_some", "_law_pairs"] 9 FLTold) (dLRefused : DefOk P w K mg base "_law_refused" ["_law_some"] 9 FLRefused) : FnG P w K mg base (L2.CX P w) 11 f fd ["_law_script"] (spF K mg FLaw) := by
  refine fn_ok D scLaw (fun cdv A outer s H E gd hr tk hp => ?_)
  have hu := hu64 hr
  exact (fs_cons (fs_for (p := (.n 1)) hp rfl (fi_list (f_catL false (f_lst false (fa_cons (f_callD dLCellAt gd hr (by decide) (by rfl) tk (fa_cons (fv 0) (fa_cons f_int fa_nil))) fa_nil)) (f_slL false (fv 0) (fo_so f_int) (fo_so f_int)))) (gp_n (i := 1) scLaw.nd rfl (.inl rfl))
    (fss_gc (fs_cons (fs_set (i := 5) scLaw.nd rfl (.inr rfl) (f_lst true (fa_cons (fv 1) fa_nil)))
      (fs_cons (fs_set (i := 6) scLaw.nd rfl (.inr rfl) (f_add f_int (f_callD dLDigit gd hr (by decide) (by rfl) tk (fa_cons (fv 5) (fa_cons f_int fa_nil)))))
      (fs_cons (fs_set (i := 7) scLaw.nd rfl (.inr rfl) (f_idx (f_lst false (fa_cons f_int (fa_cons f_int fa_nil))) (f_callD dLDigit gd hr (by decide) (by rfl) tk (fa_cons (fv 5) (fa_cons f_int fa_nil)))))
      (fs_cons (fs_setLc false (i := 2) (own := [("_law_k", 8)]) (p := (.n 8)) rfl scLaw.nd rfl rfl (sw_true rfl rfl rfl (by decide +kernel)) (fi_range1 (by rfl) M.range (fa_cons (f_add f_int (f_callD dLDigit gd hr (by decide) (by rfl) tk (fa_cons (fv 5) (fa_cons f_int fa_nil)))) fa_nil)) (blkOk_by (own := [("_law_k", 8)]) (N := nLaw) (sc := defScope sLaw) (by decide +kernel)) (fun _ _ _ _ _ => (gp_n (i := 8) scLaw.nd rfl (.inl rfl))) (fun _ _ _ _ _ => fts_nil) (fun _ _ _ _ _ => (f_callD dLDealing gd hr (by decide) (by rfl) take_n (fa_cons (fv 5) (fa_cons (fv 6) (fa_cons (fv 7) fa_nil))))))
      (fs_cons (fs_set (i := 3) scLaw.nd rfl (.inl rfl) (f_callD dLDrawn gd hr (by decide) (by rfl) tk (fa_cons (fv 5) (fa_cons (f_callD dLPlaces gd hr (by decide) (by rfl) tk (fa_cons (fv 2) fa_nil)) fa_nil))))
      (fs_cons (fs_if (ft_eq hu (f_callD dLDigit gd hr (by decide) (by rfl) tk (fa_cons (fv 5) (fa_cons f_int fa_nil))) f_int)
      (fs_one (fs_set (i := 3) scLaw.nd rfl (.inl rfl) (f_callD dLSpoilt gd hr (by decide) (by rfl) tk (fa_cons (fv 5) (fa_cons (fv 2) (fa_cons (fv 3) fa_nil)))))) fs_nil)
      (fs_cons (fs_if (ft_not (ft_val (f_callD dLRight gd hr (by decide) (by rfl) tk (fa_cons (fv 2) (fa_cons (fv 3) fa_nil)))))
      (fs_one (fs_ret f_bl)) fs_nil)
      (fs_one (fs_if (ft_eq hu (f_callD dLDigit gd hr (by decide) (by rfl) tk (fa_cons (fv 5) (fa_cons f_int fa_nil))) f_int)
      (fs_cons (fs_set (i := 4) scLaw.nd rfl (.inl rfl) (f_callD dLOf gd hr (by decide) (by rfl) tk (fa_cons (fv 5) (fa_cons (f_lst false (fa_cons (f_lst false fa_nil) (fa_cons (f_tuple (by rfl) M.tuple (fa_cons (fv 2) fa_nil)) (fa_cons (f_catL false (fv 2) (f_lst false (fa_cons (f_tup fa_nil) fa_nil))) (fa_cons (f_repL false (f_lst false (fa_cons (f_idx (fv 2) f_int) fa_nil)) f_int) (fa_cons f_non (fa_cons (f_lst false (fa_cons (f_list false (by rfl) M.list (fa_cons (f_idx (fv 2) f_int) fa_nil)) fa_nil)) fa_nil))))))) fa_nil))))
        (fs_one (fs_if (ft_pw (fw_or (ft_not (ft_val (f_callD dLRefused gd hr (by decide) (by rfl) tk (fa_cons (fv 4) fa_nil)))) (fw_or1 (ft_ne hu (f_callD dLTold gd hr (by decide) (by rfl) tk (fa_cons (fv 4) (fa_cons (fv 3) fa_nil))) (f_tup (fa_cons f_str fa_nil))))))
        (fs_one (fs_ret f_bl)) fs_nil))) fs_nil)))))))))))
    (fs_one (fs_ret f_bl)))
end As

/-! dealings: what the checks tell -/
namespace As
open PySem PySem.Spec PyProof.Rows L2
def wholeD (d : D) : Bool := isInt d && !isBool d
theorem e_whole (d : D) (S : Store) : FIsWhole [.d d] S = .ok (.d (.bl (wholeD d))) S := by
  simp [FIsWhole, fnF_ap, gIsWhole, wholeD]
  cases isInt d <;> simp
theorem wholeD_eq {d : D} (h : wholeD d = true) : ∃ i, d = .int i := by
  cases d with
  | int i => exact ⟨i, rfl⟩
  | _ => simp [wholeD, isInt, isBool] at h
@[simp] theorem wholeD_int (i : Int) : wholeD (.int i) = true := rfl
def numB (d : D) (m : Int) : Bool := match d with
  | .int i => decide (0 ≤ i) && decide (i < m)
  | _ => false
theorem e_number (d : D) (m : Int) (S : Store) : FIsNumber [.d d, .d (.int m)] S = .ok (.d (.bl (numB d m))) S := by
  simp [FIsNumber, fnF_ap, gIsNumber, e_whole]
  cases d with
  | int i => 
    simp [wholeD, isInt, isBool, numB]
    cases decide (0 ≤ i) <;> simp
  | _ => simp [wholeD, isInt, isBool, numB]
theorem numB_eq {d : D} {m : Int} (h : numB d m = true) : ∃ i, d = .int i ∧ 0 ≤ i ∧ i < m := by
  cases d with
  | int i => simp [numB] at h; exact ⟨i, rfl, h⟩
  | _ => cases h
theorem e_box (d : D) (S : Store) : FIsBox [.d d] S = .ok (.d (.bl (numB d 100000001))) S := by
  simp [FIsBox, fnF_ap, gIsBox, e_number]
theorem e_oneL (d : D) (zs : List Str) (hz : ∀ z ∈ zs, PyData.strOk z = true) (S : Store) : FIsOneOf [.d d, .d (.tup (zs.map .str))] S = .ok (.d (.bl (zs.any fun z => eqS d z))) S := by
  simp [FIsOneOf, fnF_ap, gIsOneOf]
  cases d with
  | str z =>
    have e : ∀ l : List Str, strsD (l.map .str) = some l := by
      intro l
      induction l with
      | nil => rfl
      | cons a l ih => rw [List.map_cons, strsD, ih]; rfl
    simp [isStr]
    rw [kInS_s false z _ (zs := zs) S (e zs)]
    simp [eqS, eq_comm]
  | _ => simp [isStr, eqS]
theorem e_one2 (d : D) (a b : Str) (ha : PyData.strOk a = true) (hb : PyData.strOk b = true) (S : Store) : FIsOneOf [.d d, .d (.tup [.str a, .str b])] S = .ok (.d (.bl (eqS d a || eqS d b))) S := by
  have := e_oneL d [a, b] (by simp [ha, hb]) S
  simpa using this
theorem e_one3 (d : D) (a b c : Str) (ha : PyData.strOk a = true) (hb : PyData.strOk b = true) (hc : PyData.strOk c = true) (S : Store) : FIsOneOf [.d d, .d (.tup [.str a, .str b, .str c])] S = .ok (.d (.bl (eqS d a || (eqS d b || eqS d c)))) S := by
  have := e_oneL d [a, b, c] (by simp [ha, hb, hc]) S
  simpa using this
def bxB (d : D) : Bool := numB d 100000001
def stepB (d : D) : Bool := match d with
  | .tup [w, x] => (eqS w "read" || eqS w "write") && bxB x
  | _ => false
theorem e_step (d : D) (S : Store) : FIsStep [.d d] S = .ok (.d (.bl (stepB d))) S := by
  simp [FIsStep, fnF_ap, gIsStep]
  cases d with
  | tup ds =>
    match ds with
    | [] => simp [stepB, isTup]
    | [a] => simp [stepB, isTup]
    | [w, x] =>
      simp [stepB, isTup, e_one2 _ _ _ st_read st_write, bxB]
      cases eqS w "read" <;> cases eqS w "write" <;> simp [e_box]
    | _ :: _ :: _ :: ds =>
      have h : ¬ ((ds.length : Int) + 1 + 1 + 1 = 2) := by omega
      simp [stepB, isTup, h]
  | _ => simp [isTup, stepB]
/-- the box of a step -/
def bxOf (d : D) : D := match d with
  | .tup [_, s] => s
  | _ => .non
def rdS (s : D) : D := .tup [.str "read", s]
def wrS (s : D) : D := .tup [.str "write", s]
theorem stepB_eq {d : D} (h : stepB d = true) : ∃ i : Int, 0 ≤ i ∧ i < 100000001 ∧ (d = rdS (.int i) ∨ d = wrS (.int i)) := by
  unfold stepB at h
  split at h
  · rename_i w s
    rw [Bool.and_eq_true, Bool.or_eq_true] at h
    obtain ⟨i, rfl, h1, h2⟩ := numB_eq h.2
    rcases h.1 with h0 | h0
    · cases eqS_eq h0
      exact ⟨i, h1, h2, .inl rfl⟩
    · cases eqS_eq h0
      exact ⟨i, h1, h2, .inr rfl⟩
  · cases h
theorem rdS_ok {s : D} (h : bxB s = true) : stepB (rdS s) = true := by simp [rdS, stepB, h, eqS]
theorem wrS_ok {s : D} (h : bxB s = true) : stepB (wrS s) = true := by simp [wrS, stepB, h, eqS]
theorem okK_wi {w : Str} (hw : PyData.strOk w = true) (i : Int) : okK 1 (.tup [.str w, .int i]) = true := by
  refine okK_tup (n := 0) fun d hd => ?_
  simp only [List.mem_cons, List.not_mem_nil, or_false] at hd
  rcases hd with rfl | rfl
  · exact okK_str 0 hw
  · exact okK_int 0 i
theorem okK_rd (i : Int) : okK 1 (rdS (.int i)) = true := okK_wi st_read i
theorem okK_wr (i : Int) : okK 1 (wrS (.int i)) = true := okK_wi st_write i
theorem stepB_ok {d : D} (h : stepB d = true) : okK 1 d = true := by
  obtain ⟨i, _, _, rfl | rfl⟩ := stepB_eq h
  · exact okK_rd i
  · exact okK_wr i
theorem eqB_wi (w w' : Str) (i j : Int) : eqB (.tup [.str w, .int i]) (.tup [.str w', .int j]) = (decide (w = w') && decide (i = j)) := by
  unfold eqB
  rw [pd, pd, pds, pds, pds, pds, pds, pds, pd, pd, pd, pd]
  by_cases h : w = w' <;> by_cases h2 : i = j <;> simp [PyData.eqv, PyData.eqvAll, h, h2]
theorem eqB_step {a b : D} (ha : stepB a = true) (hb : stepB b = true) : eqB a b = true ↔ a = b := by
  obtain ⟨i, _, _, ha⟩ := stepB_eq ha
  obtain ⟨j, _, _, hb⟩ := stepB_eq hb
  rcases ha with rfl | rfl <;> rcases hb with rfl | rfl <;> simp [rdS, wrS, eqB_wi]
theorem inB_step {a : D} {ds : List D} (ha : stepB a = true) (h : ∀ d ∈ ds, stepB d = true) : inB a ds = true ↔ a ∈ ds := by
  unfold inB
  rw [List.any_eq_true]
  constructor
  · rintro ⟨z, hz, e⟩
    rwa [← (eqB_step (h z hz) ha).mp e]
  · intro hz
    exact ⟨a, hz, (eqB_step ha ha).mpr rfl⟩
theorem bxOf_ok {s : D} (h : stepB s = true) : stepB (wrS (bxOf s)) = true := by
  obtain ⟨i, h1, h2, rfl | rfl⟩ := stepB_eq h <;> exact wrS_ok (by simp [rdS, wrS, bxOf, bxB, numB, h1, h2])
def folB (s : D) (ahead : List D) : Bool := !inB s ahead && !inB (wrS (bxOf s)) ahead
def ordB (ds : List D) : Bool := (ds.zipIdx).all fun p => folB p.1 (ds.take p.2)
theorem stepsOk {ds : List D} (h : ∀ d ∈ ds, stepB d = true) : okK 2 (.tup ds) = true := okK_tup (n := 1) fun d hd => stepB_ok (h d hd)
theorem stepsOkL {ds : List D} (h : ∀ d ∈ ds, stepB d = true) : okK 2 (.lst ds) = true := okK_lst (n := 1) fun d hd => stepB_ok (h d hd)
theorem in_steps {n : Bool} {a : D} {ds : List D} (ha : stepB a = true) (h : ∀ d ∈ ds, stepB d = true) (S : Store) : kIn n a (.tup ds) S = .ok (.d (.bl (if n then !inB a ds else inB a ds))) S := by
  obtain ⟨i, _, _, rfl | rfl⟩ := stepB_eq ha <;> exact kInO_ok (okK_D (stepB_ok ha) (by decide)) (okK_D (stepsOk h) (by decide))
theorem in_stepsL {n : Bool} {a : D} {ds : List D} (ha : stepB a = true) (h : ∀ d ∈ ds, stepB d = true) (S : Store) : kIn n a (.lst ds) S = .ok (.d (.bl (if n then !inB a ds else inB a ds))) S := by
  obtain ⟨i, _, _, rfl | rfl⟩ := stepB_eq ha <;> exact kInO_ok (okK_D (stepB_ok ha) (by decide)) (okK_D (stepsOkL h) (by decide))
theorem mkT_wr {s : D} (S : Store) : mkT [.d (.str "write"), .d s] S = .ok (.d (wrS s)) S := mkT2 _ _ S
theorem e_may {s : D} {ahead : List D} (hs : stepB s = true) (ha : ∀ d ∈ ahead, stepB d = true) (S : Store) : FMayFollow [.d s, .d (.tup ahead)] S = .ok (.d (.bl (folB s ahead))) S := by
  have e1 := in_steps (n := true) hs ha S
  have e2 := in_steps (n := true) (bxOf_ok hs) ha S
  have e3 : oIx (.d s) (.d (.int 1)) S = .ok (.d (bxOf s)) S := by
    obtain ⟨i, _, _, rfl | rfl⟩ := stepB_eq hs <;> simp [rdS, wrS, bxOf]
  have e2' : kIn true (.tup [.str "write", bxOf s]) (.tup ahead) S = .ok (.d (.bl (!inB (wrS (bxOf s)) ahead))) S := e2
  simp [FMayFollow, fnF_ap, gMayFollow, -kIn_t, e1, e3, e2', folB]
  cases inB s ahead <;> simp
def dealB (d : D) : Bool := match d with
  | .tup ds => decide (1 ≤ ds.length) && decide (ds.length ≤ 8) && (ds.all stepB) && ordB ds
  | _ => false
theorem dealB_eq {d : D} (h : dealB d = true) : ∃ ds, d = .tup ds ∧ 1 ≤ ds.length ∧ ds.length ≤ 8 ∧ (∀ s ∈ ds, stepB s = true) ∧ ordB ds = true := by
  cases d with
  | tup ds =>
    simp only [dealB, Bool.and_eq_true, decide_eq_true_eq, List.all_eq_true] at h
    exact ⟨ds, rfl, h.1.1.1, h.1.1.2, h.1.2, h.2⟩
  | _ => cases h
theorem e_dealing (d : D) (S : Store) : FIsDealing [.d d] S = .ok (.d (.bl (dealB d))) S := by
  simp [FIsDealing, fnF_ap, gIsDealing, -fLc_ap]
  cases d with
  | tup ds =>
    simp [isTup, dealB, -fLc_ap]
    by_cases h1 : (1 : Int) ≤ ds.length
    · have h1' : 1 ≤ ds.length := by omega
      by_cases h : (ds.length : Int) ≤ 8
      · have h2 : ds.length ≤ 8 := by omega
        have h3 : ds.length < 100000 := by omega
        have a1 := lc_map (b := false) (fi := iTupF (fVar 0)) (i := 1) (fe := fApp FIsStep (aCons (fVar 1) aNil)) (vs := [1]) (ρ := [some (.d (.tup ds)), none, none]) (S := S) (S1 := S) (ds := ds) (g := fun _ => True) (f := fun e => .bl (stepB e)) (by simp) h3 trivial fun e _ => by simp [e_step]
        cases ha : ds.all stepB with
        | false => simp [h, h2, h1, h1', a1, aAll_map, ha, -fLc_ap]
        | true =>
          have hall : ∀ d ∈ ds, stepB d = true := List.all_eq_true.mp ha
          have a2 := lc_enum (b := false) (fi := iEnumT (aCons (fVar 0) aNil)) (i := 2) (j := 1) (fe := fApp FMayFollow (aCons (fVar 1) (aCons (fSl oSlT (fVar 0) pNo (pSo (fVar 2))) aNil))) (vs := [2, 1]) (ρ := [some (.d (.tup ds)), none, none]) (S := S) (S1 := S) (ds := ds) (g := fun _ => True) (f := fun k e => .bl (folB e (ds.take k))) (by simp) h3 trivial fun k e he => by
            have hk : k < ds.length := (List.getElem?_eq_some_iff.mp he).1
            simp [cutD_take ds k (by omega)]
            exact e_may (hall e (List.mem_of_getElem? he)) (fun d hd => hall d (List.mem_of_mem_take hd)) S
          simp [h, h2, h1, h1', a1, a2, aAll_map, ha, ordB, -fLc_ap]
      · have h2 : ¬ ds.length ≤ 8 := by omega
        simp [h, h2, h1, h1', -fLc_ap]
    · have h1' : ¬ 1 ≤ ds.length := by omega
      simp [h1, h1', -fLc_ap]
  | _ => simp [isTup, dealB]
def dealsB (d : D) : Bool := match d with
  | .lst ds => decide (1 ≤ ds.length) && decide (ds.length ≤ 100) && ds.all dealB
  | _ => false
theorem dealsB_eq {d : D} (h : dealsB d = true) : ∃ ds, d = .lst ds ∧ 1 ≤ ds.length ∧ ds.length ≤ 100 ∧ ∀ s ∈ ds, dealB s = true := by
  cases d with
  | lst ds =>
    simp only [dealsB, Bool.and_eq_true, decide_eq_true_eq, List.all_eq_true] at h
    exact ⟨ds, rfl, h.1.1, h.1.2, h.2⟩
  | _ => cases h
theorem e_deals (d : D) (S : Store) : FAreDealings [.d d] S = .ok (.d (.bl (dealsB d))) S := by
  simp [FAreDealings, fnF_ap, gAreDealings, -fLc_ap]
  cases d with
  | lst ds =>
    by_cases k1 : (1 : Int) ≤ ds.length
    · have k1' : 1 ≤ ds.length := by omega
      by_cases k2 : (ds.length : Int) ≤ 100
      · have k2' : ds.length ≤ 100 := by omega
        have a1 := lc_map (b := false) (fi := iList (fVar 0)) (i := 1) (fe := fApp FIsDealing (aCons (fVar 1) aNil)) (vs := [1]) (ρ := [some (.d (.lst ds)), none]) (S := S) (S1 := S) (ds := ds) (g := fun _ => True) (f := fun e => .bl (dealB e)) (by simp) (by omega) trivial fun e _ => by simp [e_dealing]
        simp [isLst, k1, k2, dealsB, k1', k2', a1, -fLc_ap, aAll_map]
      · have k2' : ¬ ds.length ≤ 100 := by omega
        simp [isLst, k1, k2, dealsB, k1', k2', -fLc_ap]
    · have k1' : ¬ 1 ≤ ds.length := by omega
      simp [isLst, k1, dealsB, k1', -fLc_ap]
  | _ => simp [dealsB, isLst]
theorem e_checkD (d : D) (S : Store) : FCheckDealings [.d d] S = if dealsB d = true then .ok (.d .non) S else .ex ⟨"NoDealings", none⟩ S := by
  cases h : dealsB d <;> simp [FCheckDealings, fnF_ap, gCheckDealings, e_deals, h]
theorem ordB_snoc (xs : List D) (x : D) : ordB (xs ++ [x]) = (ordB xs && folB x xs) := by
  unfold ordB
  rw [List.zipIdx_append, List.all_append]
  congr 1
  · rw [Bool.eq_iff_iff, List.all_eq_true, List.all_eq_true]
    have e : ∀ p ∈ xs.zipIdx, (xs ++ [x]).take p.2 = xs.take p.2 := fun p hp => List.take_append_of_le_length (by have := List.snd_lt_of_mem_zipIdx hp; omega)
    constructor
    · intro h p hp
      rw [← e p hp]
      exact h p hp
    · intro h p hp
      rw [e p hp]
      exact h p hp
  · simp
end As

/-! wide places -/
namespace As
open PySem PySem.Spec PyProof.Rows L2
def stepsOf (d : D) : List D := match d with
  | .tup ss => ss
  | _ => []
def isRd (d : D) : Bool := match d with
  | .tup [w, _] => eqS w "read"
  | _ => false
def plT (n k : Nat) : D := .tup [.int (n : Int), .int (k : Int)]
def wI (n : Nat) (ss : List D) (l : List (D × Nat)) : List D := (l.filter fun p => isRd p.1 && !inB (wrS (bxOf p.1)) ss).map fun p => plT n p.2
def wideIn (n : Nat) (d : D) : List D := wI n (stepsOf d) (stepsOf d).zipIdx
def plcL (l : List (D × Nat)) : List D := (l.map fun p => wideIn p.2 p.1).flatten
def plcD (ds : List D) : List D := plcL ds.zipIdx
theorem wI_snoc (n : Nat) (ss : List D) (l : List (D × Nat)) (p : D × Nat) : wI n ss (l ++ [p]) = wI n ss l ++ if (isRd p.1 && !inB (wrS (bxOf p.1)) ss) = true then [plT n p.2] else [] := by
  unfold wI
  rw [List.filter_append, List.map_append]
  congr 1
  by_cases h : (isRd p.1 && !inB (wrS (bxOf p.1)) ss) = true <;> simp [List.filter_cons, h]
theorem plcL_snoc (l : List (D × Nat)) (p : D × Nat) : plcL (l ++ [p]) = plcL l ++ wideIn p.2 p.1 := by simp [plcL]
theorem wI_len (n : Nat) (ss : List D) (l : List (D × Nat)) : (wI n ss l).length ≤ l.length := by
  unfold wI
  rw [List.length_map]
  exact List.length_filter_le _ _
theorem wideIn_len {n : Nat} {d : D} (h : dealB d = true) : (wideIn n d).length ≤ 8 := by
  obtain ⟨ss, rfl, _, h8, _, _⟩ := dealB_eq h
  have := wI_len n ss ss.zipIdx
  rw [List.length_zipIdx] at this
  show (wI n ss ss.zipIdx).length ≤ 8
  omega
theorem plcL_len {l : List (D × Nat)} (h : ∀ p ∈ l, dealB p.1 = true) : (plcL l).length ≤ 8 * l.length := by
  induction l with
  | nil => exact Nat.zero_le _
  | cons p l ih =>
    have h1 := wideIn_len (n := p.2) (h p (List.mem_cons_self ..))
    have h2 := ih fun q hq => h q (List.mem_cons_of_mem _ hq)
    have e : plcL (p :: l) = wideIn p.2 p.1 ++ plcL l := by simp [plcL]
    rw [e, List.length_append, List.length_cons]
    omega
theorem zip_deal {ds : List D} (h : ∀ d ∈ ds, dealB d = true) : ∀ p ∈ ds.zipIdx, dealB p.1 = true := fun p hp => h _ (by
  have := List.mem_zipIdx hp
  simp at this
  rw [this.2]
  exact List.getElem_mem _)
theorem plcD_len {ds : List D} (h : ∀ d ∈ ds, dealB d = true) : (plcD ds).length ≤ 8 * ds.length := by
  have := plcL_len (zip_deal h)
  rwa [List.length_zipIdx] at this
theorem e_places {ds : List D} (hl : ds.length ≤ 1000) (h : ∀ d ∈ ds, dealB d = true) (S : Store) : FPlacesIn [.d (.lst ds)] S = .ok (.c S.length) (S ++ [.l (plcD ds)]) := by
  refine Rs.wp_eq (fn_wpf rfl (seq_wp ?_))
  simp only [List.map_cons, List.map_nil, List.length_cons, List.length_nil, List.replicate, List.cons_append, List.nil_append, Nat.reduceSub, Nat.reduceAdd, sSet_ap, fApp_ap, aNil_ap, Rs.bind_ok, mkL0, newL_t, st_wp, Rs.wp_ok, Ou.wp_nx, List.set_cons_succ, List.set_cons_zero]
  refine seq_wp ?_
  simp only [sFor_ap, iEnumL_ap, aCons_ap, fVar_ap, aNil_ap, Rs.bind_ok, List.getElem?_cons_zero, st_wp, Rs.wp_ok]
  refine forE_wp (fun k ρ T => ρ.length = 7 ∧ sl ρ 1 = some (.c S.length) ∧ T = S ++ [.l (plcL (ds.zipIdx.take k))]) ⟨rfl, rfl, by simp [plcL]⟩ (fun _ _ _ _ => trivial) (fun k d ρ T hd I => ?_) fun ρ T I => ?_
  · obtain ⟨hρ, h1, rfl⟩ := I
    obtain ⟨ss, rfl, _, h8, hss, _⟩ := dealB_eq (h d (List.mem_of_getElem? hd))
    simp only [sFor_ap, iEnumT_ap, aCons_ap, fVar_ap, aNil_ap, Rs.bind_ok, sl_set, List.length_set, hρ, st_wp, Rs.wp_ok]
    simp only [Nat.reduceEqDiff, Nat.reduceLT, if_true, if_false, reduceIte, Rs.bind_ok, Rs.wp_ok]
    have hp8 : (plcL (ds.zipIdx.take k)).length ≤ 8 * 1000 := by
      have := plcL_len (l := ds.zipIdx.take k) fun p hp => zip_deal h p (List.mem_of_mem_take hp)
      rw [List.length_take, List.length_zipIdx] at this
      omega
    refine forEp_wp (fun j ρ T => ρ.length = 7 ∧ sl ρ 1 = some (.c S.length) ∧ sl ρ 2 = some (.d (.int k)) ∧ sl ρ 3 = some (.d (.tup ss)) ∧ T = S ++ [.l (plcL (ds.zipIdx.take k) ++ wI k ss (ss.zipIdx.take j))]) ⟨by simp [hρ], by simp [sl_set, h1], by simp [sl_set, hρ], by simp [sl_set, hρ], by simp [wI]⟩ (fun _ _ _ _ => trivial) (fun j s ρ T hs I => ?_) fun ρ T I => ?_
    · obtain ⟨hρ, h1, h2, h3, rfl⟩ := I
      have hst := hss s (List.mem_of_getElem? hs)
      have a1 := in_steps (n := true) (bxOf_ok hst) hss (S ++ [.l (plcL (ds.zipIdx.take k) ++ wI k ss (ss.zipIdx.take j))])
      have hj : j < ss.length := (List.getElem?_eq_some_iff.mp hs).1
      have hw : (wI k ss (ss.zipIdx.take j)).length ≤ 8 := by
        have := wI_len k ss (ss.zipIdx.take j)
        rw [List.length_take, List.length_zipIdx] at this
        omega
      have hc : (S ++ [Cell.l (plcL (ds.zipIdx.take k) ++ wI k ss (ss.zipIdx.take j))])[S.length]? = some (.l (plcL (ds.zipIdx.take k) ++ wI k ss (ss.zipIdx.take j))) := by simp
      have a2 := c_app hc (by rw [List.length_append]; omega) (plT k j)
      have a2' : mApp (.c S.length) [.d (.tup [.int (k : Int), .int (j : Int)])] (S ++ [Cell.l (plcL (ds.zipIdx.take k) ++ wI k ss (ss.zipIdx.take j))]) = .ok (.d .non) (S ++ [.l (plcL (ds.zipIdx.take k) ++ wI k ss (ss.zipIdx.take j) ++ [plT k j])]) := by
        refine a2.trans ?_
        simp
      have a3 := c_is hc
      have tk := take_succ_get (zipIdx_get hs)
      obtain ⟨i, _, _, rfl | rfl⟩ := stepB_eq hst
      · refine ⟨(((ρ.set 4 (some (.d (.int j)))).set 5 (some (.d (.str "read")))).set 6 (some (.d (.int i)))), rfl, ?_⟩
        rw [tk, wI_snoc]
        have a1' : kIn true (.tup [.str "write", .int i]) (.tup ss) (S ++ [Cell.l (plcL (ds.zipIdx.take k) ++ wI k ss (ss.zipIdx.take j))]) = _ := a1
        cases hi : inB (wrS (bxOf (rdS (.int i)))) ss with
        | true =>
          rw [hi] at a1'
          simp [sl_set, hρ, h1, h2, h3, -kIn_t, a1', isRd, rdS, eqS]
        | false =>
          rw [hi] at a1'
          simp [sl_set, hρ, h1, h2, h3, -kIn_t, a1', isRd, rdS, eqS, a3, a2']
      · refine ⟨(((ρ.set 4 (some (.d (.int j)))).set 5 (some (.d (.str "write")))).set 6 (some (.d (.int i)))), rfl, ?_⟩
        rw [tk, wI_snoc]
        simp [sl_set, hρ, h1, h2, h3, isRd, wrS, eqS, w_ne_r]
    · obtain ⟨hρ, h1, h2, h3, rfl⟩ := I
      refine ⟨hρ, h1, ?_⟩
      rw [take_succ_get (zipIdx_get hd), plcL_snoc, List.take_of_length_le (l := ss.zipIdx) (by rw [List.length_zipIdx]; exact Nat.le_refl _), show wI k ss ss.zipIdx = wideIn k (D.tup ss) from rfl]
  · obtain ⟨hρ, h1, rfl⟩ := I
    rw [List.take_of_length_le (by rw [List.length_zipIdx]; exact Nat.le_refl _)]
    simp [h1, plcD]
/-! ### lists of places -/
def tupI (is : List Int) : D := .tup (is.map .int)
def isWt (d : D) : Bool := match d with
  | .tup ds => ds.all wholeD
  | _ => false
theorem isWt_eq {d : D} (h : isWt d = true) : ∃ is, d = tupI is := by
  cases d with
  | tup ds =>
    have h' : ∀ x ∈ ds, wholeD x = true := List.all_eq_true.mp h
    clear h
    induction ds with
    | nil => exact ⟨[], rfl⟩
    | cons x ds ih =>
      obtain ⟨i, rfl⟩ := wholeD_eq (h' x (List.mem_cons_self ..))
      obtain ⟨is, e⟩ := ih fun y hy => h' y (List.mem_cons_of_mem _ hy)
      refine ⟨i :: is, ?_⟩
      have e2 : ds = is.map .int := by
        have : D.tup ds = D.tup (is.map .int) := e
        injection this
      rw [e2]
      rfl
  | _ => cases h
@[simp] theorem isWt_tupI (is : List Int) : isWt (tupI is) = true := by
  show (is.map D.int).all wholeD = true
  rw [List.all_eq_true]
  intro x hx
  obtain ⟨i, _, rfl⟩ := List.mem_map.mp hx
  rfl
theorem okK_tupI (is : List Int) : okK 1 (tupI is) = true := okK_tup (n := 0) fun d hd => by
  obtain ⟨i, _, rfl⟩ := List.mem_map.mp hd
  exact okK_int 0 i
theorem eqvAll_ints (is js : List Int) : PyData.eqvAll (pds (is.map .int)) (pds (js.map .int)) = decide (is = js) := by
  induction is generalizing js with
  | nil =>
    cases js with
    | nil => simp [pds, PyData.eqvAll]
    | cons j js => simp [pds, PyData.eqvAll]
  | cons i is ih =>
    cases js with
    | nil => simp [pds, PyData.eqvAll]
    | cons j js =>
      rw [List.map_cons, List.map_cons, pds, pds, pd, pd, PyData.eqvAll, ih]
      by_cases h : i = j <;> by_cases h2 : is = js <;> simp [PyData.eqv, h, h2]
theorem eqB_tupI (is js : List Int) : eqB (tupI is) (tupI js) = decide (is = js) := by
  unfold eqB tupI
  rw [pd, pd, PyData.eqv, eqvAll_ints]
theorem tupI_inj {is js : List Int} (h : tupI is = tupI js) : is = js := by
  have h1 : is.map D.int = js.map D.int := D.tup.inj h
  induction is generalizing js with
  | nil => cases js with
    | nil => rfl
    | cons j js => cases h1
  | cons i is ih => cases js with
    | nil => cases h1
    | cons j js =>
      rw [List.map_cons, List.map_cons] at h1
      injection h1 with a b
      injection a with a
      rw [a, ih (congrArg D.tup b) b]
theorem inB_tupI {is : List Int} {ds : List D} (h : ∀ d ∈ ds, isWt d = true) : inB (tupI is) ds = true ↔ tupI is ∈ ds := by
  unfold inB
  rw [List.any_eq_true]
  constructor
  · rintro ⟨z, hz, e⟩
    obtain ⟨js, rfl⟩ := isWt_eq (h z hz)
    rw [eqB_tupI, decide_eq_true_eq] at e
    rw [← e]
    exact hz
  · intro hz
    exact ⟨_, hz, by rw [eqB_tupI]; simp⟩
theorem plT_I (n k : Nat) : plT n k = tupI [(n : Int), (k : Int)] := rfl
theorem plcD_wt (ds : List D) : ∀ d ∈ plcD ds, ∃ n k : Nat, d = plT n k := by
  intro d hd
  unfold plcD plcL wideIn wI at hd
  rw [List.mem_flatten] at hd
  obtain ⟨l, hl, hd⟩ := hd
  obtain ⟨p, _, rfl⟩ := List.mem_map.mp hl
  obtain ⟨q, _, rfl⟩ := List.mem_map.mp hd
  exact ⟨p.2, q.2, rfl⟩
theorem plcD_isWt (ds : List D) : ∀ d ∈ plcD ds, isWt d = true := by
  intro d hd
  obtain ⟨n, k, rfl⟩ := plcD_wt ds d hd
  rw [plT_I]
  exact isWt_tupI _
/-- a whole tuple of whole numbers, one of these -/
def plB (P : List D) (d : D) : Bool := isWt d && inB d P
def ksOf (d : D) : List Key := match d with
  | .tup ds => (keysD ds).getD []
  | _ => []
theorem keysD_ints (is : List Int) : keysD (is.map .int) = some (is.map .inl) := by
  induction is with
  | nil => rfl
  | cons i is ih => rw [List.map_cons, keysD, ih]; rfl
theorem ksOf_tupI (is : List Int) : ksOf (tupI is) = is.map .inl := by
  show (keysD (is.map .int)).getD [] = _
  rw [keysD_ints]
  rfl
def memK (q : List Key) (ks : List (List Key)) : Bool := ks.any fun k => decide (k = q)
theorem memK_iff {q : List Key} {ks : List (List Key)} : memK q ks = true ↔ q ∈ ks := by
  unfold memK
  rw [List.any_eq_true]
  constructor
  · rintro ⟨k, h, e⟩
    exact (of_decide_eq_true e) ▸ h
  · exact fun h => ⟨q, h, decide_eq_true rfl⟩
def goP (P : List D) : List (List Key) → List D → Bool
  | _, [] => true
  | met, x :: xs => if isWt x = true then (if inB x P = true then (if memK (ksOf x) met = true then false else goP P (met ++ [ksOf x]) xs) else false) else false
def arePl (P : List D) (d : D) : Bool := match d with
  | .lst xs => goP P [] xs
  | _ => false
theorem valW_true (ks : List (List Key)) (q : List Key) : (valW (ks.map fun k => (k, W.d (.bl true))) q).isSome = memK q ks := by
  induction ks with
  | nil => rfl
  | cons k ks ih =>
    unfold valW memK at ih ⊢
    rw [List.map_cons, List.find?_cons, List.any_cons]
    by_cases h : k = q
    · simp [h]
    · have e1 : decide ((k, W.d (.bl true)).1 = q) = false := decide_eq_false h
      rw [e1]
      dsimp only
      rw [ih]
      simp [h]
theorem putW_new {ks : List (List Key)} {q : List Key} (h : memK q ks = false) : putW (ks.map fun k => (k, W.d (.bl true))) q (.d (.bl true)) = (ks ++ [q]).map fun k => (k, W.d (.bl true)) := by
  have e : ((ks.map fun k => (k, W.d (.bl true))).any fun kv => decide (kv.1 = q)) = false := by
    rw [List.any_map]
    exact h
  unfold putW
  rw [e]
  simp
theorem e_arePl {ds : List D} (hl : ds.length ≤ 1000) (h : ∀ d ∈ ds, dealB d = true) (x : D) (hx : ∀ xs, x = .lst xs → xs.length ≤ 90000 ∧ ∀ y ∈ xs, ∀ zs, y = .tup zs → zs.length ≤ 90000) (S : Store) (hS : lowS S.length S = true) : FArePlaces [.d (.lst ds), .d x] S = .ok (.d (.bl (arePl (plcD ds) x))) S := by
  refine Rs.wp_eq (fn_wpt rfl (seq_wp ?_))
  have fin : ∀ (b : Bool) (T : Store), (cutR true S.length (.d (.bl b)) (S ++ T)).wp (fun c T' => c = .d (.bl b) ∧ T' = S) noX := fun b T => cut_wp rfl (by simpa using hS) ⟨rfl, by simp⟩
  have fin0 : ∀ (b : Bool), (cutR true S.length (.d (.bl b)) S).wp (fun c T' => c = .d (.bl b) ∧ T' = S) noX := fun b => by
    have := fin b []
    rwa [List.append_nil] at this
  cases x with
  | lst xs =>
    obtain ⟨hxl, hxt⟩ := hx xs rfl
    simp [isLst, -sSeq_ap, -sFor_ap]
    refine seq_wp ?_
    simp [e_places hl h, -List.append_assoc, -sSeq_ap, -sFor_ap]
    refine seq_wp ?_
    simp [fDnT, -sSeq_ap, -sFor_ap]
    refine seq_wp ?_
    simp [-sSeq_ap]
    refine forD_wp (ds := xs) (fun a ρ T => ρ.length = 6 ∧ sl ρ 2 = some (.c S.length) ∧ sl ρ 3 = some (.c (S.length + 1)) ∧ T = S ++ [.l (plcD ds), .dt ((a.map ksOf).map fun k => (k, W.d (.bl true)))] ∧ (∀ b, a ++ b = xs → goP (plcD ds) [] xs = goP (plcD ds) (a.map ksOf) b)) ⟨rfl, rfl, rfl, by simp, fun b e => by rw [← e]; rfl⟩ (fun _ _ _ _ => trivial) (fun a d b ρ T e I => ?_) fun ρ T I => ?_
    · obtain ⟨hρ, h2, h3, hT, hgo⟩ := I
      have hg := hgo _ e
      have hal : a.length ≤ 90000 := by
        have := congrArg List.length e
        rw [List.length_append] at this
        omega
      have hc : T[S.length]? = some (.l (plcD ds)) := by rw [hT]; simp
      have hc3 : T[S.length + 1]? = some (.dt ((a.map ksOf).map fun k => (k, W.d (.bl true)))) := by rw [hT]; simp
      have finT : goP (plcD ds) [] xs = false → (cutR true S.length (.d (.bl false)) T).wp (fun c T' => c = .d (.bl (arePl (plcD ds) (.lst xs))) ∧ T' = S) noX := fun hq => by
        have := fin false [.l (plcD ds), .dt ((a.map ksOf).map fun k => (k, W.d (.bl true)))]
        rw [hT]
        show (cutR true S.length (.d (.bl false)) _).wp (fun c T' => c = .d (.bl (goP (plcD ds) [] xs)) ∧ T' = S) noX
        rw [hq]
        exact this
      rw [goP] at hg
      have w4 : sl (ρ.set 4 (some (.d d))) 4 = some (.d d) := by simp [sl_set, hρ]
      have w2 : sl (ρ.set 4 (some (.d d))) 2 = some (.c S.length) := by simp [sl_set, h2]
      have w3 : sl (ρ.set 4 (some (.d d))) 3 = some (.c (S.length + 1)) := by simp [sl_set, h3]
      have wl : (ρ.set 4 (some (.d d))).length = 6 := by rw [List.length_set]; exact hρ
      generalize ρ.set 4 (some (.d d)) = ρ1 at w4 w2 w3 wl
      have a1 : ∀ zs, d = .tup zs → fLc false (iTupF (fVar 4)) (.n 5) tYesF (fApp FIsWhole (aCons (fVar 5) aNil)) [5] ρ1 T = .ok (.d (.lst (zs.map fun e => .bl (wholeD e)))) T := fun zs ez => by
        subst ez
        exact lc_map (ds := zs) (g := fun _ => True) (f := fun e => .bl (wholeD e)) (by simp [w4]) (by have := hxt (.tup zs) (by rw [← e]; simp) zs rfl; omega) trivial fun e _ => by simp [sl_set, wl, e_whole]
      refine seq_wp ?_
      cases hw : isWt d with
      | false =>
        rw [hw] at hg
        simp only [Bool.false_eq_true, if_false] at hg
        cases d with
        | tup zs =>
          have hw' : zs.all wholeD = false := hw
          simp [-sSeq_ap, w4, isTup, -fLc_ap, a1 zs rfl, aAll_map, hw']
          exact finT hg
        | _ =>
          simp [-sSeq_ap, w4, isTup]
          exact finT hg
      | true =>
        rw [hw] at hg
        simp only [if_true] at hg
        obtain ⟨is, rfl⟩ := isWt_eq hw
        have hw' : (is.map D.int).all wholeD = true := hw
        have o1 : okD (.lst (plcD ds)) = true := okK_D (okK_lst (n := 1) fun d hd => by
          obtain ⟨is, rfl⟩ := isWt_eq (plcD_isWt ds d hd)
          exact okK_tupI is) (by decide)
        have o2 : okD (tupI is) = true := okK_D (okK_tupI is) (by decide)
        have b1 : oNotIn (.d (tupI is)) (.c S.length) T = .ok (.d (.bl (!inB (tupI is) (plcD ds)))) T := by
          unfold oNotIn onDD
          rw [c_rd hc, rdW_d]
          show kIn true (tupI is) (.lst (plcD ds)) _ = _
          rw [kIn_l]
          show kInO true (tupI is) (.lst (plcD ds)) (plcD ds) T = _
          rw [kInO_ok o2 o1]
          rfl
        have b2 : oDIn (.d (tupI is)) (.c (S.length + 1)) T = .ok (.d (.bl (memK (ksOf (tupI is)) (a.map ksOf)))) T := by
          have e1 : dGet T (.c (S.length + 1)) (.d (tupI is)) = some (valW ((a.map ksOf).map fun k => (k, W.d (.bl true))) (is.map .inl)) := by simp [dGet, hc3, tupI, keysD_ints]
          unfold oDIn
          rw [e1]
          dsimp only
          rw [valW_true, ksOf_tupI]
        have hall : isTup (tupI is) = true := rfl
        have a1' := a1 _ rfl
        rw [sIf_ap]
        simp [-sSeq_ap, w4, hall, -fLc_ap, a1', aAll_map, hw', -List.map_map]
        refine seq_wp ?_
        cases hin : inB (tupI is) (plcD ds) with
        | false =>
          rw [hin] at hg b1
          simp only [Bool.false_eq_true, if_false] at hg
          simp [-sSeq_ap, w4, w2, w3, b1]
          exact finT hg
        | true =>
          rw [hin] at hg b1
          simp only [if_true] at hg
          cases hk : memK (ksOf (tupI is)) (a.map ksOf) with
          | true =>
            rw [hk] at hg b2
            simp only [if_true] at hg
            simp [-sSeq_ap, w4, w2, w3, b1, b2]
            exact finT hg
          | false =>
            rw [hk] at hg b2
            simp only [Bool.false_eq_true, if_false] at hg
            have p1 : dPut T (.c (S.length + 1)) (.d (tupI is)) (.d (.bl true)) = some (S ++ [.l (plcD ds), .dt (((a ++ [tupI is]).map ksOf).map fun k => (k, W.d (.bl true)))]) := by
              have e0 : dPut T (.c (S.length + 1)) (.d (tupI is)) (.d (.bl true)) = some (T.set (S.length + 1) (.dt (putW ((a.map ksOf).map fun k => (k, W.d (.bl true))) (is.map .inl) (.d (.bl true))))) := by
                have : a.length < 100000 := by omega
                simp [dPut, hc3, tupI, keysD_ints, this]
              rw [e0, ← ksOf_tupI, putW_new hk, hT, List.map_append]
              simp
            simp [-sSeq_ap, w4, w2, w3, b1, b2, sDPutF, p1]
            refine ⟨wl, fun b' e' => ?_⟩
            have eb : b = b' := by
              rw [← e'] at e
              simpa using e
            subst eb
            exact hg
    · obtain ⟨hρ, h2, h3, rfl, hgo⟩ := I
      have hg := hgo [] (List.append_nil _)
      rw [goP] at hg
      have := fin true [.l (plcD ds), .dt ((xs.map ksOf).map fun k => (k, W.d (.bl true)))]
      simpa [arePl, hg] using this
  | _ => simpa [isLst, arePl] using fin0 false
/-! ### widened -/
def wdS (n : Nat) (ps : List D) (l : List (D × Nat)) : List D := (l.map fun p => if inB (plT n p.2) ps = true then [p.1, wrS (bxOf p.1)] else [p.1]).flatten
def wdD (n : Nat) (d : D) (ps : List D) : D := .tup (wdS n ps (stepsOf d).zipIdx)
theorem wdS_snoc (n : Nat) (ps : List D) (l : List (D × Nat)) (p : D × Nat) : wdS n ps (l ++ [p]) = wdS n ps l ++ if inB (plT n p.2) ps = true then [p.1, wrS (bxOf p.1)] else [p.1] := by simp [wdS]
theorem wdS_len (n : Nat) (ps : List D) (l : List (D × Nat)) : (wdS n ps l).length ≤ 2 * l.length := by
  induction l with
  | nil => exact Nat.zero_le _
  | cons p l ih =>
    have e : wdS n ps (p :: l) = (if inB (plT n p.2) ps = true then [p.1, wrS (bxOf p.1)] else [p.1]) ++ wdS n ps l := by simp [wdS]
    rw [e, List.length_append, List.length_cons]
    by_cases h : inB (plT n p.2) ps = true
    · rw [if_pos h]
      simp only [List.length_cons, List.length_nil]
      omega
    · rw [if_neg h]
      simp only [List.length_cons, List.length_nil]
      omega
theorem wdS_ok {n : Nat} {ps : List D} {l : List (D × Nat)} (h : ∀ p ∈ l, stepB p.1 = true) : ∀ s ∈ wdS n ps l, stepB s = true := by
  intro s hs
  unfold wdS at hs
  rw [List.mem_flatten] at hs
  obtain ⟨q, hq, hs⟩ := hs
  obtain ⟨p, hp, rfl⟩ := List.mem_map.mp hq
  by_cases hi : inB (plT n p.2) ps = true
  · rw [if_pos hi] at hs
    simp only [List.mem_cons, List.not_mem_nil, or_false] at hs
    rcases hs with rfl | rfl
    · exact h p hp
    · exact bxOf_ok (h p hp)
  · rw [if_neg hi] at hs
    simp only [List.mem_cons, List.not_mem_nil, or_false] at hs
    rw [hs]
    exact h p hp
theorem zip_step {ss : List D} (h : ∀ d ∈ ss, stepB d = true) : ∀ p ∈ ss.zipIdx, stepB p.1 = true := fun p hp => h _ (by
  have := List.mem_zipIdx hp
  simp at this
  rw [this.2]
  exact List.getElem_mem _)
theorem okPs {ps : List D} (h : ∀ d ∈ ps, isWt d = true) : okD (.lst ps) = true := okK_D (okK_lst (n := 1) fun d hd => by
  obtain ⟨is, rfl⟩ := isWt_eq (h d hd)
  exact okK_tupI is) (by decide)
theorem in_ps {n k : Nat} {ps : List D} (h : ∀ d ∈ ps, isWt d = true) (S : Store) : kIn false (.tup [.int n, .int k]) (.lst ps) S = .ok (.d (.bl (inB (plT n k) ps))) S := kInO_ok (okK_D (okK_tupI [(n : Int), (k : Int)]) (by decide)) (okPs h)
theorem ix1s {s : D} (h : stepB s = true) (S : Store) : oIx (.d s) (.d (.int 1)) S = .ok (.d (bxOf s)) S := by
  obtain ⟨i, _, _, rfl | rfl⟩ := stepB_eq h <;> simp [rdS, wrS, bxOf]
theorem e_widenedDealing {n : Nat} {d : D} {ps : List D} (hd : dealB d = true) (hp : ∀ d ∈ ps, isWt d = true) (S : Store) (hS : lowS S.length S = true) : FWidenedDealing [.d (.int n), .d d, .d (.lst ps)] S = .ok (.d (wdD n d ps)) S := by
  obtain ⟨ss, rfl, _, h8, hss, _⟩ := dealB_eq hd
  refine Rs.wp_eq (fn_wpt rfl (seq_wp ?_))
  simp [-sSeq_ap, -sFor_ap]
  refine seq_wp ?_
  simp [-sSeq_ap]
  refine forE_wp (ds := ss) (fun k ρ T => ρ.length = 6 ∧ sl ρ 0 = some (.d (.int n)) ∧ sl ρ 2 = some (.d (.lst ps)) ∧ sl ρ 3 = some (.c S.length) ∧ T = S ++ [.l (wdS n ps (ss.zipIdx.take k))]) ⟨rfl, rfl, rfl, rfl, by simp [wdS]⟩ (fun _ _ _ _ => trivial) (fun k s ρ T hs I => ?_) fun ρ T I => ?_
  · obtain ⟨hρ, h0, h2, h3, hT⟩ := I
    have hst := hss s (List.mem_of_getElem? hs)
    have hc : T[S.length]? = some (.l (wdS n ps (ss.zipIdx.take k))) := by rw [hT]; simp
    have hk : k < ss.length := (List.getElem?_eq_some_iff.mp hs).1
    have hw : (wdS n ps (ss.zipIdx.take k)).length ≤ 16 := by
      have := wdS_len n ps (ss.zipIdx.take k)
      rw [List.length_take, List.length_zipIdx] at this
      omega
    have a1 := c_is hc
    have a2 := c_app hc (by omega) s
    have eT1 : T.set S.length (.l (wdS n ps (ss.zipIdx.take k) ++ [s])) = S ++ [.l (wdS n ps (ss.zipIdx.take k) ++ [s])] := by rw [hT]; simp
    rw [eT1] at a2
    have hc1 : (S ++ [Cell.l (wdS n ps (ss.zipIdx.take k) ++ [s])])[S.length]? = some (.l (wdS n ps (ss.zipIdx.take k) ++ [s])) := by simp
    have a3 := c_is hc1
    have a4 := c_app hc1 (by rw [List.length_append]; simp; omega) (wrS (bxOf s))
    have a4' : mApp (.c S.length) [.d (wrS (bxOf s))] (S ++ [Cell.l (wdS n ps (ss.zipIdx.take k) ++ [s])]) = .ok (.d .non) (S ++ [.l (wdS n ps (ss.zipIdx.take k) ++ [s] ++ [wrS (bxOf s)])]) := by rw [a4]; simp
    have tk := take_succ_get (zipIdx_get hs)
    have e3 : bxOf s = bxOf s := rfl
    rw [tk, wdS_snoc]
    generalize wdS n ps (ss.zipIdx.take k) = A at *
    refine seq_wp ?_
    simp [-sSeq_ap, sl_set, hρ, h3, a1, a2]
    have b1 := in_ps (n := n) (k := k) hp (S ++ [Cell.l (A ++ [s])])
    cases hi : inB (plT n k) ps with
    | false =>
      rw [hi] at b1
      simp [-sSeq_ap, -kIn_l, sl_set, hρ, h0, h2, h3, b1]
    | true =>
      rw [hi] at b1
      have e5 := ix1s hst (S ++ [Cell.l (A ++ [s])])
      have e6 : mkT [.d (.str "write"), .d (bxOf s)] (S ++ [Cell.l (A ++ [s])]) = .ok (.d (wrS (bxOf s))) (S ++ [Cell.l (A ++ [s])]) := mkT2 _ _ _
      have e7 : mkT [.d (.int (n : Int)), .d (.int (k : Int))] (S ++ [Cell.l (A ++ [s])]) = .ok (.d (.tup [.int n, .int k])) (S ++ [Cell.l (A ++ [s])]) := mkT2 _ _ _
      simp [-sSeq_ap, -kIn_l, -mkT2, sl_set, hρ, h0, h2, h3, b1, a3, e5, e6, e7, a4']
  · obtain ⟨hρ, h0, h2, h3, hT⟩ := I
    rw [List.take_of_length_le (l := ss.zipIdx) (by rw [List.length_zipIdx]; exact Nat.le_refl _)] at hT
    have hc : T[S.length]? = some (.l (wdS n ps ss.zipIdx)) := by rw [hT]; simp
    have a1 : aTuple [.c S.length] T = .ok (.d (wdD n (.tup ss) ps)) T := by simp [aTuple, c_it hc, wdD, stepsOf]
    simp [h3, a1]
    exact cut_wp rfl (by rw [hT]; simpa using hS) ⟨rfl, by rw [hT]; simp⟩
def widL (ps : List D) (ds : List D) : List D := ds.zipIdx.map fun p => wdD p.2 p.1 ps
def lenD (d : D) : Nat := (stepsOf d).length
def roomB (ds : List D) : Bool := ds.all fun d => decide (lenD d ≤ 8)
theorem e_putIn {ds ps : List D} (hl : ds.length ≤ 1000) (h : ∀ d ∈ ds, dealB d = true) (hp : ∀ d ∈ ps, isWt d = true) (S : Store) (hS : lowS S.length S = true) :
    FPutIn [.d (.lst ds), .d (.lst ps)] S = if roomB (widL ps ds) = true then .ok (.c S.length) (S ++ [.l (widL ps ds)]) else .ex ⟨"NoRoom", none⟩ (S ++ [.l (widL ps ds)]) := by
  have a1 : fLc true (iEnumL (aCons (fVar 0) aNil)) (.t [.n 4, .n 3]) tYesF (fApp FWidenedDealing (aCons (fVar 4) (aCons (fVar 3) (aCons (fVar 1) aNil)))) [4, 3] [some (.d (.lst ds)), some (.d (.lst ps)), none, none, none] S = .ok (.c S.length) (S ++ [.l (widL ps ds)]) :=
    lc_enum (ds := ds) (g := fun _ => True) (f := fun k d => wdD k d ps) (by simp) (by omega) trivial fun k d hd => by simp [e_widenedDealing (h d (List.mem_of_getElem? hd)) hp S hS]
  have hw : (widL ps ds).length < 100000 := by unfold widL; rw [List.length_map, List.length_zipIdx]; omega
  have hc : (S ++ [Cell.l (widL ps ds)])[S.length]? = some (.l (widL ps ds)) := by simp
  have a2 : fLc false (iList (fVar 2)) (.n 3) tYesF (fOp oGt (fApp aLen (aCons (fVar 3) aNil)) (fK (.d (.int 8)))) [3] [some (.d (.lst ds)), some (.d (.lst ps)), some (.c S.length), none, none] (S ++ [Cell.l (widL ps ds)]) = .ok (.d (.lst ((widL ps ds).map fun d => .bl (decide (8 < lenD d))))) (S ++ [Cell.l (widL ps ds)]) :=
    lc_map (ds := widL ps ds) (g := fun T => T[S.length]? = some (.l (widL ps ds))) (f := fun d => .bl (decide (8 < lenD d))) (by simp [hc]) hw hc fun d hd => by
      obtain ⟨p, _, rfl⟩ := List.mem_map.mp hd
      have e1 : ((8 : Int) < ((wdS p.2 ps (stepsOf p.1).zipIdx).length : Int)) = (8 < lenD (wdD p.2 p.1 ps)) := by
        rw [eq_iff_iff]
        show _ ↔ 8 < (wdS p.2 ps (stepsOf p.1).zipIdx).length
        omega
      simp [wdD]
      exact decide_eq_decide.mpr (Iff.of_eq e1)
  have e2 : ((widL ps ds).any fun d => decide (8 < lenD d)) = !roomB (widL ps ds) := by
    unfold roomB
    rw [List.not_all_eq_any_not]
    congr 1
    funext d
    by_cases h : lenD d ≤ 8
    · have : ¬ 8 < lenD d := by omega
      simp [h, this]
    · have : 8 < lenD d := by omega
      simp [h, this]
  cases hr : roomB (widL ps ds) <;> rw [hr] at e2 <;> simp [FPutIn, fnF_ap, gPutIn, -fLc_ap, a1, a2, aAny_map, e2]
theorem e_widePlaces {ds : List D} (h : dealsB (.lst ds) = true) (S : Store) : FWidePlaces [.d (.lst ds)] S = .ok (.c S.length) (S ++ [.l (plcD ds)]) := by
  obtain ⟨ds', e, _, h100, hd⟩ := dealsB_eq h
  cases e
  simp [FWidePlaces, fnF_ap, gWidePlaces, e_checkD, h, e_places (by omega) hd]
theorem e_widePlacesX {d : D} (h : dealsB d = false) (S : Store) : FWidePlaces [.d d] S = .ex ⟨"NoDealings", none⟩ S := by simp [FWidePlaces, fnF_ap, gWidePlaces, e_checkD, h]
theorem goP_wt {P : List D} : ∀ {xs : List D} {met : List (List Key)}, goP P met xs = true → ∀ d ∈ xs, isWt d = true
  | [], _, _ => fun d hd => absurd hd List.not_mem_nil
  | x :: xs, met, h => by
    rw [goP] at h
    intro d hd
    by_cases hw : isWt x = true
    · rw [if_pos hw] at h
      split at h
      · split at h
        · cases h
        · rcases List.mem_cons.mp hd with rfl | hd
          · exact hw
          · exact goP_wt h d hd
      · cases h
    · rw [if_neg hw] at h
      cases h
theorem e_widened {ds : List D} (h : dealsB (.lst ds) = true) (x : D) (hx : ∀ xs, x = .lst xs → xs.length ≤ 90000 ∧ ∀ y ∈ xs, ∀ zs, y = .tup zs → zs.length ≤ 90000) (S : Store) (hS : lowS S.length S = true) :
    FWidened [.d (.lst ds), .d x] S = if arePl (plcD ds) x = true then (match x with
      | .lst ps => if roomB (widL ps ds) = true then .ok (.c S.length) (S ++ [.l (widL ps ds)]) else .ex ⟨"NoRoom", none⟩ (S ++ [.l (widL ps ds)])
      | _ => .no) else .ex ⟨"NoPlaces", none⟩ S := by
  obtain ⟨ds', e, _, h100, hd⟩ := dealsB_eq h
  cases e
  have a1 := e_arePl (by omega) hd x hx S hS
  cases hq : arePl (plcD ds) x with
  | false => simp [FWidened, fnF_ap, gWidened, e_checkD, h, a1, hq]
  | true =>
    cases x with
    | lst ps =>
      have hp := goP_wt hq
      have a2 := e_putIn (by omega) hd hp S hS
      cases hr : roomB (widL ps ds) <;> simp [FWidened, fnF_ap, gWidened, e_checkD, h, a1, hq, a2, hr]
    | _ => cases hq
theorem e_widenedX {d x : D} (h : dealsB d = false) (S : Store) : FWidened [.d d, .d x] S = .ex ⟨"NoDealings", none⟩ S := by simp [FWidened, fnF_ap, gWidened, e_checkD, h]
end As

/-! the laws' draws -/
namespace As
open PySem PySem.Spec PyProof.Rows L2
/-- a law's digit: what most of the laws say -/
noncomputable def gDig : Sm :=
    (sSeq (sIf (fB (fOp oEq (fApp aLen (aCons (fVar 0) aNil)) (fK (.d (.int 1)))))
    (sSeq (sSet 2 (fOp oIx (fVar 0) (fK (.d (.int 0)))))
      (sSeq (sPut (fVar 0) (fK (.d (.int 0))) (fOp oIx (fApp (mkL false) (aCons (fK (.d (.int 0))) (aCons (fVar 2) aNil))) (fApp aInt (aCons (fOp oGe (fVar 2) (fOp oPow (fK (.d (.int 10))) (fK (.d (.int 18))))) aNil))))
      (sExpr (fMt (fun x S => isCl x S = true) mExt (fVar 0) (aCons (fApp (mkL false) (aCons (fOp oMod (fVar 2) (fK (.d (.int 2147483647)))) (aCons (fK (.d (.int 0))) aNil))) aNil))))) sNil)
    (sSeq (sIf (fB (fOp oGt (fOp oIx (fVar 0) (fK (.d (.int 0)))) (fK (.d (.int 0)))))
    (sSeq (sSet 3 (fOp oMod (fOp oIx (fVar 0) (fK (.d (.int 0)))) (fVar 1)))
      (sSeq (sPut (fVar 0) (fK (.d (.int 0))) (fOp oDiv (fOp oIx (fVar 0) (fK (.d (.int 0)))) (fVar 1)))
      (sRet (fVar 3)))) sNil)
    (sSeq (sPut (fVar 0) (fK (.d (.int 2))) (fOp oAdd (fOp oIx (fVar 0) (fK (.d (.int 2)))) (fK (.d (.int 1)))))
    (sSeq (sSet 4 (fOp oMod (fOp oMul (fOp oAdd (fOp oAdd (fOp oIx (fVar 0) (fK (.d (.int 1)))) (fOp oMul (fK (.d (.int 7919))) (fOp oIx (fVar 0) (fK (.d (.int 2)))))) (fK (.d (.int 1)))) (fK (.d (.int 48271)))) (fK (.d (.int 2147483647)))))
    (sSeq (sSet 4 (fOp oMod (fOp oMul (fVar 4) (fOp oAdd (fOp oDiv (fVar 4) (fK (.d (.int 1009)))) (fK (.d (.int 69621))))) (fK (.d (.int 2147483647)))))
    (sRet (fOp oMod (fOp oMod (fOp oMul (fVar 4) (fOp oAdd (fOp oDiv (fVar 4) (fK (.d (.int 2003)))) (fK (.d (.int 40692))))) (fK (.d (.int 2147483399)))) (fVar 1))))))))
noncomputable def FDig : Fn := fnF false 2 5 gDig
def stOk (ds : List D) : Prop := (∃ a : Int, ds = [.int a]) ∨ ∃ a b c : Int, ds = [.int a, .int b, .int c]
/-- the well stands in this cell -/
def wellAt (S : Store) (k : Nat) : Prop := ∃ ds, S[k]? = some (.l ds) ∧ stOk ds
theorem lt64 {i : Int} (h0 : 0 ≤ i) (h1 : i < 2147483647) : -(2 ^ 64) < i ∧ i < 2 ^ 64 := by
  refine ⟨?_, ?_⟩ <;> omega
section
variable {S : Store} {k : Nat}
theorem ixc0 {a : D} {l : List D} (h : S[k]? = some (.l (a :: l))) : oIx (.c k) (.d (.int 0)) S = .ok (.d a) S := ixAt (c_it h) (v := 0) rfl
theorem ixc1 {a b : D} {l : List D} (h : S[k]? = some (.l (a :: b :: l))) : oIx (.c k) (.d (.int 1)) S = .ok (.d b) S := ixAt (c_it h) (v := 1) rfl
theorem ixc2 {a b c : D} {l : List D} (h : S[k]? = some (.l (a :: b :: c :: l))) : oIx (.c k) (.d (.int 2)) S = .ok (.d c) S := ixAt (c_it h) (v := 2) rfl
theorem dig3 {a b c m : Int} (h : S[k]? = some (.l [.int a, .int b, .int c])) (hm : 0 < m) (hm2 : m ≤ 1000000000) : ∃ v ds', FDig [.c k, .d (.int m)] S = .ok (.d (.int v)) (S.set k (.l ds')) ∧ 0 ≤ v ∧ v < m ∧ stOk ds' := by
  have hk := c_lt h
  by_cases ha : 0 < a
  · have cd : CDiv a m := by unfold CDiv; omega
    refine ⟨a % m, [.int (a / m), .int b, .int c], ?_, Int.emod_nonneg _ (by omega), Int.emod_lt_of_pos _ hm, .inr ⟨_, _, _, rfl⟩⟩
    have p1 := c_put (ρ := [some (.c k), some (.d (.int m)), none, some (.d (.int (a % m))), none]) (fo := fVar 0) (fi := fK (.d (.int 0))) (fe := fOp oDiv (fOp oIx (fVar 0) (fK (.d (.int 0)))) (fVar 1)) (z := 0) (j := 0) (d := .int (a / m)) h (by simp [ixc0 h, cd]) (by simp) (by simp) (by simp [ixN])
    simp [FDig, fnF_ap, gDig, -sPut_ap, c_it h, ixc0 h, ha, hm, p1]
  · have hs : (S.set k (.l [.int a, .int b, .int (c + 1)]))[k]? = some (.l [.int a, .int b, .int (c + 1)]) := List.getElem?_set_self hk
    have c1 : CMul 7919 (c + 1) := .inl (by constructor <;> decide)
    have c2 : CMul (b + 7919 * (c + 1) + 1) 48271 := .inr (by constructor <;> decide)
    generalize e1 : (b + 7919 * (c + 1) + 1) * 48271 % 2147483647 = n1
    have h1 : 0 ≤ n1 ∧ n1 < 2147483647 := by rw [← e1]; exact ⟨Int.emod_nonneg _ (by decide), Int.emod_lt_of_pos _ (by decide)⟩
    have c3 : CMul n1 (n1 / 1009 + 69621) := .inl (lt64 h1.1 h1.2)
    have d3 : CDiv n1 1009 := by unfold CDiv; omega
    generalize e2 : n1 * (n1 / 1009 + 69621) % 2147483647 = n2
    have h2 : 0 ≤ n2 ∧ n2 < 2147483647 := by rw [← e2]; exact ⟨Int.emod_nonneg _ (by decide), Int.emod_lt_of_pos _ (by decide)⟩
    have c4 : CMul n2 (n2 / 2003 + 40692) := .inl (lt64 h2.1 h2.2)
    have d4 : CDiv n2 2003 := by unfold CDiv; omega
    have p1 := c_put (ρ := [some (.c k), some (.d (.int m)), none, none, none]) (fo := fVar 0) (fi := fK (.d (.int 2))) (fe := fOp oAdd (fOp oIx (fVar 0) (fK (.d (.int 2)))) (fK (.d (.int 1)))) (z := 2) (j := 2) (d := .int (c + 1)) h (by simp [ixc2 h]) (by simp) (by simp) (by simp [ixN])
    have p1' : sPut (fVar 0) (fK (.d (.int 2))) (fOp oAdd (fOp oIx (fVar 0) (fK (.d (.int 2)))) (fK (.d (.int 1)))) [some (.c k), some (.d (.int m)), none, none, none] S = .nx [some (.c k), some (.d (.int m)), none, none, none] (S.set k (.l [.int a, .int b, .int (c + 1)])) := p1
    refine ⟨n2 * (n2 / 2003 + 40692) % 2147483399 % m, [.int a, .int b, .int (c + 1)], ?_, Int.emod_nonneg _ (by omega), Int.emod_lt_of_pos _ hm, .inr ⟨_, _, _, rfl⟩⟩
    simp [FDig, fnF_ap, gDig, -sPut_ap, c_it h, ixc0 h, ha, hm, p1', ixc1 hs, ixc2 hs, c1, c2, e1, c3, d3, e2, c4, d4]
theorem dig1 {a m : Int} (h : S[k]? = some (.l [.int a])) (hm : 0 < m) (hm2 : m ≤ 1000000000) : ∃ v ds', FDig [.c k, .d (.int m)] S = .ok (.d (.int v)) (S.set k (.l ds')) ∧ 0 ≤ v ∧ v < m ∧ stOk ds' := by
  have hk := c_lt h
  have cp : CPow 10 18 := by unfold CPow; decide
  generalize ea : (if 1000000000000000000 ≤ a then a else 0) = a'
  have pk : ∀ S, oIx (.d (.lst [.int 0, .int a])) (.d (.int (if 1000000000000000000 ≤ a then 1 else 0))) S = .ok (.d (.int a')) S := by
    intro S
    have := pick2 (.int 0) (.int a) (decide (1000000000000000000 ≤ a)) S
    by_cases h : 1000000000000000000 ≤ a <;> simp [h] at this ea ⊢ <;> rw [this, ea]
  generalize eb : a % 2147483647 = b
  have p1 := c_put (ρ := [some (.c k), some (.d (.int m)), some (.d (.int a)), none, none]) (fo := fVar 0) (fi := fK (.d (.int 0))) (fe := (fOp oIx (fApp (mkL false) (aCons (fK (.d (.int 0))) (aCons (fVar 2) aNil))) (fApp aInt (aCons (fOp oGe (fVar 2) (fOp oPow (fK (.d (.int 10))) (fK (.d (.int 18))))) aNil)))) (z := 0) (j := 0) (d := .int a') h (by simp [cp, pk]) (by simp) (by simp) (by simp [ixN])
  have hs1 : (S.set k (.l [.int a']))[k]? = some (.l [.int a']) := List.getElem?_set_self hk
  have x1 := c_ext (y := .d (.lst [.int b, .int 0])) (ys := [.int b, .int 0]) hs1 rfl (by simp)
  have q1 := c_is hs1
  have hs2 : (S.set k (.l [.int a', .int b, .int 0]))[k]? = some (.l [.int a', .int b, .int 0]) := List.getElem?_set_self hk
  have p1' : sPut (fVar 0) (fK (.d (.int 0))) (fOp oIx (fApp (mkL false) (aCons (fK (.d (.int 0))) (aCons (fVar 2) aNil))) (fApp aInt (aCons (fOp oGe (fVar 2) (fOp oPow (fK (.d (.int 10))) (fK (.d (.int 18))))) aNil))) [some (.c k), some (.d (.int m)), some (.d (.int a)), none, none] S = .nx [some (.c k), some (.d (.int m)), some (.d (.int a)), none, none] (S.set k (.l [.int a'])) := p1
  have x1' : mExt (.c k) [.d (.lst [.int b, .int 0])] (S.set k (.l [.int a'])) = .ok (.d .non) (S.set k (.l [.int a', .int b, .int 0])) := by rw [x1]; simp
  by_cases ha : 0 < a'
  · have cd : CDiv a' m := by unfold CDiv; omega
    have p2 := c_put (ρ := [some (.c k), some (.d (.int m)), some (.d (.int a)), some (.d (.int (a' % m))), none]) (fo := fVar 0) (fi := fK (.d (.int 0))) (fe := fOp oDiv (fOp oIx (fVar 0) (fK (.d (.int 0)))) (fVar 1)) (z := 0) (j := 0) (d := .int (a' / m)) hs2 (by simp [ixc0 hs2, cd]) (by simp) (by simp) (by simp [ixN])
    refine ⟨a' % m, [.int (a' / m), .int b, .int 0], ?_, Int.emod_nonneg _ (by omega), Int.emod_lt_of_pos _ hm, .inr ⟨_, _, _, rfl⟩⟩
    simp [FDig, fnF_ap, gDig, -sPut_ap, c_it h, ixc0 h, p1', q1, eb, x1', ixc0 hs2, ha, hm, p2]
  · have c1 : CMul 7919 1 := .inl (by constructor <;> decide)
    have c2 : CMul (b + 7919 + 1) 48271 := .inr (by constructor <;> decide)
    generalize e1 : (b + 7919 + 1) * 48271 % 2147483647 = n1
    have h1 : 0 ≤ n1 ∧ n1 < 2147483647 := by rw [← e1]; exact ⟨Int.emod_nonneg _ (by decide), Int.emod_lt_of_pos _ (by decide)⟩
    have c3 : CMul n1 (n1 / 1009 + 69621) := .inl (lt64 h1.1 h1.2)
    have d3 : CDiv n1 1009 := by unfold CDiv; omega
    generalize e2 : n1 * (n1 / 1009 + 69621) % 2147483647 = n2
    have h2 : 0 ≤ n2 ∧ n2 < 2147483647 := by rw [← e2]; exact ⟨Int.emod_nonneg _ (by decide), Int.emod_lt_of_pos _ (by decide)⟩
    have c4 : CMul n2 (n2 / 2003 + 40692) := .inl (lt64 h2.1 h2.2)
    have d4 : CDiv n2 2003 := by unfold CDiv; omega
    have hs3 : (S.set k (.l [.int a', .int b, .int 1]))[k]? = some (.l [.int a', .int b, .int 1]) := List.getElem?_set_self hk
    have p2 := c_put (ρ := [some (.c k), some (.d (.int m)), some (.d (.int a)), none, none]) (fo := fVar 0) (fi := fK (.d (.int 2))) (fe := fOp oAdd (fOp oIx (fVar 0) (fK (.d (.int 2)))) (fK (.d (.int 1)))) (z := 2) (j := 2) (d := .int 1) hs2 (by simp [ixc2 hs2]) (by simp) (by simp) (by simp [ixN])
    have p2' : sPut (fVar 0) (fK (.d (.int 2))) (fOp oAdd (fOp oIx (fVar 0) (fK (.d (.int 2)))) (fK (.d (.int 1)))) [some (.c k), some (.d (.int m)), some (.d (.int a)), none, none] (S.set k (.l [.int a', .int b, .int 0])) = .nx [some (.c k), some (.d (.int m)), some (.d (.int a)), none, none] (S.set k (.l [.int a', .int b, .int 1])) := by rw [p2]; simp
    refine ⟨n2 * (n2 / 2003 + 40692) % 2147483399 % m, [.int a', .int b, .int 1], ?_, Int.emod_nonneg _ (by omega), Int.emod_lt_of_pos _ hm, .inr ⟨_, _, _, rfl⟩⟩
    simp [FDig, fnF_ap, gDig, -sPut_ap, c_it h, ixc0 h, p1', q1, eb, x1', ixc0 hs2, ha, hm, p2', ixc1 hs3, ixc2 hs3, c1, c2, e1, c3, d3, e2, c4, d4]
theorem e_dig {m : Int} (h : wellAt S k) (hm : 0 < m) (hm2 : m ≤ 1000000000) : (FDig [.c k, .d (.int m)] S).wp (fun w S' => ∃ (v : Int) (ds' : List D), w = .d (.int v) ∧ 0 ≤ v ∧ v < m ∧ stOk ds' ∧ S' = S.set k (.l ds')) noX := by
  obtain ⟨ds, h, ⟨a, rfl⟩ | ⟨a, b, c, rfl⟩⟩ := h
  · obtain ⟨v, ds', e, h0, h1, h2⟩ := dig1 h hm hm2
    rw [e]
    exact ⟨v, ds', rfl, h0, h1, h2, rfl⟩
  · obtain ⟨v, ds', e, h0, h1, h2⟩ := dig3 h hm hm2
    rw [e]
    exact ⟨v, ds', rfl, h0, h1, h2, rfl⟩
end
theorem wellAt.set {S : Store} {k : Nat} {ds : List D} (h : wellAt S k) (hd : stOk ds) : wellAt (S.set k (.l ds)) k := by
  obtain ⟨_, h, _⟩ := h
  exact ⟨ds, List.getElem?_set_self (c_lt h), hd⟩
theorem wellAt.lt {S : Store} {k : Nat} (h : wellAt S k) : k < S.length := by
  obtain ⟨_, h, _⟩ := h
  exact c_lt h
end As
namespace As
open PySem PySem.Spec PyProof.Rows L2
theorem lowS_app (n : Nat) (S T : List Cell) : lowS n (S ++ T) = (lowS n S && lowS n T) := by
  induction S with
  | nil => simp [lowS]
  | cons c S ih => rw [List.cons_append, lowS, lowS, ih, Bool.and_assoc]
theorem lowS_set {n : Nat} {S : List Cell} {k : Nat} {ds : List D} (h : lowS n S = true) : lowS n (S.set k (.l ds)) = true := by
  induction S generalizing k with
  | nil => exact h
  | cons c S ih =>
    rw [lowS, Bool.and_eq_true] at h
    cases k with
    | zero => rw [List.set_cons_zero, lowS, Bool.and_eq_true]; exact ⟨rfl, h.2⟩
    | succ k => rw [List.set_cons_succ, lowS, Bool.and_eq_true]; exact ⟨h.1, ih h.2⟩
section
variable {S : Store} {k : Nat}
theorem set_app (hk : k < S.length) (ds ds' : List D) (Z : Store) : (S.set k (.l ds) ++ Z).set k (.l ds') = S.set k (.l ds') ++ Z := by
  rw [List.set_append_left _ _ (by rw [List.length_set]; exact hk), List.set_set]
theorem get_app (hk : k < S.length) (ds : List D) (Z : Store) : (S.set k (.l ds) ++ Z)[k]? = some (.l ds) := by
  rw [List.getElem?_append_left (by rw [List.length_set]; exact hk), List.getElem?_set_self hk]
theorem get_top (ds es : List D) (Z : Store) : (S.set k (.l ds) ++ .l es :: Z)[S.length]? = some (.l es) := by
  rw [List.getElem?_append_right (by rw [List.length_set]; exact Nat.le_refl _), List.length_set, Nat.sub_self]
  rfl
theorem set_top (ds es fs : List D) (Z : Store) : (S.set k (.l ds) ++ .l es :: Z).set S.length (.l fs) = S.set k (.l ds) ++ .l fs :: Z := by
  rw [List.set_append_right _ _ (by rw [List.length_set]; exact Nat.le_refl _), List.length_set, Nat.sub_self]
  rfl
/-- a draw where the well was drawn from already -/
theorem dig_app {ds : List D} {m : Int} {Z : Store} (hk : k < S.length) (h : stOk ds) (hm : 0 < m) (hm2 : m ≤ 1000000000) : (FDig [.c k, .d (.int m)] (S.set k (.l ds) ++ Z)).wp (fun w S' => ∃ (v : Int) (ds' : List D), w = .d (.int v) ∧ 0 ≤ v ∧ v < m ∧ stOk ds' ∧ S' = S.set k (.l ds') ++ Z) noX :=
  (e_dig ⟨ds, get_app hk ds Z, h⟩ hm hm2).mono (fun w S' ⟨v, ds', e, h0, h1, h2, e2⟩ => ⟨v, ds', e, h0, h1, h2, by rw [e2, set_app hk]⟩) fun _ _ h => h
/-- the well as it stands -/
theorem well_set (h : wellAt S k) : ∃ ds, stOk ds ∧ S = S.set k (.l ds) ++ [] := by
  obtain ⟨ds, h, s⟩ := h
  refine ⟨ds, s, ?_⟩
  rw [List.append_nil]
  refine List.ext_getElem? fun i => ?_
  rw [List.getElem?_set]
  by_cases e : k = i
  · subst e
    rw [if_pos rfl, if_pos (c_lt h)]
    exact h
  · rw [if_neg e]
end
end As
namespace As
open PySem PySem.Spec PyProof.Rows L2
mutual
theorem low_mono {n m : Nat} (h : n ≤ m) : ∀ w : W, w.low n = true → w.low m = true
  | .d _, _ => rfl
  | .c k, q => by
    have : k < n := of_decide_eq_true q
    exact decide_eq_true (by omega)
  | .t ws, q => lowAll_mono h ws q
  | .g _, _ => rfl
  | .j, _ => rfl
  | .s _, _ => rfl
theorem lowAll_mono {n m : Nat} (h : n ≤ m) : ∀ ws : List W, lowAll n ws = true → lowAll m ws = true
  | [], _ => rfl
  | w :: ws, q => by
    rw [lowAll, Bool.and_eq_true] at q ⊢
    exact ⟨low_mono h w q.1, lowAll_mono h ws q.2⟩
end
theorem lowK_mono {κ : Type} {n m : Nat} (h : n ≤ m) : ∀ ws : List (κ × W), lowK n ws = true → lowK m ws = true
  | [], _ => rfl
  | w :: ws, q => by
    rw [lowK, Bool.and_eq_true] at q ⊢
    exact ⟨low_mono h _ q.1, lowK_mono h ws q.2⟩
theorem lowS_mono {n m : Nat} (h : n ≤ m) : ∀ S : List Cell, lowS n S = true → lowS m S = true
  | [], _ => rfl
  | c :: S, q => by
    rw [lowS, Bool.and_eq_true] at q ⊢
    refine ⟨?_, lowS_mono h S q.2⟩
    cases c with
    | l _ => rfl
    | w ws => exact lowAll_mono h _ q.1
    | dk _ => exact lowK_mono h _ q.1
    | dt _ => exact lowK_mono h _ q.1
    | ins _ _ => exact lowK_mono h _ q.1
end As

namespace As
open PySem PySem.Spec PyProof.Rows L2
theorem e_lplaces {ds : List D} (hl : ds.length ≤ 1000) (h : ∀ d ∈ ds, dealB d = true) (S : Store) (hS : lowS S.length S = true) : FLPlaces [.d (.lst ds)] S = .ok (.d (.lst (plcD ds))) S := by
  refine Rs.wp_eq (fn_wpt rfl (seq_wp ?_))
  simp [-sSeq_ap, -sFor_ap]
  refine seq_wp ?_
  simp [-sSeq_ap]
  refine forE_wp (ds := ds) (fun k ρ T => ρ.length = 6 ∧ sl ρ 1 = some (.c S.length) ∧ T = S ++ [.l (plcL (ds.zipIdx.take k))]) ⟨rfl, rfl, by simp [plcL]⟩ (fun _ _ _ _ => trivial) (fun k d ρ T hd I => ?_) fun ρ T I => ?_
  · obtain ⟨hρ, h1, hT⟩ := I
    obtain ⟨ss, rfl, _, h8, hss, _⟩ := dealB_eq (h d (List.mem_of_getElem? hd))
    have hp8 : (plcL (ds.zipIdx.take k)).length ≤ 8 * 1000 := by
      have := plcL_len (l := ds.zipIdx.take k) fun p hp => zip_deal h p (List.mem_of_mem_take hp)
      rw [List.length_take, List.length_zipIdx] at this
      omega
    have tk0 : plcL (ds.zipIdx.take (k + 1)) = plcL (ds.zipIdx.take k) ++ wI k ss ss.zipIdx := by
      rw [take_succ_get (zipIdx_get hd), plcL_snoc]
      rfl
    rw [tk0]
    generalize plcL (ds.zipIdx.take k) = A at *
    simp [sl_set, hρ]
    refine forE_wp (ds := ss) (fun j ρ T => ρ.length = 6 ∧ sl ρ 1 = some (.c S.length) ∧ sl ρ 2 = some (.d (.int k)) ∧ sl ρ 3 = some (.d (.tup ss)) ∧ T = S ++ [.l (A ++ wI k ss (ss.zipIdx.take j))]) ⟨by simp [hρ], by simp [sl_set, h1], by simp [sl_set, hρ], by simp [sl_set, hρ], by rw [hT]; simp [wI]⟩ (fun _ _ _ _ => trivial) (fun j s ρ T hs I => ?_) fun ρ T I => ?_
    · obtain ⟨hρ, h1, h2, h3, hT⟩ := I
      have hst := hss s (List.mem_of_getElem? hs)
      have a1 := in_steps (n := true) (bxOf_ok hst) hss T
      have hj : j < ss.length := (List.getElem?_eq_some_iff.mp hs).1
      have hw : (wI k ss (ss.zipIdx.take j)).length ≤ 8 := by
        have := wI_len k ss (ss.zipIdx.take j)
        rw [List.length_take, List.length_zipIdx] at this
        omega
      rw [take_succ_get (zipIdx_get hs), wI_snoc]
      generalize wI k ss (ss.zipIdx.take j) = B at *
      have hc : T[S.length]? = some (.l (A ++ B)) := by rw [hT]; simp
      have a2 := c_app hc (by rw [List.length_append]; omega) (plT k j)
      have a3 := c_is hc
      have eT : T.set S.length (.l (A ++ B ++ [plT k j])) = S ++ [.l (A ++ (B ++ [plT k j]))] := by rw [hT]; simp
      rw [eT] at a2
      have a2' : mApp (.c S.length) [.d (.tup [.int (k : Int), .int (j : Int)])] T = _ := a2
      have a1' : kIn true (.tup [.str "write", bxOf s]) (.tup ss) T = _ := a1
      have e1 := ix1s hst T
      have e0 : oIx (.d s) (.d (.int 0)) T = .ok (.d (if isRd s = true then .str "read" else .str "write")) T := by
        obtain ⟨i, _, _, rfl | rfl⟩ := stepB_eq hst <;> simp [rdS, wrS, isRd, eqS, w_ne_r]
      cases hr : isRd s with
      | false =>
        rw [hr] at e0
        simp [sl_set, hρ, h1, h2, h3, e0, w_ne_r]
        exact hT
      | true =>
        rw [hr] at e0
        cases hi : inB (wrS (bxOf s)) ss with
        | true =>
          rw [hi] at a1'
          simp [sl_set, hρ, h1, h2, h3, e0, e1, -kIn_t, a1']
          exact hT
        | false =>
          rw [hi] at a1'
          simp [sl_set, hρ, h1, h2, h3, e0, e1, -kIn_t, a1', a3, a2']
    · obtain ⟨hρ, h1, h2, h3, hT⟩ := I
      rw [List.take_of_length_le (l := ss.zipIdx) (by rw [List.length_zipIdx]; exact Nat.le_refl _)] at hT
      exact ⟨hρ, h1, hT⟩
  · obtain ⟨hρ, h1, hT⟩ := I
    rw [List.take_of_length_le (by rw [List.length_zipIdx]; exact Nat.le_refl _)] at hT
    simp [h1]
    have hc : T[S.length]? = some (.l (plcD ds)) := by rw [hT]; simp [plcD]
    exact cut_wp (cutW_c hc (Nat.le_refl _)) (by rw [hT]; simpa using hS) ⟨rfl, by rw [hT]; simp⟩
/-- the law's own test of a pair -/
def pairB (P : List D) (d : D) : Bool := match d with
  | .tup [a, b] => wholeD a && wholeD b && inB d P
  | _ => false
theorem lw {d : D} (S : Store) (ρ : Env) (h : sl ρ 2 = some (.d d)) : (tOrF (tNotF (fB (fApp aIsi (aCons (fVar 2) (aCons (fK (.g (.ty "int"))) aNil))))) (fB (fApp aIsi (aCons (fVar 2) (aCons (fK (.g (.ty "bool"))) aNil))))) ρ S = .ok (!wholeD d) S := by
  cases d <;> simp [h, wholeD, isInt, isBool]
theorem e_isPair (d : D) {P : List D} (hP : ∀ p ∈ P, isWt p = true) (S : Store) : FLIsPair [.d d, .d (.lst P)] S = .ok (.d (.bl (pairB P d))) S := by
  simp [FLIsPair, fnF_ap, gLIsPair, -fLc_ap]
  cases d with
  | tup ds =>
    match ds with
    | [] => simp [pairB, isTup, -fLc_ap]
    | [a] => simp [pairB, isTup, -fLc_ap]
    | [a, b] =>
      have a1 : fLc false (iTupF (fVar 0)) (.n 2) (tOrF (tNotF (fB (fApp aIsi (aCons (fVar 2) (aCons (fK (.g (.ty "int"))) aNil))))) (fB (fApp aIsi (aCons (fVar 2) (aCons (fK (.g (.ty "bool"))) aNil))))) (fVar 2) [2] [some (.d (.tup [a, b])), some (.d (.lst P)), none] S = .ok (.d (.lst ([a, b].filter fun d => !wholeD d))) S := by
        have := lc_filter (b := false) (fi := iTupF (fVar 0)) (i := 2) (t := (tOrF (tNotF (fB (fApp aIsi (aCons (fVar 2) (aCons (fK (.g (.ty "int"))) aNil))))) (fB (fApp aIsi (aCons (fVar 2) (aCons (fK (.g (.ty "bool"))) aNil)))))) (fe := fVar 2) (vs := [2]) (ρ := [some (.d (.tup [a, b])), some (.d (.lst P)), none]) (S := S) (S1 := S) (ds := [a, b]) (g := fun _ => True) (q := fun d => !wholeD d) (f := fun d => d) (by simp) (by simp) trivial (fun d _ => lw S _ (by simp)) fun d _ _ => by simp
        rw [this, List.map_id']
        rfl
      cases ha : wholeD a with
      | false => simp [pairB, isTup, -fLc_ap, a1, ha]
      | true =>
        cases hb : wholeD b with
        | false => simp [pairB, isTup, -fLc_ap, a1, ha, hb]
        | true =>
          obtain ⟨i, rfl⟩ := wholeD_eq ha
          obtain ⟨j, rfl⟩ := wholeD_eq hb
          have o := kInO_ok (n := false) (S := S) (ds := P) (okK_D (okK_tupI [i, j]) (by decide)) (okPs hP)
          have o' : kInO false (.tup [.int i, .int j]) (.lst P) P S = _ := o
          simp [pairB, isTup, -fLc_ap, a1, o']
          rfl
    | a :: b :: c :: ds =>
      have h : ¬ ((ds.length : Int) + 1 + 1 + 1 = 2) := by omega
      simp [pairB, isTup, -fLc_ap, h]
  | _ => simp [pairB, isTup, -fLc_ap]
theorem pairB_plB {ds : List D} (d : D) : pairB (plcD ds) d = plB (plcD ds) d := by
  unfold plB
  cases hw : isWt d with
  | false =>
    cases d with
    | tup zs =>
      match zs with
      | [] => cases hw
      | [a] => rfl
      | [a, b] =>
        have : (wholeD a && (wholeD b && true)) = false := hw
        rw [Bool.and_true] at this
        simp [pairB, this]
      | _ :: _ :: _ :: _ => rfl
    | _ => rfl
  | true =>
    obtain ⟨is, rfl⟩ := isWt_eq hw
    rw [Bool.true_and]
    match is with
    | [i, j] => rfl
    | [] =>
      show false = _
      symm
      rw [Bool.eq_false_iff]
      intro z
      obtain ⟨n, k, e⟩ := plcD_wt ds _ ((inB_tupI (plcD_isWt ds)).mp z)
      have := tupI_inj (e.trans (plT_I n k))
      cases this
    | [i] =>
      show false = _
      symm
      rw [Bool.eq_false_iff]
      intro z
      obtain ⟨n, k, e⟩ := plcD_wt ds _ ((inB_tupI (plcD_isWt ds)).mp z)
      have := tupI_inj (e.trans (plT_I n k))
      cases this
    | i :: j :: l :: is =>
      show false = _
      symm
      rw [Bool.eq_false_iff]
      intro z
      obtain ⟨n, k, e⟩ := plcD_wt ds _ ((inB_tupI (plcD_isWt ds)).mp z)
      have := tupI_inj (e.trans (plT_I n k))
      cases this
/-! what the law tells is what the program tells -/
def dupB (xs : List D) : Bool := xs.any fun d => decide (1 < xs.countP fun z => eqB z d)
theorem goP_iff (P : List D) (hP : ∀ p ∈ P, isWt p = true) : ∀ (xs : List D) (met : List (List Key)), goP P met xs = true ↔ (∀ x ∈ xs, plB P x = true) ∧ (xs.map ksOf).Nodup ∧ ∀ x ∈ xs, ksOf x ∉ met
  | [], met => by simp [goP]
  | x :: xs, met => by
    rw [goP]
    by_cases hw : isWt x = true
    · by_cases hi : inB x P = true
      · by_cases hm : memK (ksOf x) met = true
        · have hm' := memK_iff.mp hm
          simp only [hw, hi, hm, if_true]
          constructor
          · intro z
            cases z
          · rintro ⟨_, _, z⟩
            exact absurd hm' (z x (List.mem_cons_self ..))
        · have hm' : ksOf x ∉ met := fun z => hm (memK_iff.mpr z)
          simp only [hw, hi, hm, if_true, Bool.false_eq_true, if_false]
          rw [goP_iff P hP xs]
          simp only [List.mem_cons, List.map_cons, List.nodup_cons, List.mem_append, List.not_mem_nil, or_false, forall_eq_or_imp, List.mem_map, not_exists, not_and, not_or]
          constructor
          · rintro ⟨a, b, c⟩
            exact ⟨⟨by simp [plB, hw, hi], a⟩, ⟨fun y hy e => (c y hy).2 e, b⟩, hm', fun y hy => (c y hy).1⟩
          · rintro ⟨⟨_, a⟩, ⟨b1, b⟩, _, c⟩
            exact ⟨a, b, fun y hy => ⟨c y hy, fun e => b1 y hy e⟩⟩
      · simp only [hw, hi, if_true, Bool.false_eq_true, if_false]
        constructor
        · intro z
          cases z
        · rintro ⟨z, _⟩
          have := z x (List.mem_cons_self ..)
          simp [plB, hi] at this
    · simp only [hw, Bool.false_eq_true, if_false]
      constructor
      · intro z
        cases z
      · rintro ⟨z, _⟩
        have := z x (List.mem_cons_self ..)
        simp [plB, hw] at this
theorem ks_inj {a b : D} (ha : isWt a = true) (hb : isWt b = true) (h : ksOf a = ksOf b) : a = b := by
  obtain ⟨is, rfl⟩ := isWt_eq ha
  obtain ⟨js, rfl⟩ := isWt_eq hb
  rw [ksOf_tupI, ksOf_tupI] at h
  have : is = js := by
    induction is generalizing js with
    | nil => cases js with
      | nil => rfl
      | cons j js => cases h
    | cons i is ih => cases js with
      | nil => cases h
      | cons j js =>
        rw [List.map_cons, List.map_cons] at h
        injection h with h1 h2
        injection h1 with h1
        rw [h1, ih (isWt_tupI _) js (isWt_tupI _) h2]
  rw [this]
theorem count_le {α : Type} (p : α → Bool) (a : α) (l : List α) : l.countP p ≤ (a :: l).countP p := by
  rw [List.countP_cons]
  omega
theorem dup_iff : ∀ (xs : List D), (∀ x ∈ xs, isWt x = true) → (dupB xs = false ↔ (xs.map ksOf).Nodup)
  | xs, h => by
    unfold dupB
    rw [Bool.eq_false_iff, ne_eq, List.any_eq_true]
    have eqw : ∀ a b, isWt a = true → isWt b = true → (eqB a b = true ↔ ksOf a = ksOf b) := by
      intro a b ha hb
      obtain ⟨is, rfl⟩ := isWt_eq ha
      obtain ⟨js, rfl⟩ := isWt_eq hb
      rw [eqB_tupI, decide_eq_true_eq]
      constructor
      · rintro rfl
        rfl
      · exact fun e => tupI_inj (ks_inj ha hb e)
    have cnt : ∀ d ∈ xs, (xs.countP fun z => eqB z d) = (xs.map ksOf).countP fun k => decide (k = ksOf d) := by
      intro d hd
      rw [List.countP_map]
      refine List.countP_congr fun z hz => ?_
      show eqB z d = true ↔ decide (ksOf z = ksOf d) = true
      rw [decide_eq_true_eq]
      exact eqw z d (h z hz) (h d hd)
    have key : ∀ (ks : List (List Key)), ks.Nodup ↔ ∀ k ∈ ks, ks.countP (fun x => decide (x = k)) ≤ 1 := by
      intro ks
      induction ks with
      | nil => simp
      | cons k ks ih =>
        rw [List.nodup_cons]
        constructor
        · rintro ⟨a, b⟩ x hx
          rw [List.countP_cons]
          rcases List.mem_cons.mp hx with rfl | hx
          · have : ks.countP (fun y => decide (y = x)) = 0 := by
              rw [List.countP_eq_zero]
              intro y hy
              rw [decide_eq_true_eq]
              rintro rfl
              exact a hy
            rw [this]
            simp
          · have n : ¬ (k = x) := by
              rintro rfl
              exact a hx
            have := ih.mp b x hx
            simp [n]
            exact this
        · intro z
          have z0 := z k (List.mem_cons_self ..)
          rw [List.countP_cons] at z0
          refine ⟨fun hk => ?_, ih.mpr fun x hx => Nat.le_trans (count_le _ _ _) (z x (List.mem_cons_of_mem _ hx))⟩
          have : 0 < ks.countP (fun y => decide (y = k)) := List.countP_pos_iff.mpr ⟨k, hk, by simp⟩
          rw [show decide (k = k) = true from decide_eq_true rfl, if_pos rfl] at z0
          omega
    rw [key]
    constructor
    · intro z k hk
      obtain ⟨d, hd, rfl⟩ := List.mem_map.mp hk
      rw [← cnt d hd]
      by_cases hc : (xs.countP fun z => eqB z d) ≤ 1
      · exact hc
      · exact absurd ⟨d, hd, decide_eq_true (by omega)⟩ z
    · rintro z ⟨d, hd, e⟩
      have e' := of_decide_eq_true e
      have := z (ksOf d) (List.mem_map_of_mem hd)
      rw [← cnt d hd] at this
      omega
theorem arePl_eq {ds xs : List D} : arePl (plcD ds) (.lst xs) = (xs.all (pairB (plcD ds)) && !dupB xs) := by
  have e : arePl (plcD ds) (.lst xs) = goP (plcD ds) [] xs := rfl
  rw [e, Bool.eq_iff_iff, goP_iff _ (plcD_isWt ds), Bool.and_eq_true, List.all_eq_true]
  have e2 : pairB (plcD ds) = plB (plcD ds) := funext fun d => pairB_plB d
  rw [e2, Bool.not_eq_true']
  constructor
  · rintro ⟨a, b, _⟩
    exact ⟨a, (dup_iff xs fun x hx => by have := a x hx; unfold plB at this; rw [Bool.and_eq_true] at this; exact this.1).mpr b⟩
  · rintro ⟨a, b⟩
    exact ⟨a, (dup_iff xs fun x hx => by have := a x hx; unfold plB at this; rw [Bool.and_eq_true] at this; exact this.1).mp b, fun _ _ => List.not_mem_nil⟩
end As

namespace As
open PySem PySem.Spec PyProof.Rows L2
def w1 (z : Str) : D := .tup [.str z]
def dueD (ds : List D) (x : D) : D := match x with
  | .lst xs => if arePl (plcD ds) (.lst xs) = true then (if roomB (widL xs ds) = true then .tup [.str "told", .lst (widL xs ds)] else w1 "room") else w1 "places"
  | _ => w1 "places"
theorem filt_all (xs : List D) (q : D → Bool) : (xs.filter fun d => !q d).isEmpty = xs.all q := by
  induction xs with
  | nil => rfl
  | cons x xs ih =>
    rw [List.filter_cons, List.all_cons]
    cases h : q x
    · simp
    · simp [ih]
theorem filt_any (xs : List D) (q : D → Bool) : (xs.filter q).isEmpty = !xs.any q := by
  induction xs with
  | nil => rfl
  | cons x xs ih =>
    rw [List.filter_cons, List.any_cons]
    cases h : q x
    · simp [ih]
    · simp
theorem filt_ne (xs : List D) (S : Store) : kEq true (.lst xs) (.lst []) S = .ok (.d (.bl (!xs.isEmpty))) S := rfl
noncomputable def bDue : Sm := (sSeq (sSet 6 (fApp (mkL true) aNil))
      (sSeq (sFor (iEnumT (aCons (fVar 5) aNil)) (.t [.n 7, .n 8])
      (sSeq (sExpr (fMt (fun x S => isCl x S = true) mApp (fVar 6) (aCons (fVar 8) aNil)))
        (sIf (fB (fOp oIn (fApp mkT (aCons (fVar 4) (aCons (fVar 7) aNil))) (fVar 1)))
        (sExpr (fMt (fun x S => isCl x S = true) mApp (fVar 6) (aCons (fApp mkT (aCons (fK (.d (.str "write"))) (aCons (fOp oIx (fVar 8) (fK (.d (.int 1)))) aNil))) aNil))) sNil)))
      (sExpr (fMt (fun x S => isCl x S = true) mApp (fVar 3) (aCons (fApp aTuple (aCons (fVar 6) aNil)) aNil)))))
/-- one dealing, widened by the law -/
theorem e_due1 {S T : Store} {k : Nat} {d : D} {ps A : List D} {J : List Cell} {ρ : Env} {Z : Po} (hd : dealB d = true) (hp : ∀ d ∈ ps, isWt d = true) (hA : A.length ≤ 1000) (hT : T = S ++ .l A :: J) (hρ : ρ.length = 10) (h1 : sl ρ 1 = some (.d (.lst ps))) (h3 : sl ρ 3 = some (.c S.length)) (h4 : sl ρ 4 = some (.d (.int k))) (h5 : sl ρ 5 = some (.d d))
    (hz : ∀ ρ' J', ρ'.length = 10 → sl ρ' 1 = some (.d (.lst ps)) → sl ρ' 3 = some (.c S.length) → Z.nx ρ' (S ++ .l (A ++ [wdD k d ps]) :: J')) : (bDue ρ T).wp Z := by
  obtain ⟨ss, rfl, _, h8, hss, _⟩ := dealB_eq hd
  unfold bDue
  have hN : T.length = S.length + 1 + J.length := by rw [hT]; simp; omega
  refine seq_wp ?_
  simp [-sSeq_ap, -sFor_ap]
  refine seq_wp ?_
  simp [-sSeq_ap, sl_set, h5]
  refine forE_wp (ds := ss) (fun j ρ U => ρ.length = 10 ∧ sl ρ 1 = some (.d (.lst ps)) ∧ sl ρ 3 = some (.c S.length) ∧ sl ρ 4 = some (.d (.int k)) ∧ sl ρ 6 = some (.c T.length) ∧ U = T ++ [.l (wdS k ps (ss.zipIdx.take j))]) ⟨by simp [hρ], by simp [sl_set, h1], by simp [sl_set, h3], by simp [sl_set, h4], by simp [sl_set, hρ], by simp [wdS]⟩ (fun _ _ _ _ => trivial) (fun j s ρ U hs I => ?_) fun ρ U I => ?_
  · obtain ⟨hρ, h1, h3, h4, h6, hU⟩ := I
    have hst := hss s (List.mem_of_getElem? hs)
    have hk : j < ss.length := (List.getElem?_eq_some_iff.mp hs).1
    have hw : (wdS k ps (ss.zipIdx.take j)).length ≤ 16 := by
      have := wdS_len k ps (ss.zipIdx.take j)
      rw [List.length_take, List.length_zipIdx] at this
      omega
    rw [take_succ_get (zipIdx_get hs), wdS_snoc]
    generalize wdS k ps (ss.zipIdx.take j) = B at *
    have hc : U[T.length]? = some (.l B) := by rw [hU]; simp
    have a1 := c_is hc
    have a2 := c_app hc (by omega) s
    have eU1 : U.set T.length (.l (B ++ [s])) = T ++ [.l (B ++ [s])] := by rw [hU]; simp
    rw [eU1] at a2
    have hc1 : (T ++ [Cell.l (B ++ [s])])[T.length]? = some (.l (B ++ [s])) := by simp
    have a3 := c_is hc1
    have a4 := c_app hc1 (by rw [List.length_append]; simp; omega) (wrS (bxOf s))
    have a4' : mApp (.c T.length) [.d (wrS (bxOf s))] (T ++ [Cell.l (B ++ [s])]) = .ok (.d .non) (T ++ [.l (B ++ [s, wrS (bxOf s)])]) := by rw [a4]; simp
    refine seq_wp ?_
    simp [-sSeq_ap, sl_set, hρ, h6, a1, a2]
    generalize hU1 : T ++ [Cell.l (B ++ [s])] = U1 at *
    have b1 := in_ps (n := k) (k := j) hp U1
    have e7 : mkT [.d (.int (k : Int)), .d (.int (j : Int))] U1 = .ok (.d (.tup [.int k, .int j])) U1 := mkT2 _ _ _
    cases hi : inB (plT k j) ps with
    | false =>
      rw [hi] at b1
      simp [-sSeq_ap, -kIn_l, -mkT2, sl_set, hρ, h1, h3, h4, h6, b1, e7, hU1]
    | true =>
      rw [hi] at b1
      have e5 := ix1s hst U1
      have e6 : mkT [.d (.str "write"), .d (bxOf s)] U1 = .ok (.d (wrS (bxOf s))) U1 := mkT2 _ _ _
      simp [-sSeq_ap, -kIn_l, -mkT2, sl_set, hρ, h1, h3, h4, h6, b1, a3, e5, e6, e7, a4']
  · obtain ⟨hρ, h1, h3, h4, h6, hU⟩ := I
    rw [List.take_of_length_le (l := ss.zipIdx) (by rw [List.length_zipIdx]; exact Nat.le_refl _)] at hU
    have hc : U[T.length]? = some (.l (wdS k ps ss.zipIdx)) := by rw [hU]; simp
    have a1 : aTuple [.c T.length] U = .ok (.d (wdD k (.tup ss) ps)) U := by simp [aTuple, c_it hc, wdD, stepsOf]
    have hc3 : U[S.length]? = some (.l A) := by rw [hU, hT]; simp
    have a2 := c_is hc3
    have a3 := c_app hc3 (by omega) (wdD k (.tup ss) ps)
    have eU : U.set S.length (.l (A ++ [wdD k (.tup ss) ps])) = S ++ .l (A ++ [wdD k (.tup ss) ps]) :: (J ++ [.l (wdS k ps ss.zipIdx)]) := by rw [hU, hT]; simp
    rw [eU] at a3
    simp [h3, h6, a1, a2, a3]
    exact hz ρ _ hρ h1 h3
theorem e_due {ds : List D} (hl : ds.length ≤ 1000) (h : ∀ d ∈ ds, dealB d = true) (x : D) (hx : ∀ xs, x = .lst xs → xs.length ≤ 90000) (S : Store) (hS : lowS S.length S = true) : FLDue [.d (.lst ds), .d x, .d (.lst (plcD ds))] S = .ok (.d (dueD ds x)) S := by
  have fin0 : ∀ e : D, (cutR true S.length (.d e) S).wp (fun c T' => c = .d e ∧ T' = S) noX := fun e => cut_wp rfl (by simpa using hS) ⟨rfl, by simp⟩
  refine Rs.wp_eq (fn_wpt rfl (seq_wp ?_))
  cases x with
  | lst xs =>
    have hxl := hx xs rfl
    have a1 : fLc false (iList (fVar 1)) (.n 9) (tNotF (fB (fApp FLIsPair (aCons (fVar 9) (aCons (fVar 2) aNil))))) (fVar 9) [9] [some (.d (.lst ds)), some (.d (.lst xs)), some (.d (.lst (plcD ds))), none, none, none, none, none, none, none] S = .ok (.d (.lst (xs.filter fun d => !pairB (plcD ds) d))) S := by
      have := lc_filter (b := false) (fi := iList (fVar 1)) (i := 9) (t := tNotF (fB (fApp FLIsPair (aCons (fVar 9) (aCons (fVar 2) aNil))))) (fe := fVar 9) (vs := [9]) (ρ := [some (.d (.lst ds)), some (.d (.lst xs)), some (.d (.lst (plcD ds))), none, none, none, none, none, none, none]) (S := S) (S1 := S) (ds := xs) (g := fun _ => True) (q := fun d => !pairB (plcD ds) d) (f := fun d => d) (by simp) (by omega) trivial (fun d _ => by simp [e_isPair d (plcD_isWt ds)]) fun d _ _ => by simp
      rw [this, List.map_id']
      rfl
    cases hp : xs.all (pairB (plcD ds)) with
    | false =>
      have e1 : dueD ds (.lst xs) = w1 "places" := by simp [dueD, arePl_eq, hp]
      rw [e1]
      simp [isLst, -sSeq_ap, -fLc_ap, a1, filt_all, hp]
      exact fin0 _
    | true =>
      have hwt : ∀ d ∈ xs, isWt d = true := fun d hd => by
        have := List.all_eq_true.mp hp d hd
        rw [pairB_plB] at this
        unfold plB at this
        rw [Bool.and_eq_true] at this
        exact this.1
      have o1 := okPs hwt
      simp [isLst, -sSeq_ap, -fLc_ap, a1, filt_all, hp]
      have a2 : fLc false (iList (fVar 1)) (.n 9) (fB (fOp oGt (fMt (fun x S => isCl x S = true) mCount (fVar 1) (aCons (fVar 9) aNil)) (fK (.d (.int 1))))) (fVar 9) [9] [some (.d (.lst ds)), some (.d (.lst xs)), some (.d (.lst (plcD ds))), none, none, none, none, none, none, none] S = .ok (.d (.lst (xs.filter fun d => decide (1 < xs.countP fun z => eqB z d)))) S := by
        have := lc_filter (b := false) (fi := iList (fVar 1)) (i := 9) (t := (fB (fOp oGt (fMt (fun x S => isCl x S = true) mCount (fVar 1) (aCons (fVar 9) aNil)) (fK (.d (.int 1)))))) (fe := fVar 9) (vs := [9]) (ρ := [some (.d (.lst ds)), some (.d (.lst xs)), some (.d (.lst (plcD ds))), none, none, none, none, none, none, none]) (S := S) (S1 := S) (ds := xs) (g := fun _ => True) (q := fun d => decide (1 < xs.countP fun z => eqB z d)) (f := fun d => d) (by simp) (by omega) trivial (fun d hd => by
          obtain ⟨is, rfl⟩ := isWt_eq (hwt d hd)
          have o2 := okK_D (okK_tupI is) (by decide)
          have e1 : ((1 : Int) < ((xs.countP fun z => eqB z (tupI is) : Nat) : Int)) = (1 < xs.countP fun z => eqB z (tupI is)) := by
            rw [eq_iff_iff]
            omega
          simp [mCount, o1, o2, e1]) fun d _ _ => by simp
        rw [this, List.map_id']
        rfl
      refine seq_wp ?_
      cases hq : dupB xs with
      | true =>
        have hq' : (xs.any fun d => decide (1 < xs.countP fun z => eqB z d)) = true := hq
        have e1 : dueD ds (.lst xs) = w1 "places" := by simp [dueD, arePl_eq, hp, hq]
        rw [e1]
        simp [-sSeq_ap, -fLc_ap, a2, filt_any, hq', -List.any_eq_true]
        exact fin0 _
      | false =>
        have hq' : (xs.any fun d => decide (1 < xs.countP fun z => eqB z d)) = false := hq
        have hap : arePl (plcD ds) (.lst xs) = true := by simp [arePl_eq, hp, hq]
        simp [-sSeq_ap, -fLc_ap, a2, filt_any, hq', -List.any_eq_true, -List.any_eq_false]
        refine seq_wp ?_
        simp [-sSeq_ap, -sFor_ap]
        refine seq_wp ?_
        simp [-sSeq_ap]
        refine forE_wp (ds := ds) (fun k ρ T => ρ.length = 10 ∧ sl ρ 1 = some (.d (.lst xs)) ∧ sl ρ 3 = some (.c S.length) ∧ ∃ J, T = S ++ .l ((ds.zipIdx.take k).map fun p => wdD p.2 p.1 xs) :: J) ⟨rfl, rfl, rfl, [], by simp⟩ (fun _ _ _ _ => trivial) (fun k d ρ T hd I => ?_) fun ρ T I => ?_
        · obtain ⟨hρ, h1, h3, J, hT⟩ := I
          refine e_due1 (k := k) (J := J) (h d (List.mem_of_getElem? hd)) hwt ?_ hT (by simp [hρ]) (by simp [sl_set, h1]) (by simp [sl_set, h3]) (by simp [sl_set, hρ]) (by simp [sl_set, hρ]) fun ρ' J' h' h1' h3' => ⟨h', h1', h3', J', ?_⟩
          · rw [List.length_map, List.length_take, List.length_zipIdx]
            omega
          · rw [take_succ_get (zipIdx_get hd), List.map_append]
            rfl
        · obtain ⟨hρ, h1, h3, J, hT⟩ := I
          have et : ((ds.zipIdx.take ds.length).map fun p => wdD p.2 p.1 xs) = widL xs ds := by
            rw [List.take_of_length_le (by rw [List.length_zipIdx]; exact Nat.le_refl _)]
            rfl
          rw [et] at hT
          have hw : (widL xs ds).length < 100000 := by unfold widL; rw [List.length_map, List.length_zipIdx]; omega
          have hc : T[S.length]? = some (.l (widL xs ds)) := by rw [hT]; simp
          have tk : T.take S.length = S := by rw [hT]; simp
          have a3 : fLc false (iList (fVar 3)) (.n 6) (fB (fOp oGt (fApp aLen (aCons (fVar 6) aNil)) (fK (.d (.int 8))))) (fVar 6) [6] ρ T = .ok (.d (.lst ((widL xs ds).filter fun d => !decide (lenD d ≤ 8)))) T := by
            have := lc_filter (b := false) (fi := iList (fVar 3)) (i := 6) (t := (fB (fOp oGt (fApp aLen (aCons (fVar 6) aNil)) (fK (.d (.int 8)))))) (fe := fVar 6) (vs := [6]) (ρ := ρ) (S := T) (S1 := T) (ds := widL xs ds) (g := fun T => T[S.length]? = some (.l (widL xs ds))) (q := fun d => !decide (lenD d ≤ 8)) (f := fun d => d) (by simp [h3, hc]) hw hc (fun d hd => by
              obtain ⟨p, _, rfl⟩ := List.mem_map.mp hd
              have e1 : ((8 : Int) < ((wdS p.2 xs (stepsOf p.1).zipIdx).length : Int)) ↔ ¬ (lenD (wdD p.2 p.1 xs) ≤ 8) := by
                show _ ↔ ¬ ((wdS p.2 xs (stepsOf p.1).zipIdx).length ≤ 8)
                omega
              have e2 : decide ((8 : Int) < ((wdS p.2 xs (stepsOf p.1).zipIdx).length : Int)) = !decide (lenD (wdD p.2 p.1 xs) ≤ 8) := by
                rw [← decide_not]
                exact decide_eq_decide.mpr e1
              simp only [wdD] at e2
              simp [sl_set, hρ, wdD, e2]) fun d _ _ => by simp [sl_set, hρ]
            rw [this, List.map_id']
            rfl
          refine seq_wp ?_
          have fl : ((widL xs ds).filter fun d => !decide (lenD d ≤ 8)).isEmpty = roomB (widL xs ds) := filt_all _ _
          cases hr : roomB (widL xs ds) with
          | false =>
            have e1 : dueD ds (.lst xs) = w1 "room" := by simp [dueD, hap, hr]
            rw [e1]
            rw [hr] at fl
            simp only [sIf_ap, fB_ap, fOp_ap, a3, fApp_ap, aNil_ap, Rs.bind_ok, mkL0, newL_f, oNe_dd, kEq_nil, fl, if_true, st_wp, Bool.not_false, Rs.wp_ok, sRet_ap, aCons_ap, fK_ap, mkT1, Ou.wp_rt]
            exact cut_wp rfl (by rw [tk]; exact hS) ⟨rfl, tk⟩
          | true =>
            have e1 : dueD ds (.lst xs) = .tup [.str "told", .lst (widL xs ds)] := by simp [dueD, hap, hr]
            rw [e1]
            rw [hr] at fl
            simp only [sIf_ap, fB_ap, fOp_ap, a3, fApp_ap, aNil_ap, Rs.bind_ok, mkL0, newL_f, oNe_dd, kEq_nil, fl, if_true, st_wp, Bool.not_true, Rs.wp_ok, Bool.false_eq_true, if_false, sNil_ap, Ou.wp_nx]
            simp [h3, mkT, unDs]
            exact cut_wp (cutW_tc hc (Nat.le_refl _)) (by rw [tk]; exact hS) ⟨rfl, tk⟩
  | _ =>
    simp [isLst, -sSeq_ap]
    exact fin0 _
end As

/-! how long a value's text gets -/
namespace As
open PySem PySem.Spec PyProof.Rows L2
def shK (n k : Nat) (d : D) : Prop := (pd d).showable = true ∧ (pd d).shown.length ≤ n ∧ (pd d).depth ≤ k
theorem shK.le {n k n' k' : Nat} {d : D} (h : shK n k d) (hn : n ≤ n') (hk : k ≤ k') : shK n' k' d := ⟨h.1, Nat.le_trans h.2.1 hn, Nat.le_trans h.2.2 hk⟩
theorem shK.show {n k : Nat} {d : D} (h : shK n k d) (hn : n ≤ 1000000) (hk : k ≤ 50) : showD d = true := by
  unfold showD
  simp only [Bool.and_eq_true, decide_eq_true_eq]
  exact ⟨⟨h.1, Nat.le_trans h.2.1 hn⟩, Nat.le_trans h.2.2 hk⟩
theorem shK_all {n k : Nat} : ∀ {ds : List D}, (∀ d ∈ ds, shK n k d) → PyData.showableAll (pds ds) = true ∧ ((PyData.shownAll (pds ds)).map (·.length)).sum ≤ ds.length * n ∧ (PyData.shownAll (pds ds)).length = ds.length ∧ PyData.depthAll (pds ds) ≤ k
  | [], _ => by rw [pds]; exact ⟨rfl, Nat.zero_le _, rfl, Nat.zero_le _⟩
  | d :: ds, h => by
    obtain ⟨a, b, c, e⟩ := shK_all fun x hx => h x (List.mem_cons_of_mem _ hx)
    obtain ⟨a1, b1, e1⟩ := h d (List.mem_cons_self ..)
    rw [pds]
    refine ⟨?_, ?_, ?_, ?_⟩
    · simp only [PyData.showableAll, a, a1, Bool.and_self]
    · simp only [PyData.shownAll, List.map_cons, List.sum_cons, List.length_cons, Nat.add_mul, Nat.one_mul]
      omega
    · simp only [PyData.shownAll, List.length_cons, c]
    · simp only [PyData.depthAll]
      omega
theorem shK_tup {n k N : Nat} {ds : List D} (h : ∀ d ∈ ds, shK n k d) (hN : ds.length * n + 2 * ds.length + 3 ≤ N) : shK N (k + 1) (.tup ds) := by
  obtain ⟨a, b, c, e⟩ := shK_all h
  unfold shK
  rw [pd]
  have := tupleText_len_le (PyData.shownAll (pds ds))
  refine ⟨by simpa only [PyData.showable] using a, ?_, ?_⟩
  · simp only [PyData.shown]
    omega
  · have h4 : (PyData.tuple (pds ds)).depth = PyData.depthAll (pds ds) + 1 := by rw [PyData.depth]
    omega
theorem shK_lst {n k N : Nat} {ds : List D} (h : ∀ d ∈ ds, shK n k d) (hN : ds.length * n + 2 * ds.length + 3 ≤ N) : shK N (k + 1) (.lst ds) := by
  obtain ⟨a, b, c, e⟩ := shK_all h
  unfold shK
  rw [pd]
  have := listText_len_le (PyData.shownAll (pds ds))
  refine ⟨by simpa only [PyData.showable] using a, ?_, ?_⟩
  · simp only [PyData.shown]
    omega
  · have h4 : (PyData.list (pds ds)).depth = PyData.depthAll (pds ds) + 1 := by rw [PyData.depth]
    omega
theorem log2_lt {n k : Nat} (h : n < 2 ^ k) (hk : 0 < k) : n.log2 < k := by
  by_cases h0 : n = 0
  · subst h0
    simpa using hk
  · exact (Nat.log2_lt h0).mpr h
theorem shK_int {i : Int} (h : i.natAbs < 10 ^ 12) : shK 13 0 (.int i) := by
  unfold shK
  rw [pd]
  refine ⟨?_, PyData.shown_int_le h, Nat.le_refl _⟩
  simp only [PyData.showable, decide_eq_true_eq]
  have : (10 : Nat) ^ 12 < 2 ^ 40 := by decide
  have := log2_lt (n := i.natAbs) (k := 40) (by omega) (by decide)
  omega
theorem shK_non : shK 4 0 .non := by unfold shK; rw [pd]; exact ⟨rfl, by decide, by decide⟩
theorem shK_bl (b : Bool) : shK 5 0 (.bl b) := by unfold shK; rw [pd]; cases b <;> exact ⟨rfl, by decide, by decide⟩
theorem shK_dct : shK 2 1 .dct := by unfold shK; rw [pd]; exact ⟨rfl, by decide, by decide⟩
theorem shK_s0 : shK 9 0 (.str "") := by unfold shK; rw [pd]; exact ⟨rfl, by decide +kernel, by decide⟩
theorem shK_key : shK 9 0 (.str "key") := by unfold shK; rw [pd]; exact ⟨rfl, by decide +kernel, by decide⟩
theorem shK_box : shK 9 0 (.str "box") := by unfold shK; rw [pd]; exact ⟨rfl, by decide +kernel, by decide⟩
theorem shK_read : shK 9 0 (.str "read") := by unfold shK; rw [pd]; exact ⟨rfl, by decide +kernel, by decide⟩
theorem shK_write : shK 9 0 (.str "write") := by unfold shK; rw [pd]; exact ⟨rfl, by decide +kernel, by decide⟩
theorem shK_program : shK 9 0 (.str "program") := by unfold shK; rw [pd]; exact ⟨rfl, by decide +kernel, by decide⟩
theorem shK_40 : shK 60 0 (.int (10 ^ 40)) := by unfold shK; rw [pd]; exact ⟨by decide +kernel, by decide +kernel, by decide⟩
theorem shK_two {n k N : Nat} {a b : D} (ha : shK n k a) (hb : shK n k b) (hN : 2 * n + 7 ≤ N) : shK N (k + 1) (.tup [a, b]) :=
  shK_tup (fun d hd => by
    simp only [List.mem_cons, List.not_mem_nil, or_false] at hd
    rcases hd with rfl | rfl <;> assumption) (by simp only [List.length_cons, List.length_nil]; omega)
theorem shK_onet {n k N : Nat} {a : D} (ha : shK n k a) (hN : n + 5 ≤ N) : shK N (k + 1) (.tup [a]) :=
  shK_tup (fun d hd => by
    rw [List.mem_singleton.mp hd]
    exact ha) (by simp only [List.length_cons, List.length_nil]; omega)
theorem shK_onel {n k N : Nat} {a : D} (ha : shK n k a) (hN : n + 5 ≤ N) : shK N (k + 1) (.lst [a]) :=
  shK_lst (fun d hd => by
    rw [List.mem_singleton.mp hd]
    exact ha) (by simp only [List.length_cons, List.length_nil]; omega)
@[simp] theorem rep1 {d : D} (S : Store) (h : showD d = true) : aRepr [.d d] S = .ok (.d (.str (pd d).shown)) S := by simp [aRepr, rdW, rdN, h]
theorem rep_of {w : W} {d : D} {S : Store} (hw : rdW S w = some d) (h : showD d = true) : aRepr [w] S = .ok (.d (.str (pd d).shown)) S := by simp [aRepr, hw, h]
end As

namespace As
open PySem PySem.Spec PyProof.Rows L2
theorem cut01 (a : D) : cutD [a] none (some 1) = [a] := cutD_take [a] 1 (by simp)
theorem told_ex {ds x : D} {c z : Str} {S S1 : Store} (h : FWidened [.d ds, .d x] S = .ex ⟨c, none⟩ S1) (hc : (c = "NoDealings" ∧ z = "dealings") ∨ (c = "NoPlaces" ∧ z = "places") ∨ (c = "NoRoom" ∧ z = "room")) : FLTold [.d ds, .d x] S = .ok (.d (w1 z)) S1 := by
  have q : ∀ (c : Str), (c = "NoDealings" ∨ c = "NoPlaces" ∨ c = "NoRoom") → (["NoDealings", "NoPlaces", "NoRoom"] : List Str).contains c = true := by
    rintro c (rfl | rfl | rfl) <;> decide
  have body : (sRet (fApp mkT (aCons (fK (.d (.str "told"))) (aCons (fApp FWidened (aCons (fVar 0) (aCons (fVar 1) aNil))) aNil)))) [some (.d ds), some (.d x), none] S = .ex ⟨c, none⟩ [some (.d ds), some (.d x), none] S1 := by simp [h]
  rcases hc with ⟨rfl, rfl⟩ | ⟨rfl, rfl⟩ | ⟨rfl, rfl⟩
  · have a1 : isXNoDealings "NoDealings" = true := by decide
    have a2 : isXAloneError "NoDealings" = true := by decide
    have a3 : isXNoPlaces "NoDealings" = false := by decide
    have a4 : isXNoRoom "NoDealings" = false := by decide
    have a5 : isXTooMany "NoDealings" = false := by decide
    simp [FLTold, fnF_ap, gLTold, sTry, h, q, tryH, a1, a2, a3, a4, a5, fIsE, As.setX, wipeX, cut01, w1]
  · have a0 : isXNoDealings "NoPlaces" = false := by decide
    have a1 : isXNoPlaces "NoPlaces" = true := by decide
    have a2 : isXAloneError "NoPlaces" = true := by decide
    have a4 : isXNoRoom "NoPlaces" = false := by decide
    have a5 : isXTooMany "NoPlaces" = false := by decide
    simp [FLTold, fnF_ap, gLTold, sTry, h, q, tryH, a0, a1, a2, a4, a5, fIsE, As.setX, wipeX, cut01, w1]
  · have a0 : isXNoDealings "NoRoom" = false := by decide
    have a1 : isXNoRoom "NoRoom" = true := by decide
    have a2 : isXAloneError "NoRoom" = true := by decide
    have a4 : isXNoPlaces "NoRoom" = false := by decide
    have a5 : isXTooMany "NoRoom" = false := by decide
    simp [FLTold, fnF_ap, gLTold, sTry, h, q, tryH, a0, a1, a2, a4, a5, fIsE, As.setX, wipeX, cut01, w1]
theorem told_ok {ds x : D} {S S1 : Store} {k : Nat} (h : FWidened [.d ds, .d x] S = .ok (.c k) S1) : FLTold [.d ds, .d x] S = .ok (.t [.d (.str "told"), .c k]) S1 := by
  simp [FLTold, fnF_ap, gLTold, sTry, h, mkT, unDs]
theorem e_refused {d : D} (h : dealsB d = false) (S : Store) : FLRefused [.d d] S = .ok (.d (.bl true)) S := by
  have q : (["NoDealings", "NoPlaces", "NoRoom"] : List Str).contains "NoDealings" = true := by decide
  have a1 : isXNoDealings "NoDealings" = true := by decide
  have a3 : isXNoPlaces "NoDealings" = false := by decide
  have a4 : isXNoRoom "NoDealings" = false := by decide
  have a5 : isXTooMany "NoDealings" = false := by decide
  have body : (sExpr (fApp FWidePlaces (aCons (fVar 0) aNil))) [some (.d d), none] S = .ex ⟨"NoDealings", none⟩ [some (.d d), none] S := by simp [e_widePlacesX h]
  simp [FLRefused, fnF_ap, gLRefused, sTry, e_widePlacesX h, q, tryH, a1, a3, a4, a5, fIsE, As.setX, wipeX]
/-- what is told of it by the program -/
theorem e_told {ds : List D} (h : dealsB (.lst ds) = true) (x : D) (hx : ∀ xs, x = .lst xs → xs.length ≤ 90000 ∧ ∀ y ∈ xs, ∀ zs, y = .tup zs → zs.length ≤ 90000) (S : Store) (hS : lowS S.length S = true) :
    (FLTold [.d (.lst ds), .d x] S).wp (fun w S' => ∃ T, S' = S ++ T ∧ lowS 0 T = true ∧ ((∃ es, dueD ds x = .tup [.str "told", .lst es] ∧ w = .t [.d (.str "told"), .c S.length] ∧ T = [.l es]) ∨ (∃ z : Str, dueD ds x = w1 z ∧ w = .d (w1 z) ∧ (z = "places" ∨ z = "room")))) noX := by
  have a1 := e_widened h x hx S hS
  cases hq : arePl (plcD ds) x with
  | false =>
    rw [hq, if_neg (by decide)] at a1
    rw [told_ex a1 (.inr (.inl ⟨rfl, rfl⟩))]
    refine ⟨[], by simp, rfl, .inr ⟨"places", ?_, rfl, .inl rfl⟩⟩
    cases x with
    | lst xs => simp [dueD, hq]
    | _ => rfl
  | true =>
    rw [hq, if_pos rfl] at a1
    cases x with
    | lst ps =>
      dsimp only at a1
      cases hr : roomB (widL ps ds) with
      | false =>
        rw [hr, if_neg (by decide)] at a1
        rw [told_ex a1 (.inr (.inr ⟨rfl, rfl⟩))]
        exact ⟨[.l (widL ps ds)], rfl, rfl, .inr ⟨"room", by simp [dueD, hq, hr], rfl, .inr rfl⟩⟩
      | true =>
        rw [hr, if_pos rfl] at a1
        rw [told_ok a1]
        exact ⟨[.l (widL ps ds)], rfl, rfl, .inl ⟨widL ps ds, by simp [dueD, hq, hr], rfl, rfl⟩⟩
    | _ => cases hq
/-! the text of values, how long -/
theorem sh_int9 {i : Int} (h : 0 ≤ i) (h2 : i < 1000000000) : shK 13 0 (.int i) := shK_int (by
  have : (10 : Nat) ^ 12 = 1000000000000 := rfl
  omega)
theorem sh_step {s : D} (h : stepB s = true) : shK 40 1 s := by
  obtain ⟨i, h1, h2, rfl | rfl⟩ := stepB_eq h
  · exact shK_two (shK_read.le (by omega) (by omega)) (sh_int9 h1 (by omega)) (by omega)
  · exact shK_two (shK_write.le (by omega) (by omega)) (sh_int9 h1 (by omega)) (by omega)
theorem sh_deal {d : D} (h : dealB d = true) : shK 400 2 d := by
  obtain ⟨ss, rfl, _, h8, hss, _⟩ := dealB_eq h
  exact shK_tup (n := 40) (fun s hs => sh_step (hss s hs)) (by omega)
theorem sh_deals {ds : List D} (h : ∀ d ∈ ds, dealB d = true) (hl : ds.length ≤ 100) : shK 40400 3 (.lst ds) := shK_lst (n := 400) (fun s hs => sh_deal (h s hs)) (by omega)
theorem sh_wd {n : Nat} {d : D} {ps : List D} (h : dealB d = true) : shK 800 2 (wdD n d ps) := by
  obtain ⟨ss, rfl, _, h8, hss, _⟩ := dealB_eq h
  have hl := wdS_len n ps ss.zipIdx
  rw [List.length_zipIdx] at hl
  exact shK_tup (n := 40) (fun s hs => sh_step (wdS_ok (zip_step hss) s hs)) (by show (wdS n ps ss.zipIdx).length * 40 + 2 * (wdS n ps ss.zipIdx).length + 3 ≤ 800; omega)
theorem sh_wid {ds ps : List D} (h : ∀ d ∈ ds, dealB d = true) (hl : ds.length ≤ 100) : shK 80300 3 (.lst (widL ps ds)) := shK_lst (n := 800) (fun s hs => by
  obtain ⟨p, hp, rfl⟩ := List.mem_map.mp hs
  exact sh_wd (zip_deal h p hp)) (by unfold widL; rw [List.length_map, List.length_zipIdx]; omega)
theorem sh_plT {n k : Nat} (hn : n < 1000000) (hk : k < 1000000) : shK 40 1 (plT n k) := shK_two (sh_int9 (by omega) (by omega)) (sh_int9 (by omega) (by omega)) (by omega)
theorem plc_mem {ds : List D} {d : D} (h : ∀ d ∈ ds, dealB d = true) (hd : d ∈ plcD ds) : ∃ n k : Nat, d = plT n k ∧ n < ds.length ∧ k < 8 := by
  unfold plcD plcL wideIn wI at hd
  rw [List.mem_flatten] at hd
  obtain ⟨l, hl, hd⟩ := hd
  obtain ⟨p, hp, rfl⟩ := List.mem_map.mp hl
  obtain ⟨q, hq, rfl⟩ := List.mem_map.mp hd
  have h1 := List.snd_lt_of_mem_zipIdx hp
  have h2 := List.snd_lt_of_mem_zipIdx (List.mem_filter.mp hq).1
  obtain ⟨ss, e, _, h8, _⟩ := dealB_eq (zip_deal h p hp)
  rw [e] at h2
  have : (stepsOf (.tup ss)).length = ss.length := rfl
  refine ⟨p.2, q.2, rfl, ?_, ?_⟩ <;> omega
theorem sh_plc {ds : List D} (h : ∀ d ∈ ds, dealB d = true) (hl : ds.length ≤ 100) : shK 40000 2 (.lst (plcD ds)) := shK_lst (n := 40) (fun s hs => by
  obtain ⟨n, k, rfl, h1, h2⟩ := plc_mem h hs
  exact sh_plT (by omega) (by omega)) (by have := plcD_len h; omega)
theorem okK_deal {d : D} (h : dealB d = true) : okK 2 d = true := by
  obtain ⟨ss, rfl, _, _, hss, _⟩ := dealB_eq h
  exact stepsOk hss
theorem okK_plc (ds : List D) : okK 2 (.lst (plcD ds)) = true := okK_lst (n := 1) fun d hd => by
  obtain ⟨is, rfl⟩ := isWt_eq (plcD_isWt ds d hd)
  exact okK_tupI is
theorem okK_wid {ds ps : List D} (h : ∀ d ∈ ds, dealB d = true) : okK 3 (.lst (widL ps ds)) = true := okK_lst (n := 2) fun d hd => by
  obtain ⟨p, hp, rfl⟩ := List.mem_map.mp hd
  obtain ⟨ss, e, _, _, hss, _⟩ := dealB_eq (zip_deal h p hp)
  rw [e]
  exact stepsOk (wdS_ok (zip_step hss))
end As

namespace As
open PySem PySem.Spec PyProof.Rows L2
theorem dig_eq : FLDigit = FDig := rfl
section
variable {S : Store} {k : Nat}
theorem e_of {ds es : List D} {Z : Store} (hk : k < S.length) (h : stOk ds) (hl : 0 < es.length) (hl2 : es.length ≤ 100000) : (FLOf [.c k, .d (.lst es)] (S.set k (.l ds) ++ Z)).wp (fun w S' => ∃ (d : D) (ds' : List D), w = .d d ∧ d ∈ es ∧ stOk ds' ∧ S' = S.set k (.l ds') ++ Z) noX := by
  refine fn_wpf rfl ?_
  simp [gLOf, dig_eq]
  refine (dig_app (m := (es.length : Int)) hk h (by omega) (by omega)).mono (fun w S' hw => ?_) fun _ _ h => h
  obtain ⟨v, ds', rfl, h0, h1, h2, rfl⟩ := hw
  have hj : v.toNat < es.length := by omega
  have ev : v = ((v.toNat : Nat) : Int) := by omega
  rw [ev, ixAt (xs := es) rfl (List.getElem?_eq_getElem hj)]
  exact ⟨_, rfl, List.getElem_mem hj, ds', h2, rfl⟩
theorem pick3 {v : Int} (h0 : 0 ≤ v) (h1 : v < 3) (a b c : D) (S : Store) : ∃ d, oIx (.d (.lst [a, b, c])) (.d (.int v)) S = .ok (.d d) S ∧ (d = a ∨ d = b ∨ d = c) := by
  have : v = 0 ∨ v = 1 ∨ v = 2 := by omega
  rcases this with rfl | rfl | rfl
  · exact ⟨a, ixAt (v := 0) (xs := [a, b, c]) rfl rfl, .inl rfl⟩
  · exact ⟨b, ixAt (v := 1) (xs := [a, b, c]) rfl rfl, .inr (.inl rfl)⟩
  · exact ⟨c, ixAt (v := 2) (xs := [a, b, c]) rfl rfl, .inr (.inr rfl)⟩
def lineOk (ss : List D) : Prop := (∀ s ∈ ss, stepB s = true) ∧ ordB ss = true
noncomputable def bDeal : Sm := (sSeq (sSet 5 (fOp oIx (fApp (mkL false) (aCons (fK (.d (.str "read"))) (aCons (fK (.d (.str "read"))) (aCons (fK (.d (.str "write"))) aNil)))) (fApp FLDigit (aCons (fVar 0) (aCons (fK (.d (.int 3))) aNil)))))
      (sSeq (sSet 6 (fApp FLDigit (aCons (fVar 0) (aCons (fVar 1) aNil))))
      (sSeq (sIf (fB (fOp oEq (fApp FLDigit (aCons (fVar 0) (aCons (fK (.d (.int 12))) aNil))) (fK (.d (.int 0)))))
      (sSet 6 (fApp FLDigit (aCons (fVar 0) (aCons (fOp oAdd (fOp oPow (fK (.d (.int 10))) (fK (.d (.int 8)))) (fK (.d (.int 1)))) aNil)))) sNil)
      (sIf (tAndF (fB (fOp oNotIn (fApp mkT (aCons (fVar 5) (aCons (fVar 6) aNil))) (fVar 3))) (fB (fOp oNotIn (fApp mkT (aCons (fK (.d (.str "write"))) (aCons (fVar 6) aNil))) (fVar 3))))
      (sExpr (fMt (fun x S => isCl x S = true) mApp (fVar 3) (aCons (fApp mkT (aCons (fVar 5) (aCons (fVar 6) aNil))) aNil))) sNil))))
theorem e_deal1 {ds ss : List D} {few : Int} {j : Nat} {ρ : Env} {Z : Po} (hk : k < S.length) (h : stOk ds) (hf : 0 < few) (hf2 : few ≤ 1000) (hs : lineOk ss) (hl : ss.length ≤ j) (hj : 0 < j → 0 < ss.length) (hj8 : j ≤ 20) (hρ : ρ.length = 7) (h0 : sl ρ 0 = some (.c k)) (h1 : sl ρ 1 = some (.d (.int few))) (h3 : sl ρ 3 = some (.c S.length))
    (hz : ∀ ρ' ds' ss', ρ'.length = 7 → sl ρ' 0 = some (.c k) → sl ρ' 1 = some (.d (.int few)) → sl ρ' 3 = some (.c S.length) → stOk ds' → lineOk ss' → ss'.length ≤ j + 1 → 0 < ss'.length → Z.nx ρ' (S.set k (.l ds') ++ [.l ss'])) : (bDeal ρ (S.set k (.l ds) ++ [.l ss])).wp Z := by
  unfold bDeal
  refine seq_wp ?_
  simp [-sSeq_ap, dig_eq, h0]
  refine (dig_app (m := 3) hk h (by omega) (by omega)).mono (fun w S1 hw => ?_) fun _ _ h => h.elim
  obtain ⟨v1, ds1, rfl, a0, a1, st1, rfl⟩ := hw
  obtain ⟨wd, ew, hwd⟩ := pick3 a0 a1 (.str "read") (.str "read") (.str "write") (S.set k (.l ds1) ++ [.l ss])
  rw [ew]
  simp only [Rs.wp_ok]
  refine seq_wp ?_
  simp [-sSeq_ap, dig_eq, sl_set, hρ, h0, h1]
  refine (dig_app (m := few) hk st1 hf (by omega)).mono (fun w S2 hw => ?_) fun _ _ h => h.elim
  obtain ⟨v2, ds2, rfl, b0, b1, st2, rfl⟩ := hw
  have r0 : sl ((ρ.set 5 (some (.d wd))).set 6 (some (.d (.int v2)))) 0 = some (.c k) := by simp [sl_set, h0]
  have r1 : sl ((ρ.set 5 (some (.d wd))).set 6 (some (.d (.int v2)))) 1 = some (.d (.int few)) := by simp [sl_set, h1]
  have r3 : sl ((ρ.set 5 (some (.d wd))).set 6 (some (.d (.int v2)))) 3 = some (.c S.length) := by simp [sl_set, h3]
  have r5 : sl ((ρ.set 5 (some (.d wd))).set 6 (some (.d (.int v2)))) 5 = some (.d wd) := by simp [sl_set, hρ]
  have r6 : sl ((ρ.set 5 (some (.d wd))).set 6 (some (.d (.int v2)))) 6 = some (.d (.int v2)) := by simp [sl_set, hρ]
  have rl : ((ρ.set 5 (some (.d wd))).set 6 (some (.d (.int v2)))).length = 7 := by simp [hρ]
  generalize (ρ.set 5 (some (.d wd))).set 6 (some (.d (.int v2))) = ρ2 at *
  -- the last part, for any box
  have last : ∀ (v : Int) (ds3 : List D) (ρ3 : Env), 0 ≤ v → v < 100000001 → stOk ds3 → ρ3.length = 7 → sl ρ3 0 = some (.c k) → sl ρ3 1 = some (.d (.int few)) → sl ρ3 3 = some (.c S.length) → sl ρ3 5 = some (.d wd) → sl ρ3 6 = some (.d (.int v)) →
      ((sIf (tAndF (fB (fOp oNotIn (fApp mkT (aCons (fVar 5) (aCons (fVar 6) aNil))) (fVar 3))) (fB (fOp oNotIn (fApp mkT (aCons (fK (.d (.str "write"))) (aCons (fVar 6) aNil))) (fVar 3))))
      (sExpr (fMt (fun x S => isCl x S = true) mApp (fVar 3) (aCons (fApp mkT (aCons (fVar 5) (aCons (fVar 6) aNil))) aNil))) sNil) ρ3 (S.set k (.l ds3) ++ [.l ss])).wp Z := by
    intro v ds3 ρ3 v0 v1 st3 q q0 q1 q3 q5 q6
    have bx : bxB (.int v) = true := by simp [bxB, numB, v0, v1]
    have hst : stepB (.tup [wd, .int v]) = true := by
      rcases hwd with rfl | rfl | rfl
      · exact rdS_ok bx
      · exact rdS_ok bx
      · exact wrS_ok bx
    have hc := get_top (S := S) (k := k) ds3 ss []
    have i1 : oNotIn (.d (.tup [wd, .int v])) (.c S.length) (S.set k (.l ds3) ++ [.l ss]) = .ok (.d (.bl (!inB (.tup [wd, .int v]) ss))) (S.set k (.l ds3) ++ [.l ss]) := by
      unfold oNotIn onDD
      rw [c_rd hc, rdW_d]
      exact in_stepsL (n := true) hst hs.1 _
    have i2 : oNotIn (.d (.tup [.str "write", .int v])) (.c S.length) (S.set k (.l ds3) ++ [.l ss]) = .ok (.d (.bl (!inB (wrS (.int v)) ss))) (S.set k (.l ds3) ++ [.l ss]) := by
      unfold oNotIn onDD
      rw [c_rd hc, rdW_d]
      exact in_stepsL (n := true) (wrS_ok bx) hs.1 _
    have c1 := c_is hc
    have c2 := c_app hc (by omega) (.tup [wd, .int v])
    rw [set_top] at c2
    have bo : bxOf (.tup [wd, .int v]) = .int v := rfl
    cases hi : inB (.tup [wd, .int v]) ss with
    | true =>
      rw [hi] at i1
      simp [q3, q5, q6, i1]
      refine hz ρ3 ds3 ss q q0 q1 q3 st3 hs (by omega) ?_
      have := (inB_step hst hs.1).mp hi
      exact List.length_pos_of_mem this
    | false =>
      rw [hi] at i1
      cases hi2 : inB (wrS (.int v)) ss with
      | true =>
        rw [hi2] at i2
        simp [q3, q5, q6, i1, i2]
        refine hz ρ3 ds3 ss q q0 q1 q3 st3 hs (by omega) ?_
        have := (inB_step (wrS_ok bx) hs.1).mp hi2
        exact List.length_pos_of_mem this
      | false =>
        rw [hi2] at i2
        simp [q3, q5, q6, i1, i2, c1, c2]
        refine hz ρ3 ds3 (ss ++ [.tup [wd, .int v]]) q q0 q1 q3 st3 ⟨fun s hs' => ?_, ?_⟩ (by rw [List.length_append]; simp; omega) (by rw [List.length_append]; simp)
        · rcases List.mem_append.mp hs' with h | h
          · exact hs.1 s h
          · rw [List.mem_singleton.mp h]
            exact hst
        · rw [ordB_snoc, hs.2]
          simp [folB, hi, bo, hi2]
  refine seq_wp ?_
  rw [sIf_ap]
  simp [-sSeq_ap, -sIf_ap, dig_eq, r0]
  refine (dig_app (m := 12) hk st2 (by omega) (by omega)).mono (fun w S3 hw => ?_) fun _ _ h => h.elim
  obtain ⟨v3, ds3, rfl, c0, c1, st3, rfl⟩ := hw
  simp [-sIf_ap]
  by_cases hv : v3 = 0
  · have cp : CPow 10 8 := by unfold CPow; decide
    simp [-sIf_ap, hv, r0, cp]
    refine (dig_app (m := 100000001) hk st3 (by omega) (by omega)).mono (fun w S4 hw => ?_) fun _ _ h => h.elim
    obtain ⟨v4, ds4, rfl, d0, d1, st4, rfl⟩ := hw
    exact last v4 ds4 _ d0 d1 st4 (by simp [rl]) (by simp [sl_set, r0]) (by simp [sl_set, r1]) (by simp [sl_set, r3]) (by simp [sl_set, r5]) (by simp [sl_set, rl])
  · simp [-sIf_ap, hv]
    exact last v2 ds3 ρ2 b0 (by omega) st3 rl r0 r1 r3 r5 r6
theorem e_dealing_drawn {ds : List D} {few most : Int} (hk : k < S.length) (h : stOk ds) (hf : 0 < few) (hf2 : few ≤ 1000) (hm : 0 < most) (hm8 : most ≤ 8) (hS : lowS S.length S = true) :
    (FLDealing [.c k, .d (.int few), .d (.int most)] (S.set k (.l ds))).wp (fun w S' => ∃ (d : D) (ds' : List D), w = .d d ∧ dealB d = true ∧ stOk ds' ∧ S' = S.set k (.l ds')) noX := by
  refine fn_wpt rfl (seq_wp ?_)
  simp only [List.length_set]
  simp [-sSeq_ap, -sFor_ap]
  refine seq_wp ?_
  simp [-sSeq_ap, dig_eq]
  refine (dig_app (m := most) (Z := [.l []]) hk h hm (by omega)).mono (fun w S1 hw => ?_) fun _ _ h => h.elim
  obtain ⟨v1, ds1, rfl, a0, a1, st1, rfl⟩ := hw
  have sm : smallI (1 + v1) = true := by
    unfold smallI
    simp only [Bool.and_eq_true, decide_eq_true_eq]
    omega
  simp [-sSeq_ap, sm]
  refine forR_wp (n := (1 + v1).toNat) (lo := 0) (fun j ρ T => ∃ ds' ss, ρ.length = 7 ∧ sl ρ 0 = some (.c k) ∧ sl ρ 1 = some (.d (.int few)) ∧ sl ρ 3 = some (.c S.length) ∧ stOk ds' ∧ lineOk ss ∧ ss.length ≤ j ∧ (0 < j → 0 < ss.length) ∧ T = S.set k (.l ds') ++ [.l ss]) ⟨ds1, [], rfl, rfl, rfl, rfl, st1, ⟨fun s hs => absurd hs List.not_mem_nil, rfl⟩, Nat.le_refl _, fun h => absurd h (by omega), rfl⟩ (fun _ _ _ _ => trivial) (fun j ρ T hj I => ?_) fun ρ T I => ?_
  · obtain ⟨ds', ss, hρ, h0, h1, h3, st, hs, hl, hp, rfl⟩ := I
    refine e_deal1 (j := j) hk st hf hf2 hs hl hp (by omega) (by simp [hρ]) (by simp [sl_set, h0]) (by simp [sl_set, h1]) (by simp [sl_set, h3]) fun ρ' ds2 ss2 g0 g1 g2 g3 g4 g5 g6 g7 => ⟨ds2, ss2, g0, g1, g2, g3, g4, g5, g6, fun _ => g7, rfl⟩
  · obtain ⟨ds', ss, hρ, h0, h1, h3, st, hs, hl, hp, rfl⟩ := I
    have hc := get_top (S := S) (k := k) ds' ss []
    have a1 : aTuple [.c S.length] (S.set k (.l ds') ++ [.l ss]) = .ok (.d (.tup ss)) (S.set k (.l ds') ++ [.l ss]) := by simp [aTuple, c_it hc]
    simp [h3, a1]
    have tk : (S.set k (.l ds') ++ [Cell.l ss]).take S.length = S.set k (.l ds') := List.take_left' (by rw [List.length_set])
    refine cut_wp rfl (by rw [tk]; exact lowS_set hS) ⟨_, rfl, ?_, ds', st, tk⟩
    have := hp (by omega)
    have h1' : 1 ≤ ss.length := this
    have h8' : ss.length ≤ 8 := by omega
    simp [dealB, h1', h8', hs.2]
    exact hs.1
end
end As

namespace As
open PySem PySem.Spec PyProof.Rows L2
section
variable {S : Store} {k : Nat}
theorem mem_erase {α : Type} {l : List α} {i : Nat} {a : α} (h : a ∈ l.eraseIdx i) : a ∈ l := List.mem_of_mem_eraseIdx h
theorem at2 {α : Type} (A J : List α) (x y : α) : (A ++ (J ++ [x, y]))[A.length + J.length]? = some x := by
  rw [List.getElem?_append_right (by omega), Nat.add_sub_cancel_left, List.getElem?_append_right (Nat.le_refl _), Nat.sub_self]
  rfl
theorem at3 {α : Type} (A J : List α) (x y : α) : (A ++ (J ++ [x, y]))[A.length + J.length + 1]? = some y := by
  rw [List.getElem?_append_right (by omega), show A.length + J.length + 1 - A.length = J.length + 1 by omega, List.getElem?_append_right (by omega), show J.length + 1 - J.length = 1 by omega]
  rfl
theorem put2 {α : Type} (A J : List α) (x y z : α) : (A ++ (J ++ [x, y])).set (A.length + J.length) z = A ++ (J ++ [z, y]) := by
  rw [List.set_append_right _ _ (by omega), Nat.add_sub_cancel_left, List.set_append_right _ _ (Nat.le_refl _), Nat.sub_self]
  rfl
theorem put3 {α : Type} (A J : List α) (x y z : α) : (A ++ (J ++ [x, y])).set (A.length + J.length + 1) z = A ++ (J ++ [x, z]) := by
  rw [List.set_append_right _ _ (by omega), show A.length + J.length + 1 - A.length = J.length + 1 by omega, List.set_append_right _ _ (by omega), show J.length + 1 - J.length = 1 by omega]
  rfl
/-- the loop that takes out what is left -/
theorem e_takeout {ds left : List D} {J : List Cell} {ρ : Env} {Z : Po} {P : D → Prop} (hk : k < S.length) (h : stOk ds) (hP : ∀ d ∈ left, P d) (hl : left.length ≤ 150) (hρ : ρ.length = 5) (h0 : sl ρ 0 = some (.c k)) (h2 : sl ρ 2 = some (.c (S.length + J.length))) (h3 : sl ρ 3 = some (.c (S.length + J.length + 1)))
    (hz : ∀ ρ' ds' found, sl ρ' 3 = some (.c (S.length + J.length + 1)) → stOk ds' → (∀ d ∈ found, P d) → found.length ≤ left.length → Z.nx ρ' (S.set k (.l ds') ++ (J ++ [.l [], .l found]))) :
    (whL (fB (fOp oNe (fVar 2) (fApp (mkL false) aNil)))
    (sExpr (fMt (fun x S => isCl x S = true) mApp (fVar 3) (aCons (fMt (fun x S => isCl x S = true) mPop1 (fVar 2) (aCons (fApp FLDigit (aCons (fVar 0) (aCons (fApp aLen (aCons (fVar 2) aNil)) aNil))) aNil)) aNil))) 200 ρ (S.set k (.l ds) ++ (J ++ [.l left, .l []]))).wp Z := by
  refine whL_wp (fun m ρ T => ∃ ds' lf fd, m = lf.length ∧ lf.length + fd.length ≤ left.length ∧ ρ.length = 5 ∧ sl ρ 0 = some (.c k) ∧ sl ρ 2 = some (.c (S.length + J.length)) ∧ sl ρ 3 = some (.c (S.length + J.length + 1)) ∧ stOk ds' ∧ (∀ d ∈ lf, P d) ∧ (∀ d ∈ fd, P d) ∧ T = S.set k (.l ds') ++ (J ++ [.l lf, .l fd])) 200 ⟨left.length, by omega, ds, left, [], rfl, by simp, hρ, h0, h2, h3, h, hP, fun d hd => absurd hd List.not_mem_nil, rfl⟩ fun m ρ T I => ?_
  obtain ⟨ds', lf, fd, rfl, hll, hρ, h0, h2, h3, st, hlf, hfd, rfl⟩ := I
  have hn : (S.set k (Cell.l ds')).length = S.length := List.length_set
  have hc2 : (S.set k (.l ds') ++ (J ++ [.l lf, .l fd]))[S.length + J.length]? = some (.l lf) := by rw [← hn]; exact at2 _ _ _ _
  have e1 : oNe (.c (S.length + J.length)) (.d (.lst [])) (S.set k (.l ds') ++ (J ++ [.l lf, .l fd])) = .ok (.d (.bl (!lf.isEmpty))) (S.set k (.l ds') ++ (J ++ [.l lf, .l fd])) := by
    unfold oNe onDD
    rw [c_rd hc2, rdW_d]
    rfl
  cases lf with
  | nil =>
    simp [h2, e1]
    exact hz ρ ds' fd h3 st hfd (by simpa using hll)
  | cons x lf =>
    simp only [fB_ap, fOp_ap, fVar_ap, h2, fApp_ap, aNil_ap, Rs.bind_ok, mkL0, newL_f, e1, Rs.wp_bind, Rs.wp_ok, List.isEmpty_cons, Bool.not_false, if_true, sExpr_ap, fMt_ap, h3, st_wp, aCons_ap]
    have hc3 : (S.set k (.l ds') ++ (J ++ [.l (x :: lf), .l fd]))[S.length + J.length + 1]? = some (.l fd) := by rw [← hn]; exact at3 _ _ _ _
    have i3 := c_is hc3
    have i2 := c_is hc2
    simp only [i3, i2, if_true, true_and, Rs.wp_bind, Rs.wp_ok, Rs.wp_ite]
    simp only [dig_eq, h0, aLen_ap, c_it hc2, Rs.wp_ok, Rs.bind_ok, List.length_map]
    refine (dig_app (m := ((x :: lf).length : Int)) hk st (by simp) (by simp at hll ⊢; omega)).mono (fun w S' hw => ?_) fun _ _ h => h.elim
    obtain ⟨v, ds2, rfl, v0, v1, st2, rfl⟩ := hw
    obtain ⟨n, rfl⟩ : ∃ n : Nat, v = (n : Int) := ⟨v.toNat, by omega⟩
    have hn2 : (S.set k (Cell.l ds2)).length = S.length := List.length_set
    have hnl : n < (x :: lf).length := by omega
    have hc4 : (S.set k (.l ds2) ++ (J ++ [.l (x :: lf), .l fd]))[S.length + J.length]? = some (.l (x :: lf)) := by rw [← hn2]; exact at2 _ _ _ _
    have pp := c_pop (i := (n : Int)) (j := n) (d := (x :: lf)[n]) hc4 (by simp at hll hnl; omega) (by unfold seqIndex?; simp; simp at hnl; omega) (List.getElem?_eq_getElem hnl)
    have e4 : (S.set k (Cell.l ds2) ++ (J ++ [.l (x :: lf), Cell.l fd])).set (S.length + J.length) (Cell.l ((x :: lf).eraseIdx n)) = S.set k (Cell.l ds2) ++ (J ++ [.l ((x :: lf).eraseIdx n), Cell.l fd]) := by rw [← hn2]; exact put2 _ _ _ _ _
    rw [e4] at pp
    have hc5 : (S.set k (.l ds2) ++ (J ++ [.l ((x :: lf).eraseIdx n), .l fd]))[S.length + J.length + 1]? = some (.l fd) := by rw [← hn2]; exact at3 _ _ _ _
    have aa := c_app hc5 (by simp at hll; omega) (x :: lf)[n]
    have e5 : (S.set k (.l ds2) ++ (J ++ [Cell.l ((x :: lf).eraseIdx n), Cell.l fd])).set (S.length + J.length + 1) (.l (fd ++ [(x :: lf)[n]])) = S.set k (.l ds2) ++ (J ++ [Cell.l ((x :: lf).eraseIdx n), Cell.l (fd ++ [(x :: lf)[n]])]) := by rw [← hn2]; exact put3 _ _ _ _ _
    rw [e5] at aa
    simp only [pp, Rs.wp_ok, aa, Ou.wp_nx]
    refine ⟨((x :: lf).eraseIdx n).length, ?_, ds2, (x :: lf).eraseIdx n, fd ++ [(x :: lf)[n]], rfl, ?_, hρ, h0, h2, h3, st2, fun d hd => hlf d (mem_erase hd), fun d hd => ?_, rfl⟩
    · rw [List.length_eraseIdx, if_pos hnl]
      simp
    · rw [List.length_eraseIdx, if_pos hnl, List.length_append]
      simp at hll ⊢
      omega
    · rcases List.mem_append.mp hd with h | h
      · exact hfd d h
      · rw [List.mem_singleton.mp h]
        exact hlf _ (List.getElem_mem hnl)
theorem e_drawn {ds wide : List D} {P : D → Prop} (hk : k < S.length) (h : stOk ds) (hP : ∀ d ∈ wide, P d) (hl : wide.length ≤ 150) (hS : lowS S.length S = true) :
    (FLDrawn [.c k, .d (.lst wide)] (S.set k (.l ds))).wp (fun w S' => ∃ (xs : List D) (ds' : List D), w = .d (.lst xs) ∧ (∀ d ∈ xs, P d) ∧ xs.length ≤ 150 ∧ stOk ds' ∧ S' = S.set k (.l ds')) noX := by
  refine fn_wpt rfl (seq_wp ?_)
  simp only [List.length_set]
  simp only [sSet_ap, fLc_ap, iList_ap, fVar_ap, st_wp, Rs.wp_bind, List.map_cons, List.map_nil, List.length_cons, List.length_nil, List.replicate, List.cons_append, List.nil_append, Nat.reduceSub, Nat.reduceAdd, sl_cs, sl_c0, Rs.wp_ok, List.length_map]
  rw [if_pos (show wide.length < 100000 by omega)]
  simp only [Rs.wp_bind]
  refine compL_wp (fun a us T => ∃ ds' zs, us = zs.map W.d ∧ zs.length ≤ a.length ∧ (∀ d ∈ zs, P d) ∧ stOk ds' ∧ T = S.set k (.l ds') ++ []) ⟨ds, [], rfl, Nat.le_refl _, fun d hd => absurd hd List.not_mem_nil, h, (List.append_nil _).symm⟩ (fun _ _ _ _ => trivial) (fun a w b us T e I => ?_) fun us T I => ?_
  · obtain ⟨ds', zs, rfl, hzl, hzs, st, rfl⟩ := I
    have hw : w ∈ wide.map W.d := by rw [← e]; simp
    obtain ⟨d, hd, rfl⟩ := List.mem_map.mp hw
    refine ⟨_, rfl, ?_⟩
    simp only [fB_ap, fOp_ap, fApp_ap, aCons_ap, aNil_ap, fVar_ap, fK_ap, wipe1, wipe0, List.set_cons_succ, List.set_cons_zero, sl_c0, sl_cs, Rs.bind_ok, Rs.wp_bind, Rs.wp_ok, dig_eq]
    refine (dig_app (m := 3) hk st (by omega) (by omega)).mono (fun w S' hw => ?_) fun _ _ h => h
    obtain ⟨v, ds2, rfl, v0, v1, st2, rfl⟩ := hw
    simp only [oGt_ii, Rs.wp_ok]
    by_cases hv : 0 < v
    · rw [decide_eq_true hv, if_pos rfl]
      exact ⟨ds2, zs ++ [d], by simp, by simp; omega, fun x hx => by
        rcases List.mem_append.mp hx with h | h
        · exact hzs x h
        · rw [List.mem_singleton.mp h]
          exact hP d hd, st2, rfl⟩
    · rw [decide_eq_false hv, if_neg (by decide)]
      exact ⟨ds2, zs, rfl, by rw [List.length_append]; omega, hzs, st2, rfl⟩
  · obtain ⟨ds1, zs, rfl, hzl, hzs, st1, rfl⟩ := I
    rw [List.length_map] at hzl
    simp only [newW_ds, newL_t, Rs.wp_ok, Ou.wp_nx, List.set_cons_succ, List.set_cons_zero, List.append_nil, List.length_set]
    refine seq_wp ?_
    rw [sIf_ap]
    simp only [fB_ap, fOp_ap, fApp_ap, aCons_ap, aNil_ap, fVar_ap, fK_ap, sl_c0, sl_cs, Rs.bind_ok, Rs.wp_bind, Rs.wp_ok, dig_eq, st_wp]
    refine (dig_app (m := 4) (Z := [.l zs]) hk st1 (by omega) (by omega)).mono (fun w S' hw => ?_) fun _ _ h => h.elim
    obtain ⟨v, ds2, rfl, v0, v1, st2, rfl⟩ := hw
    have fin : ∀ (lf : List D) (J : List Cell), (∀ d ∈ lf, P d) → lf.length ≤ 150 → ((sSeq (sSet 3 (fApp (mkL true) aNil)) (sSeq (fun ρ S => whL (fB (fOp oNe (fVar 2) (fApp (mkL false) aNil)))
    (sExpr (fMt (fun x S => isCl x S = true) mApp (fVar 3) (aCons (fMt (fun x S => isCl x S = true) mPop1 (fVar 2) (aCons (fApp FLDigit (aCons (fVar 0) (aCons (fApp aLen (aCons (fVar 2) aNil)) aNil))) aNil)) aNil))) 200 ρ S)
    (sRet (fVar 3)))) [some (.c k), some (.d (.lst wide)), some (.c (S.length + J.length)), none, none] (S.set k (.l ds2) ++ (J ++ [.l lf]))).wp ⟨fun _ T => (cutR true S.length (.d .non) T).wp (fun w S' => ∃ (xs : List D) (ds' : List D), w = .d (.lst xs) ∧ (∀ d ∈ xs, P d) ∧ xs.length ≤ 150 ∧ stOk ds' ∧ S' = S.set k (.l ds')) noX, fun w T => (cutR true S.length w T).wp (fun w S' => ∃ (xs : List D) (ds' : List D), w = .d (.lst xs) ∧ (∀ d ∈ xs, P d) ∧ xs.length ≤ 150 ∧ stOk ds' ∧ S' = S.set k (.l ds')) noX, fun _ _ => False, fun _ _ => False, fun e T => lowS S.length (T.take S.length) = true ∧ noX e (T.take S.length)⟩ := by
      intro lf J hlf hll
      refine seq_wp ?_
      simp only [sSet_ap, fApp_ap, aNil_ap, Rs.bind_ok, mkL0, newL_t, st_wp, Rs.wp_ok, Ou.wp_nx, List.set_cons_succ, List.set_cons_zero, List.length_append, List.length_set, List.length_cons, List.length_nil]
      refine seq_wp ?_
      have eT : S.set k (.l ds2) ++ (J ++ [Cell.l lf]) ++ [Cell.l []] = S.set k (.l ds2) ++ (J ++ [.l lf, .l []]) := by simp
      rw [eT]
      refine e_takeout (P := P) (left := lf) hk st2 hlf hll rfl rfl rfl rfl fun ρ' ds' found h3 st' hf hfl => ?_
      have hn2 : (S.set k (Cell.l ds')).length = S.length := List.length_set
      have hc : (S.set k (.l ds') ++ (J ++ [.l [], .l found]))[S.length + J.length + 1]? = some (.l found) := by
        have := at3 (S.set k (Cell.l ds')) J (.l []) (.l found)
        rwa [hn2] at this
      have tk : (S.set k (.l ds') ++ (J ++ [Cell.l [], .l found])).take S.length = S.set k (.l ds') := List.take_left' hn2
      simp only [sRet_ap, fVar_ap, h3, st_wp, Rs.wp_ok, Ou.wp_rt]
      refine cut_wp (cutW_c hc (by omega)) (by rw [tk]; exact lowS_set hS) ⟨found, ds', rfl, hf, by omega, st', tk⟩
    simp only [oEq_dd, kEq_ii, Rs.wp_ok, Bool.false_eq_true, if_false]
    by_cases hv : v = 0
    · rw [decide_eq_true hv, if_pos rfl]
      have al : aList true [.d (.lst wide)] (S.set k (.l ds2) ++ [.l zs]) = .ok (.c (S.length + 1)) (S.set k (.l ds2) ++ [.l zs, .l wide]) := by simp [aList, itW, liW]
      simp only [sSet_ap, fApp_ap, aCons_ap, fVar_ap, sl_cs, sl_c0, aNil_ap, Rs.bind_ok, al, st_wp, Rs.wp_ok, Ou.wp_nx, List.set_cons_succ, List.set_cons_zero]
      have := fin wide [.l zs] hP hl
      simp only [dig_eq] at this
      exact this
    · rw [decide_eq_false hv, if_neg (by decide)]
      simp only [sNil_ap, Ou.wp_nx]
      have := fin zs [] hzs (by omega)
      simp only [dig_eq] at this
      exact this
end
end As

namespace As
open PySem PySem.Spec PyProof.Rows L2
/-- what may stand in a list of pairs -/
def goodE (d : D) : Prop := (∀ zs, d = .tup zs → zs.length ≤ 9) ∧ shK 150 2 d
def goodX (x : D) : Prop := (∀ xs, x = .lst xs → xs.length ≤ 9000 ∧ ∀ y ∈ xs, ∀ zs, y = .tup zs → zs.length ≤ 90000) ∧ shK 200000 6 x
theorem good_plT {n k : Nat} (hn : n < 1000000) (hk : k < 1000000) : goodE (plT n k) := ⟨fun zs e => by
  have : [D.int (n : Int), .int (k : Int)] = zs := D.tup.inj e
  rw [← this]; simp, (sh_plT hn hk).le (by omega) (by omega)⟩
theorem good_lst {xs : List D} (h : ∀ d ∈ xs, goodE d) (hl : xs.length ≤ 1000) : goodX (.lst xs) := ⟨fun ys e => by
  have : xs = ys := D.lst.inj e
  subst this
  exact ⟨by omega, fun y hy zs ez => Nat.le_trans ((h y hy).1 zs ez) (by omega)⟩, (shK_lst (n := 150) (N := 200000) (fun d hd => (h d hd).2) (by omega)).le (Nat.le_refl _) (by omega)⟩
theorem good_nl {x : D} (h : isLst x = false) (hs : shK 200000 6 x) : goodX x := ⟨fun xs e => (by subst e; cases h), hs⟩
theorem sh_tint {i j : Int} (h : i.natAbs < 10 ^ 12) (h2 : j.natAbs < 10 ^ 12) : shK 150 2 (.tup [.int i, .int j]) := (shK_two (shK_int h) (shK_int h2) (Nat.le_refl _)).le (by omega) (by omega)
theorem sh_strI {n : Nat} (h : n < 6) : shK 9 0 (.str (toString (n : Int))) := by
  have : n = 0 ∨ n = 1 ∨ n = 2 ∨ n = 3 ∨ n = 4 ∨ n = 5 := by omega
  rcases this with rfl | rfl | rfl | rfl | rfl | rfl <;> (unfold shK; rw [pd]; exact ⟨rfl, by decide +kernel, by decide⟩)
theorem shK_places : shK 9 0 (.str "places") := by unfold shK; rw [pd]; exact ⟨rfl, by decide +kernel, by decide⟩
theorem shK_zero : shK 9 0 (.str "0") := by unfold shK; rw [pd]; exact ⟨rfl, by decide +kernel, by decide⟩
def oddL (n k m s : Nat) : List D := [.tup [.int n, .int k], .tup [.int n, .int m], .tup [.int s, .int 0], .tup [.int n, .int (-1)], .tup [.int (-1), .int 0], .tup [.bl true, .int k], .tup [.int n, .bl false]] ++
  [.lst [.int n, .int k], .tup [.int n], .tup [.int n, .int k, .int 0], .non, .int n, .str "0", .tup [.str (toString (n : Int)), .int k], .tup [.int (10 ^ 40), .int k], .tup []]
theorem good_odd {n k m s : Nat} (hn : n < 6) (hk : k < 100) (hm : m < 100) (hs : s < 100) : ∀ d ∈ oddL n k m s, goodE d := by
  intro d hd
  have t12 : (10 : Nat) ^ 12 = 1000000000000 := rfl
  have i1 : shK 13 0 (.int (n : Int)) := shK_int (by omega)
  have i2 : shK 13 0 (.int (k : Int)) := shK_int (by omega)
  have i3 : shK 13 0 (.int (m : Int)) := shK_int (by omega)
  have i4 : shK 13 0 (.int (s : Int)) := shK_int (by omega)
  have two : ∀ a b : D, shK 60 0 a → shK 60 0 b → goodE (.tup [a, b]) := fun a b ha hb => ⟨fun zs e => by
    have : [a, b] = zs := D.tup.inj e
    rw [← this]; simp, (shK_two ha hb (Nat.le_refl _)).le (by omega) (by omega)⟩
  have up : ∀ {d : D}, shK 13 0 d → shK 60 0 d := fun h => h.le (by omega) (by omega)
  simp only [oddL, List.mem_append, List.mem_cons, List.not_mem_nil, or_false] at hd
  rcases hd with (rfl | rfl | rfl | rfl | rfl | rfl | rfl) | (rfl | rfl | rfl | rfl | rfl | rfl | rfl | rfl | rfl)
  · exact two _ _ (up i1) (up i2)
  · exact two _ _ (up i1) (up i3)
  · exact two _ _ (up i4) (up (shK_int (by decide)))
  · exact two _ _ (up i1) (up (shK_int (by decide)))
  · exact two _ _ (up (shK_int (by decide))) (up (shK_int (by decide)))
  · exact two _ _ ((shK_bl _).le (by omega) (by omega)) (up i2)
  · exact two _ _ (up i1) ((shK_bl _).le (by omega) (by omega))
  · exact ⟨fun zs e => (nomatch e), (shK_lst (n := 13) (k := 0) (N := 150) (fun d hd => by
      simp only [List.mem_cons, List.not_mem_nil, or_false] at hd
      rcases hd with rfl | rfl <;> assumption) (by simp)).le (by omega) (by omega)⟩
  · exact ⟨fun zs e => by have : [D.int (n : Int)] = zs := D.tup.inj e; rw [← this]; simp, (shK_onet i1 (Nat.le_refl _)).le (by omega) (by omega)⟩
  · exact ⟨fun zs e => by have : [D.int (n : Int), .int (k : Int), .int 0] = zs := D.tup.inj e; rw [← this]; simp, (shK_tup (n := 13) (k := 0) (N := 150) (fun d hd => by
      simp only [List.mem_cons, List.not_mem_nil, or_false] at hd
      rcases hd with rfl | rfl | rfl
      · exact i1
      · exact i2
      · exact shK_int (by decide)) (by simp)).le (by omega) (by omega)⟩
  · exact ⟨fun zs e => (nomatch e), shK_non.le (by omega) (by omega)⟩
  · exact ⟨fun zs e => (nomatch e), i1.le (by omega) (by omega)⟩
  · exact ⟨fun zs e => (nomatch e), shK_zero.le (by omega) (by omega)⟩
  · exact two _ _ ((sh_strI hn).le (by omega) (by omega)) (up i2)
  · exact two _ _ shK_40 (up i2)
  · exact ⟨fun zs e => by have : [] = zs := D.tup.inj e; rw [← this]; simp, (shK_tup (n := 0) (k := 0) (ds := []) (fun d hd => absurd hd List.not_mem_nil) (Nat.le_refl _)).le (by simp) (by omega)⟩
section
variable {S : Store} {k : Nat}
theorem e_odd {ds sm : List D} (hk : k < S.length) (h : stOk ds) (hd : ∀ d ∈ sm, dealB d = true) (hl : 0 < sm.length) (hl6 : sm.length ≤ 6) :
    (FLOdd [.c k, .d (.lst sm)] (S.set k (.l ds))).wp (fun w S' => ∃ (d : D) (ds' : List D), w = .d d ∧ goodE d ∧ stOk ds' ∧ S' = S.set k (.l ds')) noX := by
  have dig0 : ∀ {ds : List D} {m : Int}, stOk ds → 0 < m → m ≤ 1000 → (FDig [.c k, .d (.int m)] (S.set k (.l ds))).wp (fun w S' => ∃ (v : Int) (ds' : List D), w = .d (.int v) ∧ 0 ≤ v ∧ v < m ∧ stOk ds' ∧ S' = S.set k (.l ds')) noX := fun {ds m} h hm hm2 => by
    have := dig_app (Z := []) hk h hm (by omega : m ≤ 1000000000)
    simpa using this
  refine fn_wpf rfl (seq_wp ?_)
  simp only [sSet_ap, fApp_ap, aCons_ap, aNil_ap, fVar_ap, fK_ap, sl_c0, sl_cs, Rs.bind_ok, Rs.wp_bind, Rs.wp_ok, dig_eq, st_wp, List.map_cons, List.map_nil, List.length_cons, List.length_nil, List.replicate, List.cons_append, List.nil_append, Nat.reduceSub, Nat.reduceAdd, aLen_ap, itW_l, List.length_map]
  refine (dig0 (m := (sm.length : Int)) h (by omega) (by omega)).mono (fun w S' hw => ?_) fun _ _ h => h.elim
  obtain ⟨v, ds1, rfl, v0, v1, st1, rfl⟩ := hw
  obtain ⟨n, rfl⟩ : ∃ n : Nat, v = (n : Int) := ⟨v.toNat, by omega⟩
  have hn : n < sm.length := by omega
  obtain ⟨ss, e, s1, s8, hss, _⟩ := dealB_eq (hd _ (List.getElem_mem hn))
  have ix : ∀ S, oIx (.d (.lst sm)) (.d (.int (n : Int))) S = .ok (.d (.tup ss)) S := fun S => ixAt rfl (by rw [List.getElem?_eq_getElem hn, e])
  simp only [Ou.wp_nx, List.set_cons_succ, List.set_cons_zero]
  refine seq_wp ?_
  simp only [sSet_ap, fApp_ap, aCons_ap, aNil_ap, fVar_ap, fOp_ap, sl_c0, sl_cs, Rs.bind_ok, Rs.wp_bind, Rs.wp_ok, dig_eq, st_wp, ix, aLen_ap, itW_t, List.length_map]
  refine (dig0 (m := (ss.length : Int)) st1 (by omega) (by omega)).mono (fun w S' hw => ?_) fun _ _ h => h.elim
  obtain ⟨v, ds2, rfl, v2, v3, st2, rfl⟩ := hw
  obtain ⟨p, rfl⟩ : ∃ p : Nat, v = (p : Int) := ⟨v.toNat, by omega⟩
  simp only [Ou.wp_nx, List.set_cons_succ, List.set_cons_zero]
  have m7 : ∀ (a b c d e f g : D) (S : Store), mkL false [.d a, .d b, .d c, .d d, .d e, .d f, .d g] S = .ok (.d (.lst [a, b, c, d, e, f, g])) S := fun a b c d e f g S => mkL_ds false [a, b, c, d, e, f, g] S (by simp)
  have m9 : ∀ (a b c d e f g h i : D) (S : Store), mkL false [.d a, .d b, .d c, .d d, .d e, .d f, .d g, .d h, .d i] S = .ok (.d (.lst [a, b, c, d, e, f, g, h, i])) S := fun a b c d e f g h i S => mkL_ds false [a, b, c, d, e, f, g, h, i] S (by simp)
  have cp : CPow 10 40 := by unfold CPow; decide
  have lg : ((n : Int).natAbs.log2 < 1920) := by
    have : (n : Int).natAbs < 2 ^ 10 := by
      have : (2 : Nat) ^ 10 = 1024 := rfl
      omega
    have := log2_lt (n := (n : Int).natAbs) (k := 10) this (by decide)
    omega
  refine seq_wp ?_
  simp only [sSet_ap, fApp_ap, aCons_ap, aNil_ap, fVar_ap, fOp_ap, fUn_ap, fK_ap, uNeg_i, sl_c0, sl_cs, Rs.bind_ok, Rs.wp_bind, Rs.wp_ok, st_wp, ix, aLen_ap, itW_t, itW_l, List.length_map, mkT2, m7, Ou.wp_nx, List.set_cons_succ, List.set_cons_zero]
  refine seq_wp ?_
  have cat : ∀ (xs ys : List D) (S : Store), xs.length + ys.length ≤ 100000 → oCatL false (.d (.lst xs)) (.d (.lst ys)) S = .ok (.d (.lst (xs ++ ys))) S := fun xs ys S h => e_catL rfl rfl h
  simp only [sSet_ap, fApp_ap, aCons_ap, aNil_ap, fVar_ap, fOp_ap, fUn_ap, fK_ap, sl_c0, sl_cs, Rs.bind_ok, Rs.wp_bind, Rs.wp_ok, st_wp, mkT2, mkT1, mkT3, mkT0, mkL2, newL_f, m9, oPow_ii, cp, if_true, aStrI, lg]
  rw [cat _ _ _ (by simp)]
  simp only [Rs.wp_ok, Ou.wp_nx, List.set_cons_succ, List.set_cons_zero]
  simp only [sRet_ap, fApp_ap, aCons_ap, aNil_ap, fVar_ap, sl_c0, sl_cs, Rs.bind_ok, st_wp]
  have o := e_of (Z := []) (es := oddL n p ss.length sm.length) hk st2 (by simp [oddL]) (by simp [oddL])
  rw [List.append_nil] at o
  refine o.mono (fun w S' hw => ?_) fun _ _ h => h
  obtain ⟨d, ds3, rfl, hm, st3, rfl⟩ := hw
  exact ⟨d, ds3, rfl, good_odd (by omega) (by omega) (by omega) (by omega) d hm, st3, by rw [List.append_nil]⟩
theorem e_spoilt {ds sm ps : List D} (hk : k < S.length) (h : stOk ds) (hd : ∀ d ∈ sm, dealB d = true) (hl : 0 < sm.length) (hl6 : sm.length ≤ 6) (hp : ∀ d ∈ ps, goodE d) (hpl : ps.length ≤ 150) :
    (FLSpoilt [.c k, .d (.lst sm), .d (.lst ps)] (S.set k (.l ds))).wp (fun w S' => ∃ (d : D) (ds' : List D), w = .d d ∧ goodX d ∧ stOk ds' ∧ S' = S.set k (.l ds')) noX := by
  have dig0 : ∀ {ds : List D} {m : Int}, stOk ds → 0 < m → m ≤ 1000 → (FDig [.c k, .d (.int m)] (S.set k (.l ds))).wp (fun w S' => ∃ (v : Int) (ds' : List D), w = .d (.int v) ∧ 0 ≤ v ∧ v < m ∧ stOk ds' ∧ S' = S.set k (.l ds')) noX := fun {ds m} h hm hm2 => by
    have := dig_app (Z := []) hk h hm (by omega : m ≤ 1000000000)
    simpa using this
  have cat : ∀ (xs ys : List D) (S : Store), xs.length + ys.length ≤ 100000 → oCatL false (.d (.lst xs)) (.d (.lst ys)) S = .ok (.d (.lst (xs ++ ys))) S := fun xs ys S h => e_catL rfl rfl h
  refine fn_wpf rfl (seq_wp ?_)
  simp only [sSet_ap, fApp_ap, aCons_ap, aNil_ap, fVar_ap, fK_ap, sl_c0, sl_cs, Rs.bind_ok, Rs.wp_bind, Rs.wp_ok, dig_eq, st_wp, List.map_cons, List.map_nil, List.length_cons, List.length_nil, List.replicate, List.cons_append, List.nil_append, Nat.reduceSub, Nat.reduceAdd]
  refine (dig0 (m := 8) h (by omega) (by omega)).mono (fun w S' hw => ?_) fun _ _ h => h.elim
  obtain ⟨v, ds1, rfl, v0, v1, st1, rfl⟩ := hw
  simp only [Ou.wp_nx, List.set_cons_succ, List.set_cons_zero]
  refine seq_wp ?_
  simp only [sSet_ap, fApp_ap, fOp_ap, aCons_ap, aNil_ap, fVar_ap, fK_ap, sl_c0, sl_cs, Rs.bind_ok, Rs.wp_bind, Rs.wp_ok, dig_eq, st_wp, aLen_ap, itW_l, List.length_map, oAdd_ii]
  refine (dig0 (m := (ps.length : Int) + 1) st1 (by omega) (by omega)).mono (fun w S' hw => ?_) fun _ _ h => h.elim
  obtain ⟨u, ds2, rfl, u0, u1, st2, rfl⟩ := hw
  obtain ⟨p, rfl⟩ : ∃ p : Nat, u = (p : Int) := ⟨u.toNat, by omega⟩
  simp only [Ou.wp_nx, List.set_cons_succ, List.set_cons_zero]
  refine seq_wp ?_
  simp only [sIf_ap, fB_ap, fOp_ap, fVar_ap, fK_ap, sl_c0, sl_cs, Rs.bind_ok, oEq_dd, kEq_ii, st_wp, Rs.wp_ok, Bool.false_eq_true, if_false]
  by_cases hv : v = 0
  · rw [decide_eq_true hv, if_pos rfl]
    have tp : ∀ S, aTuple [.d (.lst ps)] S = .ok (.d (.tup ps)) S := fun S => by simp [aTuple]
    have m5 : ∀ (a b c d e : D) (S : Store), mkL false [.d a, .d b, .d c, .d d, .d e] S = .ok (.d (.lst [a, b, c, d, e])) S := fun a b c d e S => mkL_ds false [a, b, c, d, e] S (by simp)
    simp only [sRet_ap, fApp_ap, aCons_ap, aNil_ap, fVar_ap, fK_ap, fDct_ap, sl_c0, sl_cs, Rs.bind_ok, st_wp, tp, m5]
    have o := e_of (Z := []) (es := [.tup ps, .non, .dct, .int 5, .str "places"]) hk st2 (by simp) (by simp)
    rw [List.append_nil] at o
    refine o.mono (fun w S' hw => ?_) fun _ _ h => h.elim
    obtain ⟨d, ds3, rfl, hm, st3, rfl⟩ := hw
    refine ⟨d, ds3, rfl, ?_, st3, by rw [List.append_nil]⟩
    simp only [List.mem_cons, List.not_mem_nil, or_false] at hm
    rcases hm with rfl | rfl | rfl | rfl | rfl
    · exact good_nl rfl ((shK_tup (n := 150) (N := 200000) (fun d hd => (hp d hd).2) (by omega)).le (Nat.le_refl _) (by omega))
    · exact good_nl rfl (shK_non.le (by omega) (by omega))
    · exact good_nl rfl (shK_dct.le (by omega) (by omega))
    · exact good_nl rfl ((shK_int (by decide)).le (by omega) (by omega))
    · exact good_nl rfl (shK_places.le (by omega) (by omega))
  · rw [decide_eq_false hv, if_neg (by decide)]
    simp only [sNil_ap, Ou.wp_nx]
    refine seq_wp ?_
    simp only [sIf_ap, fB_ap, fOp_ap, fVar_ap, fK_ap, sl_c0, sl_cs, Rs.bind_ok, oEq_dd, kEq_ii, st_wp, Rs.wp_ok, Bool.false_eq_true, if_false]
    have sl1 : ∀ (lo hi : Option Int) (S : Store), oSlL false (.d (.lst ps)) lo hi S = .ok (.d (.lst (cutD ps lo hi))) S := fun lo hi S => e_slL rfl
    by_cases hv1 : v = 1
    · rw [decide_eq_true hv1, if_pos rfl]
      have hc : (cutD ps none (some 1)).length ≤ ps.length ∧ ∀ d ∈ cutD ps none (some 1), d ∈ ps := by
        unfold cutD
        exact ⟨by rw [List.length_take, List.length_drop]; omega, fun d hd => List.mem_of_mem_drop (List.mem_of_mem_take hd)⟩
      simp only [sRet_ap, fOp_ap, fSl_ap, fVar_ap, pNo_ap, pSo_ap, fK_ap, sl_c0, sl_cs, Rs.bind_ok, st_wp, sl1]
      rw [cat _ _ _ (by omega)]
      refine ⟨_, ds2, rfl, good_lst (fun d hd => ?_) (by rw [List.length_append]; omega), st2, rfl⟩
      rcases List.mem_append.mp hd with h | h
      · exact hp d h
      · exact hp d (hc.2 d h)
    · rw [decide_eq_false hv1, if_neg (by decide)]
      simp only [sNil_ap, Ou.wp_nx]
      simp only [sRet_ap, fOp_ap, fApp_ap, aCons_ap, aNil_ap, fSl_ap, fVar_ap, pNo_ap, pSo_ap, fK_ap, sl_c0, sl_cs, Rs.bind_ok, st_wp, sl1, Rs.wp_bind, Rs.wp_ok]
      refine (e_odd hk st2 hd hl hl6).mono (fun w S' hw => ?_) fun _ _ h => h.elim
      obtain ⟨d, ds3, rfl, gd, st3, rfl⟩ := hw
      have hp' : p ≤ ps.length := by omega
      simp only [Rs.wp_ok, mkL1, newL_f, Rs.bind_ok]
      rw [cutD_take ps p hp', cutD_drop ps p hp', cat _ _ _ (by rw [List.length_take]; simp; omega)]
      simp only [Rs.wp_ok, sl1, Rs.bind_ok]
      rw [cat _ _ _ (by rw [List.length_append, List.length_take, List.length_drop]; simp; omega)]
      refine ⟨_, ds3, rfl, good_lst (fun e he => ?_) (by rw [List.length_append, List.length_append, List.length_take, List.length_drop]; simp; omega), st3, rfl⟩
      rcases List.mem_append.mp he with h | h
      · rcases List.mem_append.mp h with h | h
        · exact hp e (List.mem_of_mem_take h)
        · rw [List.mem_singleton.mp h]
          exact gd
      · exact hp e (List.mem_of_mem_drop h)
end
end As

namespace As
open PySem PySem.Spec PyProof.Rows L2
theorem rd_tc {S : Store} {k : Nat} {a : D} {xs : List D} (h : S[k]? = some (.l xs)) : rdW S (.t [.d a, .c k]) = some (.tup [a, .lst xs]) := by simp [rdW, rdN, rdAll, h]
theorem ne_same {w : W} {d : D} {n : Nat} {S : Store} (hw : rdW S w = some d) (hd : okK n d = true) (hn : n ≤ 64) : oNe w (.d d) S = .ok (.d (.bl false)) S := by
  unfold oNe onDD
  rw [hw, rdW_d]
  show kEq true d d S = _
  rw [kEq_ok hd hd hn]
  have : eqB d d = true := by
    unfold eqB
    have h := hd
    unfold okK at h
    simp only [Bool.and_eq_true] at h
    exact SeqAt.eqv_refl_plain _ h.1.2
  rw [this]
  rfl
theorem ne_str (z : Str) (S : Store) : oNe (.d (.str z)) (.d (.str z)) S = .ok (.d (.bl false)) S := by simp
theorem okK_w1 {z : Str} (h : PyData.strOk z = true) : okK 1 (w1 z) = true := okK_tup (n := 0) fun d hd => by
  rw [List.mem_singleton.mp hd]
  exact okK_str 0 h
theorem st_places : PyData.strOk "places" = true := by decide +kernel
theorem st_room : PyData.strOk "room" = true := by decide +kernel
theorem st_told : PyData.strOk "told" = true := by decide +kernel
theorem st_dealings : PyData.strOk "dealings" = true := by decide +kernel
theorem sh_w1 {z : Str} (h : z = "places" ∨ z = "room") : shK 50 1 (w1 z) := by
  rcases h with rfl | rfl
  · exact shK_onet shK_places (by omega)
  · have : shK 9 0 (.str "room") := by unfold shK; rw [pd]; exact ⟨rfl, by decide +kernel, by decide⟩
    exact shK_onet this (by omega)
theorem due_ok {ds : List D} (h : ∀ d ∈ ds, dealB d = true) (hl : ds.length ≤ 100) (x : D) : okK 4 (dueD ds x) = true ∧ shK 200000 4 (dueD ds x) := by
  have tl : shK 9 0 (.str "told") := by unfold shK; rw [pd]; exact ⟨rfl, by decide +kernel, by decide⟩
  have p1 : okK 4 (w1 "places") = true ∧ shK 200000 4 (w1 "places") := ⟨okK_le (okK_w1 st_places) (by omega), (sh_w1 (.inl rfl)).le (by omega) (by omega)⟩
  have p2 : okK 4 (w1 "room") = true ∧ shK 200000 4 (w1 "room") := ⟨okK_le (okK_w1 st_room) (by omega), (sh_w1 (.inr rfl)).le (by omega) (by omega)⟩
  unfold dueD
  cases x with
  | lst xs =>
    dsimp only
    by_cases h1 : arePl (plcD ds) (.lst xs) = true
    · rw [if_pos h1]
      by_cases h2 : roomB (widL xs ds) = true
      · rw [if_pos h2]
        exact ⟨okK_tup (n := 3) fun d hd => by
          simp only [List.mem_cons, List.not_mem_nil, or_false] at hd
          rcases hd with rfl | rfl
          · exact okK_str 3 st_told
          · exact okK_wid h, shK_two (tl.le (by omega) (by omega)) (sh_wid h hl) (by omega)⟩
      · rw [if_neg h2]
        exact p2
    · rw [if_neg h1]
      exact p1
  | _ => exact p1
theorem is_list {S : Store} {k : Nat} {xs : List D} (h : S[k]? = some (.l xs)) : aIsi [.c k, .g (.ty "list")] S = .ok (.d (.bl true)) S := by
  unfold aIsi
  dsimp only
  rw [c_rd h]
  dsimp only
  rw [kTy_lst, if_pos rfl, isTy_lst]
  rfl
/-- one round of asking -/
noncomputable def bAsk : Sm := (sSeq (sSet 6 (fApp FWidePlaces (aCons (fVar 0) aNil)))
      (sSeq (sIf (tOrF (tNotF (fB (fApp aIsi (aCons (fVar 6) (aCons (fK (.g (.ty "list"))) aNil))))) (tOrF (fB (fOp oNe (fVar 6) (fVar 2))) (fB (fOp oNe (fApp aRepr (aCons (fVar 6) aNil)) (fApp aRepr (aCons (fVar 2) aNil))))))
      (sRet (fK (.d (.bl false)))) sNil)
      (sSeq (sExpr (fMt (fun x S => isCl x S = true) mApp (fVar 6) (aCons (fApp mkT (aCons (fK (.d (.int 0))) (aCons (fK (.d (.int 0))) aNil))) aNil)))
      (sSeq (sSet 7 (fApp FLTold (aCons (fVar 0) (aCons (fVar 1) aNil))))
      (sSeq (sIf (tOrF (fB (fOp oNe (fVar 7) (fVar 4))) (fB (fOp oNe (fApp aRepr (aCons (fVar 7) aNil)) (fApp aRepr (aCons (fVar 4) aNil)))))
      (sRet (fK (.d (.bl false)))) sNil)
      (sIf (fB (fOp oEq (fOp oIx (fVar 7) (fK (.d (.int 0)))) (fK (.d (.str "told")))))
      (sExpr (fMt (fun x S => isCl x S = true) mClear (fOp oIx (fVar 7) (fK (.d (.int 1)))) aNil)) sNil))))))
theorem e_ask {ds : List D} {x : D} {S : Store} {J : List Cell} {ρ : Env} {Z : Po} (h : dealsB (.lst ds) = true) (hx : goodX x) (hS : lowS S.length S = true) (hJ : lowS 0 J = true) (hρ : ρ.length = 8) (h0 : sl ρ 0 = some (.d (.lst ds))) (h1 : sl ρ 1 = some (.d x)) (h2 : sl ρ 2 = some (.d (.lst (plcD ds)))) (h4 : sl ρ 4 = some (.d (dueD ds x)))
    (hz : ∀ ρ' J', lowS 0 J' = true → ρ'.length = 8 → (∀ i < 5, sl ρ' i = sl ρ i) → Z.nx ρ' (S ++ J')) : (bAsk ρ (S ++ J)).wp Z := by
  obtain ⟨ds', e, _, h100, hd⟩ := dealsB_eq h
  have e' : ds = ds' := D.lst.inj e
  subst e'
  clear e
  have lowT : ∀ J, lowS 0 J = true → lowS (S ++ J).length (S ++ J) = true := fun J hJ => by
    rw [lowS_app, Bool.and_eq_true]
    exact ⟨lowS_mono (by simp) _ hS, lowS_mono (Nat.zero_le _) _ hJ⟩
  unfold bAsk
  refine seq_wp ?_
  simp only [sSet_ap, fApp_ap, aCons_ap, aNil_ap, fVar_ap, h0, Rs.bind_ok, e_widePlaces h, st_wp, Rs.wp_ok, Ou.wp_nx]
  have g0 : ∀ i, i < 5 → sl (ρ.set 6 (some (.c (S ++ J).length))) i = sl ρ i := fun i hi => by
    rw [sl_set, if_neg (by omega)]
  have g6 : sl (ρ.set 6 (some (.c (S ++ J).length))) 6 = some (.c (S ++ J).length) := by rw [sl_set, if_pos rfl, if_pos (by omega)]
  have gl : (ρ.set 6 (some (.c (S ++ J).length))).length = 8 := by rw [List.length_set]; exact hρ
  generalize ρ.set 6 (some (.c (S ++ J).length)) = ρ1 at *
  have hc : (S ++ J ++ [Cell.l (plcD ds)])[(S ++ J).length]? = some (.l (plcD ds)) := by simp
  have sp : showD (.lst (plcD ds)) = true := (sh_plc hd h100).show (by omega) (by omega)
  refine seq_wp ?_
  rw [sIf_ap]
  simp only [tOrF_ap, tNotF_ap, fB_ap, fApp_ap, fOp_ap, aCons_ap, aNil_ap, fVar_ap, fK_ap, g6, g0 2 (by omega), h2, Rs.bind_ok, is_list hc, Bool.not_true, Bool.false_eq_true, if_false, ne_same (c_rd hc) (okK_plc ds) (by decide), rep_of (c_rd hc) sp, rep1 _ sp, ne_str, st_wp, Rs.wp_ok, sNil_ap, Ou.wp_nx]
  refine seq_wp ?_
  have a1 := c_app hc (by have := plcD_len hd; omega) (.tup [.int 0, .int 0])
  have eT : (S ++ J ++ [Cell.l (plcD ds)]).set (S ++ J).length (.l (plcD ds ++ [.tup [.int 0, .int 0]])) = S ++ (J ++ [.l (plcD ds ++ [.tup [.int 0, .int 0]])]) := by simp
  rw [eT] at a1
  simp only [sExpr_ap, fMt_ap, fVar_ap, g6, Rs.bind_ok, c_is hc, if_true, aCons_ap, fApp_ap, fK_ap, aNil_ap, mkT2, a1, st_wp, Rs.wp_ok, Ou.wp_nx]
  refine seq_wp ?_
  generalize hJ2 : J ++ [Cell.l (plcD ds ++ [.tup [.int 0, .int 0]])] = J2
  have lJ2 : lowS 0 J2 = true := by rw [← hJ2, lowS_app, hJ]; rfl
  have lT2 := lowT J2 lJ2
  simp only [sSet_ap, fApp_ap, aCons_ap, aNil_ap, fVar_ap, g0 0 (by omega), g0 1 (by omega), h0, h1, Rs.bind_ok, st_wp]
  refine (e_told h x (fun xs e => ⟨Nat.le_trans (hx.1 xs e).1 (by omega), (hx.1 xs e).2⟩) (S ++ J2) lT2).mono (fun w S' hw => ?_) fun _ _ h => h.elim
  obtain ⟨T, rfl, lT, hw⟩ := hw
  have q0 : ∀ i, i < 5 → sl (ρ1.set 7 (some w)) i = sl ρ i := fun i hi => by
    rw [sl_set, if_neg (by omega)]
    exact g0 i hi
  have q7 : sl (ρ1.set 7 (some w)) 7 = some w := by rw [sl_set, if_pos rfl, if_pos (by omega)]
  have ql : (ρ1.set 7 (some w)).length = 8 := by rw [List.length_set]; exact gl
  simp only [Ou.wp_nx]
  generalize ρ1.set 7 (some w) = ρ2 at *
  obtain ⟨ok4, sh4⟩ := due_ok hd h100 x
  have sd := sh4.show (by omega) (by omega)
  refine seq_wp ?_
  rcases hw with ⟨es, hdue, rfl, rfl⟩ | ⟨z, hdue, rfl, hz2⟩
  · have hc7 : (S ++ J2 ++ [Cell.l es])[(S ++ J2).length]? = some (.l es) := by simp
    have rd7 : rdW (S ++ J2 ++ [Cell.l es]) (.t [.d (.str "told"), .c (S ++ J2).length]) = some (dueD ds x) := by rw [hdue]; exact rd_tc hc7
    rw [sIf_ap]
    simp only [tOrF_ap, fB_ap, fApp_ap, fOp_ap, aCons_ap, aNil_ap, fVar_ap, q7, q0 4 (by omega), h4, Rs.bind_ok, ne_same rd7 ok4 (by decide), Bool.false_eq_true, if_false, rep_of rd7 sd, rep1 _ sd, ne_str, st_wp, Rs.wp_ok, sNil_ap, Ou.wp_nx]
    have ix0 : oIx (.t [.d (.str "told"), .c (S ++ J2).length]) (.d (.int 0)) (S ++ J2 ++ [Cell.l es]) = .ok (.d (.str "told")) (S ++ J2 ++ [Cell.l es]) := by simp [oIx_ap, itW, atI, ixN]
    have ix1 : oIx (.t [.d (.str "told"), .c (S ++ J2).length]) (.d (.int 1)) (S ++ J2 ++ [Cell.l es]) = .ok (.c (S ++ J2).length) (S ++ J2 ++ [Cell.l es]) := by simp [oIx_ap, itW, atI, ixN]
    have cl : mClear (.c (S ++ J2).length) [] (S ++ J2 ++ [Cell.l es]) = .ok (.d .non) (S ++ (J2 ++ [.l []])) := by simp [mClear]
    rw [sIf_ap]
    simp only [fB_ap, fOp_ap, fVar_ap, q7, fK_ap, Rs.bind_ok, ix0, oEq_dd, kEq_ss, st_wp, Rs.wp_ok, Bool.false_eq_true, if_false, decide_true, if_true, sExpr_ap, fMt_ap, ix1, c_is hc7, aNil_ap, cl, Ou.wp_nx]
    exact hz ρ2 _ (by rw [lowS_app, lJ2]; rfl) ql q0
  · have rd7 : rdW (S ++ J2 ++ T) (.d (w1 z)) = some (dueD ds x) := by rw [hdue]; rfl
    have z0 : ¬ (z = "told") := by rcases hz2 with rfl | rfl <;> decide
    rw [sIf_ap]
    simp only [tOrF_ap, fB_ap, fApp_ap, fOp_ap, aCons_ap, aNil_ap, fVar_ap, q7, q0 4 (by omega), h4, Rs.bind_ok, ne_same rd7 ok4 (by decide), Bool.false_eq_true, if_false, rep_of rd7 sd, rep1 _ sd, ne_str, st_wp, Rs.wp_ok, sNil_ap, Ou.wp_nx]
    have ix0 : oIx (.d (w1 z)) (.d (.int 0)) (S ++ J2 ++ T) = .ok (.d (.str z)) (S ++ J2 ++ T) := by simp [w1]
    rw [sIf_ap]
    simp only [fB_ap, fOp_ap, fVar_ap, q7, fK_ap, Rs.bind_ok, ix0, oEq_dd, kEq_ss, st_wp, Rs.wp_ok, Bool.false_eq_true, if_false, decide_eq_false z0, sNil_ap, Ou.wp_nx]
    rw [List.append_assoc]
    refine hz ρ2 _ ?_ ql q0
    rw [lowS_app, lJ2, lT]
    rfl
end As

namespace As
open PySem PySem.Spec PyProof.Rows L2
theorem gRight_eq : gLRight = (sSeq (sSet 2 (fApp FLPlaces (aCons (fVar 0) aNil)))
    (sSeq (sSet 3 (fApp mkT (aCons (fApp aRepr (aCons (fVar 0) aNil)) (aCons (fApp aRepr (aCons (fVar 1) aNil)) aNil))))
    (sSeq (sSet 4 (fApp FLDue (aCons (fVar 0) (aCons (fVar 1) (aCons (fVar 2) aNil)))))
    (sSeq (sFor (iRange1 (aCons (fK (.d (.int 2))) aNil)) (.n 5) bAsk)
    (sRet (fOp oEq (fApp mkT (aCons (fApp aRepr (aCons (fVar 0) aNil)) (aCons (fApp aRepr (aCons (fVar 1) aNil)) aNil))) (fVar 3))))))) := rfl
theorem eq_strs (a b : Str) (S : Store) : oEq (.d (.tup [.str a, .str b])) (.d (.tup [.str a, .str b])) S = .ok (.d (.bl true)) S := by
  have o : okK 1 (.tup [.str a, .str b]) = true := okK_tup (n := 0) fun d hd => by
    simp only [List.mem_cons, List.not_mem_nil, or_false] at hd
    rcases hd with rfl | rfl <;> exact okK_s 0 _
  rw [oEq_dd, kEq_ok o o (by decide)]
  have h := o
  unfold okK at h
  simp only [Bool.and_eq_true] at h
  have : eqB (.tup [.str a, .str b]) (.tup [.str a, .str b]) = true := SeqAt.eqv_refl_plain _ h.1.2
  rw [this]
  rfl
theorem e_right {ds : List D} {x : D} {S : Store} (h : dealsB (.lst ds) = true) (hx : goodX x) (hS : lowS S.length S = true) : (FLRight [.d (.lst ds), .d x] S).wp (fun w S' => ∃ J, w = .d (.bl true) ∧ S' = S ++ J ∧ lowS 0 J = true) noX := by
  obtain ⟨ds', e, h1', h100, hd⟩ := dealsB_eq h
  have e' : ds = ds' := D.lst.inj e
  subst e'
  clear e
  have sd : showD (.lst ds) = true := (sh_deals hd h100).show (by omega) (by omega)
  have sx : showD x = true := hx.2.show (by omega) (by omega)
  refine fn_wpf rfl ?_
  rw [gRight_eq]
  refine seq_wp ?_
  simp only [sSet_ap, fApp_ap, aCons_ap, aNil_ap, fVar_ap, fK_ap, sl_c0, sl_cs, Rs.bind_ok, Rs.wp_bind, Rs.wp_ok, st_wp, List.map_cons, List.map_nil, List.length_cons, List.length_nil, List.replicate, List.cons_append, List.nil_append, Nat.reduceSub, Nat.reduceAdd, e_lplaces (show ds.length ≤ 1000 by omega) hd S hS, Ou.wp_nx, List.set_cons_succ, List.set_cons_zero]
  refine seq_wp ?_
  simp only [sSet_ap, fApp_ap, aCons_ap, aNil_ap, fVar_ap, sl_c0, sl_cs, Rs.bind_ok, rep1 _ sd, rep1 _ sx, mkT2, st_wp, Rs.wp_ok, Ou.wp_nx, List.set_cons_succ, List.set_cons_zero]
  refine seq_wp ?_
  simp only [sSet_ap, fApp_ap, aCons_ap, aNil_ap, fVar_ap, sl_c0, sl_cs, Rs.bind_ok, e_due (show ds.length ≤ 1000 by omega) hd x (fun xs e => Nat.le_trans (hx.1 xs e).1 (by omega)) S hS, st_wp, Rs.wp_ok, Ou.wp_nx, List.set_cons_succ, List.set_cons_zero]
  refine seq_wp ?_
  rw [sFor_ap, ir1 (n := 2) (S' := S) (by simp) (by omega)]
  simp only [st_wp, Rs.wp_ok]
  refine forR_wp (n := 2) (lo := 0) (fun k ρ T => ρ.length = 8 ∧ sl ρ 0 = some (.d (.lst ds)) ∧ sl ρ 1 = some (.d x) ∧ sl ρ 2 = some (.d (.lst (plcD ds))) ∧ sl ρ 3 = some (.d (.tup [.str (pd (.lst ds)).shown, .str (pd x).shown])) ∧ sl ρ 4 = some (.d (dueD ds x)) ∧ ∃ J, T = S ++ J ∧ lowS 0 J = true) ⟨rfl, rfl, rfl, rfl, rfl, rfl, [], by simp, rfl⟩ (fun _ _ _ _ => trivial) (fun k ρ T hk I => ?_) fun ρ T I => ?_
  · obtain ⟨hρ, h0, h1, h2, h3, h4, J, rfl, hJ⟩ := I
    have g : ∀ i, i < 5 → sl (ρ.set 5 (some (.d (.int (0 + k))))) i = sl ρ i := fun i hi => by rw [sl_set, if_neg (by omega)]
    refine e_ask h hx hS hJ (by simp [hρ]) (by rw [g 0 (by omega), h0]) (by rw [g 1 (by omega), h1]) (by rw [g 2 (by omega), h2]) (by rw [g 4 (by omega), h4]) fun ρ' J' lJ hl hg => ⟨hl, ?_, ?_, ?_, ?_, ?_, J', rfl, lJ⟩
    · rw [hg 0 (by omega), g 0 (by omega), h0]
    · rw [hg 1 (by omega), g 1 (by omega), h1]
    · rw [hg 2 (by omega), g 2 (by omega), h2]
    · rw [hg 3 (by omega), g 3 (by omega), h3]
    · rw [hg 4 (by omega), g 4 (by omega), h4]
  · obtain ⟨hρ, h0, h1, h2, h3, h4, J, rfl, hJ⟩ := I
    simp only [sRet_ap, fOp_ap, fApp_ap, aCons_ap, aNil_ap, fVar_ap, h0, h1, h3, Rs.bind_ok, rep1 _ sd, rep1 _ sx, mkT2, eq_strs, st_wp, Rs.wp_ok, Ou.wp_rt]
    exact ⟨J, trivial, rfl, hJ⟩
noncomputable def bLaw : Sm := (sGc (sSeq (sSet 5 (fApp (mkL true) (aCons (fVar 1) aNil)))
      (sSeq (sSet 6 (fOp oAdd (fK (.d (.int 1))) (fApp FLDigit (aCons (fVar 5) (aCons (fK (.d (.int 6))) aNil)))))
      (sSeq (sSet 7 (fOp oIx (fApp (mkL false) (aCons (fK (.d (.int 8))) (aCons (fK (.d (.int 3))) aNil))) (fApp FLDigit (aCons (fVar 5) (aCons (fK (.d (.int 2))) aNil)))))
      (sSeq (sSet 2 (fLc false (iRange1 (aCons (fOp oAdd (fK (.d (.int 1))) (fApp FLDigit (aCons (fVar 5) (aCons (fK (.d (.int 6))) aNil)))) aNil)) (.n 8) tYesF (fApp FLDealing (aCons (fVar 5) (aCons (fVar 6) (aCons (fVar 7) aNil)))) [8]))
      (sSeq (sSet 3 (fApp FLDrawn (aCons (fVar 5) (aCons (fApp FLPlaces (aCons (fVar 2) aNil)) aNil))))
      (sSeq (sIf (fB (fOp oEq (fApp FLDigit (aCons (fVar 5) (aCons (fK (.d (.int 2))) aNil))) (fK (.d (.int 0)))))
      (sSet 3 (fApp FLSpoilt (aCons (fVar 5) (aCons (fVar 2) (aCons (fVar 3) aNil))))) sNil)
      (sSeq (sIf (tNotF (fB (fApp FLRight (aCons (fVar 2) (aCons (fVar 3) aNil)))))
      (sRet (fK (.d (.bl false)))) sNil)
      (sIf (fB (fOp oEq (fApp FLDigit (aCons (fVar 5) (aCons (fK (.d (.int 8))) aNil))) (fK (.d (.int 0)))))
      (sSeq (sSet 4 (fApp FLOf (aCons (fVar 5) (aCons (fApp (mkL false) (aCons (fApp (mkL false) aNil) (aCons (fApp aTuple (aCons (fVar 2) aNil)) (aCons (fOp (oCatL false) (fVar 2) (fApp (mkL false) (aCons (fApp mkT aNil) aNil))) (aCons (fOp (oRepL false) (fApp (mkL false) (aCons (fOp oIx (fVar 2) (fK (.d (.int 0)))) aNil)) (fK (.d (.int 101)))) (aCons (fK (.d .non)) (aCons (fApp (mkL false) (aCons (fApp (aList false) (aCons (fOp oIx (fVar 2) (fK (.d (.int 0)))) aNil)) aNil)) aNil))))))) aNil))))
        (sIf (tOrF (tNotF (fB (fApp FLRefused (aCons (fVar 4) aNil)))) (fB (fOp oNe (fApp FLTold (aCons (fVar 4) (aCons (fVar 3) aNil))) (fApp mkT (aCons (fK (.d (.str "dealings"))) aNil)))))
        (sRet (fK (.d (.bl false)))) sNil)) sNil)))))))))
theorem gLaw_eq : gLaw = (sSeq (sFor (iList (fOp (oCatL false) (fApp (mkL false) (aCons (fApp FLCellAt (aCons (fVar 0) (aCons (fK (.d (.int 0))) aNil))) aNil)) (fSl (oSlL false) (fVar 0) (pSo (fK (.d (.int 1)))) (pSo (fK (.d (.int 8))))))) (.n 1) bLaw)
    (sRet (fK (.d (.bl true))))) := rfl
noncomputable def bRest : Sm := (sSeq (sIf (tNotF (fB (fApp FLRight (aCons (fVar 2) (aCons (fVar 3) aNil)))))
      (sRet (fK (.d (.bl false)))) sNil)
      (sIf (fB (fOp oEq (fApp FLDigit (aCons (fVar 5) (aCons (fK (.d (.int 8))) aNil))) (fK (.d (.int 0)))))
      (sSeq (sSet 4 (fApp FLOf (aCons (fVar 5) (aCons (fApp (mkL false) (aCons (fApp (mkL false) aNil) (aCons (fApp aTuple (aCons (fVar 2) aNil)) (aCons (fOp (oCatL false) (fVar 2) (fApp (mkL false) (aCons (fApp mkT aNil) aNil))) (aCons (fOp (oRepL false) (fApp (mkL false) (aCons (fOp oIx (fVar 2) (fK (.d (.int 0)))) aNil)) (fK (.d (.int 101)))) (aCons (fK (.d .non)) (aCons (fApp (mkL false) (aCons (fApp (aList false) (aCons (fOp oIx (fVar 2) (fK (.d (.int 0)))) aNil)) aNil)) aNil))))))) aNil))))
        (sIf (tOrF (tNotF (fB (fApp FLRefused (aCons (fVar 4) aNil)))) (fB (fOp oNe (fApp FLTold (aCons (fVar 4) (aCons (fVar 3) aNil))) (fApp mkT (aCons (fK (.d (.str "dealings"))) aNil)))))
        (sRet (fK (.d (.bl false)))) sNil)) sNil))
theorem e_rest {a : Int} {zs : List D} {x : D} {ds6 : List D} {ρ5 : Env} {Z : Po} (hz1 : 1 ≤ zs.length) (hz6 : zs.length ≤ 6) (hzs : ∀ d ∈ zs, dealB d = true) (hdb : dealsB (.lst zs) = true) (hx : goodX x) (st6 : stOk ds6) (s_l : ρ5.length = 9) (s5 : sl ρ5 5 = some (.c 0)) (s2 : sl ρ5 2 = some (.d (.lst zs))) (s3 : sl ρ5 3 = some (.d x))
    (hz : ∀ ρ' S', ρ'.length = 9 → Z.nx ρ' S') : (bRest ρ5 [.l ds6]).wp Z := by
  have hk : 0 < [Cell.l [D.int a]].length := by simp
  have dg : ∀ {ds : List D} {m : Int} (J : List Cell), stOk ds → 0 < m → m ≤ 1000 → (FDig [.c 0, .d (.int m)] (.l ds :: J)).wp (fun w S' => ∃ (v : Int) (ds' : List D), w = .d (.int v) ∧ 0 ≤ v ∧ v < m ∧ stOk ds' ∧ S' = .l ds' :: J) noX := fun {ds m} J h hm hm2 =>
    dig_app (S := [.l [.int a]]) (Z := J) hk h hm (by omega : m ≤ 1000000000)
  unfold bRest
  refine seq_wp ?_
  rw [sIf_ap]
  simp only [tNotF_ap, fB_ap, fApp_ap, aCons_ap, aNil_ap, fVar_ap, s2, s3, Rs.bind_ok, st_wp, Rs.wp_bind]
  refine (e_right (S := [.l ds6]) hdb hx rfl).mono (fun w S' hw => ?_) fun _ _ h => h.elim
  obtain ⟨J, rfl, rfl, lJ⟩ := hw
  simp only [Rs.wp_ok, Bool.not_true, Bool.false_eq_true, if_false, sNil_ap, Ou.wp_nx]
  rw [sIf_ap]
  simp only [fB_ap, fOp_ap, fApp_ap, aCons_ap, aNil_ap, fVar_ap, fK_ap, s5, Rs.bind_ok, st_wp, Rs.wp_bind, Rs.wp_ok, dig_eq]
  refine (dg J st6 (by omega) (by omega)).mono (fun w S' hw => ?_) fun _ _ h => h.elim
  obtain ⟨v4, ds7, rfl, d0, d1, st7, rfl⟩ := hw
  simp only [oEq_dd, kEq_ii, Rs.wp_ok, Bool.false_eq_true, if_false]
  by_cases hv : v4 = 0
  · rw [decide_eq_true hv, if_pos rfl]
    refine seq_wp ?_
    obtain ⟨z, zt, hzz⟩ : ∃ z zt, zs = z :: zt := by
      cases zs with
      | nil => simp at hz1
      | cons z zt => exact ⟨z, zt, rfl⟩
    obtain ⟨ss, ez, s1, s8, hss, _⟩ := dealB_eq (hzs z (by rw [hzz]; simp))
    have i0 : ∀ S, oIx (.d (.lst zs)) (.d (.int 0)) S = .ok (.d (.tup ss)) S := fun S => ixAt (v := 0) rfl (by rw [hzz, ez]; rfl)
    have tp : ∀ S, aTuple [.d (.lst zs)] S = .ok (.d (.tup zs)) S := fun S => by simp [aTuple]
    have al : ∀ S, aList false [.d (.tup ss)] S = .ok (.d (.lst ss)) S := fun S => by simp [aList]
    have cat : ∀ S, oCatL false (.d (.lst zs)) (.d (.lst [.tup []])) S = .ok (.d (.lst (zs ++ [.tup []]))) S := fun S => e_catL rfl rfl (by simp; omega)
    have rp : ∀ S, oRepL false (.d (.lst [.tup ss])) (.d (.int 101)) S = .ok (.d (.lst (List.replicate 101 [D.tup ss]).flatten)) S := fun S => by
      have : ([D.tup ss].map W.d) = [.d (.tup ss)] := rfl
      simp [oRepL, unDs]
    have m6 : ∀ (a b c d e f : D) (S : Store), mkL false [.d a, .d b, .d c, .d d, .d e, .d f] S = .ok (.d (.lst [a, b, c, d, e, f])) S := fun a b c d e f S => mkL_ds false [a, b, c, d, e, f] S (by simp)
    simp only [sSet_ap, fApp_ap, aCons_ap, aNil_ap, fVar_ap, fOp_ap, fK_ap, s5, s2, Rs.bind_ok, mkL0, newL_f, tp, mkT0, mkL1, cat, i0, rp, al, m6, st_wp]
    refine (e_of (S := [.l [.int a]]) (Z := J) (es := [.lst [], .tup zs, .lst (zs ++ [.tup []]), .lst (List.replicate 101 [D.tup ss]).flatten, .non, .lst [.lst ss]]) hk st7 (by simp) (by simp)).mono (fun w S' hw => ?_) fun _ _ h => h.elim
    obtain ⟨bad, ds8, rfl, hm, st8, rfl⟩ := hw
    have hb : dealsB bad = false := by
      simp only [List.mem_cons, List.not_mem_nil, or_false] at hm
      rcases hm with rfl | rfl | rfl | rfl | rfl | rfl
      · rfl
      · rfl
      · simp [dealsB, dealB]
      · have : (List.replicate 101 [D.tup ss]).flatten.length = 101 := by simp
        simp only [dealsB, this]
        rfl
      · rfl
      · simp [dealsB, dealB]
    simp only [Ou.wp_nx]
    have t4 : sl (ρ5.set 4 (some (.d bad))) 4 = some (.d bad) := by rw [sl_set, if_pos rfl, if_pos (by omega)]
    have t3 : sl (ρ5.set 4 (some (.d bad))) 3 = some (.d x) := by rw [sl_set, if_neg (by omega)]; exact s3
    have tl : (ρ5.set 4 (some (.d bad))).length = 9 := by rw [List.length_set]; exact s_l
    generalize ρ5.set 4 (some (.d bad)) = ρ6 at *
    have wd : oNe (.d (w1 "dealings")) (.d (.tup [.str "dealings"])) ([Cell.l [D.int a]].set 0 (.l ds8) ++ J) = .ok (.d (.bl false)) ([Cell.l [D.int a]].set 0 (.l ds8) ++ J) := ne_same rfl (okK_w1 st_dealings) (by decide)
    rw [sIf_ap]
    simp only [tOrF_ap, tNotF_ap, fB_ap, fOp_ap, fApp_ap, aCons_ap, aNil_ap, fVar_ap, fK_ap, t4, t3, Rs.bind_ok, e_refused hb, Bool.not_true, Bool.false_eq_true, if_false, told_ex (e_widenedX hb _) (.inl ⟨rfl, rfl⟩), mkT1, wd, st_wp, Rs.wp_ok, sNil_ap, Ou.wp_nx]
    exact hz _ _ tl
  · rw [decide_eq_false hv, if_neg (by decide)]
    simp only [sNil_ap, Ou.wp_nx]
    exact hz _ _ s_l
theorem e_turn {a : Int} {ρ : Env} {Z : Po} (hρ : ρ.length = 9) (h1 : sl ρ 1 = some (.d (.int a))) (hz : ∀ ρ', ρ'.length = 9 → Z.nx ρ' []) : (bLaw ρ []).wp Z := by
  have st0 : stOk [.int a] := .inl ⟨a, rfl⟩
  have hk : 0 < [Cell.l [D.int a]].length := by simp
  have dg : ∀ {ds : List D} {m : Int} (J : List Cell), stOk ds → 0 < m → m ≤ 1000 → (FDig [.c 0, .d (.int m)] (.l ds :: J)).wp (fun w S' => ∃ (v : Int) (ds' : List D), w = .d (.int v) ∧ 0 ≤ v ∧ v < m ∧ stOk ds' ∧ S' = .l ds' :: J) noX := fun {ds m} J h hm hm2 =>
    dig_app (S := [.l [.int a]]) (Z := J) hk h hm (by omega : m ≤ 1000000000)
  refine sGc_wp (seq_wp ?_)
  simp only [sSet_ap, fApp_ap, aCons_ap, aNil_ap, fVar_ap, h1, Rs.bind_ok, mkL1, newL_t, st_wp, Rs.wp_ok, Ou.wp_nx, List.nil_append, List.length_nil]
  have g5 : sl (ρ.set 5 (some (.c 0))) 5 = some (.c 0) := by rw [sl_set, if_pos rfl, if_pos (by omega)]
  have gl : (ρ.set 5 (some (.c 0))).length = 9 := by rw [List.length_set]; exact hρ
  generalize ρ.set 5 (some (.c 0)) = ρ1 at *
  refine seq_wp ?_
  simp only [sSet_ap, fOp_ap, fK_ap, fApp_ap, aCons_ap, aNil_ap, fVar_ap, g5, Rs.bind_ok, st_wp, Rs.wp_bind, Rs.wp_ok, dig_eq]
  refine (dg [] st0 (by omega) (by omega)).mono (fun w S' hw => ?_) fun _ _ h => h.elim
  obtain ⟨v1, ds1, rfl, a0, a1, st1, rfl⟩ := hw
  simp only [oAdd_ii, Rs.wp_ok, Ou.wp_nx]
  refine seq_wp ?_
  have p5 : sl (ρ1.set 6 (some (.d (.int (1 + v1))))) 5 = some (.c 0) := by rw [sl_set, if_neg (by omega)]; exact g5
  have p6 : sl (ρ1.set 6 (some (.d (.int (1 + v1))))) 6 = some (.d (.int (1 + v1))) := by rw [sl_set, if_pos rfl, if_pos (by omega)]
  have pl : (ρ1.set 6 (some (.d (.int (1 + v1))))).length = 9 := by rw [List.length_set]; exact gl
  generalize ρ1.set 6 (some (.d (.int (1 + v1)))) = ρ2 at *
  simp only [sSet_ap, fOp_ap, fK_ap, fApp_ap, aCons_ap, aNil_ap, fVar_ap, p5, Rs.bind_ok, st_wp, Rs.wp_bind, Rs.wp_ok, dig_eq, mkL2, newL_f]
  refine (dg [] st1 (by omega) (by omega)).mono (fun w S' hw => ?_) fun _ _ h => h.elim
  obtain ⟨v2, ds2, rfl, b0, b1, st2, rfl⟩ := hw
  obtain ⟨mo, em, hm1, hm8⟩ : ∃ mo : Int, oIx (.d (.lst [.int 8, .int 3])) (.d (.int v2)) [Cell.l ds2] = .ok (.d (.int mo)) [.l ds2] ∧ 0 < mo ∧ mo ≤ 8 := by
    have : v2 = 0 ∨ v2 = 1 := by omega
    rcases this with rfl | rfl
    · exact ⟨8, ixAt (v := 0) (xs := [.int 8, .int 3]) rfl rfl, by omega, by omega⟩
    · exact ⟨3, ixAt (v := 1) (xs := [.int 8, .int 3]) rfl rfl, by omega, by omega⟩
  simp only [em, Rs.wp_ok, Ou.wp_nx]
  refine seq_wp ?_
  have q5 : sl (ρ2.set 7 (some (.d (.int mo)))) 5 = some (.c 0) := by rw [sl_set, if_neg (by omega)]; exact p5
  have q6 : sl (ρ2.set 7 (some (.d (.int mo)))) 6 = some (.d (.int (1 + v1))) := by rw [sl_set, if_neg (by omega)]; exact p6
  have q7 : sl (ρ2.set 7 (some (.d (.int mo)))) 7 = some (.d (.int mo)) := by rw [sl_set, if_pos rfl, if_pos (by omega)]
  have ql : (ρ2.set 7 (some (.d (.int mo)))).length = 9 := by rw [List.length_set]; exact pl
  generalize ρ2.set 7 (some (.d (.int mo))) = ρ3 at *
  rw [sSet_ap, st_wp]
  refine fLc_wp (iRange1_wp ?_)
  simp only [fOp_ap, fK_ap, fApp_ap, aCons_ap, aNil_ap, fVar_ap, q5, Rs.bind_ok, Rs.wp_bind, Rs.wp_ok, dig_eq]
  refine (dg [] st2 (by omega) (by omega)).mono (fun w S' hw => ?_) fun _ _ h => h.elim
  obtain ⟨v3, ds3, rfl, c0, c1, st3, rfl⟩ := hw
  obtain ⟨n, hn⟩ : ∃ n : Nat, 1 + v3 = (n : Int) := ⟨(1 + v3).toNat, by omega⟩
  rw [oAdd_ii, Rs.wp_ok]
  refine ⟨n, by rw [hn], sm_ok (by omega), lenOk_of (by rw [rngW_len]; omega), ?_⟩
  refine compL_wp (fun x us T => ∃ ds' zs, us = zs.map W.d ∧ zs.length = x.length ∧ (∀ d ∈ zs, dealB d = true) ∧ stOk ds' ∧ T = [.l ds']) ⟨ds3, [], rfl, rfl, fun d hd => absurd hd List.not_mem_nil, st3, rfl⟩ (fun _ _ _ _ => trivial) (fun x w b us T e I => ?_) fun us T I => ?_
  · obtain ⟨ds', zs, rfl, hzl, hzs, st, rfl⟩ := I
    refine ⟨_, rfl, ?_⟩
    simp only [tYesF_ap, Rs.wp_ok, if_true, fApp_ap, aCons_ap, aNil_ap, fVar_ap, wipe1, wipe0, sl_set, List.length_set, ql, Nat.reduceEqDiff, if_false, q5, q6, q7, Rs.bind_ok]
    refine (e_dealing_drawn (S := [.l [.int a]]) hk st (show 0 < 1 + v1 by omega) (by omega) hm1 hm8 rfl).mono (fun w S' hw => ?_) fun _ _ h => h
    obtain ⟨d, ds2, rfl, hd, st2, rfl⟩ := hw
    exact ⟨ds2, zs ++ [d], by simp, by simp [hzl], fun y hy => by
      rcases List.mem_append.mp hy with h | h
      · exact hzs y h
      · rw [List.mem_singleton.mp h]
        exact hd, st2, rfl⟩
  obtain ⟨ds4, zs, rfl, hzl, hzs, st4, rfl⟩ := I
  rw [rngW_len] at hzl
  have hz1 : 1 ≤ zs.length := by omega
  have hz6 : zs.length ≤ 6 := by omega
  have hdb : dealsB (.lst zs) = true := by
    simp only [dealsB, Bool.and_eq_true, decide_eq_true_eq, List.all_eq_true]
    exact ⟨⟨hz1, by omega⟩, hzs⟩
  simp only [newW_ds, newL_f, Rs.wp_ok, Ou.wp_nx]
  refine seq_wp ?_
  have r5 : sl (ρ3.set 2 (some (.d (.lst zs)))) 5 = some (.c 0) := by rw [sl_set, if_neg (by omega)]; exact q5
  have r2 : sl (ρ3.set 2 (some (.d (.lst zs)))) 2 = some (.d (.lst zs)) := by rw [sl_set, if_pos rfl, if_pos (by omega)]
  have rl : (ρ3.set 2 (some (.d (.lst zs)))).length = 9 := by rw [List.length_set]; exact ql
  generalize ρ3.set 2 (some (.d (.lst zs))) = ρ4 at *
  simp only [sSet_ap, fApp_ap, aCons_ap, aNil_ap, fVar_ap, r5, r2, Rs.bind_ok, e_lplaces (show zs.length ≤ 1000 by omega) hzs [Cell.l ds4] rfl, st_wp]
  refine (e_drawn (S := [.l [.int a]]) (P := goodE) hk st4 (wide := plcD zs) (fun d hd => by
    obtain ⟨n, k, rfl, h1, h2⟩ := plc_mem hzs hd
    exact good_plT (by omega) (by omega)) (by have := plcD_len hzs; omega) rfl).mono (fun w S' hw => ?_) fun _ _ h => h.elim
  obtain ⟨ps, ds5, rfl, hps, hpl, st5, rfl⟩ := hw
  simp only [Ou.wp_nx]
  have s5 : sl (ρ4.set 3 (some (.d (.lst ps)))) 5 = some (.c 0) := by rw [sl_set, if_neg (by omega)]; exact r5
  have s2 : sl (ρ4.set 3 (some (.d (.lst ps)))) 2 = some (.d (.lst zs)) := by rw [sl_set, if_neg (by omega)]; exact r2
  have s3 : sl (ρ4.set 3 (some (.d (.lst ps)))) 3 = some (.d (.lst ps)) := by rw [sl_set, if_pos rfl, if_pos (by omega)]
  have s_l : (ρ4.set 3 (some (.d (.lst ps)))).length = 9 := by rw [List.length_set]; exact rl
  generalize ρ4.set 3 (some (.d (.lst ps))) = ρ5 at *
  refine seq_wp ?_
  rw [sIf_ap]
  simp only [fB_ap, fOp_ap, fApp_ap, aCons_ap, aNil_ap, fVar_ap, fK_ap, s5, Rs.bind_ok, st_wp, Rs.wp_bind, Rs.wp_ok, dig_eq]
  refine (dg [] st5 (by omega) (by omega)).mono (fun w S' hw => ?_) fun _ _ h => h.elim
  obtain ⟨v5, ds6, rfl, e0, e1, st6, rfl⟩ := hw
  simp only [oEq_dd, kEq_ii, Rs.wp_ok, Bool.false_eq_true, if_false]
  by_cases hv : v5 = 0
  · rw [decide_eq_true hv, if_pos rfl]
    simp only [sSet_ap, fApp_ap, aCons_ap, aNil_ap, fVar_ap, s5, s2, s3, Rs.bind_ok, st_wp]
    refine (e_spoilt (S := [.l [.int a]]) hk st6 hzs hz1 hz6 hps hpl).mono (fun w S' hw => ?_) fun _ _ h => h.elim
    obtain ⟨x, ds7, rfl, hx, st7, rfl⟩ := hw
    simp only [Ou.wp_nx]
    exact e_rest (a := a) hz1 hz6 hzs hdb hx st7 (by simp [s_l]) (by rw [sl_set, if_neg (by omega)]; exact s5) (by rw [sl_set, if_neg (by omega)]; exact s2) (by rw [sl_set, if_pos rfl, if_pos (by omega)]) fun ρ' S' h => ⟨rfl, hz _ (by rw [gcE_len]; exact h)⟩
  · rw [decide_eq_false hv, if_neg (by decide)]
    simp only [sNil_ap, Ou.wp_nx]
    exact e_rest (a := a) hz1 hz6 hzs hdb (good_lst hps (by omega)) st6 s_l s5 s2 s3 fun ρ' S' h => ⟨rfl, hz _ (by rw [gcE_len]; exact h)⟩
end As

namespace As
open PySem PySem.Spec PyProof.Rows L2
theorem law_holds (ns : List Int) (hn : ns.length ≤ 63) : ∃ S', FLaw [.s ns] [] = .ok (.d (.bl true)) S' := by
  have main : (FLaw [.s ns] []).wp (fun w S' => w = .d (.bl true)) noX := by
    obtain ⟨c, hc⟩ : ∃ c : Int, FLCellAt [.s ns, .d (.int 0)] [] = .ok (.d (.int c)) [] := by
      cases ns with
      | nil => exact ⟨0, by simp [FLCellAt, fnF_ap, gLCellAt]⟩
      | cons a as =>
        have h : (0 : Int) < (as.length : Int) + 1 := by omega
        exact ⟨a, by simp [FLCellAt, fnF_ap, gLCellAt, h, oIx_ap, atI, ixN]⟩
    have hu : laW [] (.s ns) = some ((ns.map D.int).map .d) := by
      show some (ns.map fun i => W.d (.int i)) = _
      rw [List.map_map]
      rfl
    obtain ⟨ms, hms, hml⟩ : ∃ ms : List Int, cutD (ns.map .int) (some 1) (some 8) = ms.map .int ∧ ms.length ≤ 63 := by
      unfold cutD
      refine ⟨(ns.drop (HT.sIx (ns.map D.int).length 0 (some 1))).take (HT.sIx (ns.map D.int).length (ns.map D.int).length (some 8) - HT.sIx (ns.map D.int).length 0 (some 1)), ?_, ?_⟩
      · rw [List.map_take, List.map_drop]
      · rw [List.length_take, List.length_drop]
        omega
    refine fn_wpt rfl ?_
    rw [gLaw_eq]
    refine seq_wp ?_
    have e1 : oSlL false (.s ns) (some 1) (some 8) [] = .ok (.d (.lst (ms.map .int))) [] := by rw [e_slL hu, hms]; rfl
    have e2 : oCatL false (.d (.lst [.int c])) (.d (.lst (ms.map .int))) [] = .ok (.d (.lst ((c :: ms).map .int))) [] := e_catL (xs := [.int c]) (ys := ms.map .int) rfl rfl (by rw [List.length_map]; simp only [List.length_cons, List.length_nil]; omega)
    have e3 : oCatL false (.d (.lst [.int c])) (.d (.lst (ms.map .int))) [] = .ok (.d (.lst (.int c :: ms.map .int))) [] := e2
    simp only [sFor_ap, iList_ap, fOp_ap, fApp_ap, fSl_ap, aCons_ap, aNil_ap, fVar_ap, fK_ap, pSo_ap, List.map_cons, List.map_nil, List.length_cons, List.length_nil, List.replicate, List.cons_append, List.nil_append, Nat.reduceSub, Nat.reduceAdd, sl_c0, sl_cs, Rs.bind_ok, hc, mkL1, newL_f, e1, e3, st_wp, Rs.wp_ok]
    have e4 : W.d (D.int c) :: (ms.map D.int).map W.d = ((c :: ms).map D.int).map W.d := rfl
    rw [e4]
    refine forD_wp (ds := (c :: ms).map D.int) (fun a ρ T => ρ.length = 9 ∧ T = []) ⟨rfl, rfl⟩ (fun _ _ _ _ => trivial) (fun a d b ρ T e I => ?_) fun ρ T I => ?_
    · obtain ⟨hρ, rfl⟩ := I
      have hd : d ∈ (c :: ms).map D.int := by rw [← e]; simp
      obtain ⟨i, _, rfl⟩ := List.mem_map.mp hd
      exact e_turn (a := i) (by simp [hρ]) (by rw [sl_set, if_pos rfl, if_pos (by omega)]) fun ρ' h => ⟨h, rfl⟩
    · obtain ⟨hρ, rfl⟩ := I
      simp only [sRet_ap, fK_ap, st_wp, Rs.wp_ok, Ou.wp_rt]
      exact cut_wp rfl rfl rfl
  obtain ⟨w, S', e, rfl⟩ := Rs.wp_ex' main
  exact ⟨S', e⟩
end As

namespace As
open PySem PySem.Spec PyProof.Rows L2
/-! ### what the top has written; the end -/
theorem all_mk {P : Program} {w : World} {K : PySem.W.Frag} {h : Heap} {mg : Str → Option Value} {fa : Addr} (X : K.In h) (G : h.Ns mainGlobals mg) (hfa : mg "law" = some (.ref fa))
    {f1 f2 f3 f4 f5 f6 f7 f8 f9 f10 f11 f12 f13 f14 f15 f16 f17 f18 f19 f20 f21 f22 f23 f24 f25 f26 f27 f28 f29 C1 C2 C3 C4 C5 : Addr} {od1 an1 od2 an2 od3 an3 od4 an4 od5 an5 od6 an6 od7 an7 od8 an8 od9 an9 od10 an10 od11 an11 od12 an12 od13 an13 od14 an14 od15 an15 od16 an16 od17 an17 od18 an18 od19 an19 od20 an20 od21 an21 od22 an22 od23 an23 od24 an24 od25 an25 od26 an26 od27 an27 od28 an28 od29 an29 : Option Addr} {sl1 sl2 sl3 sl4 sl5 sl6 sl7 sl8 sl9 sl10 sl11 sl12 sl13 sl14 sl15 sl16 sl17 sl18 sl19 sl20 sl21 sl22 sl23 sl24 sl25 sl26 sl27 sl28 sl29 : Array (Option Value)} {oc1 kV1 dc1 pm1 ct1 cd1 oc2 kV2 dc2 pm2 ct2 cd2 oc3 kV3 dc3 pm3 ct3 cd3 oc4 kV4 dc4 pm4 ct4 cd4 oc5 kV5 dc5 pm5 ct5 cd5 oc6 kV6 dc6 pm6 ct6 cd6 oc7 kV7 dc7 pm7 ct7 cd7 oc8 kV8 dc8 pm8 ct8 cd8 oc9 kV9 dc9 pm9 ct9 cd9 oc10 kV10 dc10 pm10 ct10 cd10 oc11 kV11 dc11 pm11 ct11 cd11 oc12 kV12 dc12 pm12 ct12 cd12 oc13 kV13 dc13 pm13 ct13 cd13 oc14 kV14 dc14 pm14 ct14 cd14 oc15 kV15 dc15 pm15 ct15 cd15 oc16 kV16 dc16 pm16 ct16 cd16 oc17 kV17 dc17 pm17 ct17 cd17 oc18 kV18 dc18 pm18 ct18 cd18 oc19 kV19 dc19 pm19 ct19 cd19 oc20 kV20 dc20 pm20 ct20 cd20 oc21 kV21 dc21 pm21 ct21 cd21 oc22 kV22 dc22 pm22 ct22 cd22 oc23 kV23 dc23 pm23 ct23 cd23 oc24 kV24 dc24 pm24 ct24 cd24 oc25 kV25 dc25 pm25 ct25 cd25 oc26 kV26 dc26 pm26 ct26 cd26 oc27 kV27 dc27 pm27 ct27 cd27 oc28 kV28 dc28 pm28 ct28 cd28 oc29 kV29 dc29 pm29 ct29 cd29 : Value} {t1 t2 t3 : Tok}
    (a1 : PySem.W.nsIn K mainGlobals "is_whole" = some (some (.ref f1))) (l1 : K.lookup f1 = some ⟨oc1, od1, .func (PySem.W.fnOf "is_whole" "is_whole" (defArgs sIsWhole) (defBody sIsWhole) (defScope sIsWhole) .none kV1 dc1 pm1 an1 cd1 ct1), sl1⟩) (c1 : PySem.W.codeIn K cd1 "is_whole" = true) (k1 : PySem.W.keepIn K (.ref f1) = true)
    (a2 : PySem.W.nsIn K mainGlobals "is_number" = some (some (.ref f2))) (l2 : K.lookup f2 = some ⟨oc2, od2, .func (PySem.W.fnOf "is_number" "is_number" (defArgs sIsNumber) (defBody sIsNumber) (defScope sIsNumber) .none kV2 dc2 pm2 an2 cd2 ct2), sl2⟩) (c2 : PySem.W.codeIn K cd2 "is_number" = true) (k2 : PySem.W.keepIn K (.ref f2) = true)
    (a3 : PySem.W.nsIn K mainGlobals "is_box" = some (some (.ref f3))) (l3 : K.lookup f3 = some ⟨oc3, od3, .func (PySem.W.fnOf "is_box" "is_box" (defArgs sIsBox) (defBody sIsBox) (defScope sIsBox) .none kV3 dc3 pm3 an3 cd3 ct3), sl3⟩) (c3 : PySem.W.codeIn K cd3 "is_box" = true) (k3 : PySem.W.keepIn K (.ref f3) = true)
    (a4 : PySem.W.nsIn K mainGlobals "is_one_of" = some (some (.ref f4))) (l4 : K.lookup f4 = some ⟨oc4, od4, .func (PySem.W.fnOf "is_one_of" "is_one_of" (defArgs sIsOneOf) (defBody sIsOneOf) (defScope sIsOneOf) .none kV4 dc4 pm4 an4 cd4 ct4), sl4⟩) (c4 : PySem.W.codeIn K cd4 "is_one_of" = true) (k4 : PySem.W.keepIn K (.ref f4) = true)
    (a5 : PySem.W.nsIn K mainGlobals "is_step" = some (some (.ref f5))) (l5 : K.lookup f5 = some ⟨oc5, od5, .func (PySem.W.fnOf "is_step" "is_step" (defArgs sIsStep) (defBody sIsStep) (defScope sIsStep) .none kV5 dc5 pm5 an5 cd5 ct5), sl5⟩) (c5 : PySem.W.codeIn K cd5 "is_step" = true) (k5 : PySem.W.keepIn K (.ref f5) = true)
    (a6 : PySem.W.nsIn K mainGlobals "may_follow" = some (some (.ref f6))) (l6 : K.lookup f6 = some ⟨oc6, od6, .func (PySem.W.fnOf "may_follow" "may_follow" (defArgs sMayFollow) (defBody sMayFollow) (defScope sMayFollow) .none kV6 dc6 pm6 an6 cd6 ct6), sl6⟩) (c6 : PySem.W.codeIn K cd6 "may_follow" = true) (k6 : PySem.W.keepIn K (.ref f6) = true)
    (a7 : PySem.W.nsIn K mainGlobals "is_dealing" = some (some (.ref f7))) (l7 : K.lookup f7 = some ⟨oc7, od7, .func (PySem.W.fnOf "is_dealing" "is_dealing" (defArgs sIsDealing) (defBody sIsDealing) (defScope sIsDealing) .none kV7 dc7 pm7 an7 cd7 ct7), sl7⟩) (c7 : PySem.W.codeIn K cd7 "is_dealing" = true) (k7 : PySem.W.keepIn K (.ref f7) = true)
    (a8 : PySem.W.nsIn K mainGlobals "are_dealings" = some (some (.ref f8))) (l8 : K.lookup f8 = some ⟨oc8, od8, .func (PySem.W.fnOf "are_dealings" "are_dealings" (defArgs sAreDealings) (defBody sAreDealings) (defScope sAreDealings) .none kV8 dc8 pm8 an8 cd8 ct8), sl8⟩) (c8 : PySem.W.codeIn K cd8 "are_dealings" = true) (k8 : PySem.W.keepIn K (.ref f8) = true)
    (a9 : PySem.W.nsIn K mainGlobals "check_dealings" = some (some (.ref f9))) (l9 : K.lookup f9 = some ⟨oc9, od9, .func (PySem.W.fnOf "check_dealings" "check_dealings" (defArgs sCheckDealings) (defBody sCheckDealings) (defScope sCheckDealings) .none kV9 dc9 pm9 an9 cd9 ct9), sl9⟩) (c9 : PySem.W.codeIn K cd9 "check_dealings" = true) (k9 : PySem.W.keepIn K (.ref f9) = true)
    (a10 : PySem.W.nsIn K mainGlobals "places_in" = some (some (.ref f10))) (l10 : K.lookup f10 = some ⟨oc10, od10, .func (PySem.W.fnOf "places_in" "places_in" (defArgs sPlacesIn) (defBody sPlacesIn) (defScope sPlacesIn) .none kV10 dc10 pm10 an10 cd10 ct10), sl10⟩) (c10 : PySem.W.codeIn K cd10 "places_in" = true) (k10 : PySem.W.keepIn K (.ref f10) = true)
    (a11 : PySem.W.nsIn K mainGlobals "are_places" = some (some (.ref f11))) (l11 : K.lookup f11 = some ⟨oc11, od11, .func (PySem.W.fnOf "are_places" "are_places" (defArgs sArePlaces) (defBody sArePlaces) (defScope sArePlaces) .none kV11 dc11 pm11 an11 cd11 ct11), sl11⟩) (c11 : PySem.W.codeIn K cd11 "are_places" = true) (k11 : PySem.W.keepIn K (.ref f11) = true)
    (a12 : PySem.W.nsIn K mainGlobals "widened_dealing" = some (some (.ref f12))) (l12 : K.lookup f12 = some ⟨oc12, od12, .func (PySem.W.fnOf "widened_dealing" "widened_dealing" (defArgs sWidenedDealing) (defBody sWidenedDealing) (defScope sWidenedDealing) .none kV12 dc12 pm12 an12 cd12 ct12), sl12⟩) (c12 : PySem.W.codeIn K cd12 "widened_dealing" = true) (k12 : PySem.W.keepIn K (.ref f12) = true)
    (a13 : PySem.W.nsIn K mainGlobals "put_in" = some (some (.ref f13))) (l13 : K.lookup f13 = some ⟨oc13, od13, .func (PySem.W.fnOf "put_in" "put_in" (defArgs sPutIn) (defBody sPutIn) (defScope sPutIn) .none kV13 dc13 pm13 an13 cd13 ct13), sl13⟩) (c13 : PySem.W.codeIn K cd13 "put_in" = true) (k13 : PySem.W.keepIn K (.ref f13) = true)
    (a14 : PySem.W.nsIn K mainGlobals "wide_places" = some (some (.ref f14))) (l14 : K.lookup f14 = some ⟨oc14, od14, .func (PySem.W.fnOf "wide_places" "wide_places" (defArgs sWidePlaces) (defBody sWidePlaces) (defScope sWidePlaces) .none kV14 dc14 pm14 an14 cd14 ct14), sl14⟩) (c14 : PySem.W.codeIn K cd14 "wide_places" = true) (k14 : PySem.W.keepIn K (.ref f14) = true)
    (a15 : PySem.W.nsIn K mainGlobals "widened" = some (some (.ref f15))) (l15 : K.lookup f15 = some ⟨oc15, od15, .func (PySem.W.fnOf "widened" "widened" (defArgs sWidened) (defBody sWidened) (defScope sWidened) .none kV15 dc15 pm15 an15 cd15 ct15), sl15⟩) (c15 : PySem.W.codeIn K cd15 "widened" = true) (k15 : PySem.W.keepIn K (.ref f15) = true)
    (a16 : PySem.W.nsIn K mainGlobals "_law_cell_at" = some (some (.ref f16))) (l16 : K.lookup f16 = some ⟨oc16, od16, .func (PySem.W.fnOf "_law_cell_at" "_law_cell_at" (defArgs sLCellAt) (defBody sLCellAt) (defScope sLCellAt) .none kV16 dc16 pm16 an16 cd16 ct16), sl16⟩) (c16 : PySem.W.codeIn K cd16 "_law_cell_at" = true) (k16 : PySem.W.keepIn K (.ref f16) = true)
    (a17 : PySem.W.nsIn K mainGlobals "_law_digit" = some (some (.ref f17))) (l17 : K.lookup f17 = some ⟨oc17, od17, .func (PySem.W.fnOf "_law_digit" "_law_digit" (defArgs sLDigit) (defBody sLDigit) (defScope sLDigit) .none kV17 dc17 pm17 an17 cd17 ct17), sl17⟩) (c17 : PySem.W.codeIn K cd17 "_law_digit" = true) (k17 : PySem.W.keepIn K (.ref f17) = true)
    (a18 : PySem.W.nsIn K mainGlobals "_law_of" = some (some (.ref f18))) (l18 : K.lookup f18 = some ⟨oc18, od18, .func (PySem.W.fnOf "_law_of" "_law_of" (defArgs sLOf) (defBody sLOf) (defScope sLOf) .none kV18 dc18 pm18 an18 cd18 ct18), sl18⟩) (c18 : PySem.W.codeIn K cd18 "_law_of" = true) (k18 : PySem.W.keepIn K (.ref f18) = true)
    (a19 : PySem.W.nsIn K mainGlobals "_law_dealing" = some (some (.ref f19))) (l19 : K.lookup f19 = some ⟨oc19, od19, .func (PySem.W.fnOf "_law_dealing" "_law_dealing" (defArgs sLDealing) (defBody sLDealing) (defScope sLDealing) .none kV19 dc19 pm19 an19 cd19 ct19), sl19⟩) (c19 : PySem.W.codeIn K cd19 "_law_dealing" = true) (k19 : PySem.W.keepIn K (.ref f19) = true)
    (a20 : PySem.W.nsIn K mainGlobals "_law_places" = some (some (.ref f20))) (l20 : K.lookup f20 = some ⟨oc20, od20, .func (PySem.W.fnOf "_law_places" "_law_places" (defArgs sLPlaces) (defBody sLPlaces) (defScope sLPlaces) .none kV20 dc20 pm20 an20 cd20 ct20), sl20⟩) (c20 : PySem.W.codeIn K cd20 "_law_places" = true) (k20 : PySem.W.keepIn K (.ref f20) = true)
    (a21 : PySem.W.nsIn K mainGlobals "_law_drawn" = some (some (.ref f21))) (l21 : K.lookup f21 = some ⟨oc21, od21, .func (PySem.W.fnOf "_law_drawn" "_law_drawn" (defArgs sLDrawn) (defBody sLDrawn) (defScope sLDrawn) .none kV21 dc21 pm21 an21 cd21 ct21), sl21⟩) (c21 : PySem.W.codeIn K cd21 "_law_drawn" = true) (k21 : PySem.W.keepIn K (.ref f21) = true)
    (a22 : PySem.W.nsIn K mainGlobals "_law_odd" = some (some (.ref f22))) (l22 : K.lookup f22 = some ⟨oc22, od22, .func (PySem.W.fnOf "_law_odd" "_law_odd" (defArgs sLOdd) (defBody sLOdd) (defScope sLOdd) .none kV22 dc22 pm22 an22 cd22 ct22), sl22⟩) (c22 : PySem.W.codeIn K cd22 "_law_odd" = true) (k22 : PySem.W.keepIn K (.ref f22) = true)
    (a23 : PySem.W.nsIn K mainGlobals "_law_spoilt" = some (some (.ref f23))) (l23 : K.lookup f23 = some ⟨oc23, od23, .func (PySem.W.fnOf "_law_spoilt" "_law_spoilt" (defArgs sLSpoilt) (defBody sLSpoilt) (defScope sLSpoilt) .none kV23 dc23 pm23 an23 cd23 ct23), sl23⟩) (c23 : PySem.W.codeIn K cd23 "_law_spoilt" = true) (k23 : PySem.W.keepIn K (.ref f23) = true)
    (a24 : PySem.W.nsIn K mainGlobals "_law_is_pair" = some (some (.ref f24))) (l24 : K.lookup f24 = some ⟨oc24, od24, .func (PySem.W.fnOf "_law_is_pair" "_law_is_pair" (defArgs sLIsPair) (defBody sLIsPair) (defScope sLIsPair) .none kV24 dc24 pm24 an24 cd24 ct24), sl24⟩) (c24 : PySem.W.codeIn K cd24 "_law_is_pair" = true) (k24 : PySem.W.keepIn K (.ref f24) = true)
    (a25 : PySem.W.nsIn K mainGlobals "_law_due" = some (some (.ref f25))) (l25 : K.lookup f25 = some ⟨oc25, od25, .func (PySem.W.fnOf "_law_due" "_law_due" (defArgs sLDue) (defBody sLDue) (defScope sLDue) .none kV25 dc25 pm25 an25 cd25 ct25), sl25⟩) (c25 : PySem.W.codeIn K cd25 "_law_due" = true) (k25 : PySem.W.keepIn K (.ref f25) = true)
    (a26 : PySem.W.nsIn K mainGlobals "_law_told" = some (some (.ref f26))) (l26 : K.lookup f26 = some ⟨oc26, od26, .func (PySem.W.fnOf "_law_told" "_law_told" (defArgs sLTold) (defBody sLTold) (defScope sLTold) .none kV26 dc26 pm26 an26 cd26 ct26), sl26⟩) (c26 : PySem.W.codeIn K cd26 "_law_told" = true) (k26 : PySem.W.keepIn K (.ref f26) = true)
    (a27 : PySem.W.nsIn K mainGlobals "_law_refused" = some (some (.ref f27))) (l27 : K.lookup f27 = some ⟨oc27, od27, .func (PySem.W.fnOf "_law_refused" "_law_refused" (defArgs sLRefused) (defBody sLRefused) (defScope sLRefused) .none kV27 dc27 pm27 an27 cd27 ct27), sl27⟩) (c27 : PySem.W.codeIn K cd27 "_law_refused" = true) (k27 : PySem.W.keepIn K (.ref f27) = true)
    (a28 : PySem.W.nsIn K mainGlobals "_law_right" = some (some (.ref f28))) (l28 : K.lookup f28 = some ⟨oc28, od28, .func (PySem.W.fnOf "_law_right" "_law_right" (defArgs sLRight) (defBody sLRight) (defScope sLRight) .none kV28 dc28 pm28 an28 cd28 ct28), sl28⟩) (c28 : PySem.W.codeIn K cd28 "_law_right" = true) (k28 : PySem.W.keepIn K (.ref f28) = true)
    (a29 : PySem.W.nsIn K mainGlobals "law" = some (some (.ref f29))) (l29 : K.lookup f29 = some ⟨oc29, od29, .func (PySem.W.fnOf "law" "law" (defArgs sLaw) (defBody sLaw) (defScope sLaw) .none kV29 dc29 pm29 an29 cd29 ct29), sl29⟩) (c29 : PySem.W.codeIn K cd29 "law" = true) (k29 : PySem.W.keepIn K (.ref f29) = true)
    (z1 : PySem.W.nsIn K mainGlobals "isinstance" = some none)
    (z2 : PySem.W.nsIn K mainGlobals "int" = some none)
    (z3 : PySem.W.nsIn K mainGlobals "bool" = some none)
    (z4 : PySem.W.nsIn K mainGlobals "str" = some none)
    (z5 : PySem.W.nsIn K mainGlobals "tuple" = some none)
    (z6 : PySem.W.nsIn K mainGlobals "list" = some none)
    (z7 : PySem.W.nsIn K mainGlobals "len" = some none)
    (z8 : PySem.W.nsIn K mainGlobals "all" = some none)
    (z9 : PySem.W.nsIn K mainGlobals "any" = some none)
    (z10 : PySem.W.nsIn K mainGlobals "enumerate" = some none)
    (z11 : PySem.W.nsIn K mainGlobals "range" = some none)
    (z12 : PySem.W.nsIn K mainGlobals "repr" = some none)
    (z13 : PySem.W.nsIn K mainGlobals "ValueError" = some none)
    (y1 : PySem.W.nsIn K mainGlobals "MOST_BOX" = some (some (.int 100000000 t1)))
    (y2 : PySem.W.nsIn K mainGlobals "MOST_STEPS" = some (some (.int 8 t2)))
    (y3 : PySem.W.nsIn K mainGlobals "MOST_DEALINGS" = some (some (.int 100 t3)))
    (xa1 : PySem.W.nsIn K mainGlobals "AloneError" = some (some (.ref C1)))
    (xb1 : PySem.W.excIn K C1 [.type "ValueError", .type "Exception", .type "BaseException", .type "object"] "ValueError.__new__" = true)
    (xc1 : PySem.W.keepIn K (.ref C1) = true)
    (xd1 : PySem.W.subIn K (.ref C1) (.type "BaseException") = some true)
    (xe1 : PySem.W.typeIn K (.ref C1) = some (.type "type"))
    (wa1 : PySem.W.findIn K (.ref C1) "__getattribute__" = some (some (.builtin "BaseException.__getattribute__")))
    (wb1 : PySem.W.findIn K (.ref C1) "__getattr__" = some none)
    (wc1 : PySem.W.hasDictIn K C1 = true)
    (wd1 : PySem.W.findIn K (.ref C1) "__class__" = some (some (.builtin "object.__class__")))
    (we1 : PySem.W.mroIn K C1 (.type "object") = some true)
    (xa2 : PySem.W.nsIn K mainGlobals "NoDealings" = some (some (.ref C2)))
    (xb2 : PySem.W.excIn K C2 [.type "ValueError", .type "Exception", .type "BaseException", .type "object"] "ValueError.__new__" = true)
    (xc2 : PySem.W.keepIn K (.ref C2) = true)
    (xd2 : PySem.W.subIn K (.ref C2) (.type "BaseException") = some true)
    (xe2 : PySem.W.typeIn K (.ref C2) = some (.type "type"))
    (wa2 : PySem.W.findIn K (.ref C2) "__getattribute__" = some (some (.builtin "BaseException.__getattribute__")))
    (wb2 : PySem.W.findIn K (.ref C2) "__getattr__" = some none)
    (wc2 : PySem.W.hasDictIn K C2 = true)
    (wd2 : PySem.W.findIn K (.ref C2) "__class__" = some (some (.builtin "object.__class__")))
    (we2 : PySem.W.mroIn K C2 (.type "object") = some true)
    (xa3 : PySem.W.nsIn K mainGlobals "NoPlaces" = some (some (.ref C3)))
    (xb3 : PySem.W.excIn K C3 [.type "ValueError", .type "Exception", .type "BaseException", .type "object"] "ValueError.__new__" = true)
    (xc3 : PySem.W.keepIn K (.ref C3) = true)
    (xd3 : PySem.W.subIn K (.ref C3) (.type "BaseException") = some true)
    (xe3 : PySem.W.typeIn K (.ref C3) = some (.type "type"))
    (wa3 : PySem.W.findIn K (.ref C3) "__getattribute__" = some (some (.builtin "BaseException.__getattribute__")))
    (wb3 : PySem.W.findIn K (.ref C3) "__getattr__" = some none)
    (wc3 : PySem.W.hasDictIn K C3 = true)
    (wd3 : PySem.W.findIn K (.ref C3) "__class__" = some (some (.builtin "object.__class__")))
    (we3 : PySem.W.mroIn K C3 (.type "object") = some true)
    (xa4 : PySem.W.nsIn K mainGlobals "NoRoom" = some (some (.ref C4)))
    (xb4 : PySem.W.excIn K C4 [.type "ValueError", .type "Exception", .type "BaseException", .type "object"] "ValueError.__new__" = true)
    (xc4 : PySem.W.keepIn K (.ref C4) = true)
    (xd4 : PySem.W.subIn K (.ref C4) (.type "BaseException") = some true)
    (xe4 : PySem.W.typeIn K (.ref C4) = some (.type "type"))
    (wa4 : PySem.W.findIn K (.ref C4) "__getattribute__" = some (some (.builtin "BaseException.__getattribute__")))
    (wb4 : PySem.W.findIn K (.ref C4) "__getattr__" = some none)
    (wc4 : PySem.W.hasDictIn K C4 = true)
    (wd4 : PySem.W.findIn K (.ref C4) "__class__" = some (some (.builtin "object.__class__")))
    (we4 : PySem.W.mroIn K C4 (.type "object") = some true)
    (xa5 : PySem.W.nsIn K mainGlobals "TooMany" = some (some (.ref C5)))
    (xb5 : PySem.W.excIn K C5 [.type "ValueError", .type "Exception", .type "BaseException", .type "object"] "ValueError.__new__" = true)
    (xc5 : PySem.W.keepIn K (.ref C5) = true)
    (xd5 : PySem.W.subIn K (.ref C5) (.type "BaseException") = some true)
    (xe5 : PySem.W.typeIn K (.ref C5) = some (.type "type"))
    (wa5 : PySem.W.findIn K (.ref C5) "__getattribute__" = some (some (.builtin "BaseException.__getattribute__")))
    (wb5 : PySem.W.findIn K (.ref C5) "__getattr__" = some none)
    (wc5 : PySem.W.hasDictIn K C5 = true)
    (wd5 : PySem.W.findIn K (.ref C5) "__class__" = some (some (.builtin "object.__class__")))
    (we5 : PySem.W.mroIn K C5 (.type "object") = some true)
    (w5 : PySem.W.specialIn K (.builtin "object.__class__") "__get__" = some (some (.builtin "getset_descriptor.__get__")))
    (w6 : PySem.W.takesIn K (.builtin "object.__class__") = some true)
    (em4_1 : PySem.W.exmOne K (.ref C4) (.ref C1) = some true)
    (ki4_1 : PySem.W.kitOne K (.ref C4) (.ref C1) = some true)
    (em3_1 : PySem.W.exmOne K (.ref C3) (.ref C1) = some true)
    (ki3_1 : PySem.W.kitOne K (.ref C3) (.ref C1) = some true)
    (em2_1 : PySem.W.exmOne K (.ref C2) (.ref C1) = some true)
    (ki2_1 : PySem.W.kitOne K (.ref C2) (.ref C1) = some true)
    (em4_2 : PySem.W.exmOne K (.ref C4) (.ref C2) = some false)
    (ki4_2 : PySem.W.kitOne K (.ref C4) (.ref C2) = some false)
    (em3_2 : PySem.W.exmOne K (.ref C3) (.ref C2) = some false)
    (ki3_2 : PySem.W.kitOne K (.ref C3) (.ref C2) = some false)
    (em2_2 : PySem.W.exmOne K (.ref C2) (.ref C2) = some true)
    (ki2_2 : PySem.W.kitOne K (.ref C2) (.ref C2) = some true)
    (em4_3 : PySem.W.exmOne K (.ref C4) (.ref C3) = some false)
    (ki4_3 : PySem.W.kitOne K (.ref C4) (.ref C3) = some false)
    (em3_3 : PySem.W.exmOne K (.ref C3) (.ref C3) = some true)
    (ki3_3 : PySem.W.kitOne K (.ref C3) (.ref C3) = some true)
    (em2_3 : PySem.W.exmOne K (.ref C2) (.ref C3) = some false)
    (ki2_3 : PySem.W.kitOne K (.ref C2) (.ref C3) = some false)
    (em4_4 : PySem.W.exmOne K (.ref C4) (.ref C4) = some true)
    (ki4_4 : PySem.W.kitOne K (.ref C4) (.ref C4) = some true)
    (em3_4 : PySem.W.exmOne K (.ref C3) (.ref C4) = some false)
    (ki3_4 : PySem.W.kitOne K (.ref C3) (.ref C4) = some false)
    (em2_4 : PySem.W.exmOne K (.ref C2) (.ref C4) = some false)
    (ki2_4 : PySem.W.kitOne K (.ref C2) (.ref C4) = some false)
    (em4_5 : PySem.W.exmOne K (.ref C4) (.ref C5) = some false)
    (ki4_5 : PySem.W.kitOne K (.ref C4) (.ref C5) = some false)
    (em3_5 : PySem.W.exmOne K (.ref C3) (.ref C5) = some false)
    (ki3_5 : PySem.W.kitOne K (.ref C3) (.ref C5) = some false)
    (em2_5 : PySem.W.exmOne K (.ref C2) (.ref C5) = some false)
    (ki2_5 : PySem.W.kitOne K (.ref C2) (.ref C5) = some false)
    (kbValueError_4 : PySem.W.kitOne K (.ref C4) (.type "ValueError") = some true)
    (kbValueError_3 : PySem.W.kitOne K (.ref C3) (.type "ValueError") = some true)
    (kbValueError_2 : PySem.W.kitOne K (.ref C2) (.type "ValueError") = some true)
    : ∃ fd : FuncData, (∀ (s : Shared) (v : Value), BindsTo s fd ⟨[v], []⟩ [("_law_script", v)]) ∧ ∀ base : Heap, K.In base → base.Ns mainGlobals mg → FnG P w K mg base (L2.CX P w) 11 fa fd ["_law_script"] (spLawF K) := by
  have e := hfa.symm.trans (PySem.W.mg_of X G a29)
  cases e
  have F1 := fun_mk (st := sIsWhole) l1 c1 k1
  have D1 : DefAt K mg "is_whole" sIsWhole ["thing"] := ⟨_, _, F1, PySem.W.mg_of X G a1, F1.binds (ps := ["thing"]) fun _ _ _ _ _ _ us hl => match us, hl with | [_], _ => rfl⟩
  have F2 := fun_mk (st := sIsNumber) l2 c2 k2
  have D2 : DefAt K mg "is_number" sIsNumber ["thing", "many"] := ⟨_, _, F2, PySem.W.mg_of X G a2, F2.binds (ps := ["thing", "many"]) fun _ _ _ _ _ _ us hl => match us, hl with | [_, _], _ => rfl⟩
  have F3 := fun_mk (st := sIsBox) l3 c3 k3
  have D3 : DefAt K mg "is_box" sIsBox ["thing"] := ⟨_, _, F3, PySem.W.mg_of X G a3, F3.binds (ps := ["thing"]) fun _ _ _ _ _ _ us hl => match us, hl with | [_], _ => rfl⟩
  have F4 := fun_mk (st := sIsOneOf) l4 c4 k4
  have D4 : DefAt K mg "is_one_of" sIsOneOf ["thing", "words"] := ⟨_, _, F4, PySem.W.mg_of X G a4, F4.binds (ps := ["thing", "words"]) fun _ _ _ _ _ _ us hl => match us, hl with | [_, _], _ => rfl⟩
  have F5 := fun_mk (st := sIsStep) l5 c5 k5
  have D5 : DefAt K mg "is_step" sIsStep ["thing"] := ⟨_, _, F5, PySem.W.mg_of X G a5, F5.binds (ps := ["thing"]) fun _ _ _ _ _ _ us hl => match us, hl with | [_], _ => rfl⟩
  have F6 := fun_mk (st := sMayFollow) l6 c6 k6
  have D6 : DefAt K mg "may_follow" sMayFollow ["step", "ahead"] := ⟨_, _, F6, PySem.W.mg_of X G a6, F6.binds (ps := ["step", "ahead"]) fun _ _ _ _ _ _ us hl => match us, hl with | [_, _], _ => rfl⟩
  have F7 := fun_mk (st := sIsDealing) l7 c7 k7
  have D7 : DefAt K mg "is_dealing" sIsDealing ["thing"] := ⟨_, _, F7, PySem.W.mg_of X G a7, F7.binds (ps := ["thing"]) fun _ _ _ _ _ _ us hl => match us, hl with | [_], _ => rfl⟩
  have F8 := fun_mk (st := sAreDealings) l8 c8 k8
  have D8 : DefAt K mg "are_dealings" sAreDealings ["thing"] := ⟨_, _, F8, PySem.W.mg_of X G a8, F8.binds (ps := ["thing"]) fun _ _ _ _ _ _ us hl => match us, hl with | [_], _ => rfl⟩
  have F9 := fun_mk (st := sCheckDealings) l9 c9 k9
  have D9 : DefAt K mg "check_dealings" sCheckDealings ["thing"] := ⟨_, _, F9, PySem.W.mg_of X G a9, F9.binds (ps := ["thing"]) fun _ _ _ _ _ _ us hl => match us, hl with | [_], _ => rfl⟩
  have F10 := fun_mk (st := sPlacesIn) l10 c10 k10
  have D10 : DefAt K mg "places_in" sPlacesIn ["dealings"] := ⟨_, _, F10, PySem.W.mg_of X G a10, F10.binds (ps := ["dealings"]) fun _ _ _ _ _ _ us hl => match us, hl with | [_], _ => rfl⟩
  have F11 := fun_mk (st := sArePlaces) l11 c11 k11
  have D11 : DefAt K mg "are_places" sArePlaces ["dealings", "thing"] := ⟨_, _, F11, PySem.W.mg_of X G a11, F11.binds (ps := ["dealings", "thing"]) fun _ _ _ _ _ _ us hl => match us, hl with | [_, _], _ => rfl⟩
  have F12 := fun_mk (st := sWidenedDealing) l12 c12 k12
  have D12 : DefAt K mg "widened_dealing" sWidenedDealing ["number", "dealing", "places"] := ⟨_, _, F12, PySem.W.mg_of X G a12, F12.binds (ps := ["number", "dealing", "places"]) fun _ _ _ _ _ _ us hl => match us, hl with | [_, _, _], _ => rfl⟩
  have F13 := fun_mk (st := sPutIn) l13 c13 k13
  have D13 : DefAt K mg "put_in" sPutIn ["dealings", "places"] := ⟨_, _, F13, PySem.W.mg_of X G a13, F13.binds (ps := ["dealings", "places"]) fun _ _ _ _ _ _ us hl => match us, hl with | [_, _], _ => rfl⟩
  have F14 := fun_mk (st := sWidePlaces) l14 c14 k14
  have D14 : DefAt K mg "wide_places" sWidePlaces ["dealings"] := ⟨_, _, F14, PySem.W.mg_of X G a14, F14.binds (ps := ["dealings"]) fun _ _ _ _ _ _ us hl => match us, hl with | [_], _ => rfl⟩
  have F15 := fun_mk (st := sWidened) l15 c15 k15
  have D15 : DefAt K mg "widened" sWidened ["dealings", "places"] := ⟨_, _, F15, PySem.W.mg_of X G a15, F15.binds (ps := ["dealings", "places"]) fun _ _ _ _ _ _ us hl => match us, hl with | [_, _], _ => rfl⟩
  have F16 := fun_mk (st := sLCellAt) l16 c16 k16
  have D16 : DefAt K mg "_law_cell_at" sLCellAt ["_law_script", "_law_k"] := ⟨_, _, F16, PySem.W.mg_of X G a16, F16.binds (ps := ["_law_script", "_law_k"]) fun _ _ _ _ _ _ us hl => match us, hl with | [_, _], _ => rfl⟩
  have F17 := fun_mk (st := sLDigit) l17 c17 k17
  have D17 : DefAt K mg "_law_digit" sLDigit ["_law_state", "_law_base"] := ⟨_, _, F17, PySem.W.mg_of X G a17, F17.binds (ps := ["_law_state", "_law_base"]) fun _ _ _ _ _ _ us hl => match us, hl with | [_, _], _ => rfl⟩
  have F18 := fun_mk (st := sLOf) l18 c18 k18
  have D18 : DefAt K mg "_law_of" sLOf ["_law_state", "_law_some"] := ⟨_, _, F18, PySem.W.mg_of X G a18, F18.binds (ps := ["_law_state", "_law_some"]) fun _ _ _ _ _ _ us hl => match us, hl with | [_, _], _ => rfl⟩
  have F19 := fun_mk (st := sLDealing) l19 c19 k19
  have D19 : DefAt K mg "_law_dealing" sLDealing ["_law_state", "_law_few", "_law_most"] := ⟨_, _, F19, PySem.W.mg_of X G a19, F19.binds (ps := ["_law_state", "_law_few", "_law_most"]) fun _ _ _ _ _ _ us hl => match us, hl with | [_, _, _], _ => rfl⟩
  have F20 := fun_mk (st := sLPlaces) l20 c20 k20
  have D20 : DefAt K mg "_law_places" sLPlaces ["_law_some"] := ⟨_, _, F20, PySem.W.mg_of X G a20, F20.binds (ps := ["_law_some"]) fun _ _ _ _ _ _ us hl => match us, hl with | [_], _ => rfl⟩
  have F21 := fun_mk (st := sLDrawn) l21 c21 k21
  have D21 : DefAt K mg "_law_drawn" sLDrawn ["_law_state", "_law_wide"] := ⟨_, _, F21, PySem.W.mg_of X G a21, F21.binds (ps := ["_law_state", "_law_wide"]) fun _ _ _ _ _ _ us hl => match us, hl with | [_, _], _ => rfl⟩
  have F22 := fun_mk (st := sLOdd) l22 c22 k22
  have D22 : DefAt K mg "_law_odd" sLOdd ["_law_state", "_law_some"] := ⟨_, _, F22, PySem.W.mg_of X G a22, F22.binds (ps := ["_law_state", "_law_some"]) fun _ _ _ _ _ _ us hl => match us, hl with | [_, _], _ => rfl⟩
  have F23 := fun_mk (st := sLSpoilt) l23 c23 k23
  have D23 : DefAt K mg "_law_spoilt" sLSpoilt ["_law_state", "_law_some", "_law_pairs"] := ⟨_, _, F23, PySem.W.mg_of X G a23, F23.binds (ps := ["_law_state", "_law_some", "_law_pairs"]) fun _ _ _ _ _ _ us hl => match us, hl with | [_, _, _], _ => rfl⟩
  have F24 := fun_mk (st := sLIsPair) l24 c24 k24
  have D24 : DefAt K mg "_law_is_pair" sLIsPair ["_law_thing", "_law_wide"] := ⟨_, _, F24, PySem.W.mg_of X G a24, F24.binds (ps := ["_law_thing", "_law_wide"]) fun _ _ _ _ _ _ us hl => match us, hl with | [_, _], _ => rfl⟩
  have F25 := fun_mk (st := sLDue) l25 c25 k25
  have D25 : DefAt K mg "_law_due" sLDue ["_law_some", "_law_pairs", "_law_wide"] := ⟨_, _, F25, PySem.W.mg_of X G a25, F25.binds (ps := ["_law_some", "_law_pairs", "_law_wide"]) fun _ _ _ _ _ _ us hl => match us, hl with | [_, _, _], _ => rfl⟩
  have F26 := fun_mk (st := sLTold) l26 c26 k26
  have D26 : DefAt K mg "_law_told" sLTold ["_law_some", "_law_pairs"] := ⟨_, _, F26, PySem.W.mg_of X G a26, F26.binds (ps := ["_law_some", "_law_pairs"]) fun _ _ _ _ _ _ us hl => match us, hl with | [_, _], _ => rfl⟩
  have F27 := fun_mk (st := sLRefused) l27 c27 k27
  have D27 : DefAt K mg "_law_refused" sLRefused ["_law_some"] := ⟨_, _, F27, PySem.W.mg_of X G a27, F27.binds (ps := ["_law_some"]) fun _ _ _ _ _ _ us hl => match us, hl with | [_], _ => rfl⟩
  have F28 := fun_mk (st := sLRight) l28 c28 k28
  have D28 : DefAt K mg "_law_right" sLRight ["_law_some", "_law_pairs"] := ⟨_, _, F28, PySem.W.mg_of X G a28, F28.binds (ps := ["_law_some", "_law_pairs"]) fun _ _ _ _ _ _ us hl => match us, hl with | [_, _], _ => rfl⟩
  have F29 := fun_mk (st := sLaw) l29 c29 k29
  have D29 : DefAt K mg "law" sLaw ["_law_script"] := ⟨_, _, F29, PySem.W.mg_of X G a29, F29.binds (ps := ["_law_script"]) fun _ _ _ _ _ _ us hl => match us, hl with | [_], _ => rfl⟩
  have M : Mx K mg := ⟨PySem.W.mg_none_of X G z1, PySem.W.mg_none_of X G z2, PySem.W.mg_none_of X G z3, PySem.W.mg_none_of X G z4, PySem.W.mg_none_of X G z5, PySem.W.mg_none_of X G z6, PySem.W.mg_none_of X G z7, PySem.W.mg_none_of X G z8, PySem.W.mg_none_of X G z9, PySem.W.mg_none_of X G z10, PySem.W.mg_none_of X G z11, PySem.W.mg_none_of X G z12, PySem.W.mg_none_of X G z13, ⟨_, PySem.W.mg_of X G y1⟩, ⟨_, PySem.W.mg_of X G y2⟩, ⟨_, PySem.W.mg_of X G y3⟩, (.cons ⟨C2, xb2, PySem.W.mg_of X G xa2, xc2, xd2, xe2, ⟨wa2, wb2, xd2, wc2, wd2, w5, w6, we2⟩⟩ (.cons ⟨C3, xb3, PySem.W.mg_of X G xa3, xc3, xd3, xe3, ⟨wa3, wb3, xd3, wc3, wd3, w5, w6, we3⟩⟩ (.cons ⟨C4, xb4, PySem.W.mg_of X G xa4, xc4, xd4, xe4, ⟨wa4, wb4, xd4, wc4, wd4, w5, w6, we4⟩⟩ .nil))), ⟨C1, xb1, PySem.W.mg_of X G xa1, xc1, xd1, xe1, ⟨wa1, wb1, xd1, wc1, wd1, w5, w6, we1⟩⟩, (.cons ⟨C2, C1, PySem.W.mg_of X G xa2, PySem.W.mg_of X G xa1, em2_1, ki2_1⟩ (.cons ⟨C3, C1, PySem.W.mg_of X G xa3, PySem.W.mg_of X G xa1, em3_1, ki3_1⟩ (.cons ⟨C4, C1, PySem.W.mg_of X G xa4, PySem.W.mg_of X G xa1, em4_1, ki4_1⟩ .nil))), ⟨C2, xb2, PySem.W.mg_of X G xa2, xc2, xd2, xe2, ⟨wa2, wb2, xd2, wc2, wd2, w5, w6, we2⟩⟩, (.cons ⟨C2, C2, PySem.W.mg_of X G xa2, PySem.W.mg_of X G xa2, em2_2, ki2_2⟩ (.cons ⟨C3, C2, PySem.W.mg_of X G xa3, PySem.W.mg_of X G xa2, em3_2, ki3_2⟩ (.cons ⟨C4, C2, PySem.W.mg_of X G xa4, PySem.W.mg_of X G xa2, em4_2, ki4_2⟩ .nil))), ⟨C3, xb3, PySem.W.mg_of X G xa3, xc3, xd3, xe3, ⟨wa3, wb3, xd3, wc3, wd3, w5, w6, we3⟩⟩, (.cons ⟨C2, C3, PySem.W.mg_of X G xa2, PySem.W.mg_of X G xa3, em2_3, ki2_3⟩ (.cons ⟨C3, C3, PySem.W.mg_of X G xa3, PySem.W.mg_of X G xa3, em3_3, ki3_3⟩ (.cons ⟨C4, C3, PySem.W.mg_of X G xa4, PySem.W.mg_of X G xa3, em4_3, ki4_3⟩ .nil))), ⟨C4, xb4, PySem.W.mg_of X G xa4, xc4, xd4, xe4, ⟨wa4, wb4, xd4, wc4, wd4, w5, w6, we4⟩⟩, (.cons ⟨C2, C4, PySem.W.mg_of X G xa2, PySem.W.mg_of X G xa4, em2_4, ki2_4⟩ (.cons ⟨C3, C4, PySem.W.mg_of X G xa3, PySem.W.mg_of X G xa4, em3_4, ki3_4⟩ (.cons ⟨C4, C4, PySem.W.mg_of X G xa4, PySem.W.mg_of X G xa4, em4_4, ki4_4⟩ .nil))), ⟨C5, xb5, PySem.W.mg_of X G xa5, xc5, xd5, xe5, ⟨wa5, wb5, xd5, wc5, wd5, w5, w6, we5⟩⟩, (.cons ⟨C2, C5, PySem.W.mg_of X G xa2, PySem.W.mg_of X G xa5, em2_5, ki2_5⟩ (.cons ⟨C3, C5, PySem.W.mg_of X G xa3, PySem.W.mg_of X G xa5, em3_5, ki3_5⟩ (.cons ⟨C4, C5, PySem.W.mg_of X G xa4, PySem.W.mg_of X G xa5, em4_5, ki4_5⟩ .nil))), (.cons ⟨C2, PySem.W.mg_of X G xa2, kbValueError_2⟩ (.cons ⟨C3, PySem.W.mg_of X G xa3, kbValueError_3⟩ (.cons ⟨C4, PySem.W.mg_of X G xa4, kbValueError_4⟩ .nil)))⟩
  refine ⟨PySem.W.fnOf "law" "law" (defArgs sLaw) (defBody sLaw) (defScope sLaw) .none kV29 dc29 pm29 an29 cd29 ct29, fun s v => .of_eq rfl, fun base _ _ => ?_⟩
  have K1 := d_IsWhole (P := P) (w := w) (base := base) M D1 
  have K2 := d_IsNumber (P := P) (w := w) (base := base) M D2 K1
  have K3 := d_IsBox (P := P) (w := w) (base := base) M D3 K2
  have K4 := d_IsOneOf (P := P) (w := w) (base := base) M D4 
  have K5 := d_IsStep (P := P) (w := w) (base := base) M D5 K3 K4
  have K6 := d_MayFollow (P := P) (w := w) (base := base) M D6 
  have K7 := d_IsDealing (P := P) (w := w) (base := base) M D7 K5 K6
  have K8 := d_AreDealings (P := P) (w := w) (base := base) M D8 K7
  have K9 := d_CheckDealings (P := P) (w := w) (base := base) M D9 K8
  have K10 := d_PlacesIn (P := P) (w := w) (base := base) M D10 
  have K11 := d_ArePlaces (P := P) (w := w) (base := base) M D11 K10 K1
  have K12 := d_WidenedDealing (P := P) (w := w) (base := base) M D12 
  have K13 := d_PutIn (P := P) (w := w) (base := base) M D13 K12
  have K14 := d_WidePlaces (P := P) (w := w) (base := base) M D14 K9 K10
  have K15 := d_Widened (P := P) (w := w) (base := base) M D15 K9 K11 K13
  have K16 := d_LCellAt (P := P) (w := w) (base := base) M D16 
  have K17 := d_LDigit (P := P) (w := w) (base := base) M D17 
  have K18 := d_LOf (P := P) (w := w) (base := base) M D18 K17
  have K19 := d_LDealing (P := P) (w := w) (base := base) M D19 K17
  have K20 := d_LPlaces (P := P) (w := w) (base := base) M D20 
  have K21 := d_LDrawn (P := P) (w := w) (base := base) M D21 K17
  have K22 := d_LOdd (P := P) (w := w) (base := base) M D22 K17 K18
  have K23 := d_LSpoilt (P := P) (w := w) (base := base) M D23 K17 K18 K22
  have K24 := d_LIsPair (P := P) (w := w) (base := base) M D24 
  have K25 := d_LDue (P := P) (w := w) (base := base) M D25 K24
  have K26 := d_LTold (P := P) (w := w) (base := base) M D26 K15
  have K27 := d_LRefused (P := P) (w := w) (base := base) M D27 K14
  have K28 := d_LRight (P := P) (w := w) (base := base) M D28 K20 K25 K14 K26
  have K29 := d_Law (P := P) (w := w) (base := base) M F29 K16 K17 K19 K21 K20 K23 K28 K18 K26 K27
  exact law_fn K29 rfl law_holds
end As
open PySem PySem.W PyProof.Rows
set_option maxHeartbeats 0 in
theorem PySem.Challenge.cw_asifalone_k67_wide_places_and_widened_holds : PySem.Challenge.rw_asifalone_k67_wide_places_and_widened.Holds := by
  w_on; o_law; k_head; (case hw => w_witness2)
  k_fill
  refine As.walk_ofG (l := PySem.Challenge.rw_asifalone_k67_wide_places_and_widened) (n := 63) (k := 11) (x := "_law_script") (CX := fun w => L2.CX PySem.Challenge.rw_asifalone_k67_wide_places_and_widened.prog w) (sp := fun w => As.spLawF _) rfl (by decide) rfl ⟨rfl, by decide, by decide⟩ (fun w h Y => PySem.W.kIn_of Y) ?F (fun _ _ a ns hl _ hS => ⟨a, ns, rfl, hS, hl, fun _ => rfl⟩) (fun _ _ _ _ _ h => As.cx_no h)
  case F =>
    intro w mg fa h KX G hmg
    refine' As.all_mk KX G hmg ?a1 ?l1 ?c1 ?k1 ?a2 ?l2 ?c2 ?k2 ?a3 ?l3 ?c3 ?k3 ?a4 ?l4 ?c4 ?k4 ?a5 ?l5 ?c5 ?k5 ?a6 ?l6 ?c6 ?k6 ?a7 ?l7 ?c7 ?k7 ?a8 ?l8 ?c8 ?k8 ?a9 ?l9 ?c9 ?k9 ?a10 ?l10 ?c10 ?k10 ?a11 ?l11 ?c11 ?k11 ?a12 ?l12 ?c12 ?k12 ?a13 ?l13 ?c13 ?k13 ?a14 ?l14 ?c14 ?k14 ?a15 ?l15 ?c15 ?k15 ?a16 ?l16 ?c16 ?k16 ?a17 ?l17 ?c17 ?k17 ?a18 ?l18 ?c18 ?k18 ?a19 ?l19 ?c19 ?k19 ?a20 ?l20 ?c20 ?k20 ?a21 ?l21 ?c21 ?k21 ?a22 ?l22 ?c22 ?k22 ?a23 ?l23 ?c23 ?k23 ?a24 ?l24 ?c24 ?k24 ?a25 ?l25 ?c25 ?k25 ?a26 ?l26 ?c26 ?k26 ?a27 ?l27 ?c27 ?k27 ?a28 ?l28 ?c28 ?k28 ?a29 ?l29 ?c29 ?k29 ?z1 ?z2 ?z3 ?z4 ?z5 ?z6 ?z7 ?z8 ?z9 ?z10 ?z11 ?z12 ?z13 ?y1 ?y2 ?y3 ?xa1 ?xb1 ?xc1 ?xd1 ?xe1 ?wa1 ?wb1 ?wc1 ?wd1 ?we1 ?xa2 ?xb2 ?xc2 ?xd2 ?xe2 ?wa2 ?wb2 ?wc2 ?wd2 ?we2 ?xa3 ?xb3 ?xc3 ?xd3 ?xe3 ?wa3 ?wb3 ?wc3 ?wd3 ?we3 ?xa4 ?xb4 ?xc4 ?xd4 ?xe4 ?wa4 ?wb4 ?wc4 ?wd4 ?we4 ?xa5 ?xb5 ?xc5 ?xd5 ?xe5 ?wa5 ?wb5 ?wc5 ?wd5 ?we5 ?w5 ?w6 ?em4_1 ?ki4_1 ?em3_1 ?ki3_1 ?em2_1 ?ki2_1 ?em4_2 ?ki4_2 ?em3_2 ?ki3_2 ?em2_2 ?ki2_2 ?em4_3 ?ki4_3 ?em3_3 ?ki3_3 ?em2_3 ?ki2_3 ?em4_4 ?ki4_4 ?em3_4 ?ki3_4 ?em2_4 ?ki2_4 ?em4_5 ?ki4_5 ?em3_5 ?ki3_5 ?em2_5 ?ki2_5 ?kbValueError_4 ?kbValueError_3 ?kbValueError_2
    (case a1 => k_is); (case l1 => k_is); (case c1 => k_is); (case k1 => k_is); (case a2 => k_is); (case l2 => k_is); (case c2 => k_is); (case k2 => k_is); (case a3 => k_is); (case l3 => k_is); (case c3 => k_is); (case k3 => k_is); (case a4 => k_is); (case l4 => k_is); (case c4 => k_is); (case k4 => k_is); (case a5 => k_is); (case l5 => k_is); (case c5 => k_is); (case k5 => k_is); (case a6 => k_is); (case l6 => k_is); (case c6 => k_is); (case k6 => k_is); (case a7 => k_is); (case l7 => k_is); (case c7 => k_is); (case k7 => k_is); (case a8 => k_is); (case l8 => k_is); (case c8 => k_is); (case k8 => k_is); (case a9 => k_is); (case l9 => k_is); (case c9 => k_is); (case k9 => k_is); (case a10 => k_is); (case l10 => k_is); (case c10 => k_is); (case k10 => k_is); (case a11 => k_is); (case l11 => k_is); (case c11 => k_is); (case k11 => k_is); (case a12 => k_is); (case l12 => k_is); (case c12 => k_is); (case k12 => k_is); (case a13 => k_is); (case l13 => k_is); (case c13 => k_is); (case k13 => k_is); (case a14 => k_is); (case l14 => k_is); (case c14 => k_is); (case k14 => k_is); (case a15 => k_is); (case l15 => k_is); (case c15 => k_is); (case k15 => k_is); (case a16 => k_is); (case l16 => k_is); (case c16 => k_is); (case k16 => k_is); (case a17 => k_is); (case l17 => k_is); (case c17 => k_is); (case k17 => k_is); (case a18 => k_is); (case l18 => k_is); (case c18 => k_is); (case k18 => k_is); (case a19 => k_is); (case l19 => k_is); (case c19 => k_is); (case k19 => k_is); (case a20 => k_is); (case l20 => k_is); (case c20 => k_is); (case k20 => k_is); (case a21 => k_is); (case l21 => k_is); (case c21 => k_is); (case k21 => k_is); (case a22 => k_is); (case l22 => k_is); (case c22 => k_is); (case k22 => k_is); (case a23 => k_is); (case l23 => k_is); (case c23 => k_is); (case k23 => k_is); (case a24 => k_is); (case l24 => k_is); (case c24 => k_is); (case k24 => k_is); (case a25 => k_is); (case l25 => k_is); (case c25 => k_is); (case k25 => k_is); (case a26 => k_is); (case l26 => k_is); (case c26 => k_is); (case k26 => k_is); (case a27 => k_is); (case l27 => k_is); (case c27 => k_is); (case k27 => k_is); (case a28 => k_is); (case l28 => k_is); (case c28 => k_is); (case k28 => k_is); (case a29 => k_is); (case l29 => k_is); (case c29 => k_is); (case k29 => k_is); (case z1 => k_is); (case z2 => k_is); (case z3 => k_is); (case z4 => k_is); (case z5 => k_is); (case z6 => k_is); (case z7 => k_is); (case z8 => k_is); (case z9 => k_is); (case z10 => k_is); (case z11 => k_is); (case z12 => k_is); (case z13 => k_is); (case y1 => k_is); (case y2 => k_is); (case y3 => k_is); (case xa1 => k_is); (case xb1 => k_exc); (case xc1 => k_is); (case xd1 => k_is); (case xe1 => k_is); (case wa1 => k_is); (case wb1 => k_is); (case wc1 => k_is); (case wd1 => k_is); (case we1 => k_is); (case xa2 => k_is); (case xb2 => k_exc); (case xc2 => k_is); (case xd2 => k_is); (case xe2 => k_is); (case wa2 => k_is); (case wb2 => k_is); (case wc2 => k_is); (case wd2 => k_is); (case we2 => k_is); (case xa3 => k_is); (case xb3 => k_exc); (case xc3 => k_is); (case xd3 => k_is); (case xe3 => k_is); (case wa3 => k_is); (case wb3 => k_is); (case wc3 => k_is); (case wd3 => k_is); (case we3 => k_is); (case xa4 => k_is); (case xb4 => k_exc); (case xc4 => k_is); (case xd4 => k_is); (case xe4 => k_is); (case wa4 => k_is); (case wb4 => k_is); (case wc4 => k_is); (case wd4 => k_is); (case we4 => k_is); (case xa5 => k_is); (case xb5 => k_exc); (case xc5 => k_is); (case xd5 => k_is); (case xe5 => k_is); (case wa5 => k_is); (case wb5 => k_is); (case wc5 => k_is); (case wd5 => k_is); (case we5 => k_is); (case w5 => k_is); (case w6 => k_is); (case em4_1 => first | k_is | kernel_rfl | rfl); (case ki4_1 => first | k_is | kernel_rfl | rfl); (case em3_1 => first | k_is | kernel_rfl | rfl); (case ki3_1 => first | k_is | kernel_rfl | rfl); (case em2_1 => first | k_is | kernel_rfl | rfl); (case ki2_1 => first | k_is | kernel_rfl | rfl); (case em4_2 => first | k_is | kernel_rfl | rfl); (case ki4_2 => first | k_is | kernel_rfl | rfl); (case em3_2 => first | k_is | kernel_rfl | rfl); (case ki3_2 => first | k_is | kernel_rfl | rfl); (case em2_2 => first | k_is | kernel_rfl | rfl); (case ki2_2 => first | k_is | kernel_rfl | rfl); (case em4_3 => first | k_is | kernel_rfl | rfl); (case ki4_3 => first | k_is | kernel_rfl | rfl); (case em3_3 => first | k_is | kernel_rfl | rfl); (case ki3_3 => first | k_is | kernel_rfl | rfl); (case em2_3 => first | k_is | kernel_rfl | rfl); (case ki2_3 => first | k_is | kernel_rfl | rfl); (case em4_4 => first | k_is | kernel_rfl | rfl); (case ki4_4 => first | k_is | kernel_rfl | rfl); (case em3_4 => first | k_is | kernel_rfl | rfl); (case ki3_4 => first | k_is | kernel_rfl | rfl); (case em2_4 => first | k_is | kernel_rfl | rfl); (case ki2_4 => first | k_is | kernel_rfl | rfl); (case em4_5 => first | k_is | kernel_rfl | rfl); (case ki4_5 => first | k_is | kernel_rfl | rfl); (case em3_5 => first | k_is | kernel_rfl | rfl); (case ki3_5 => first | k_is | kernel_rfl | rfl); (case em2_5 => first | k_is | kernel_rfl | rfl); (case ki2_5 => first | k_is | kernel_rfl | rfl); (case kbValueError_4 => first | k_is | kernel_rfl | rfl); (case kbValueError_3 => first | k_is | kernel_rfl | rfl); (case kbValueError_2 => first | k_is | kernel_rfl | rfl)
