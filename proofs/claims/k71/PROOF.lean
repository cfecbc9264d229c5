import PyProof.Rows.All
import Wide.All
import OpenK.AllK
import Wide.FinOn
import HandS.ForMost
import HandS.Walk
import HandS.Deep
import HandS.TupAny
import HandS.IsInst
import KE.GoesEnum
import KE.KRevSl
import HandS.Style
import HandS.ForExc
import HandS.Zip
import PyProof.NeKinds
import PyProof.FactsAll.dict
import HandS.TupMul
import PyProof.ReprRoads
import PySem.Challenge.RW_asifalone_k71_what_is_a_program
set_option Elab.async false
set_option linter.all false
set_option maxRecDepth 100000
set_option maxHeartbeats 4000000
/-! rules that the layer lacks: enumerate of a tuple, in over a tuple of data, t[::-1] of a tuple -/
namespace PySem
open Sem (wp)
set_option maxHeartbeats 4000000 in
theorem as_meets_enum {v : Value} {o : Obj} {H : Heap → Prop} (B : Begins v o H) :
    Meets (Builtin.«enumerate.__new__» ⟨[.type "enumerate", v], []⟩) (fun _ R s => H s.heap ∧
      R (.ok (.ret (.ref (s.heap.push o).objs.size))) { s with heap := (s.heap.push o).push { cls := .type "enumerate", data := .fields #[.none, .bool false, .ref s.heap.objs.size, rawInt 0, .none, .none] } }) :=
  .of_wp fun prog w A R s h => by
    obtain ⟨hpk, g, d, tkk, osk⟩ := s; obtain ⟨h1, h⟩ := h
    have hsub := sub_enumerate
    have q1k : ∀ {A' : Around} {E : Value → Shared → Prop} {Q : Value → Shared → Prop}, Q (.ref hpk.objs.size) ⟨hpk.push o, g, d, tkk, osk⟩ → wpAny (model prog w) A' (pyIter v) Q E ⟨hpk, g, d, tkk, osk⟩ :=
      fun q => B.iter prog w _ _ ⟨hpk, g, d, tkk, osk⟩ _ h1 q
    wp_walk using q1k
    refine wpAny_stack_any fun st => wpAny_pure ?_
    split
    · rename_i c _ _ _ _ _
      cases (c == Value.type "enumerate")
      · wp_walk using q1k
        exact ⟨_, rfl, h⟩
      · wp_walk using q1k
        exact ⟨_, rfl, h⟩
    · wp_walk using q1k
      exact ⟨_, rfl, h⟩
section
variable {prog : Program} {w : World} {A : Around} {E : Value → Shared → Prop} {s : Shared}
theorem as_call_enum {v : Value} {o : Obj} {H : Heap → Prop} {Q : Value → Shared → Prop} (B : Begins v o H) (h1 : H s.heap)
    (h : ∀ h', IsEnum h' (s.heap.objs.size + 1) s.heap.objs.size 0 .none → h'.get? s.heap.objs.size = some o → h'.objs.size = s.heap.objs.size + 2 →
      (∀ b o, s.heap.get? b = some o → h'.get? b = some o) → Q (.ref (s.heap.objs.size + 1)) { s with heap := h' }) :
    wpAny (model prog w) A (call (.type "enumerate") [v]) Q E s := by
  refine callType_new F.called_enumerate (by decide) (F.typeCall_enumerate_1 _) (F.newCall_enumerate_1 _) (fun obj => F.args_object_init_2 obj _) F.entry_enumerate_new
    (as_meets_enum B) ⟨h1, ?_⟩
  have hzk : (s.heap.push o).objs.size = s.heap.objs.size + 1 := Heap.size_push ..
  show _ ∧ _
  rw [hzk]
  have hek : IsEnum ((s.heap.push o).push { cls := .type "enumerate", data := .fields #[.none, .bool false, .ref s.heap.objs.size, rawInt 0, .none, .none] }) (s.heap.objs.size + 1) s.heap.objs.size 0 .none := by
    have := Heap.get?_push_size (s.heap.push o) (o := { cls := .type "enumerate", data := .fields #[.none, .bool false, .ref s.heap.objs.size, rawInt 0, .none, .none] }) rfl
    rw [hzk] at this; exact this
  refine ⟨⟨_, hek, rfl⟩, h _ hek (Heap.get?_push_of_some _ (Heap.get?_push_size _ B.free)) (by rw [Heap.size_push, hzk]) fun b o x => Heap.get?_push_of_some _ (Heap.get?_push_of_some _ x)⟩
end
end PySem
namespace L2
open PySem PySem.Spec PyProof.Rows
/-! ### enumerate(tuple) -/
def ItEt (K : PySem.W.Frag) (a : Addr) : It :=
  ⟨fun i H => ∃ (xs : List V) (x : V), SqT K H a xs ∧ xs[i]? = some x, fun i H v H' => ∃ T x, v = .ref T ∧ H T = none ∧ H' = upd H T (.tup [.int (i : Nat), x]) ∧ ∀ xs, SqT K H a xs → xs[i]? = some x, fun i H => ∃ xs : List V, SqT K H a xs ∧ xs.length = i⟩
theorem turn_enumT {P : Program} {w : World} {K : PySem.W.Frag} {elts : List Expr} {kk : Nat} {tpos : Pos} (a e it : Addr) :
    Turn P w K (.Tuple elts kk tpos) (ItEt K a) [e, it] e (fun i h => (∃ oldk, IsEnum h e it ((i : Nat) : Int) oldk) ∧ h.IsTupleIter it a i ∧ e ≠ it ∧ a ≠ it ∧ a ≠ e) where
  mem := by simp
  obj := fun i h st b hbk => by
    obtain ⟨⟨oldk, hek⟩, ⟨o, ho, hc, hd⟩, _⟩ := st
    have ek' : b = e ∨ b = it := by simpa using hbk
    rcases ek' with z | z
    · rw [z]; exact ⟨_, hek, fun v q => nomatch q⟩
    · rw [z]; exact ⟨o, ho, fun v q => by rw [hd] at q; cases q⟩
  keep := fun i h h' st k => let ⟨⟨oldk, hek⟩, hik, hnek⟩ := st; ⟨⟨oldk, k e (by simp) _ hek⟩, hik.at fun o q => k it (by simp) o q, hnek⟩
  item := by
    intro X hPk hwk hKk hc i pinsk s σ H E Ik hfk st hgk
    subst hPk hwk hKk
    obtain ⟨⟨oldk, hek⟩, hitk, hnek, hai, hae⟩ := st
    obtain ⟨xs, x, hqk, hxk⟩ := hgk
    obtain ⟨itsk, rvk, p, hzk⟩ := Ik.tuple hqk
    obtain ⟨u, huk, ruk⟩ := rvk.get hxk
    have helk : e < s.heap.objs.size := Heap.lt_size hek
    have hilk : it < s.heap.objs.size := by obtain ⟨_, q, _⟩ := hitk; exact Heap.lt_size q
    have p' : s.heap.IsTuple a itsk.toArray := p
    have hlt : i < itsk.toArray.size := by
      have := (List.getElem?_eq_some_iff.mp huk).1
      simpa using this
    refine wpAny_pyNext_enum_itemD (Draws.tuple (A := X.A.in1) (Ik.ok.hd hc) it a hai itsk.toArray) hek ⟨hitk, p'⟩ hlt hnek (by simp only [List.mem_cons, List.mem_singleton, List.not_mem_nil, or_false, not_or]; exact ⟨hnek, fun z => hae z.symm⟩) fun x' h' tkk hx' ho st' hTk hszk hkk => ?_
    have exk : x' = u := by
      have q1k : itsk[i]? = some x' := by simpa using hx'
      exact Option.some.inj (q1k.symm.trans huk)
    subst exk
    obtain ⟨hit', _⟩ := st'
    refine ⟨_, rfl, wpAny_letOwnedTupleGo_enum (s := { s with heap := h', toks := tkk + 1 }) ho fun h'' he' sbk => ?_⟩
    have hT2 : h''.get? s.heap.objs.size = some { cls := .type "tuple", data := .seq #[.int i tkk, x'] } := (sbk.2 _ (Nat.ne_of_gt helk)).trans hTk
    have newk : ObjOk X.prog X.w (upd H s.heap.objs.size (.tup [.int (i : Nat), x])) h'' s.heap.objs.size (.tup [.int (i : Nat), x]) :=
      ⟨by show 2 ≤ sizeLine; decide, [.int i tkk, x'], .cons ⟨_, rfl⟩ (.cons ruk .nil), ⟨_, hT2, rfl, _, rfl⟩⟩
    have I1k : Inv X pinsk σ (upd H s.heap.objs.size (.tup [.int (i : Nat), x])) { s with heap := h'', toks := tkk + 1 } :=
      Ik.turnedNew (ch := [e, it]) (fun b ob hbk q => (sbk.2 b (fun z => hbk (by simp [z]))).trans (hkk b ob (fun z => hbk (by simp [z])) (fun z => hbk (by simp [z])) q)) hfk (Nat.le_refl _) newk
    refine ⟨.ref s.heap.objs.size, _, I1k, rfl, ⟨_, x, rfl, Ik.hok.fresh (Nat.le_refl _), rfl, fun ys hy => by rw [Ik.tuple_inj hy hqk]; exact hxk⟩, ⟨⟨x', ?_⟩, hit'.at fun o q => (sbk.2 it (Ne.symm hnek)).trans q, hnek, hai, hae⟩, fun b hbk => ?_⟩
    · have e1 : ((i + 1 : Nat) : Int) = (i : Int) + 1 := by omega
      rw [e1]; exact he'
    · have hbk' : b < s.heap.objs.size := by
        have ek' : b = e ∨ b = it := by simpa using hbk
        rcases ek' with z | z
        · rw [z]; exact helk
        · rw [z]; exact hilk
      rw [upd_ne (Nat.ne_of_lt hbk')]
      exact (hfk b hbk).1
  done := by
    intro X hPk hwk hKk hc i pinsk s σ H E Ik hfk st hgk
    subst hPk hwk hKk
    obtain ⟨⟨oldk, hek⟩, hitk, hnek, hai, hae⟩ := st
    obtain ⟨xs, hqk, hxk⟩ := hgk
    obtain ⟨itsk, rvk, p, hzk⟩ := Ik.tuple hqk
    obtain ⟨f0k, f1k, f2k, f3k, f4k, f5k⟩ := hfk it (by simp)
    have hl := rvk.length
    have hit2 : s.heap.IsTupleIter it a i := hitk
    exact wpAny_pyNext_enum_endD (Draws.tuple (A := X.A.in1) (Ik.ok.hd hc) it a hai itsk.toArray) hek (show s.heap.IsTupleIter it a itsk.toArray.size ∧ s.heap.IsTuple a itsk.toArray from ⟨by
        have e0 : itsk.toArray.size = i := by rw [List.size_toArray]; omega
        rw [e0]; exact hitk, p⟩) fun h' eb => ⟨rfl, Ik.turned (t' := s.toks) (fun b o hbk q => eb b o hbk q) f0k f1k f3k f4k f5k⟩
  self := fun A i s Q E st h => let ⟨⟨_, hek⟩, _⟩ := st; wpAny_pyIter_enum hek h
def iEnumT (K : PySem.W.Frag) (ta : TA) : TI := fun σ H R => ta σ H fun vs H1k => ∃ a xs, vs = [.ref a] ∧ SqT K H1k a xs ∧ R (ItEt K a) H1k
theorem pi_enumT {X : Cx} {e : Expr} {ta : TA} {p pos tpos : Pos} {elts : List Expr} {kk : Nat} (hgk : Gl X "enumerate") (hm : X.mg "enumerate" = none) (ha : PA X [e] ta) (hsk : starEach [e] X.env = [(false, eval e X.env)] := by rfl) :
    PI X (.Tuple elts kk tpos) (.Call (.Name "enumerate" p) [e] [] pos) (iEnumT X.K ta) := by
  refine ⟨fun pinsk s σ H R Ik h => ?_⟩
  refine Call_ (ld_blt Ik hgk hm boot_enumerate (PyProof.Rows.callWith_type1 (thn (ha.run pos pinsk s σ H _ Ik h) fun us s1k ⟨vs, H1k, I1k, r1k, q1k⟩ => ?_) hsk rfl))
  obtain ⟨a, xs, exk, hqk, q⟩ := q1k
  subst exk
  cases r1k with
  | cons r rr =>
    cases rr
    cases r
    obtain ⟨itsk, rvk, p', hzk⟩ := I1k.tuple hqk
    have p2 : s1k.heap.IsTuple a itsk.toArray := p'
    have hal : a < s1k.heap.objs.size := by obtain ⟨o, ho, _⟩ := p2; exact Heap.lt_size ho
    refine as_call_enum (begins_tuple a itsk.toArray) p2 fun h' hek hitk hszk hkk => wpAny_pyIter_enum hek ?_
    have I2k : Inv X pinsk σ H1k { s1k with heap := h' } := I1k.kept (t' := s1k.toks) hkk
    refine ⟨s1k.heap.objs.size + 1, [s1k.heap.objs.size + 1, s1k.heap.objs.size], _, _, H1k, rfl, I2k, turn_enumT a (s1k.heap.objs.size + 1) s1k.heap.objs.size, ⟨⟨.none, hek⟩, ⟨_, hitk, rfl, rfl⟩, Nat.succ_ne_self _, Nat.ne_of_lt hal, Nat.ne_of_lt (Nat.lt_succ_of_lt hal)⟩, fun b hbk => ?_, q⟩
    have ek' : b = s1k.heap.objs.size + 1 ∨ b = s1k.heap.objs.size := by simpa using hbk
    have hlek : s1k.heap.objs.size ≤ b := by
      rcases ek' with z | z
      · rw [z]; exact Nat.le_add_right _ _
      · rw [z]; exact Nat.le_refl _
    exact I1k.fpOk hlek (I1k.hok.fresh hlek)
theorem walk_enumT {K : PySem.W.Frag} {a : Addr} {xs : List V} : Walk (ItEt K a) xs.length (fun H => SqT K H a xs) (YPair (fun i => some (.int (i : Nat))) (fun i => xs[i]?)) where
  goes := fun i H hik h => ⟨xs, xs[i], h, List.getElem?_eq_getElem hik⟩
  stops := fun H h => ⟨xs, h, rfl⟩
  yields := fun i H x H' _ h y => by
    obtain ⟨T, z, e1, e2k, e3k, e4k⟩ := y
    exact ⟨T, _, z, e1, e2k, e3k, rfl, e4k xs h⟩
/-! ### in over a tuple of data -/
section
variable {X : Cx}
def rInDT (K : PySem.W.Frag) : R2 := fun x y H Q => ∃ d ds, Dp K H x d ∧ Dp K H y (.tuple ds) ∧ SeqAt.shaped d = true ∧ SeqAt.shaped (.tuple ds) = true ∧ Q (.bl (ds.any fun z => PyData.eqv z d)) H
def rNotInDT (K : PySem.W.Frag) : R2 := fun x y H Q => ∃ d ds, Dp K H x d ∧ Dp K H y (.tuple ds) ∧ SeqAt.shaped d = true ∧ SeqAt.shaped (.tuple ds) = true ∧ Q (.bl (!ds.any fun z => PyData.eqv z d)) H
theorem op_inDT (huk : X.A.units + 65 < cLine) : OpR X (compareOp .In) (rInDT X.K) := by
  intro pinsk s σ H x y v u Q Ik rxk ryk h
  obtain ⟨d, ds, hd, hek, sdk, sek, q⟩ := h
  obtain ⟨as, r1k⟩ := Dp.reads Ik d x v hd rxk
  obtain ⟨bs, r2⟩ := Dp.reads Ik (.tuple ds) y u hek ryk
  exact SeqAt.in_tuple_reads r2 r1k (SeqAt.canLay_of_shaped sek) (SeqAt.canLay_of_shaped sdk) (room_in_shaped sdk huk) ⟨.bl _, H, Ik, rfl, q⟩
theorem op_notInDT (huk : X.A.units + 65 < cLine) : OpR X (compareOp .NotIn) (rNotInDT X.K) := by
  intro pinsk s σ H x y v u Q Ik rxk ryk h
  obtain ⟨d, ds, hd, hek, sdk, sek, q⟩ := h
  obtain ⟨as, r1k⟩ := Dp.reads Ik d x v hd rxk
  obtain ⟨bs, r2⟩ := Dp.reads Ik (.tuple ds) y u hek ryk
  exact SeqAt.notIn_tuple_reads r2 r1k (SeqAt.canLay_of_shaped sek) (SeqAt.canLay_of_shaped sdk) (room_in_shaped sdk huk) ⟨.bl _, H, Ik, rfl, q⟩
end
end L2

namespace HT
open PySem PySem.Spec PyProof.Rows L2
section
variable {prog : Program} {w : World} {A : Around} {E : Value → Shared → Prop} {s : Shared}
theorem as_adjust_rev (n : Nat) : Builtin.Slice.sliceAdjust none none (-1) (n : Int) = ((n : Int) - 1, -1) := by
  unfold Builtin.Slice.sliceAdjust
  simp
theorem as_places_rev (n : Nat) : Builtin.Slice.slicePlaces ((n : Int) - 1) (-1) (-1) = n := by
  unfold Builtin.Slice.slicePlaces
  have h1 : ¬ ((-1 : Int) > 0) := by omega
  rw [if_neg h1]
  by_cases h : ((n : Int) - 1 > -1)
  · rw [if_pos h]
    have e : -(-1 : Int) = 1 := by omega
    rw [e, Int.ediv_one]
    omega
  · rw [if_neg h]
    omega
theorem as_sliceApplied_rev {sl : Addr} {vlk vuk vs : Value} {n : Nat} {Q : Int × Int × Nat → Shared → Prop} (hsk : s.heap.IsSliceOf sl vlk vuk vs) (pl : IsPart vlk none) (pu : IsPart vuk none) (ps : IsPart vs (some (-1)))
    (h : Q ((n : Int) - 1, -1, n) s) : wpAny (model prog w) A (Builtin.Slice.sliceApplied (.ref sl) (pure (n : Int))) Q E s := by
  obtain ⟨osk, hosk, hcsk, hdsk⟩ := id hsk
  unfold Builtin.Slice.sliceApplied Builtin.Slice.sliceFields
  refine wpAny_bind (wpAny_bind (wpAny_field hosk hdsk (x := vlk) rfl (wpAny_bind (wpAny_field hosk hdsk (x := vuk) rfl (wpAny_bind (wpAny_field hosk hdsk (x := vs) rfl (wpAny_pure ?_)))))))
  refine wpAny_bind (slicePart_ ps ?_)
  show wpAny _ _ (if ((-1 : Int) == 0) = true then _ else _) _ _ s
  rw [if_neg (by decide)]
  refine wpAny_bind (slicePart_ pl (wpAny_bind (slicePart_ pu (wpAny_bind (wpAny_pure ?_)))))
  show wpAny _ _ (match Builtin.Slice.sliceAdjust none none (-1) (n : Int) with | (lo, hik) => pure (lo, (-1 : Int), Builtin.Slice.slicePlaces lo hik (-1))) _ _ s
  rw [as_adjust_rev n]
  show wpAny _ _ (pure ((n : Int) - 1, (-1 : Int), Builtin.Slice.slicePlaces ((n : Int) - 1) (-1) (-1))) _ _ s
  rw [as_places_rev]
  exact wpAny_pure h
theorem as_pick_rev (xs : Array Value) : ((List.range xs.size).filterMap fun (m : Nat) => xs[((xs.size : Int) - 1 + (m : Int) * (-1)).toNat]?).toArray = xs.toList.reverse.toArray := by
  have e : (List.range xs.size).filterMap (fun (m : Nat) => xs[((xs.size : Int) - 1 + (m : Int) * (-1)).toNat]?) = ((List.range xs.size).map fun k => xs.size - 1 - k).filterMap (fun k => xs[k]?) := by
    rw [List.filterMap_map]
    congr 1
    funext m
    have : ((xs.size : Int) - 1 + (m : Int) * (-1)).toNat = xs.size - 1 - m := by omega
    simp only [this, Function.comp]
  rw [e, PySem.W.krv_range, List.filterMap_reverse, PySem.W.krv_all]
theorem as_getItem_rev {t sl : Addr} {items : Array Value} {vlk vuk vs : Value} {Q : Value → Shared → Prop} (htk : IsTup s.heap t items) (hsk : s.heap.IsSliceOf sl vlk vuk vs) (pl : IsPart vlk none) (pu : IsPart vuk none) (ps : IsPart vs (some (-1)))
    (h : Q (.ref s.heap.objs.size) { s with heap := s.heap.push { cls := .type "tuple", data := .seq items.toList.reverse.toArray } })
    (hszk : items.size ≤ sizeLine) : wpAny (model prog w) A (getItem (.ref t) (.ref sl)) Q E s := by
  have htakek : sizeOk (.seq items.toList.reverse.toArray) := by
    show items.toList.reverse.toArray.size ≤ sizeLine
    rw [List.size_toArray, List.length_reverse, Array.length_toList]
    exact hszk
  obtain ⟨osk, hosk, hcsk, hdsk⟩ := id hsk
  have hTsk : s.TypeIs (.ref sl) "slice" := ⟨osk, hosk, hcsk⟩
  unfold getItem
  try with_reducible refine wpAny_holding ?_
  first | refine wpAny_bind (wpAny_pure ?_) | skip
  refine wpAny_bind (wpAny_sequenceKey htk.typeIs (by decide) ?_)
  refine wpAny_bind (wpAny_callSpecial?_slot (name := Str.ofString "__getitem__") htk.typeIs PyProof.Rows.slot_tuple_getitem
    (wpAny_call_entry PyProof.Rows.slot_tuple_getitem htk.typeIs entry_tuple_getitem ?_ (args_tuple_getitem _ _)))
  show wpAny _ _ (Builtin.Tuple.tupleItemsOf (.ref t) >>= _) _ _ s
  refine wpAny_bind (tupleItemsOf_ htk ?_)
  refine wpAny_bind (wpAny_typeOf hTsk ?_)
  rw [if_pos (by decide)]
  refine wpAny_bind (as_sliceApplied_rev hsk pl pu ps ?_)
  have hno : ¬ ((((items.size : Int) - 1) == 0 && (-1 : Int) == 1 && items.size == items.size) = true) := by
    intro q
    rw [Bool.and_eq_true, Bool.and_eq_true] at q
    exact absurd (eq_of_beq q.1.2) (by decide)
  show wpAny _ _ (if (((items.size : Int) - 1) == 0 && (-1 : Int) == 1 && items.size == items.size) = true then _ else _) _ _ s
  rw [if_neg hno, as_pick_rev]
  first
    | exact wpAny_bind (m := Builtin.Tuple.tupleExact _) (wpAny_newObj_type (wpAny_pure ⟨_, rfl, wpAny_pure h⟩) htakek)
    | exact wpAny_bind (m := Builtin.Tuple.tupleExact _) (wpAny_newObj_type (wpAny_bind (wpAny_pure (wpAny_pure ⟨_, rfl, wpAny_pure h⟩))) htakek)
    | exact wpAny_bind (wpAny_bind (m := Builtin.Tuple.tupleExact _) (wpAny_newObj_type (wpAny_pure (wpAny_pure ⟨_, rfl, wpAny_pure h⟩)) htakek))
    | exact wpAny_bind (wpAny_bind (m := Builtin.Tuple.tupleExact _) (wpAny_newObj_type (wpAny_pure ⟨_, rfl, wpAny_pure h⟩) htakek))
end
end HT
namespace L2
open PySem PySem.Spec PyProof.Rows
section
variable {X : Cx}
def tRevT (K : PySem.W.Frag) (te : TE) : TE := fun σ H Q => te σ H fun x H1k => ∃ a xs, x = .ref a ∧ SqT K H1k a xs ∧ ∀ p, H1k p = none → Q (.ref p) (upd H1k p (.tup xs.reverse))
theorem pe_revT {e : Expr} {te : TE} {k : Nat} {p1 p2 p3 pos : Pos} (hek : PE X e te) : PE X (.Subscript e (.Slice none none (some (.UnaryOp .USub (.Constant (.int 1) k p1) p2)) p3) pos) (tRevT X.K te) := by
  refine ⟨fun pinsk s σ H Q Ik h => ?_⟩
  refine Subscript_ (thn (hek.run pinsk s σ H _ Ik h) fun v s1k ⟨x, H1k, I1k, r1k, q1k⟩ => ?_)
  obtain ⟨a, xs, exk, hxk, q⟩ := q1k
  subst exk
  cases r1k
  have hstk : PO X (some (.UnaryOp .USub (.Constant (.int 1) k p1) p2)) (tPart (tUn (rU fun i => .int (-i)) (tC (.int 1)))) := po_some (pe_un un_neg pe_int)
  refine wpAny_Slice (thn (po_none.run pinsk s1k σ H1k (fun o H2k => o = none ∧ H2k = H1k) I1k ⟨rfl, rfl⟩) fun vlk s2k ⟨l, H2k, I2k, pl, elk, e2k⟩ => ?_)
  subst elk e2k
  refine thn (po_none.run pinsk s2k σ H2k (fun o H3k => o = none ∧ H3k = H2k) I2k ⟨rfl, rfl⟩) fun vuk s3k ⟨u, H3k, I3, pu, euk, e3k⟩ => ?_
  subst euk e3k
  refine thn (hstk.run pinsk s3k σ H3k (fun o H4k => o = some (-1) ∧ H4k = H3k) I3 ⟨1, rfl, -1, rfl, rfl, rfl⟩) fun vs s4k ⟨o, H4k, I4, ps, eok, e4k⟩ => ?_
  subst eok e4k
  have I5k : Inv X pinsk σ H4k { s4k with heap := s4k.heap.push { cls := .type "slice", data := .fields #[vlk, vuk, vs] } } := I4.kept (t' := s4k.toks) fun b ob q => Heap.get?_push_of_some _ q
  obtain ⟨itsk, r, htk, hzk⟩ := I5k.tuple hxk
  have hlen := r.length
  show wpAny (model X.prog X.w) X.A (subscriptTail e (.Slice none none (some (.UnaryOp .USub (.Constant (.int 1) k p1) p2)) p3) (.ref a) (.ref s4k.heap.objs.size)) (EP X pinsk σ Q) X.xe { s4k with heap := s4k.heap.push { cls := .type "slice", data := .fields #[vlk, vuk, vs] } }
  refine tail_any (ops := [.ref a, .ref s4k.heap.objs.size]) htk.typeIs (PyProof.Rows.slot_tuple_getitem.lookup) ?_ (by with_unfolding_all rfl)
  refine HT.as_getItem_rev htk (Heap.IsSliceOf.new _ vlk vuk vs) pl pu ps ?_ (by rw [List.size_toArray]; omega)
  refine ⟨.ref _, _, I5k.laid (t' := s4k.toks) (o := .tup xs.reverse) (fun b ob q => Heap.get?_push_of_some _ q) (Nat.le_refl _) ?_, rfl, q _ (I5k.hok.fresh (Nat.le_refl _))⟩
  exact ⟨by rw [List.length_reverse]; exact hzk, _, r.reverse, ⟨_, Heap.get?_push_size _ rfl, rfl, _, rfl⟩⟩
end
end L2

namespace As
open PySem PySem.Spec PyProof.Rows L2
/-! ### heaps: all but the well of draws stays -/
def ExS (st : Addr) (H H' : Hp) : Prop := ∀ a o, a ≠ st → H a = some o → H' a = some o
theorem ExS.refl (st : Addr) (H : Hp) : ExS st H H := fun _ _ _ h => h
theorem ExS.trans {st : Addr} {H H1 H2 : Hp} (a : ExS st H H1) (b : ExS st H1 H2) : ExS st H H2 := fun x o n h => b x o n (a x o n h)
theorem ExS.of {st : Addr} {H H' : Hp} (e : Same H H') : ExS st H H' := fun a o _ h => e a o h
theorem same_new {H : Hp} {p : Addr} {o : HO} (h : H p = none) : Same H (upd H p o) := fun a u e => by
  rw [upd_ne (ne_of_none e h)]
  exact e
theorem ExS.new {st : Addr} {H : Hp} {p : Addr} {o : HO} (h : H p = none) : ExS st H (upd H p o) := .of (same_new h)
theorem ExS.at_ {st : Addr} {H : Hp} {o : HO} : ExS st H (upd H st o) := fun a u n e => by
  rw [upd_ne n]
  exact e
theorem Same.new {H H' : Hp} {p : Addr} {o : HO} (e : Same H H') (h : H' p = none) : Same H (upd H' p o) := Same.trans e (same_new h)
theorem Same.mut {H H' : Hp} {p : Addr} {o : HO} (e : Same H H') (h : H p = none) : Same H (upd H' p o) := fun a u ha => by
  rw [upd_ne (ne_of_none ha h)]
  exact e a u ha
theorem ExS.seq {K : PySem.W.Frag} {st : Addr} {H H' : Hp} {a : Addr} {xs : List V} (n : a ≠ st) (e : ExS st H H') (h : SqL K H a xs) : SqL K H' a xs := by
  rcases h with (h | ⟨o, h⟩) | h
  · exact .inl (.inl (e _ _ n h))
  · exact .inl (.inr ⟨o, e _ _ n h⟩)
  · exact .inr h
/-! ### data -/
inductive D where
  | non
  | bl (b : Bool)
  | int (i : Int)
  | str (z : Str)
  | tup (ds : List D)
  | lst (ds : List D)
  | dct
mutual
inductive TD (st : Addr) (H : Hp) : V → D → Prop
  | non : TD st H .non .non
  | bl (b : Bool) : TD st H (.bl b) (.bl b)
  | int (i : Int) : TD st H (.int i) (.int i)
  | str (z : Str) : TD st H (.str z) (.str z)
  | tup {a : Addr} {xs : List V} {ds : List D} : a ≠ st → H a = some (.tup xs) → TDs st H xs ds → TD st H (.ref a) (.tup ds)
  | lst {a : Addr} {xs : List V} {ds : List D} : a ≠ st → H a = some (.lst xs) → TDs st H xs ds → TD st H (.ref a) (.lst ds)
  | dct {a : Addr} : a ≠ st → H a = some (.dK []) → TD st H (.ref a) .dct
inductive TDs (st : Addr) (H : Hp) : List V → List D → Prop
  | nil : TDs st H [] []
  | cons {v : V} {vs : List V} {d : D} {ds : List D} : TD st H v d → TDs st H vs ds → TDs st H (v :: vs) (d :: ds)
end
mutual
theorem TD.mono {st : Addr} {H H' : Hp} (e : ExS st H H') : ∀ {v : V} {d : D}, TD st H v d → TD st H' v d
  | _, _, .non => .non
  | _, _, .bl b => .bl b
  | _, _, .int i => .int i
  | _, _, .str z => .str z
  | _, _, .tup n h t => .tup n (e _ _ n h) (TDs.mono e t)
  | _, _, .lst n h t => .lst n (e _ _ n h) (TDs.mono e t)
  | _, _, .dct n h => .dct n (e _ _ n h)
theorem TDs.mono {st : Addr} {H H' : Hp} (e : ExS st H H') : ∀ {vs : List V} {ds : List D}, TDs st H vs ds → TDs st H' vs ds
  | _, _, .nil => .nil
  | _, _, .cons h t => .cons (TD.mono e h) (TDs.mono e t)
end
theorem TDs.length {st : Addr} {H : Hp} : ∀ {vs : List V} {ds : List D}, TDs st H vs ds → vs.length = ds.length
  | _, _, .nil => rfl
  | _, _, .cons _ t => congrArg (· + 1) t.length
theorem TDs.get {st : Addr} {H : Hp} : ∀ {vs : List V} {ds : List D} {i : Nat} {v : V}, TDs st H vs ds → vs[i]? = some v → ∃ d, ds[i]? = some d ∧ TD st H v d
  | _, _, i, _, .nil, h => by simp at h
  | _, _, 0, _, .cons h _, e => by
    have e' := Option.some.inj e
    subst e'
    exact ⟨_, rfl, h⟩
  | _, _, i + 1, _, .cons _ t, e => t.get (i := i) e
theorem TDs.append {st : Addr} {H : Hp} : ∀ {vs ws : List V} {ds es : List D}, TDs st H vs ds → TDs st H ws es → TDs st H (vs ++ ws) (ds ++ es)
  | _, _, _, _, .nil, h => h
  | _, _, _, _, .cons h t, r => .cons h (t.append r)
theorem TDs.drop {st : Addr} {H : Hp} : ∀ {vs : List V} {ds : List D} (n : Nat), TDs st H vs ds → TDs st H (vs.drop n) (ds.drop n)
  | _, _, 0, h => h
  | _, _, _ + 1, .nil => .nil
  | _, _, n + 1, .cons _ t => t.drop n
theorem TDs.take {st : Addr} {H : Hp} : ∀ {vs : List V} {ds : List D} (n : Nat), TDs st H vs ds → TDs st H (vs.take n) (ds.take n)
  | _, _, 0, _ => .nil
  | _, _, _ + 1, .nil => .nil
  | _, _, n + 1, .cons h t => .cons h (t.take n)
theorem TDs.rev {st : Addr} {H : Hp} : ∀ {vs : List V} {ds : List D}, TDs st H vs ds → TDs st H vs.reverse ds.reverse
  | _, _, .nil => .nil
  | _, _, .cons h t => by
    rw [List.reverse_cons, List.reverse_cons]
    exact t.rev.append (.cons h .nil)
theorem TDs.rep {st : Addr} {H : Hp} {v : V} {d : D} (h : TD st H v d) : ∀ n : Nat, TDs st H (List.replicate n v) (List.replicate n d)
  | 0 => .nil
  | n + 1 => .cons h (TDs.rep h n)
theorem TDs.cut {st : Addr} {H : Hp} {vs : List V} {ds : List D} (lo hi : Option Int) (h : TDs st H vs ds) : ∃ es, TDs st H (cutV vs lo hi) es := ⟨_, (h.drop _).take _⟩
def tyD : D → String
  | .non => "NoneType"
  | .bl _ => "bool"
  | .int _ => "int"
  | .str _ => "str"
  | .tup _ => "tuple"
  | .lst _ => "list"
  | .dct => "dict"
theorem TD.ty {K : PySem.W.Frag} {st : Addr} {H : Hp} {v : V} {d : D} (h : TD st H v d) : TyX K H v (.type (tyD d)) := by
  cases h with
  | non => exact .base .non
  | bl b => exact .base (.bl b)
  | int i => exact .base (.int i)
  | str z => exact .base (.str z)
  | tup n h t => exact .base (.tup h)
  | lst n h t => exact .base (.lst h)
  | dct n h => exact .base (.dK h)
def isInt : D → Bool
  | .bl _ => true
  | .int _ => true
  | _ => false
def isBool : D → Bool
  | .bl _ => true
  | _ => false
def isStr : D → Bool
  | .str _ => true
  | _ => false
def isTup : D → Bool
  | .tup _ => true
  | _ => false
def isLst : D → Bool
  | .lst _ => true
  | _ => false
theorem kit_int (d : D) : kitB (tyD d) "int" = some (isInt d) := by
  cases d with
  | non => exact (show kitB "NoneType" "int" = some false by decide +kernel)
  | bl _ => exact (show kitB "bool" "int" = some true by decide +kernel)
  | int _ => exact (show kitB "int" "int" = some true by decide +kernel)
  | str _ => exact (show kitB "str" "int" = some false by decide +kernel)
  | tup _ => exact (show kitB "tuple" "int" = some false by decide +kernel)
  | lst _ => exact (show kitB "list" "int" = some false by decide +kernel)
  | dct => exact (show kitB "dict" "int" = some false by decide +kernel)
theorem kit_bool (d : D) : kitB (tyD d) "bool" = some (isBool d) := by
  cases d with
  | non => exact (show kitB "NoneType" "bool" = some false by decide +kernel)
  | bl _ => exact (show kitB "bool" "bool" = some true by decide +kernel)
  | int _ => exact (show kitB "int" "bool" = some false by decide +kernel)
  | str _ => exact (show kitB "str" "bool" = some false by decide +kernel)
  | tup _ => exact (show kitB "tuple" "bool" = some false by decide +kernel)
  | lst _ => exact (show kitB "list" "bool" = some false by decide +kernel)
  | dct => exact (show kitB "dict" "bool" = some false by decide +kernel)
theorem kit_str (d : D) : kitB (tyD d) "str" = some (isStr d) := by
  cases d with
  | non => exact (show kitB "NoneType" "str" = some false by decide +kernel)
  | bl _ => exact (show kitB "bool" "str" = some false by decide +kernel)
  | int _ => exact (show kitB "int" "str" = some false by decide +kernel)
  | str _ => exact (show kitB "str" "str" = some true by decide +kernel)
  | tup _ => exact (show kitB "tuple" "str" = some false by decide +kernel)
  | lst _ => exact (show kitB "list" "str" = some false by decide +kernel)
  | dct => exact (show kitB "dict" "str" = some false by decide +kernel)
theorem kit_tup (d : D) : kitB (tyD d) "tuple" = some (isTup d) := by
  cases d with
  | non => exact (show kitB "NoneType" "tuple" = some false by decide +kernel)
  | bl _ => exact (show kitB "bool" "tuple" = some false by decide +kernel)
  | int _ => exact (show kitB "int" "tuple" = some false by decide +kernel)
  | str _ => exact (show kitB "str" "tuple" = some false by decide +kernel)
  | tup _ => exact (show kitB "tuple" "tuple" = some true by decide +kernel)
  | lst _ => exact (show kitB "list" "tuple" = some false by decide +kernel)
  | dct => exact (show kitB "dict" "tuple" = some false by decide +kernel)
theorem kit_lst (d : D) : kitB (tyD d) "list" = some (isLst d) := by
  cases d with
  | non => exact (show kitB "NoneType" "list" = some false by decide +kernel)
  | bl _ => exact (show kitB "bool" "list" = some false by decide +kernel)
  | int _ => exact (show kitB "int" "list" = some false by decide +kernel)
  | str _ => exact (show kitB "str" "list" = some false by decide +kernel)
  | tup _ => exact (show kitB "tuple" "list" = some false by decide +kernel)
  | lst _ => exact (show kitB "list" "list" = some true by decide +kernel)
  | dct => exact (show kitB "dict" "list" = some false by decide +kernel)
theorem isi {K : PySem.W.Frag} {st : Addr} {H : Hp} {v : V} {d : D} {n : String} {b : Bool} {Q : VK} (h : TD st H v d) (k : kitB (tyD d) n = some b) (q : Q (.bl b) H) : rIsi K [v, .ty n] H Q :=
  ⟨v, .ty n, _, _, b, rfl, .ty n, h.ty, kit_ty k, q⟩
/-! ### steps -/
abbrev Pr := Str × Int
def stepD (p : Pr) : D := .tup [.str p.1, .int p.2]
def wR : Str := "read"
def wW : Str := "write"
def wordB (z : Str) : Bool := decide (z = wR) || decide (z = wW)
def boxB (i : Int) : Bool := decide (0 ≤ i) && decide (i ≤ 100000000)
def asPr : D → Option Pr
  | .tup [.str z, .int i] => if wordB z && boxB i then some (z, i) else none
  | _ => none
def isStep (d : D) : Bool := (asPr d).isSome
theorem asPr_some {d : D} {p : Pr} (h : asPr d = some p) : d = stepD p ∧ wordB p.1 = true ∧ boxB p.2 = true := by
  unfold asPr at h
  split at h
  · split at h
    · rename_i z i hc
      have e := Option.some.inj h
      subst e
      rw [Bool.and_eq_true] at hc
      exact ⟨rfl, hc.1, hc.2⟩
    · cases h
  · cases h
theorem asPr_step {p : Pr} (h1 : wordB p.1 = true) (h2 : boxB p.2 = true) : asPr (stepD p) = some p := by
  show (if (wordB p.1 && boxB p.2) = true then some (p.1, p.2) else none) = some p
  rw [h1, h2]
  rfl
/-- the place of a step among those ahead: what the program asks, and what the law does -/
def mayP (p : Pr) (l : List Pr) : Bool := !decide (p ∈ l) && !decide ((wW, p.2) ∈ l)
def mayL (p : Pr) (l : List Pr) : Bool := !decide (p ∈ l) && !(decide (p.1 = wR) && decide ((wW, p.2) ∈ l))
theorem may_eq {p : Pr} (h : wordB p.1 = true) (l : List Pr) : mayP p l = mayL p l := by
  unfold mayP mayL
  obtain ⟨z, i⟩ := p
  unfold wordB at h
  rw [Bool.or_eq_true, decide_eq_true_eq, decide_eq_true_eq] at h
  rcases h with h | h
  · have h' : z = wR := h
    subst h'
    rw [decide_eq_true (show (wR, i).1 = wR from rfl), Bool.true_and]
  · have h' : z = wW := h
    subst h'
    have n : ¬ (wW = wR) := by decide
    rw [decide_eq_false (show ¬ (wW, i).1 = wR from n), Bool.false_and]
    cases hd : decide ((wW, i) ∈ l) <;> simp_all
/-- the pairs of a list of steps -/
def prs : List D → Option (List Pr)
  | [] => some []
  | d :: ds => match asPr d, prs ds with
    | some p, some l => some (p :: l)
    | _, _ => none
theorem prs_some : ∀ {ds : List D} {l : List Pr}, prs ds = some l → ds = l.map stepD ∧ (∀ p ∈ l, wordB p.1 = true ∧ boxB p.2 = true)
  | [], l, h => by
    have e : [] = l := Option.some.inj h
    subst e
    exact ⟨rfl, fun p hp => by cases hp⟩
  | d :: ds, l, h => by
    unfold prs at h
    split at h
    · rename_i p r h1 h2
      have e := Option.some.inj h
      subst e
      obtain ⟨e1, w1, b1⟩ := asPr_some h1
      obtain ⟨e2, w2⟩ := prs_some h2
      refine ⟨by rw [e1, e2]; rfl, fun q hq => ?_⟩
      rcases List.mem_cons.mp hq with e | e
      · rw [e]; exact ⟨w1, b1⟩
      · exact w2 q e
    · cases h
theorem prs_isSome : ∀ ds : List D, (prs ds).isSome = ds.all isStep
  | [] => rfl
  | d :: ds => by
    have ih := prs_isSome ds
    rw [List.all_cons, ← ih]
    show (match asPr d, prs ds with | some p, some l => some (p :: l) | _, _ => none).isSome = (isStep d && (prs ds).isSome)
    cases h1 : asPr d with
    | none =>
      have e : isStep d = false := by unfold isStep; rw [h1]; rfl
      rw [e, Bool.false_and]
      rfl
    | some p =>
      have e : isStep d = true := by unfold isStep; rw [h1]; rfl
      rw [e, Bool.true_and]
      cases h2 : prs ds with
      | none => rfl
      | some l => rfl
theorem prs_of {l : List Pr} (h : ∀ p ∈ l, wordB p.1 = true ∧ boxB p.2 = true) : prs (l.map stepD) = some l := by
  induction l with
  | nil => rfl
  | cons p l ih =>
    have hp := h p (List.mem_cons_self ..)
    rw [List.map_cons]
    unfold prs
    rw [asPr_step hp.1 hp.2, ih fun q hq => h q (List.mem_cons_of_mem _ hq)]
/-- all places may follow -/
def follow (m : Pr → List Pr → Bool) (l : List Pr) : Bool := (List.range l.length).all fun i => match l[i]? with
  | some p => m p (l.take i)
  | none => true
def isDealing : D → Bool
  | .tup ds => decide (1 ≤ ds.length) && decide (ds.length ≤ 8) && match prs ds with
    | some l => follow mayP l
    | none => false
  | _ => false
def areDealings : D → Bool
  | .lst ds => decide (1 ≤ ds.length) && decide (ds.length ≤ 100) && ds.all isDealing
  | _ => false
/-! ### steps as the library's data -/
def stepP (p : Pr) : PyData := .tuple [.str p.1, .int p.2]
theorem word_ok {z : Str} (h : wordB z = true) : PyData.strOk z = true := by
  unfold wordB at h
  rw [Bool.or_eq_true, decide_eq_true_eq, decide_eq_true_eq] at h
  rcases h with h | h
  · subst h; decide +kernel
  · subst h; decide +kernel
theorem stepP_lay {p : Pr} (h : wordB p.1 = true) : (stepP p).canLay0 = true := by simp [stepP, PyData.canLay0, PyData.canLayAll0, word_ok h]
theorem stepP_depth (p : Pr) : (stepP p).depth = 1 := by simp [stepP, PyData.depth, PyData.depthAll]
theorem stepPs_lay : ∀ {l : List Pr}, (∀ p ∈ l, wordB p.1 = true) → PyData.canLayAll0 (l.map stepP) = true
  | [], _ => by simp [PyData.canLayAll0]
  | p :: l, h => by simp [PyData.canLayAll0, stepP_lay (h p (List.mem_cons_self ..)), stepPs_lay fun q hq => h q (List.mem_cons_of_mem _ hq)]
theorem stepPs_depth : ∀ l : List Pr, PyData.depthAll (l.map stepP) ≤ 1
  | [] => by simp [PyData.depthAll]
  | p :: l => by
    have h1 := stepPs_depth l
    have h2 := stepP_depth p
    simp only [List.map_cons, PyData.depthAll]
    omega
theorem stepP_shaped {p : Pr} (hw : wordB p.1 = true) : SeqAt.shaped (stepP p) = true := by
  have h := stepP_depth p
  show ((stepP p).canLay0 && decide ((stepP p).depth ≤ 64)) = true
  rw [Bool.and_eq_true]
  exact ⟨stepP_lay hw, decide_eq_true (by omega)⟩
theorem stepPs_shapedT {l : List Pr} (hw : ∀ p ∈ l, wordB p.1 = true) : SeqAt.shaped (.tuple (l.map stepP)) = true := by
  have h1 := stepPs_depth l
  have h2 : PyData.depth (.tuple (l.map stepP)) ≤ 64 := by
    simp only [PyData.depth]
    omega
  show (PyData.canLay0 (.tuple (l.map stepP)) && decide (PyData.depth (.tuple (l.map stepP)) ≤ 64)) = true
  rw [Bool.and_eq_true]
  exact ⟨by simp only [PyData.canLay0]; exact stepPs_lay hw, decide_eq_true h2⟩
theorem stepPs_shapedL {l : List Pr} (hw : ∀ p ∈ l, wordB p.1 = true) : SeqAt.shaped (.list (l.map stepP)) = true := by
  have h1 := stepPs_depth l
  have h2 : PyData.depth (.list (l.map stepP)) ≤ 64 := by
    simp only [PyData.depth]
    omega
  show (PyData.canLay0 (.list (l.map stepP)) && decide (PyData.depth (.list (l.map stepP)) ≤ 64)) = true
  rw [Bool.and_eq_true]
  exact ⟨by simp only [PyData.canLay0]; exact stepPs_lay hw, decide_eq_true h2⟩
theorem stepP_eqv (p q : Pr) : PyData.eqv (stepP p) (stepP q) = decide (p = q) := by
  obtain ⟨z, i⟩ := p
  obtain ⟨y, j⟩ := q
  have e : PyData.eqv (stepP (z, i)) (stepP (y, j)) = ((z == y) && ((i == j) && true)) := by simp only [stepP, PyData.eqv, PyData.eqvAll]
  rw [e]
  by_cases h1 : z = y
  · by_cases h2 : i = j
    · subst h1 h2
      simp
    · have q : (i == j) = false := beq_eq_false_iff_ne.mpr h2
      rw [q, Bool.false_and, Bool.and_false, decide_eq_false]
      intro z
      exact h2 (Prod.mk.inj z).2
  · have q : (z == y) = false := beq_eq_false_iff_ne.mpr h1
    rw [q, Bool.false_and, decide_eq_false]
    intro z
    exact h1 (Prod.mk.inj z).1
theorem any_step (l : List Pr) (p : Pr) : ((l.map stepP).any fun z => PyData.eqv z (stepP p)) = decide (p ∈ l) := by
  induction l with
  | nil => simp
  | cons q l ih =>
    rw [List.map_cons, List.any_cons, ih, stepP_eqv]
    by_cases h1 : q = p
    · subst h1
      simp
    · have h1' : ¬ p = q := fun e => h1 e.symm
      rw [decide_eq_false h1, Bool.false_or]
      exact decide_eq_decide.mpr ⟨fun h => List.mem_cons_of_mem _ h, fun h => (List.mem_cons.mp h).resolve_left h1'⟩
theorem TD.stepDp {K : PySem.W.Frag} {st : Addr} {H : Hp} {v : V} {p : Pr} (h : TD st H v (stepD p)) : Dp K H v (stepP p) := by
  cases h with
  | tup n h t =>
    cases t with
    | cons h1 t =>
      cases t with
      | cons h2 t =>
        cases t
        cases h1
        cases h2
        exact .tup (.inl (.inl h)) (.cons (.str _) (.cons (.int _) .nil))
theorem TDs.stepsDp {K : PySem.W.Frag} {st : Addr} {H : Hp} : ∀ {l : List Pr} {vs : List V}, TDs st H vs (l.map stepD) → DpAll K H vs (l.map stepP)
  | [], _, h => by
    cases h
    exact .nil
  | p :: l, _, h => by
    cases h with
    | cons h t => exact .cons h.stepDp t.stepsDp
theorem TD.stepV {st : Addr} {H : Hp} {v : V} {p : Pr} (h : TD st H v (stepD p)) : ∃ b, v = .ref b ∧ b ≠ st ∧ H b = some (.tup [.str p.1, .int p.2]) := by
  cases h with
  | @tup b ys _ n h t =>
    cases t with
    | cons h1 t =>
      cases t with
      | cons h2 t =>
        cases t
        cases h1
        cases h2
        exact ⟨b, rfl, n, h⟩
theorem TDs.stepsT {st : Addr} {H H' : Hp} (e : ∀ a ys, a ≠ st → H a = some (.tup ys) → H' a = some (.tup ys)) : ∀ {l : List Pr} {vs : List V}, TDs st H vs (l.map stepD) → TDs st H' vs (l.map stepD)
  | [], _, h => by
    cases h
    exact .nil
  | p :: l, _, h => by
    cases h with
    | cons h t =>
      obtain ⟨b, rfl, n, hb⟩ := h.stepV
      exact .cons (.tup n (e _ _ n hb) (.cons (.str _) (.cons (.int _) .nil))) (t.stepsT e)
end As

namespace As
open PySem PySem.Spec PyProof.Rows L2
theorem hu65 {A : Around} {k : Nat} (hr : Room k A) : A.units + 65 < cLine := by have := hr.un; omega
theorem sl_of {n : Nat} (h : n ≤ 100000) : n ≤ sizeLine := Nat.le_trans h (by decide)
theorem sl_lt {n : Nat} (h : n < 100000) : n < sizeLine := Nat.lt_of_lt_of_le h (by decide)
def kept (n : Nat) (t : Nat → Bool) (f : Nat → V) : List V := ((List.range n).filter t).map f
theorem kept_succ (n : Nat) (t : Nat → Bool) (f : Nat → V) : kept (n + 1) t f = kept n t f ++ (if t n then [f n] else []) := by
  unfold kept
  rw [List.range_succ, List.filter_append, List.map_append]
  cases h : t n <;> simp [h]
theorem kept_len (n : Nat) (t : Nat → Bool) (f : Nat → V) : (kept n t f).length ≤ n := by
  unfold kept
  rw [List.length_map]
  have h := List.length_filter_le t (List.range n)
  rw [List.length_range] at h
  exact h
theorem kept_all (n : Nat) (f : Nat → V) : kept n (fun _ => true) f = (List.range n).map f := by
  unfold kept
  congr 1
  exact List.filter_eq_self.mpr fun _ _ => rfl
/-- a comprehension that changes nothing that was there: what it keeps -/
theorem lc_kept {J : It} {n : Nat} {G : Hp → Prop} {Y : Nat → Hp → V → Hp → Prop} (w : Walk J n G Y) {g : TG} {tt : TT} {te : TE} {vs : List Nat} {σ : L2.St} {H1 : Hp} {D : Addr} {Qd : Hp → Prop} (t : Nat → Bool) (f : Nat → V) (hD : H1 D = none) (hn : n ≤ 10000) (hG : ∀ H, Same H1 H → G H)
    (hs : ∀ i x H H' (N : Hp → Prop) (R : VK), i < n → Same H1 H → Y i H x H' → (t i = false → ∀ H'', Same H H'' → N H'') → (t i = true → ∀ H'', Same H H'' → R (f i) H'') →
      g x (wipe σ vs) H' fun σ2 H2 => wipe σ2 vs = wipe σ vs ∧ tt σ2 H2 fun b H3 => if b = true then te σ2 H3 R else N H3)
    (hd : ∀ H, Same H1 H → H D = some (.lst (kept n t f)) → Qd H) :
    ∃ W : Nat → Nat → Hp → Prop, (∃ m, W 0 m (upd H1 D (.lst []))) ∧ ∀ i m H, W i m H →
      (J.stop i H ∧ Qd H) ∨ (J.go i H ∧ ∃ Nx : Hp → Prop, (∀ H', Nx H' → ∃ m', m' < m ∧ W (i + 1) m' H') ∧ ∀ x H', J.yld i H x H' → g x (wipe σ vs) H' fun σ2 H2 => wipe σ2 vs = wipe σ vs ∧ tt σ2 H2 fun b H3 =>
        if b = true then te σ2 H3 fun y H4 => ∃ acc, H4 D = some (.lst acc) ∧ acc.length < sizeLine ∧ Nx (upd H4 D (.lst (acc ++ [y]))) else Nx H3) := by
  refine lc_it w (fun i H => Same H1 H ∧ H D = some (.lst (kept i t f))) ⟨same_new hD, upd_same⟩ (fun i H _ p => hG H p.1) (fun i x H H' hi p y => ?_) (fun H p => hd H p.1 p.2)
  obtain ⟨p1, p2⟩ := p
  refine hs i x H H' _ _ hi p1 y (fun ht H'' e => ⟨Same.trans p1 e, ?_⟩) (fun ht H'' e => ⟨kept i t f, e _ _ p2, sl_lt (by have := kept_len i t f; omega), Same.mut (Same.trans p1 e) hD, ?_⟩)
  · rw [kept_succ, ht, if_neg Bool.false_ne_true, List.append_nil]
    exact e _ _ p2
  · rw [kept_succ, ht, if_pos rfl]
    exact upd_same
theorem yesI {te : TE} {σ : L2.St} {H : Hp} {R : VK} {N : Hp → Prop} (h : te σ H R) : tYes σ H fun b H3 => if b = true then te σ H3 R else N H3 := by
  show if true = true then te σ H R else N H
  exact iteT h
theorem isDealing_eq (ds : List D) : isDealing (.tup ds) = (decide (1 ≤ ds.length) && decide (ds.length ≤ 8) && match prs ds with | some l => follow mayP l | none => false) := rfl
theorem areDealings_eq (ds : List D) : areDealings (.lst ds) = (decide (1 ≤ ds.length) && decide (ds.length ≤ 100) && ds.all isDealing) := rfl
end As

namespace As
open PySem PySem.Spec PyProof.Rows L2
theorem follow_get {m : Pr → List Pr → Bool} {l : List Pr} (h : follow m l = true) {i : Nat} {p : Pr} (hp : l[i]? = some p) : m p (l.take i) = true := by
  unfold follow at h
  rw [List.all_eq_true] at h
  have := h i (List.mem_range.mpr (List.getElem?_eq_some_iff.mp hp).1)
  rw [hp] at this
  exact this
theorem follow_mk {m : Pr → List Pr → Bool} {l : List Pr} (h : ∀ i p, l[i]? = some p → m p (l.take i) = true) : follow m l = true := by
  unfold follow
  rw [List.all_eq_true]
  intro i _
  cases hp : l[i]? with
  | none => rfl
  | some p => exact h i p hp
theorem follow_snoc {m : Pr → List Pr → Bool} {l : List Pr} {p : Pr} (h : follow m l = true) (hp : m p l = true) : follow m (l ++ [p]) = true := by
  refine follow_mk fun i q hq => ?_
  by_cases hi : i < l.length
  · rw [List.getElem?_append_left hi] at hq
    rw [List.take_append_of_le_length (by omega)]
    exact follow_get h hq
  · have ei : i = l.length := by
      have h1 := (List.getElem?_eq_some_iff.mp hq).1
      rw [List.length_append] at h1
      have h2 : ([p] : List Pr).length = 1 := rfl
      omega
    subst ei
    rw [List.getElem?_append_right (Nat.le_refl _), Nat.sub_self] at hq
    have e : p = q := Option.some.inj hq
    subst e
    rw [List.take_append_of_le_length (Nat.le_refl _), List.take_of_length_le (Nat.le_refl _)]
    exact hp
/-- at most two steps of a box -/
theorem two_of_box {m : List Pr} (hf : follow mayP m = true) (hw : ∀ p ∈ m, wordB p.1 = true) (b : Int) (t : Pr → Bool) (ht : ∀ q, t q = true → q.2 = b) : (m.filter t).length ≤ 2 := by
  have nd : m.Pairwise (fun p q => p ≠ q) := by
    rw [List.pairwise_iff_getElem]
    intro i j hi hj hij e
    have h1 := follow_get hf (List.getElem?_eq_getElem hj)
    unfold mayP at h1
    rw [Bool.and_eq_true, Bool.not_eq_true', decide_eq_false_iff_not] at h1
    refine h1.1 ?_
    rw [← e]
    exact List.mem_take_iff_getElem.mpr ⟨i, by omega, rfl⟩
  have nf := nd.filter t
  have mem : ∀ q ∈ m.filter t, q = (wR, b) ∨ q = (wW, b) := fun q hq => by
    have h1 := List.mem_filter.mp hq
    have h2 := ht q h1.2
    have h3 := hw q h1.1
    unfold wordB at h3
    rw [Bool.or_eq_true, decide_eq_true_eq, decide_eq_true_eq] at h3
    rcases h3 with h3 | h3
    · exact .inl (Prod.ext h3 h2)
    · exact .inr (Prod.ext h3 h2)
  match hF : m.filter t, nf, mem with
  | [], _, _ => exact Nat.zero_le _
  | [_], _, _ => exact (by decide : 1 ≤ 2)
  | [_, _], _, _ => exact Nat.le_refl 2
  | x :: y :: z :: r, nf, mem =>
    exfalso
    rw [List.pairwise_cons, List.pairwise_cons] at nf
    obtain ⟨n1, n2, _⟩ := nf
    have xy := n1 y (by simp)
    have xz := n1 z (by simp)
    have yz := n2 z (by simp)
    have mx := mem x (by simp)
    have my := mem y (by simp)
    have mz := mem z (by simp)
    rcases mx with mx | mx <;> rcases my with my | my <;> rcases mz with mz | mz <;> simp_all
end As

/-! a program's defs as functions on plain data: values W, a store S of the objects that may change (cells), and what it is for them to stand in the heap -/
namespace As
open PySem PySem.Spec PyProof.Rows L2
inductive W where
  | d (d : D)
  | c (k : Nat)
  | t (ws : List W)
  | g (v : V)
  | j
  | s (ns : List Int)
inductive Cell where
  | l (ds : List D)
  | w (ws : List W)
  | dk (kvs : List (Key × W))
  | dt (kvs : List (List Key × W))
  | ins (C : Addr) (fs : List (Str × W))
abbrev Store := List Cell
abbrev Env := List (Option W)
structure Mp where
  hid : Addr → Prop
  ad : List Addr
def Mp.live (M : Mp) (a : Addr) : Prop := a ∈ M.ad ∨ M.hid a
def KL (K : PySem.W.Frag) (a : Addr) (xs : List V) : Prop := ∃ (o : Obj) (its : Array Value) (n : Nat), K.lookup a = some o ∧ o.cls = .type "list" ∧ o.dict = none ∧ o.data = .seq its n ∧ its.size ≤ sizeLine ∧ Vals xs its.toList
def KT (K : PySem.W.Frag) (a : Addr) (xs : List V) : Prop := ∃ (o : Obj) (its : Array Value) (n : Nat), K.lookup a = some o ∧ o.cls = .type "tuple" ∧ o.data = .seq its n ∧ its.size ≤ sizeLine ∧ Vals xs its.toList
def NL (M : Mp) (H : Hp) (a : Addr) (xs : List V) : Prop := ¬ M.live a ∧ H a = some (.lst xs)
def NT (K : PySem.W.Frag) (M : Mp) (H : Hp) (a : Addr) (xs : List V) : Prop := (¬ M.live a ∧ Rd H a (.tup xs)) ∨ KT K a xs
theorem NL.sq {K : PySem.W.Frag} {M : Mp} {H : Hp} {a : Addr} {xs : List V} (h : NL M H a xs) : SqL K H a xs := .inl (.inl h.2)
theorem NT.sq {K : PySem.W.Frag} {M : Mp} {H : Hp} {a : Addr} {xs : List V} (h : NT K M H a xs) : SqT K H a xs := h.elim (fun z => .inl z.2) .inr
mutual
inductive RD (K : PySem.W.Frag) (M : Mp) (H : Hp) : V → D → Prop
  | non : RD K M H .non .non
  | bl (b : Bool) : RD K M H (.bl b) (.bl b)
  | int (i : Int) : RD K M H (.int i) (.int i)
  | str (z : Str) : RD K M H (.str z) (.str z)
  | tup {a : Addr} {xs : List V} {ds : List D} : NT K M H a xs → RDs K M H xs ds → RD K M H (.ref a) (.tup ds)
  | lst {a : Addr} {xs : List V} {ds : List D} : NL M H a xs → RDs K M H xs ds → RD K M H (.ref a) (.lst ds)
  | dct {a : Addr} : ¬ M.live a → H a = some (.dK []) → RD K M H (.ref a) .dct
inductive RDs (K : PySem.W.Frag) (M : Mp) (H : Hp) : List V → List D → Prop
  | nil : RDs K M H [] []
  | cons {v : V} {vs : List V} {d : D} {ds : List D} : RD K M H v d → RDs K M H vs ds → RDs K M H (v :: vs) (d :: ds)
end
mutual
inductive RW (K : PySem.W.Frag) (M : Mp) (H : Hp) : V → W → Prop
  | d {v : V} {d : D} : RD K M H v d → RW K M H v (.d d)
  | c {k : Nat} {a : Addr} : M.ad[k]? = some a → RW K M H (.ref a) (.c k)
  | t {a : Addr} {xs : List V} {ws : List W} : ¬ M.live a → H a = some (.tup xs) → RWs K M H xs ws → RW K M H (.ref a) (.t ws)
  | g (v : V) : RW K M H v (.g v)
  | j (v : V) : RW K M H v .j
  | s {a : Addr} {ns : List Int} : (¬ M.live a ∧ Rd H a (.lst (ns.map V.int))) ∨ KL K a (ns.map V.int) → RW K M H (.ref a) (.s ns)
inductive RWs (K : PySem.W.Frag) (M : Mp) (H : Hp) : List V → List W → Prop
  | nil : RWs K M H [] []
  | cons {v : V} {vs : List V} {d : W} {ds : List W} : RW K M H v d → RWs K M H vs ds → RWs K M H (v :: vs) (d :: ds)
end
inductive RK {κ : Type} (K : PySem.W.Frag) (M : Mp) (H : Hp) : List (κ × V) → List (κ × W) → Prop
  | nil : RK K M H [] []
  | cons {k : κ} {v : V} {vs : List (κ × V)} {w : W} {ws : List (κ × W)} : RW K M H v w → RK K M H vs ws → RK K M H ((k, v) :: vs) ((k, w) :: ws)
inductive RO (K : PySem.W.Frag) (M : Mp) (H : Hp) : List (Option V) → Env → Prop
  | nil : RO K M H [] []
  | no {o : Option V} {vs : List (Option V)} {ws : Env} : RO K M H vs ws → RO K M H (o :: vs) (none :: ws)
  | so {v : V} {vs : List (Option V)} {w : W} {ws : Env} : RW K M H v w → RO K M H vs ws → RO K M H (some v :: vs) (some w :: ws)
def CellOk (K : PySem.W.Frag) (M : Mp) (H : Hp) (a : Addr) : Cell → Prop
  | .l ds => ∃ xs, H a = some (.lst xs) ∧ RDs K M H xs ds
  | .w ws => ∃ xs, H a = some (.lst xs) ∧ RWs K M H xs ws
  | .dk kvs => ∃ gs, H a = some (.dK gs) ∧ RK K M H gs kvs
  | .dt kvs => ∃ gs, H a = some (.dT gs) ∧ RK K M H gs kvs
  | .ins C fs => ∃ dx gs, H a = some (.ins C dx gs) ∧ RK K M H gs fs
structure RS (K : PySem.W.Frag) (M : Mp) (S : Store) (H : Hp) : Prop where
  nd : M.ad.Nodup
  dj : ∀ a ∈ M.ad, ¬ M.hid a
  len : M.ad.length = S.length
  ok : ∀ (k : Nat) a c, M.ad[k]? = some a → S[k]? = some c → CellOk K M H a c
  hd : ∀ a, M.hid a → H a ≠ none
structure Ext (M M' : Mp) (H H' : Hp) : Prop where
  hid : M'.hid = M.hid
  ad : ∃ more, M'.ad = M.ad ++ more
  st : ∀ a o, H a = some o → a ∉ M.ad → H' a = some o ∧ a ∉ M'.ad
theorem Ext.refl (M : Mp) (H : Hp) : Ext M M H H := ⟨rfl, ⟨[], (List.append_nil _).symm⟩, fun _ _ h n => ⟨h, n⟩⟩
theorem Ext.trans {M M1 M2 : Mp} {H H1 H2 : Hp} (a : Ext M M1 H H1) (b : Ext M1 M2 H1 H2) : Ext M M2 H H2 := by
  obtain ⟨m1, e1⟩ := a.ad
  obtain ⟨m2, e2⟩ := b.ad
  refine ⟨b.hid.trans a.hid, ⟨m1 ++ m2, by rw [e2, e1, List.append_assoc]⟩, fun x o h n => ?_⟩
  obtain ⟨h1, n1⟩ := a.st x o h n
  exact b.st x o h1 n1
theorem Ext.live {M M' : Mp} {H H' : Hp} {a : Addr} {o : HO} (e : Ext M M' H H') (n : ¬ M.live a) (h : H a = some o) : ¬ M'.live a ∧ H' a = some o := by
  have n1 : a ∉ M.ad := fun z => n (.inl z)
  obtain ⟨h1, n2⟩ := e.st a o h n1
  refine ⟨fun z => z.elim n2 fun z => n (.inr ?_), h1⟩
  rw [← e.hid]
  exact z
theorem Ext.rd {M M' : Mp} {H H' : Hp} {a : Addr} {u : HO} (e : Ext M M' H H') (n : ¬ M.live a) (h : Rd H a u) : ¬ M'.live a ∧ Rd H' a u := by
  rcases h with h | ⟨o, h⟩
  · exact ⟨(e.live n h).1, .inl (e.live n h).2⟩
  · exact ⟨(e.live n h).1, .inr ⟨o, (e.live n h).2⟩⟩
theorem Ext.nl {M M' : Mp} {H H' : Hp} {a : Addr} {xs : List V} (e : Ext M M' H H') (h : NL M H a xs) : NL M' H' a xs := e.live h.1 h.2
theorem Ext.nt {K : PySem.W.Frag} {M M' : Mp} {H H' : Hp} {a : Addr} {xs : List V} (e : Ext M M' H H') (h : NT K M H a xs) : NT K M' H' a xs := h.elim (fun z => .inl (e.rd z.1 z.2)) .inr
/-- what plain data lean on -/
structure Ex0 (M M' : Mp) (H H' : Hp) : Prop where
  ad : ∃ more, M'.ad = M.ad ++ more
  lv : ∀ a o, ¬ M.live a → H a = some o → ¬ M'.live a ∧ H' a = some o
theorem Ext.ex0 {M M' : Mp} {H H' : Hp} (e : Ext M M' H H') : Ex0 M M' H H' := ⟨e.ad, fun a o n h => e.live n h⟩
theorem Ex0.live {M M' : Mp} {H H' : Hp} {a : Addr} {o : HO} (e : Ex0 M M' H H') (n : ¬ M.live a) (h : H a = some o) : ¬ M'.live a ∧ H' a = some o := e.lv a o n h
theorem Ex0.rd {M M' : Mp} {H H' : Hp} {a : Addr} {u : HO} (e : Ex0 M M' H H') (n : ¬ M.live a) (h : Rd H a u) : ¬ M'.live a ∧ Rd H' a u := by
  rcases h with h | ⟨o, h⟩
  · exact ⟨(e.live n h).1, .inl (e.live n h).2⟩
  · exact ⟨(e.live n h).1, .inr ⟨o, (e.live n h).2⟩⟩
theorem Ex0.nl {M M' : Mp} {H H' : Hp} {a : Addr} {xs : List V} (e : Ex0 M M' H H') (h : NL M H a xs) : NL M' H' a xs := e.live h.1 h.2
theorem Ex0.nt {K : PySem.W.Frag} {M M' : Mp} {H H' : Hp} {a : Addr} {xs : List V} (e : Ex0 M M' H H') (h : NT K M H a xs) : NT K M' H' a xs := h.elim (fun z => .inl (e.rd z.1 z.2)) .inr
section
variable {K : PySem.W.Frag} {M M' : Mp} {H H' : Hp}
mutual
theorem RD.ex0 (e : Ex0 M M' H H') : ∀ {v : V} {d : D}, RD K M H v d → RD K M' H' v d
  | _, _, .non => .non
  | _, _, .bl b => .bl b
  | _, _, .int i => .int i
  | _, _, .str z => .str z
  | _, _, .tup n t => .tup (e.nt n) (RDs.ex0 e t)
  | _, _, .lst n t => .lst (e.nl n) (RDs.ex0 e t)
  | _, _, .dct n h => .dct (e.live n h).1 (e.live n h).2
theorem RDs.ex0 (e : Ex0 M M' H H') : ∀ {vs : List V} {ds : List D}, RDs K M H vs ds → RDs K M' H' vs ds
  | _, _, .nil => .nil
  | _, _, .cons h t => .cons (RD.ex0 e h) (RDs.ex0 e t)
end
mutual
theorem RW.ex0 (e : Ex0 M M' H H') : ∀ {v : V} {d : W}, RW K M H v d → RW K M' H' v d
  | _, _, .d h => .d (h.ex0 e)
  | _, _, .c h => .c (by
      obtain ⟨m, q⟩ := e.ad
      rw [q, List.getElem?_append_left (List.getElem?_eq_some_iff.mp h).1]
      exact h)
  | _, _, .t n h t => .t (e.live n h).1 (e.live n h).2 (RWs.ex0 e t)
  | _, _, .g v => .g v
  | _, _, .j v => .j v
  | _, _, .s h => .s (h.elim (fun z => .inl (e.rd z.1 z.2)) .inr)
theorem RWs.ex0 (e : Ex0 M M' H H') : ∀ {vs : List V} {ds : List W}, RWs K M H vs ds → RWs K M' H' vs ds
  | _, _, .nil => .nil
  | _, _, .cons h t => .cons (RW.ex0 e h) (RWs.ex0 e t)
end
theorem RK.ex0 {κ : Type} (e : Ex0 M M' H H') : ∀ {vs : List (κ × V)} {ws : List (κ × W)}, RK K M H vs ws → RK K M' H' vs ws
  | _, _, .nil => .nil
  | _, _, .cons h t => .cons (h.ex0 e) (RK.ex0 e t)
theorem RO.ex0 (e : Ex0 M M' H H') : ∀ {vs : List (Option V)} {ws : Env}, RO K M H vs ws → RO K M' H' vs ws
  | _, _, .nil => .nil
  | _, _, .no t => .no (RO.ex0 e t)
  | _, _, .so h t => .so (h.ex0 e) (RO.ex0 e t)
theorem RD.ext (e : Ext M M' H H') {v : V} {d : D} (h : RD K M H v d) : RD K M' H' v d := h.ex0 e.ex0
theorem RDs.ext (e : Ext M M' H H') {v : List V} {d : List D} (h : RDs K M H v d) : RDs K M' H' v d := h.ex0 e.ex0
theorem RW.ext (e : Ext M M' H H') {v : V} {d : W} (h : RW K M H v d) : RW K M' H' v d := h.ex0 e.ex0
theorem RWs.ext (e : Ext M M' H H') {v : List V} {d : List W} (h : RWs K M H v d) : RWs K M' H' v d := h.ex0 e.ex0
theorem RK.ext {κ : Type} (e : Ext M M' H H') {v : List (κ × V)} {d : List (κ × W)} (h : RK K M H v d) : RK K M' H' v d := h.ex0 e.ex0
theorem RO.ext (e : Ext M M' H H') {v : List (Option V)} {d : Env} (h : RO K M H v d) : RO K M' H' v d := h.ex0 e.ex0
theorem RDs.length : ∀ {vs : List V} {ds : List D}, RDs K M H vs ds → vs.length = ds.length
  | _, _, .nil => rfl
  | _, _, .cons _ t => congrArg (· + 1) t.length
theorem RWs.length : ∀ {vs : List V} {ds : List W}, RWs K M H vs ds → vs.length = ds.length
  | _, _, .nil => rfl
  | _, _, .cons _ t => congrArg (· + 1) t.length
theorem RK.length {κ : Type} : ∀ {vs : List (κ × V)} {ds : List (κ × W)}, RK K M H vs ds → vs.length = ds.length
  | _, _, .nil => rfl
  | _, _, .cons _ t => congrArg (· + 1) t.length
theorem RO.length : ∀ {vs : List (Option V)} {ds : Env}, RO K M H vs ds → vs.length = ds.length
  | _, _, .nil => rfl
  | _, _, .no t => congrArg (· + 1) t.length
  | _, _, .so _ t => congrArg (· + 1) t.length
theorem RDs.get : ∀ {vs : List V} {ds : List D} {i : Nat} {d : D}, RDs K M H vs ds → ds[i]? = some d → ∃ v, vs[i]? = some v ∧ RD K M H v d
  | _, _, i, _, .nil, h => by simp at h
  | _, _, 0, _, .cons h _, e => by
    have e' := Option.some.inj e
    subst e'
    exact ⟨_, rfl, h⟩
  | _, _, i + 1, _, .cons _ t, e => t.get (i := i) e
theorem RDs.get' : ∀ {vs : List V} {ds : List D} {i : Nat} {v : V}, RDs K M H vs ds → vs[i]? = some v → ∃ d, ds[i]? = some d ∧ RD K M H v d
  | _, _, i, _, .nil, h => by simp at h
  | _, _, 0, _, .cons h _, e => by
    have e' := Option.some.inj e
    subst e'
    exact ⟨_, rfl, h⟩
  | _, _, i + 1, _, .cons _ t, e => t.get' (i := i) e
theorem RWs.get : ∀ {vs : List V} {ds : List W} {i : Nat} {d : W}, RWs K M H vs ds → ds[i]? = some d → ∃ v, vs[i]? = some v ∧ RW K M H v d
  | _, _, i, _, .nil, h => by simp at h
  | _, _, 0, _, .cons h _, e => by
    have e' := Option.some.inj e
    subst e'
    exact ⟨_, rfl, h⟩
  | _, _, i + 1, _, .cons _ t, e => t.get (i := i) e
theorem RO.get : ∀ {vs : List (Option V)} {ds : Env} {i : Nat} {d : W}, RO K M H vs ds → ds[i]? = some (some d) → ∃ v, vs[i]? = some (some v) ∧ RW K M H v d
  | _, _, i, _, .nil, h => by simp at h
  | _, _, 0, _, .no _, e => by
    have e' := Option.some.inj e
    cases e'
  | _, _, 0, _, .so h _, e => by
    have e' := Option.some.inj (Option.some.inj e)
    subst e'
    exact ⟨_, rfl, h⟩
  | _, _, i + 1, _, .no t, e => t.get (i := i) e
  | _, _, i + 1, _, .so _ t, e => t.get (i := i) e
theorem RO.set {v : V} {w : W} (h : RW K M H v w) : ∀ {vs : List (Option V)} {ws : Env} (i : Nat), RO K M H vs ws → RO K M H (vs.set i (some v)) (ws.set i (some w))
  | _, _, _, .nil => .nil
  | _, _, 0, .no t => .so h t
  | _, _, 0, .so _ t => .so h t
  | _, _, i + 1, .no t => .no (RO.set h i t)
  | _, _, i + 1, .so q t => .so q (RO.set h i t)
theorem RDs.append : ∀ {vs ws : List V} {ds es : List D}, RDs K M H vs ds → RDs K M H ws es → RDs K M H (vs ++ ws) (ds ++ es)
  | _, _, _, _, .nil, h => h
  | _, _, _, _, .cons h t, r => .cons h (t.append r)
theorem RWs.append : ∀ {vs ws : List V} {ds es : List W}, RWs K M H vs ds → RWs K M H ws es → RWs K M H (vs ++ ws) (ds ++ es)
  | _, _, _, _, .nil, h => h
  | _, _, _, _, .cons h t, r => .cons h (t.append r)
theorem RDs.drop : ∀ {vs : List V} {ds : List D} (n : Nat), RDs K M H vs ds → RDs K M H (vs.drop n) (ds.drop n)
  | _, _, 0, h => h
  | _, _, _ + 1, .nil => .nil
  | _, _, n + 1, .cons _ t => t.drop n
theorem RDs.take : ∀ {vs : List V} {ds : List D} (n : Nat), RDs K M H vs ds → RDs K M H (vs.take n) (ds.take n)
  | _, _, 0, _ => .nil
  | _, _, _ + 1, .nil => .nil
  | _, _, n + 1, .cons h t => .cons h (t.take n)
theorem RDs.set {v : V} {d : D} (h : RD K M H v d) : ∀ {vs : List V} {ds : List D} (i : Nat), RDs K M H vs ds → RDs K M H (vs.set i v) (ds.set i d)
  | _, _, _, .nil => .nil
  | _, _, 0, .cons _ t => .cons h t
  | _, _, i + 1, .cons q t => .cons q (RDs.set h i t)
theorem RWs.set {v : V} {d : W} (h : RW K M H v d) : ∀ {vs : List V} {ds : List W} (i : Nat), RWs K M H vs ds → RWs K M H (vs.set i v) (ds.set i d)
  | _, _, _, .nil => .nil
  | _, _, 0, .cons _ t => .cons h t
  | _, _, i + 1, .cons q t => .cons q (RWs.set h i t)
theorem RDs.rev : ∀ {vs : List V} {ds : List D}, RDs K M H vs ds → RDs K M H vs.reverse ds.reverse
  | _, _, .nil => .nil
  | _, _, .cons h t => by
    rw [List.reverse_cons, List.reverse_cons]
    exact t.rev.append (.cons h .nil)
theorem RDs.rep {v : V} {d : D} (h : RD K M H v d) : ∀ n : Nat, RDs K M H (List.replicate n v) (List.replicate n d)
  | 0 => .nil
  | n + 1 => .cons h (RDs.rep h n)
theorem RDs.flat {v : List V} {d : List D} (h : RDs K M H v d) : ∀ n : Nat, RDs K M H (List.replicate n v).flatten (List.replicate n d).flatten
  | 0 => .nil
  | n + 1 => by
    rw [List.replicate_succ, List.replicate_succ, List.flatten_cons, List.flatten_cons]
    exact h.append (h.flat n)
/-- plain data among values -/
theorem RDs.ws : ∀ {vs : List V} {ds : List D}, RDs K M H vs ds → RWs K M H vs (ds.map .d)
  | _, _, .nil => .nil
  | _, _, .cons h t => .cons (.d h) t.ws
def unD : W → Option D
  | .d d => some d
  | _ => none
def unDs : List W → Option (List D)
  | [] => some []
  | .d d :: ws => (unDs ws).map (d :: ·)
  | _ => none
theorem unDs_map (ds : List D) : unDs (ds.map .d) = some ds := by
  induction ds with
  | nil => rfl
  | cons d ds ih => show (unDs (ds.map .d)).map (d :: ·) = _; rw [ih]; rfl
theorem RWs.un : ∀ {vs : List V} {ws : List W} {ds : List D}, RWs K M H vs ws → unDs ws = some ds → RDs K M H vs ds
  | _, _, _, .nil, e => by cases e; exact .nil
  | _, _, _, .cons (.d h) t, e => by
    rename_i d ws'
    have e' : (unDs ws').map (d :: ·) = some _ := e
    cases q : unDs ws' with
    | none => rw [q] at e'; cases e'
    | some es =>
      rw [q] at e'
      cases e'
      exact .cons h (t.un q)
  | _, _, _, .cons (.c _) t, e => by cases e
  | _, _, _, .cons (.t _ _ _) t, e => by cases e
  | _, _, _, .cons (.g _) t, e => by cases e
  | _, _, _, .cons (.j _) t, e => by cases e
  | _, _, _, .cons (.s _) t, e => by cases e
/-! ### the store's steps -/
theorem RS.fresh {S : Store} (r : RS K M S H) {p : Addr} (np : H p = none) : ¬ M.live p := by
  rintro (h | h)
  · obtain ⟨k, hk, e⟩ := List.getElem_of_mem h
    have hk' : k < S.length := by rw [← r.len]; exact hk
    have := r.ok k p S[k] (by rw [List.getElem?_eq_getElem hk, e]) (List.getElem?_eq_getElem hk')
    cases hc : S[k] with
    | l ds => rw [hc] at this; obtain ⟨_, q, _⟩ := this; rw [np] at q; cases q
    | w ds => rw [hc] at this; obtain ⟨_, q, _⟩ := this; rw [np] at q; cases q
    | dk ds => rw [hc] at this; obtain ⟨_, q, _⟩ := this; rw [np] at q; cases q
    | dt ds => rw [hc] at this; obtain ⟨_, q, _⟩ := this; rw [np] at q; cases q
    | ins C ds => rw [hc] at this; obtain ⟨_, _, q, _⟩ := this; rw [np] at q; cases q
  · exact r.hd p h np
theorem CellOk.ex0 {a : Addr} {c : Cell} (e : Ex0 M M' H H') (ha : ∀ o, H a = some o → H' a = some o) (h : CellOk K M H a c) : CellOk K M' H' a c := by
  cases c with
  | l ds => obtain ⟨xs, h1, h2⟩ := h; exact ⟨xs, ha _ h1, h2.ex0 e⟩
  | w ds => obtain ⟨xs, h1, h2⟩ := h; exact ⟨xs, ha _ h1, h2.ex0 e⟩
  | dk ds => obtain ⟨xs, h1, h2⟩ := h; exact ⟨xs, ha _ h1, h2.ex0 e⟩
  | dt ds => obtain ⟨xs, h1, h2⟩ := h; exact ⟨xs, ha _ h1, h2.ex0 e⟩
  | ins C ds => obtain ⟨dx, xs, h1, h2⟩ := h; exact ⟨dx, xs, ha _ h1, h2.ex0 e⟩
theorem CellOk.ext {a : Addr} {c : Cell} (e : Ext M M' H H') (ha : ∀ o, H a = some o → H' a = some o) (h : CellOk K M H a c) : CellOk K M' H' a c := h.ex0 e.ex0 ha
/-- a new object that never changes -/
theorem Ext.fz {p : Addr} {o : HO} (np : H p = none) : Ext M M H (upd H p o) := ⟨rfl, ⟨[], (List.append_nil _).symm⟩, fun a u h n => by
  rw [upd_ne (ne_of_none h np)]
  exact ⟨h, n⟩⟩
theorem RS.same {S : Store} (r : RS K M S H) (e : ∀ a o, H a = some o → H' a = some o) : RS K M S H' ∧ Ext M M H H' := by
  have x : Ext M M H H' := ⟨rfl, ⟨[], (List.append_nil _).symm⟩, fun a u h n => ⟨e a u h, n⟩⟩
  refine ⟨⟨r.nd, r.dj, r.len, fun k a c h1 h2 => (r.ok k a c h1 h2).ext x (e a), fun a h z => ?_⟩, x⟩
  cases q : H a with
  | none => exact r.hd a h q
  | some o => rw [e a o q] at z; cases z
theorem RS.fz {S : Store} {p : Addr} {o : HO} (r : RS K M S H) (np : H p = none) : RS K M S (upd H p o) := (r.same fun a u h => by
  rw [upd_ne (ne_of_none h np)]
  exact h).1
def Mp.push (M : Mp) (p : Addr) : Mp := ⟨M.hid, M.ad ++ [p]⟩
/-- a new cell -/
theorem RS.new {S : Store} {p : Addr} {o : HO} {c : Cell} (r : RS K M S H) (np : H p = none) (h : CellOk K (M.push p) (upd H p o) p c) : RS K (M.push p) (S ++ [c]) (upd H p o) ∧ Ext M (M.push p) H (upd H p o) := by
  have fr := r.fresh np
  have x : Ext M (M.push p) H (upd H p o) := by
    refine ⟨rfl, ⟨[p], rfl⟩, fun a u h n => ?_⟩
    have q := ne_of_none h np
    rw [upd_ne q]
    refine ⟨h, fun z => ?_⟩
    rcases List.mem_append.mp z with z | z
    · exact n z
    · exact q (List.mem_singleton.mp z)
  refine ⟨⟨?_, fun a h => ?_, ?_, fun k a c' h1 h2 => ?_, fun a h => ?_⟩, x⟩
  · show (M.ad ++ [p]).Nodup
    rw [List.nodup_append]
    refine ⟨r.nd, by simp, fun a ha b hb => ?_⟩
    have := List.mem_singleton.mp hb
    subst this
    rintro rfl
    exact fr (.inl ha)
  · rcases List.mem_append.mp h with h | h
    · exact r.dj a h
    · rw [List.mem_singleton.mp h]
      exact fun z => fr (.inr z)
  · show (M.ad ++ [p]).length = _
    rw [List.length_append, List.length_append, r.len]
    rfl
  · have h1' : (M.ad ++ [p])[k]? = some a := h1
    by_cases hk : k < M.ad.length
    · rw [List.getElem?_append_left hk] at h1'
      rw [List.getElem?_append_left (by rw [← r.len]; exact hk)] at h2
      have q := r.ok k a c' h1' h2
      refine q.ext x fun u hu => ?_
      rw [upd_ne (ne_of_none hu np)]
      exact hu
    · rw [List.getElem?_append_right (by omega)] at h1'
      rw [List.getElem?_append_right (by rw [← r.len]; omega), ← r.len] at h2
      have hz : k - M.ad.length = 0 := by
        cases hq : k - M.ad.length with
        | zero => rfl
        | succ n => rw [hq] at h1'; simp at h1'
      rw [hz] at h1' h2
      cases h1'
      cases h2
      exact h
  · have h' : M.hid a := h
    intro z
    by_cases q : a = p
    · subst q
      exact fr (.inr h')
    · rw [upd_ne q] at z
      exact r.hd a h' z
/-- a cell is written -/
theorem RS.put {S : Store} {k : Nat} {a : Addr} {o : HO} {c : Cell} (r : RS K M S H) (ha : M.ad[k]? = some a) (h : Ext M M H (upd H a o) → CellOk K M (upd H a o) a c) : RS K M (S.set k c) (upd H a o) ∧ Ext M M H (upd H a o) := by
  have ma : a ∈ M.ad := List.mem_of_getElem? ha
  have x : Ext M M H (upd H a o) := ⟨rfl, ⟨[], (List.append_nil _).symm⟩, fun b u hb n => by
    have q : b ≠ a := fun z => n (z ▸ ma)
    rw [upd_ne q]
    exact ⟨hb, n⟩⟩
  refine ⟨⟨r.nd, r.dj, by rw [List.length_set]; exact r.len, fun j b c' h1 h2 => ?_, fun b hb => ?_⟩, x⟩
  · by_cases hj : j = k
    · subst hj
      rw [ha] at h1
      cases h1
      have hl : j < S.length := by
        have := (List.getElem?_eq_some_iff.mp ha).1
        rw [r.len] at this
        exact this
      rw [List.getElem?_set_self hl] at h2
      cases h2
      exact h x
    · rw [List.getElem?_set_ne (Ne.symm hj)] at h2
      have q : b ≠ a := by
        rintro rfl
        obtain ⟨l1, e1⟩ := List.getElem?_eq_some_iff.mp h1
        obtain ⟨l2, e2⟩ := List.getElem?_eq_some_iff.mp ha
        exact hj ((List.getElem_inj r.nd).mp (e1.trans e2.symm))
      refine (r.ok j b c' h1 h2).ext x fun u hu => ?_
      rw [upd_ne q]
      exact hu
  · have q : b ≠ a := fun z => r.dj a ma (z ▸ hb)
    rw [upd_ne q]
    exact r.hd b hb
/-- the cell of a value -/
theorem RS.at {S : Store} {k : Nat} {a : Addr} {c : Cell} (r : RS K M S H) (ha : M.ad[k]? = some a) (h : S[k]? = some c) : CellOk K M H a c := r.ok k a c ha h
end
/-! ### cells that fall away -/
mutual
def W.low (n : Nat) : W → Bool
  | .d _ => true
  | .c k => decide (k < n)
  | .t ws => lowAll n ws
  | .g _ => true
  | .j => true
  | .s _ => true
def lowAll (n : Nat) : List W → Bool
  | [] => true
  | w :: ws => w.low n && lowAll n ws
end
def lowK {κ : Type} (n : Nat) : List (κ × W) → Bool
  | [] => true
  | p :: ws => p.2.low n && lowK n ws
def Cell.low (n : Nat) : Cell → Bool
  | .l _ => true
  | .w ws => lowAll n ws
  | .dk kvs => lowK n kvs
  | .dt kvs => lowK n kvs
  | .ins _ fs => lowK n fs
def lowS (n : Nat) : List Cell → Bool
  | [] => true
  | c :: cs => c.low n && lowS n cs
def lowO (n : Nat) : Env → Bool
  | [] => true
  | none :: cs => lowO n cs
  | some w :: cs => w.low n && lowO n cs
def Mp.cut (M : Mp) (n : Nat) : Mp := ⟨M.hid, M.ad.take n⟩
theorem Mp.cut_live {M : Mp} {n : Nat} {a : Addr} (h : ¬ M.live a) : ¬ (M.cut n).live a := fun z => h (z.elim (fun z => .inl (List.mem_of_mem_take z)) .inr)
section
variable {K : PySem.W.Frag} {M M' : Mp} {H H' : Hp}
mutual
theorem RD.cut (n : Nat) : ∀ {v : V} {d : D}, RD K M H v d → RD K (M.cut n) H v d
  | _, _, .non => .non
  | _, _, .bl b => .bl b
  | _, _, .int i => .int i
  | _, _, .str z => .str z
  | _, _, .tup h t => .tup (h.elim (fun z => .inl ⟨Mp.cut_live z.1, z.2⟩) .inr) (RDs.cut n t)
  | _, _, .lst h t => .lst ⟨Mp.cut_live h.1, h.2⟩ (RDs.cut n t)
  | _, _, .dct h1 h => .dct (Mp.cut_live h1) h
theorem RDs.cut (n : Nat) : ∀ {vs : List V} {ds : List D}, RDs K M H vs ds → RDs K (M.cut n) H vs ds
  | _, _, .nil => .nil
  | _, _, .cons h t => .cons (RD.cut n h) (RDs.cut n t)
end
mutual
theorem RW.cut (n : Nat) : ∀ {v : V} {d : W}, RW K M H v d → d.low n = true → RW K (M.cut n) H v d
  | _, _, .d h, _ => .d (h.cut n)
  | _, _, .c (k := k) h, b => .c (by
      have b' : k < n := of_decide_eq_true (show decide (k < n) = true from b)
      show (M.ad.take n)[k]? = _
      rw [List.getElem?_take_of_lt b']
      exact h)
  | _, _, .t (ws := ws) h1 h t, b => .t (Mp.cut_live h1) h (RWs.cut n t (show lowAll n ws = true from b))
  | _, _, .g v, _ => .g v
  | _, _, .j v, _ => .j v
  | _, _, .s h, _ => .s (h.elim (fun z => .inl ⟨Mp.cut_live z.1, z.2⟩) .inr)
theorem RWs.cut (n : Nat) : ∀ {vs : List V} {ds : List W}, RWs K M H vs ds → lowAll n ds = true → RWs K (M.cut n) H vs ds
  | _, _, .nil, _ => .nil
  | _, _, .cons (d := d) (ds := ds) h t, b => by
    have b' : (d.low n && lowAll n ds) = true := b
    rw [Bool.and_eq_true] at b'
    exact .cons (RW.cut n h b'.1) (RWs.cut n t b'.2)
end
theorem RK.cut {κ : Type} (n : Nat) : ∀ {vs : List (κ × V)} {ds : List (κ × W)}, RK K M H vs ds → lowK n ds = true → RK K (M.cut n) H vs ds
  | _, _, .nil, _ => .nil
  | _, _, .cons (k := k) (w := w) (ws := ws) h t, b => by
    have b' : (w.low n && lowK n ws) = true := b
    rw [Bool.and_eq_true] at b'
    exact .cons (h.cut n b'.1) (RK.cut n t b'.2)
theorem RO.cut (n : Nat) : ∀ {vs : List (Option V)} {ds : Env}, RO K M H vs ds → lowO n ds = true → RO K (M.cut n) H vs ds
  | _, _, .nil, _ => .nil
  | _, _, .no t, b => .no (RO.cut n t b)
  | _, _, .so (w := w) (ws := ws) h t, b => by
    have b' : (w.low n && lowO n ws) = true := b
    rw [Bool.and_eq_true] at b'
    exact .so (h.cut n b'.1) (RO.cut n t b'.2)
theorem CellOk.cut {a : Addr} {c : Cell} (n : Nat) (h : CellOk K M H a c) (b : c.low n = true) : CellOk K (M.cut n) H a c := by
  cases c with
  | l ds => obtain ⟨xs, h1, h2⟩ := h; exact ⟨xs, h1, h2.cut n⟩
  | w ds => obtain ⟨xs, h1, h2⟩ := h; exact ⟨xs, h1, h2.cut n b⟩
  | dk ds => obtain ⟨xs, h1, h2⟩ := h; exact ⟨xs, h1, h2.cut n b⟩
  | dt ds => obtain ⟨xs, h1, h2⟩ := h; exact ⟨xs, h1, h2.cut n b⟩
  | ins C ds => obtain ⟨dx, xs, h1, h2⟩ := h; exact ⟨dx, xs, h1, h2.cut n b⟩
theorem lowS_get {n : Nat} : ∀ {S : List Cell} {k : Nat} {c : Cell}, lowS n S = true → S[k]? = some c → c.low n = true
  | [], _, _, _, e => by simp at e
  | c :: cs, 0, _, b, e => by
    have b' : (c.low n && lowS n cs) = true := b
    rw [Bool.and_eq_true] at b'
    cases e
    exact b'.1
  | c :: cs, k + 1, _, b, e => by
    have b' : (c.low n && lowS n cs) = true := b
    rw [Bool.and_eq_true] at b'
    exact lowS_get (k := k) b'.2 e
theorem RS.cut {S : Store} (n : Nat) (r : RS K M S H) (b : lowS n (S.take n) = true) : RS K (M.cut n) (S.take n) H := by
  refine ⟨r.nd.sublist (List.take_sublist _ _), fun a h => r.dj a (List.mem_of_mem_take h), ?_, fun k a c h1 h2 => ?_, r.hd⟩
  · show (M.ad.take n).length = _
    rw [List.length_take, List.length_take, r.len]
  · have h1' : (M.ad.take n)[k]? = some a := h1
    have hk : k < n := by
      have := (List.getElem?_eq_some_iff.mp h2).1
      rw [List.length_take] at this
      omega
    have b' := lowS_get b h2
    rw [List.getElem?_take_of_lt hk] at h1' h2
    exact (r.ok k a c h1' h2).cut n b'
theorem Ext.cut (e : Ext M M' H H') : Ext M (M'.cut M.ad.length) H H' := by
  obtain ⟨m, q⟩ := e.ad
  have z : (M'.cut M.ad.length).ad = M.ad := by
    show M'.ad.take _ = _
    rw [q, List.take_left]
  refine ⟨e.hid, ⟨[], by rw [z, List.append_nil]⟩, fun a o h n => ⟨(e.st a o h n).1, ?_⟩⟩
  rw [z]
  exact n
/-- a cell's list, its cell fallen away -/
theorem RS.frz {S : Store} {n k : Nat} {a : Addr} {ds : List D} (r : RS K M S H) (ha : M.ad[k]? = some a) (h : S[k]? = some (.l ds)) (hk : n ≤ k) : RD K (M.cut n) H (.ref a) (.lst ds) := by
  obtain ⟨xs, h1, h2⟩ := r.ok k a _ ha h
  refine .lst ⟨?_, h1⟩ (h2.cut n)
  rintro (z | z)
  · obtain ⟨j, hj, e⟩ := List.getElem_of_mem z
    have hj' : j < n := by
      have : j < (M.ad.take n).length := hj
      rw [List.length_take] at this
      omega
    have e' : (M.ad.take n)[j]? = some a := List.getElem?_eq_some_iff.mpr ⟨hj, e⟩
    rw [List.getElem?_take_of_lt hj'] at e'
    obtain ⟨l1, e1⟩ := List.getElem?_eq_some_iff.mp e'
    obtain ⟨l2, e2⟩ := List.getElem?_eq_some_iff.mp ha
    have := (List.getElem_inj r.nd).mp (e1.trans e2.symm)
    omega
  · exact r.dj a (List.mem_of_getElem? ha) z
/-! ### a list that is being made: hidden, then shown -/
def Mp.hide (M : Mp) (p : Addr) : Mp := ⟨fun a => M.hid a ∨ a = p, M.ad⟩
theorem Ex0.hide {p : Addr} {o : HO} (np : H p = none) : Ex0 M (M.hide p) H (upd H p o) := ⟨⟨[], (List.append_nil _).symm⟩, fun a u n h => by
  have q := ne_of_none h np
  rw [upd_ne q]
  refine ⟨fun z => ?_, h⟩
  rcases z with z | z | z
  · exact n (.inl z)
  · exact n (.inr z)
  · exact q z⟩
theorem RS.hide {S : Store} {p : Addr} {o : HO} (r : RS K M S H) (np : H p = none) : RS K (M.hide p) S (upd H p o) := by
  have fr := r.fresh np
  refine ⟨r.nd, fun a h z => ?_, r.len, fun k a c h1 h2 => ?_, fun a h z => ?_⟩
  · rcases z with z | z
    · exact r.dj a h z
    · exact fr (.inl (z ▸ h))
  · refine (r.ok k a c h1 h2).ex0 (Ex0.hide np) fun u hu => ?_
    rw [upd_ne (ne_of_none hu np)]
    exact hu
  · by_cases q : a = p
    · subst q
      rw [upd_same] at z
      cases z
    · rw [upd_ne q] at z
      rcases h with h | h
      · exact r.hd a h z
      · exact q h
theorem Ex0.show_ {p : Addr} : Ex0 (M.hide p) M H H := ⟨⟨[], (List.append_nil _).symm⟩, fun a u n h => ⟨fun z => n (z.elim .inl fun z => .inr (.inl z)), h⟩⟩
theorem RS.show_ {S : Store} {p : Addr} (r : RS K (M.hide p) S H) : RS K M S H := by
  refine ⟨r.nd, fun a h z => r.dj a h (.inl z), r.len, fun k a c h1 h2 => ?_, fun a h => r.hd a (.inl h)⟩
  exact (r.ok k a c h1 h2).ex0 Ex0.show_ fun u hu => hu
/-- from the hidden back: what is kept -/
theorem Ext.unhide {M1 : Mp} {p : Addr} {o : HO} (np : H p = none) (e : Ext (M.hide p) M1 (upd H p o) H') : Ext M ⟨M.hid, M1.ad⟩ H H' := by
  refine ⟨rfl, e.ad, fun a u h n => ?_⟩
  have q := ne_of_none h np
  exact e.st a u (by rw [upd_ne q]; exact h) n
theorem hide_eta {M1 : Mp} {p : Addr} {o : HO} (e : Ext (M.hide p) M1 (upd H p o) H') : M1 = Mp.hide ⟨M.hid, M1.ad⟩ p := by
  have := e.hid
  cases M1
  cases this
  rfl
end
end As

namespace As
open PySem PySem.Spec PyProof.Rows L2
structure Exn where
  cls : Str
  fs : Option (List (Str × D))
inductive Rs (α : Type) where
  | ok (a : α) (S : Store)
  | ex (e : Exn) (S : Store)
  | no
def Rs.bind {α β : Type} (r : Rs α) (k : α → Store → Rs β) : Rs β := match r with
  | .ok a S => k a S
  | .ex e S => .ex e S
  | .no => .no
@[simp] theorem Rs.bind_ok {α β : Type} (a : α) (S : Store) (k : α → Store → Rs β) : (Rs.ok a S).bind k = k a S := rfl
@[simp] theorem Rs.bind_ex {α β : Type} (e : Exn) (S : Store) (k : α → Store → Rs β) : (Rs.ex e S).bind k = .ex e S := rfl
@[simp] theorem Rs.bind_no {α β : Type} (k : α → Store → Rs β) : (Rs.no : Rs α).bind k = .no := rfl
inductive RF (K : PySem.W.Frag) (M : Mp) (H : Hp) : List (Str × V) → List (Str × D) → Prop
  | nil : RF K M H [] []
  | cons {k : Str} {v : V} {vs : List (Str × V)} {w : D} {ws : List (Str × D)} : RD K M H v w → RF K M H vs ws → RF K M H ((k, v) :: vs) ((k, w) :: ws)
def RX (K : PySem.W.Frag) (mg : Str → Option Value) (M : Mp) (H : Hp) (e : Exn) (cls : Value) (d : Option Addr) : Prop :=
  ∃ C, mg e.cls = some (.ref C) ∧ cls = .ref C ∧ match e.fs with
    | none => d = none
    | some fs => ∃ a gs, d = some a ∧ ¬ M.live a ∧ H a = some (.xd gs) ∧ RF K M H gs fs
theorem RF.ext {K : PySem.W.Frag} {M M' : Mp} {H H' : Hp} (e : Ext M M' H H') : ∀ {vs : List (Str × V)} {ws : List (Str × D)}, RF K M H vs ws → RF K M' H' vs ws
  | _, _, .nil => .nil
  | _, _, .cons h t => .cons (h.ext e) (RF.ext e t)
theorem RX.ext {K : PySem.W.Frag} {mg : Str → Option Value} {M M' : Mp} {H H' : Hp} {x : Exn} {cls : Value} {d : Option Addr} (e : Ext M M' H H') (h : RX K mg M H x cls d) : RX K mg M' H' x cls d := by
  obtain ⟨C, h1, h2, h3⟩ := h
  refine ⟨C, h1, h2, ?_⟩
  cases hf : x.fs with
  | none => rw [hf] at h3; exact h3
  | some fs =>
    rw [hf] at h3
    obtain ⟨a, gs, e1, n, e2, e3⟩ := h3
    exact ⟨a, gs, e1, (e.live n e2).1, (e.live n e2).2, e3.ext e⟩
theorem RF.cut {K : PySem.W.Frag} {M : Mp} {H : Hp} (n : Nat) : ∀ {vs : List (Str × V)} {ws : List (Str × D)}, RF K M H vs ws → RF K (M.cut n) H vs ws
  | _, _, .nil => .nil
  | _, _, .cons h t => .cons (h.cut n) (RF.cut n t)
theorem RX.cut {K : PySem.W.Frag} {mg : Str → Option Value} {M : Mp} {H : Hp} {x : Exn} {cls : Value} {d : Option Addr} (n : Nat) (h : RX K mg M H x cls d) : RX K mg (M.cut n) H x cls d := by
  obtain ⟨C, h1, h2, h3⟩ := h
  refine ⟨C, h1, h2, ?_⟩
  cases hf : x.fs with
  | none => rw [hf] at h3; exact h3
  | some fs =>
    rw [hf] at h3
    obtain ⟨a, gs, e1, q, e2, e3⟩ := h3
    exact ⟨a, gs, e1, Mp.cut_live q, e2, e3.cut n⟩
/-- what a result asks -/
def Post (K : PySem.W.Frag) (mg : Str → Option Value) (M : Mp) (H : Hp) (E : XK) {α β : Type} (R : Mp → Hp → β → α → Prop) (Q : β → Hp → Prop) : Rs α → Prop
  | .ok a S' => ∀ M' b H', Ext M M' H H' → RS K M' S' H' → R M' H' b a → Q b H'
  | .ex e S' => ∀ M' cls d H', Ext M M' H H' → RS K M' S' H' → RX K mg M' H' e cls d → E cls d H'
  | .no => False
def tG (K : PySem.W.Frag) (mg : Str → Option Value) (E : L2.St → XK) {α β : Type} (R : Mp → Hp → β → α → Prop) (f : Env → Store → Rs α) : L2.St → Hp → (β → Hp → Prop) → Prop :=
  fun σ H Q => ∃ M ρ S, RS K M S H ∧ RO K M H σ ρ ∧ Post K mg M H (E σ) R Q (f ρ S)
abbrev RB : Mp → Hp → Bool → Bool → Prop := fun _ _ a b => a = b
abbrev RWK (K : PySem.W.Frag) : Mp → Hp → V → W → Prop := fun M H v w => RW K M H v w
abbrev RWsK (K : PySem.W.Frag) : Mp → Hp → List V → List W → Prop := fun M H v w => RWs K M H v w
abbrev FE (X : Cx) (E : L2.St → XK) (e : Expr) (f : Env → Store → Rs W) : Prop := PE X e (tG X.K X.mg E (RWK X.K) f)
abbrev FT (X : Cx) (E : L2.St → XK) (e : Expr) (f : Env → Store → Rs Bool) : Prop := PT X e (tG X.K X.mg E RB f)
abbrev FW (X : Cx) (E : L2.St → XK) (e : Expr) (f : Env → Store → Rs Bool) : Prop := PW X e (tG X.K X.mg E RB f)
abbrev FA (X : Cx) (E : L2.St → XK) (es : List Expr) (f : Env → Store → Rs (List W)) : Prop := PA X es (tG X.K X.mg E (RWsK X.K) f)
theorem PE.imp {X : Cx} {e : Expr} {t t' : TE} (h : PE X e t) (i : ∀ σ H Q, t' σ H Q → t σ H Q) : PE X e t' := ⟨fun pins s σ H Q I q => h.run pins s σ H Q I (i σ H Q q)⟩
theorem PT.imp {X : Cx} {e : Expr} {t t' : TT} (h : PT X e t) (i : ∀ σ H Q, t' σ H Q → t σ H Q) : PT X e t' := ⟨fun pins s σ H Q I q => h.run pins s σ H Q I (i σ H Q q)⟩
theorem PW.imp {X : Cx} {e : Expr} {t t' : TT} (h : PW X e t) (i : ∀ σ H Q, t' σ H Q → t σ H Q) : PW X e t' := ⟨fun wh pins s σ H Q I q => h.run wh pins s σ H Q I (i σ H Q q)⟩
theorem PA.imp {X : Cx} {es : List Expr} {t t' : TA} (h : PA X es t) (i : ∀ σ H Q, t' σ H Q → t σ H Q) : PA X es t' := ⟨fun pos pins s σ H Q I q => h.run pos pins s σ H Q I (i σ H Q q)⟩
theorem PO.imp {X : Cx} {e : Option Expr} {t t' : TO} (h : PO X e t) (i : ∀ σ H Q, t' σ H Q → t σ H Q) : PO X e t' := ⟨fun pins s σ H Q I q => h.run pins s σ H Q I (i σ H Q q)⟩
theorem PS.imp {X : Cx} {e : Stmt} {t t' : TS} (h : PS X e t) (i : ∀ D σ H, t' D σ H → t D σ H) : PS X e t' := ⟨fun pins s σ H D I q => h.run pins s σ H D I (i D σ H q)⟩
theorem PSs.imp {X : Cx} {e : List Stmt} {t t' : TS} (h : PSs X e t) (i : ∀ D σ H, t' D σ H → t D σ H) : PSs X e t' := ⟨fun pins s σ H D I q => h.run pins s σ H D I (i D σ H q)⟩
section
variable {K : PySem.W.Frag} {mg : Str → Option Value} {M : Mp} {H : Hp} {E : XK} {α β γ δ : Type}
theorem Post.ext {R : Mp → Hp → β → α → Prop} {Q : β → Hp → Prop} {M1 : Mp} {H1 : Hp} (x : Ext M M1 H H1) : ∀ {r : Rs α}, Post K mg M H E R Q r → Post K mg M1 H1 E R Q r
  | .ok a S', h => fun M' b H' e => h M' b H' (x.trans e)
  | .ex a S', h => fun M' c d H' e => h M' c d H' (x.trans e)
  | .no, h => h
theorem Post.ret {R : Mp → Hp → β → α → Prop} {Q : β → Hp → Prop} {a : α} {b : β} {S : Store} (rs : RS K M S H) (r : R M H b a) (h : Post K mg M H E R Q (.ok a S)) : Q b H := h M b H (Ext.refl M H) rs r
/-- one step behind another -/
theorem Post.bindE {R : Mp → Hp → β → α → Prop} {R' : Mp → Hp → δ → γ → Prop} {Q : δ → Hp → Prop} {k : α → Store → Rs γ} : ∀ {r : Rs α}, Post K mg M H E R' Q (r.bind k) →
    Post K mg M H E R (fun b H1 => ∃ M1 a S1, Ext M M1 H H1 ∧ RS K M1 S1 H1 ∧ R M1 H1 b a ∧ Post K mg M1 H1 E R' Q (k a S1)) r
  | .ok a S', p => fun M' b H' e rs r => ⟨M', a, S', e, rs, r, Post.ext e p⟩
  | .ex e S', p => p
  | .no, p => p
theorem Post.map {R : Mp → Hp → β → α → Prop} {Q Q' : β → Hp → Prop} (i : ∀ b H1, Q b H1 → Q' b H1) : ∀ {r : Rs α}, Post K mg M H E R Q r → Post K mg M H E R Q' r
  | .ok a S', p => fun M' b H' e rs r => i b H' (p M' b H' e rs r)
  | .ex e S', p => p
  | .no, p => p
theorem tG.bind {E : L2.St → XK} {R : Mp → Hp → β → α → Prop} {R' : Mp → Hp → δ → γ → Prop} {f : Env → Store → Rs α} {g : Env → α → Store → Rs γ} {σ : L2.St} {Q : δ → Hp → Prop} {N : β → Hp → Prop}
    (h : tG K mg E R' (fun ρ S => (f ρ S).bind fun a S1 => g ρ a S1) σ H Q)
    (k : ∀ b H1 M1 ρ a S1, RS K M1 S1 H1 → RO K M1 H1 σ ρ → R M1 H1 b a → Post K mg M1 H1 (E σ) R' Q (g ρ a S1) → N b H1) : tG K mg E R f σ H N := by
  obtain ⟨M, ρ, S, rs, ro, p⟩ := h
  refine ⟨M, ρ, S, rs, ro, Post.map (fun b H1 q => ?_) (Post.bindE (R := R) p)⟩
  obtain ⟨M1, a, S1, e, rs1, r, q⟩ := q
  exact k b H1 M1 ρ a S1 rs1 (ro.ext e) r q
/-- two steps -/
theorem tG.bind2 {E : L2.St → XK} {R : Mp → Hp → β → α → Prop} {ε ζ : Type} {R2 : Mp → Hp → ζ → ε → Prop} {R' : Mp → Hp → δ → γ → Prop} (st : ∀ {M M' H H' b a}, Ext M M' H H' → R M H b a → R M' H' b a)
    {f : Env → Store → Rs α} {f2 : Env → Store → Rs ε} {g : α → ε → Store → Rs γ} {σ : L2.St} {Q : δ → Hp → Prop} {N : β → ζ → Hp → Prop}
    (h : tG K mg E R' (fun ρ S => (f ρ S).bind fun a S1 => (f2 ρ S1).bind fun c S2 => g a c S2) σ H Q)
    (k : ∀ b z H2 M2 a c S2, RS K M2 S2 H2 → R M2 H2 b a → R2 M2 H2 z c → Post K mg M2 H2 (E σ) R' Q (g a c S2) → N b z H2) :
    tG K mg E R f σ H fun b H1 => tG K mg E R2 f2 σ H1 fun z H2 => N b z H2 := by
  refine tG.bind (R' := R') (g := fun ρ a S1 => (f2 ρ S1).bind fun c S2 => g a c S2) h fun b H1 M1 ρ a S1 rs1 ro1 r p => ?_
  refine ⟨M1, ρ, S1, rs1, ro1, Post.map (fun z H2 q => ?_) (Post.bindE (R := R2) p)⟩
  obtain ⟨M2, c, S2, e, rs2, r2, q⟩ := q
  exact k b z H2 M2 a c S2 rs2 (st e r) r2 q
end
/-! ### names, constants -/
def fVar (i : Nat) : Env → Store → Rs W := fun ρ S => match ρ[i]? with
  | some (some w) => .ok w S
  | _ => .no
def fK (w : W) : Env → Store → Rs W := fun _ S => .ok w S
section
variable {X : Cx} {E : L2.St → XK}
theorem fv (i : Nat) {x : Str} {pos : Pos} (hN : X.N[i]? = some x := by rfl) (hv : Vis X.env.scope x := by first | exact Or.inl rfl | exact Or.inr (Or.inl rfl) | exact Or.inr (Or.inr rfl)) (hd : (x == ("__debug__" : Str)) = false := by decide)
    (hcd : (x == ("__classdict__" : Str)) = false := by decide) : FE X E (.Name x pos) (fVar i) := by
  refine PE.imp (pe_var hN hv hd hcd) fun σ H Q h => ?_
  obtain ⟨M, ρ, S, rs, ro, p⟩ := h
  unfold fVar at p
  split at p
  · rename_i w hw
    obtain ⟨v, hv, r⟩ := ro.get hw
    exact ⟨v, hv, p.ret rs r⟩
  · exact p.elim
theorem fk {e : Expr} {v : V} {w : W} (h : PE X e (tC v)) (r : ∀ M H, RW X.K M H v w) : FE X E e (fK w) := by
  refine PE.imp h fun σ H Q h => ?_
  obtain ⟨M, ρ, S, rs, ro, p⟩ := h
  exact p.ret rs (r M H)
theorem f_int {i j pos} : FE X E (.Constant (.int i) j pos) (fK (.d (.int i))) := fk pe_int fun _ _ => .d (.int i)
theorem f_bl {b j pos} : FE X E (.Constant (.bool b) j pos) (fK (.d (.bl b))) := fk pe_bl fun _ _ => .d (.bl b)
theorem f_non {j pos} : FE X E (.Constant .none j pos) (fK (.d .non)) := fk pe_non fun _ _ => .d .non
theorem f_str {x j pos} : FE X E (.Constant (.str x) j pos) (fK (.d (.str x))) := fk pe_str fun _ _ => .d (.str x)
/-- a built-in class as a value, anything of the module's top -/
theorem f_ty {x : Str} {n : String} {pos : Pos} (hg : Gl X x) (hm : X.mg x = none) (hv : bootBuiltins x = some (.type n)) (hn : x ≠ "__name__" := by decide) (hd : (x == ("__debug__" : Str)) = false := by decide) : FE X E (.Name x pos) (fK (.g (.ty n))) :=
  fk (pe_bltn hg hm hv (v := .ty n) rfl hn hd) fun _ _ => .g _
theorem f_glob {x : Str} {v : V} {u : Value} {w : W} {pos : Pos} (hg : Gl X x) (hm : X.mg x = some u) (r : RelV v u) (rw : ∀ M H, RW X.K M H v w) (hd : (x == ("__debug__" : Str)) = false := by decide) : FE X E (.Name x pos) (fK w) := fk (pe_glob hg hm r hd) rw
/-! ### operators -/
abbrev O2 := W → W → Store → Rs W
def OpF (K : PySem.W.Frag) (mg : Str → Option Value) (g : O2) (r : R2) : Prop := ∀ M S H v u x y E Q, RS K M S H → RW K M H v x → RW K M H u y → Post K mg M H E (RWK K) Q (g x y S) → r v u H Q
def fOp (g : O2) (fa fb : Env → Store → Rs W) : Env → Store → Rs W := fun ρ S => (fa ρ S).bind fun x S1 => (fb ρ S1).bind fun y S2 => g x y S2
theorem fOp_imp {K : PySem.W.Frag} {mg : Str → Option Value} {g : O2} {r : R2} {fa fb : Env → Store → Rs W} (hg : OpF K mg g r) : ∀ σ H Q, tG K mg E (RWK K) (fOp g fa fb) σ H Q → tOp r (tG K mg E (RWK K) fa) (tG K mg E (RWK K) fb) σ H Q :=
  fun σ H Q h => tG.bind2 (R := RWK K) (R2 := RWK K) (R' := RWK K) (fun x r => RW.ext x r) h fun b z H2 M2 a c S2 rs r1 r2 p => hg M2 S2 H2 b z a c (E σ) Q rs r1 r2 p
variable {a b : Expr} {fa fb fc : Env → Store → Rs W} {pos : Pos}
theorem f_op {op : Operator} {r : R2} {g : O2} (ho : OpR X (binaryOp op) r) (hg : OpF X.K X.mg g r) (ha : FE X E a fa) (hb : FE X E b fb) : FE X E (.BinOp a op b pos) (fOp g fa fb) := PE.imp (pe_op ho ha hb) (fOp_imp hg)
theorem f_cmp {op : CmpOp} {r : R2} {g : O2} (ho : OpR X (compareOp op) r) (hg : OpF X.K X.mg g r) (ha : FE X E a fa) (hb : FE X E b fb) (hm : behindInMarks op b = false) : FE X E (.Compare a [op] [b] pos) (fOp g fa fb) := PE.imp (pe_cmpR ho ha hb hm) (fOp_imp hg)
theorem f_ix {r : R2} {g : O2} (ho : IxR X r) (hg : OpF X.K X.mg g r) (ha : FE X E a fa) (hb : FE X E b fb) (hs : PlainIx b) : FE X E (.Subscript a b pos) (fOp g fa fb) := PE.imp (pe_ix ho ha hb hs) (fOp_imp hg)
/-! ### one value -/
abbrev O1 := W → Store → Rs W
def fUn (g : O1) (fa : Env → Store → Rs W) : Env → Store → Rs W := fun ρ S => (fa ρ S).bind fun x S1 => g x S1
def UnF (K : PySem.W.Frag) (mg : Str → Option Value) (g : O1) (r : V → Hp → VK → Prop) : Prop := ∀ M S H v x E Q, RS K M S H → RW K M H v x → Post K mg M H E (RWK K) Q (g x S) → r v H Q
theorem fUn_imp {K : PySem.W.Frag} {mg : Str → Option Value} {g : O1} {r : V → Hp → VK → Prop} {fa : Env → Store → Rs W} (hg : UnF K mg g r) : ∀ σ H Q, tG K mg E (RWK K) (fUn g fa) σ H Q → tUn r (tG K mg E (RWK K) fa) σ H Q :=
  fun σ H Q h => tG.bind (R := RWK K) (R' := RWK K) (g := fun _ x S1 => g x S1) h fun b H1 M1 ρ a S1 rs ro r p => hg M1 S1 H1 b a (E σ) Q rs r p
theorem f_un {op : UnaryOp} {r : V → Hp → VK → Prop} {g : O1} (ho : UnR X (unaryOp op) r) (hg : UnF X.K X.mg g r) (ha : FE X E a fa) : FE X E (.UnaryOp op a pos) (fUn g fa) := PE.imp (pe_un ho ha) (fUn_imp hg)
/-! ### arguments -/
def aNil : Env → Store → Rs (List W) := fun _ S => .ok [] S
def aCons (fa : Env → Store → Rs W) (fr : Env → Store → Rs (List W)) : Env → Store → Rs (List W) := fun ρ S => (fa ρ S).bind fun x S1 => (fr ρ S1).bind fun xs S2 => .ok (x :: xs) S2
theorem fa_nil : FA X E [] aNil := by
  refine PA.imp pa_nil fun σ H Q h => ?_
  obtain ⟨M, ρ, S, rs, ro, p⟩ := h
  exact Post.ret (R := RWsK X.K) rs RWs.nil p
theorem fa_cons {es : List Expr} {fr : Env → Store → Rs (List W)} (ha : FE X E a fa) (hr : FA X E es fr) (hs : starEach (a :: es) X.env = (false, eval a X.env) :: starEach es X.env := by rfl) : FA X E (a :: es) (aCons fa fr) := by
  refine PA.imp (pa_cons ha hr hs) fun σ H Q h => ?_
  exact tG.bind2 (R := RWK X.K) (R2 := RWsK X.K) (R' := RWsK X.K) (fun x r => RW.ext x r) h fun b z H2 M2 a c S2 rs r1 r2 p => Post.ret (R := RWsK X.K) rs (RWs.cons r1 r2) p
/-- behind arguments -/
abbrev OA := List W → Store → Rs W
def fApp (g : OA) (fa : Env → Store → Rs (List W)) : Env → Store → Rs W := fun ρ S => (fa ρ S).bind fun x S1 => g x S1
def ApF (K : PySem.W.Frag) (mg : Str → Option Value) (g : OA) (r : List V → Hp → VK → Prop) : Prop := ∀ M S H vs xs E Q, RS K M S H → RWs K M H vs xs → Post K mg M H E (RWK K) Q (g xs S) → r vs H Q
theorem fApp_imp {K : PySem.W.Frag} {mg : Str → Option Value} {g : OA} {r : List V → Hp → VK → Prop} {fa : Env → Store → Rs (List W)} (hg : ApF K mg g r) : ∀ σ H Q, tG K mg E (RWK K) (fApp g fa) σ H Q → tG K mg E (RWsK K) fa σ H fun vs H1 => r vs H1 Q :=
  fun σ H Q h => tG.bind (R := RWsK K) (R' := RWK K) (g := fun _ x S1 => g x S1) h fun b H1 M1 ρ a S1 rs ro r p => hg M1 S1 H1 b a (E σ) Q rs r p
theorem f_callB {x : Str} {id : String} {r : List V → Hp → VK → Prop} {g : OA} {e : Expr} {es : List Expr} {p : Pos} {fs : Env → Store → Rs (List W)} (hc : CallR X (.builtin id) r) (hg : ApF X.K X.mg g r) (h1 : Gl X x) (hm : X.mg x = none) (hv : bootBuiltins x = some (.builtin id)) (ha : FA X E (e :: es) fs)
    (hn : x ≠ "__name__" := by decide) (hdb : (x == ("__debug__" : Str)) = false := by decide) (he : starEach (e :: es) X.env = (false, eval e X.env) :: starEach es X.env := by rfl) (hpl : (backTo pos (starEach es X.env)).any (·.1) = false := by rfl) :
    FE X E (.Call (.Name x p) (e :: es) [] pos) (fApp g fs) := PE.imp (pe_callB hc h1 hm hv ha hn hdb he hpl) (fApp_imp hg)
theorem f_callTy {x : Str} {T : String} {r : List V → Hp → VK → Prop} {g : OA} {e : Expr} {es : List Expr} {p : Pos} {fs : Env → Store → Rs (List W)} (hc : CallR X (.type T) r) (hg : ApF X.K X.mg g r) (h1 : Gl X x) (hm : X.mg x = none) (hv : bootBuiltins x = some (.type T)) (ha : FA X E (e :: es) fs)
    (hn : x ≠ "__name__" := by decide) (hdb : (x == ("__debug__" : Str)) = false := by decide) (he : starEach (e :: es) X.env = (false, eval e X.env) :: starEach es X.env := by rfl) (hpl : (backTo pos (starEach es X.env)).any (·.1) = false := by rfl) :
    FE X E (.Call (.Name x p) (e :: es) [] pos) (fApp g fs) := PE.imp (pe_callTy hc h1 hm hv ha hn hdb he hpl) (fApp_imp hg)
/-! ### tests -/
def fB (fa : Env → Store → Rs W) : Env → Store → Rs Bool := fun ρ S => (fa ρ S).bind fun x S1 => match x with
  | .d (.bl b) => .ok b S1
  | _ => .no
theorem fB_imp {K : PySem.W.Frag} {mg : Str → Option Value} {fa : Env → Store → Rs W} : ∀ σ H Q, tG K mg E RB (fB fa) σ H Q → tG K mg E (RWK K) fa σ H fun v H1 => ∃ c, v = .bl c ∧ Q c H1 := by
  intro σ H Q h
  refine tG.bind (R := RWK K) (R' := RB) (g := fun _ x S1 => match x with
    | .d (.bl b) => .ok b S1
    | _ => .no) h fun v H1 M1 ρ x S1 rs ro r p => ?_
  cases r with
  | d rd =>
    cases rd with
    | bl c => exact ⟨c, rfl, Post.ret (R := RB) rs rfl p⟩
    | _ => exact (show False from p).elim
  | _ => exact (show False from p).elim
theorem ft_val (h : FE X E a fa) (he : ∀ whole, isTrue a X.env whole = (do let v ← whole; standAt a.pos; holding [v] (truthy v)) := by intro _; rfl) : FT X E a (fB fa) := PT.imp (pt_val h he) fB_imp
theorem ft_cmp {op : CmpOp} {r : R2} {g : O2} (ho : OpR X (compareOp op) r) (hg : OpF X.K X.mg g r) (ha : FE X E a fa) (hb : FE X E b fb) (hm : behindInMarks op b = false) : FT X E (.Compare a [op] [b] pos) (fB (fOp g fa fb)) := by
  refine PT.imp (pt_cmpR ho ha hb hm) fun σ H Q h => ?_
  have h1 := fB_imp σ H Q h
  exact fOp_imp hg σ H _ h1
def tNotF (f : Env → Store → Rs Bool) : Env → Store → Rs Bool := fun ρ S => (f ρ S).bind fun b S1 => .ok (!b) S1
def tAndF (f g : Env → Store → Rs Bool) : Env → Store → Rs Bool := fun ρ S => (f ρ S).bind fun b S1 => if b = true then g ρ S1 else .ok false S1
def tOrF (f g : Env → Store → Rs Bool) : Env → Store → Rs Bool := fun ρ S => (f ρ S).bind fun b S1 => if b = true then .ok true S1 else g ρ S1
/-- a test, then one of two ways -/
theorem tG.test {K : PySem.W.Frag} {mg : Str → Option Value} {γ δ : Type} {R' : Mp → Hp → δ → γ → Prop} {f : Env → Store → Rs Bool} {g : Env → Bool → Store → Rs γ} {σ : L2.St} {H : Hp} {Q : δ → Hp → Prop} {N : Bool → Hp → Prop}
    (h : tG K mg E R' (fun ρ S => (f ρ S).bind fun b S1 => g ρ b S1) σ H Q) (k : ∀ c H1, tG K mg E R' (fun ρ S => g ρ c S) σ H1 Q → N c H1) : tG K mg E RB f σ H N :=
  tG.bind (R := RB) (R' := R') h fun b H1 M1 ρ a S1 rs ro r p => by
    have r' : b = a := r
    subst r'
    exact k b H1 ⟨M1, ρ, S1, rs, ro, p⟩
variable {ta tb : Env → Store → Rs Bool} {rest : List Expr}
theorem ft_not (h : FT X E a ta) : FT X E (.UnaryOp .Not a pos) (tNotF ta) := by
  refine PT.imp (pt_not h) fun σ H Q h => ?_
  refine tG.test (g := fun _ b S1 => .ok (!b) S1) (R' := RB) h fun c H1 q => ?_
  obtain ⟨M, ρ, S, rs, ro, p⟩ := q
  exact Post.ret (R := RB) rs rfl p
theorem fw_and1 (h : FT X E a ta) : FW X E (.BoolOp .And [a] pos) ta := pw_and1 h
theorem fw_or1 (h : FT X E a ta) : FW X E (.BoolOp .Or [a] pos) ta := pw_or1 h
theorem fw_and (h : FT X E a ta) (h2 : FW X E (.BoolOp .And (b :: rest) pos) tb) : FW X E (.BoolOp .And (a :: b :: rest) pos) (tAndF ta tb) := by
  refine PW.imp (pw_and h h2) fun σ H Q h => ?_
  refine tG.test (g := fun ρ b S1 => if b = true then tb ρ S1 else .ok false S1) (R' := RB) h fun c H1 q => ?_
  obtain ⟨M, ρ, S, rs, ro, p⟩ := q
  cases c with
  | true => exact ⟨M, ρ, S, rs, ro, p⟩
  | false => exact Post.ret (R := RB) rs rfl p
theorem fw_or (h : FT X E a ta) (h2 : FW X E (.BoolOp .Or (b :: rest) pos) tb) : FW X E (.BoolOp .Or (a :: b :: rest) pos) (tOrF ta tb) := by
  refine PW.imp (pw_or h h2) fun σ H Q h => ?_
  refine tG.test (g := fun ρ b S1 => if b = true then .ok true S1 else tb ρ S1) (R' := RB) h fun c H1 q => ?_
  obtain ⟨M, ρ, S, rs, ro, p⟩ := q
  cases c with
  | false => exact ⟨M, ρ, S, rs, ro, p⟩
  | true => exact Post.ret (R := RB) rs rfl p
theorem ft_pw (h : FW X E a ta) : FT X E a ta := h.pt
/-! ### and, or, not as values -/
def fNot (fa : Env → Store → Rs W) : Env → Store → Rs W := fun ρ S => (fB fa ρ S).bind fun b S1 => .ok (.d (.bl (!b))) S1
def fAnd (fa fb : Env → Store → Rs W) : Env → Store → Rs W := fun ρ S => (fB fa ρ S).bind fun b S1 => if b = true then fb ρ S1 else .ok (.d (.bl false)) S1
def fOr (fa fb : Env → Store → Rs W) : Env → Store → Rs W := fun ρ S => (fB fa ρ S).bind fun b S1 => if b = true then .ok (.d (.bl true)) S1 else fb ρ S1
theorem fB_test {K : PySem.W.Frag} {mg : Str → Option Value} {γ δ : Type} {R' : Mp → Hp → δ → γ → Prop} {fa : Env → Store → Rs W} {g : Env → Bool → Store → Rs γ} {σ : L2.St} {H : Hp} {Q : δ → Hp → Prop} {N : Bool → Hp → Prop}
    (h : tG K mg E R' (fun ρ S => (fB fa ρ S).bind fun b S1 => g ρ b S1) σ H Q) (k : ∀ c H1, tG K mg E R' (fun ρ S => g ρ c S) σ H1 Q → N c H1) : tG K mg E (RWK K) fa σ H fun v H1 => ∃ c, v = .bl c ∧ N c H1 := fB_imp σ H N (tG.test h k)
theorem f_one {op} (h : FE X E a fa) : FE X E (.BoolOp op [a] pos) fa := pe_one h
theorem f_not (h : FE X E a fa) : FE X E (.UnaryOp .Not a pos) (fNot fa) := by
  refine PE.imp (pe_not h) fun σ H Q h => ?_
  refine fB_test (g := fun _ b S1 => .ok (.d (.bl (!b))) S1) (R' := RWK X.K) h fun c H1 q => ?_
  obtain ⟨M, ρ, S, rs, ro, p⟩ := q
  exact Post.ret (R := RWK X.K) rs (.d (.bl _)) p
theorem f_and (h : FE X E a fa) (h2 : FE X E (.BoolOp .And (b :: rest) pos) fb) : FE X E (.BoolOp .And (a :: b :: rest) pos) (fAnd fa fb) := by
  refine PE.imp (pe_and h h2) fun σ H Q h => ?_
  refine fB_test (g := fun ρ b S1 => if b = true then fb ρ S1 else .ok (.d (.bl false)) S1) (R' := RWK X.K) h fun c H1 q => ?_
  obtain ⟨M, ρ, S, rs, ro, p⟩ := q
  cases c with
  | true => exact ⟨M, ρ, S, rs, ro, p⟩
  | false => exact Post.ret (R := RWK X.K) rs (.d (.bl _)) p
theorem f_or (h : FE X E a fa) (h2 : FE X E (.BoolOp .Or (b :: rest) pos) fb) : FE X E (.BoolOp .Or (a :: b :: rest) pos) (fOr fa fb) := by
  refine PE.imp (pe_or h h2) fun σ H Q h => ?_
  refine fB_test (g := fun ρ b S1 => if b = true then .ok (.d (.bl true)) S1 else fb ρ S1) (R' := RWK X.K) h fun c H1 q => ?_
  obtain ⟨M, ρ, S, rs, ro, p⟩ := q
  cases c with
  | false => exact ⟨M, ρ, S, rs, ro, p⟩
  | true => exact Post.ret (R := RWK X.K) rs (.d (.bl _)) p
def fIfE (t : Env → Store → Rs Bool) (fa fb : Env → Store → Rs W) : Env → Store → Rs W := fun ρ S => (t ρ S).bind fun b S1 => if b = true then fa ρ S1 else fb ρ S1
theorem f_ifE {c : Expr} (hc : FT X E c ta) (h : FE X E a fa) (h2 : FE X E b fb) : FE X E (.IfExp c a b pos) (fIfE ta fa fb) := by
  refine PE.imp (pe_ifExp hc h h2) fun σ H Q h => ?_
  refine tG.test (g := fun ρ b S1 => if b = true then fa ρ S1 else fb ρ S1) (R' := RWK X.K) h fun c H1 q => ?_
  obtain ⟨M, ρ, S, rs, ro, p⟩ := q
  cases c with
  | true => exact ⟨M, ρ, S, rs, ro, p⟩
  | false => exact ⟨M, ρ, S, rs, ro, p⟩
/-! ### a chain of two comparisons: op, op' on the same -/
def fChain (g g' : O2) (fa fb fc : Env → Store → Rs W) : Env → Store → Rs W := fun ρ S => (fa ρ S).bind fun x S1 => (fb ρ S1).bind fun y S2 => (g x y S2).bind fun z S3 => match z with
  | .d (.bl true) => (fc ρ S3).bind fun w S4 => g' y w S4
  | .d (.bl false) => .ok (.d (.bl false)) S3
  | _ => .no
end
end As

namespace As
open PySem PySem.Spec PyProof.Rows L2
inductive Ou where
  | nx (ρ : Env) (S : Store)
  | rt (w : W) (S : Store)
  | bk (ρ : Env) (S : Store)
  | ct (ρ : Env) (S : Store)
  | ex (e : Exn) (ρ : Env) (S : Store)
  | no
abbrev Sm := Env → Store → Ou
def PostS (K : PySem.W.Frag) (mg : Str → Option Value) (M : Mp) (H : Hp) (E : L2.St → XK) (D : Ends) : Ou → Prop
  | .nx ρ S' => ∀ M' σ' H', Ext M M' H H' → RS K M' S' H' → RO K M' H' σ' ρ → D.nx σ' H'
  | .rt w S' => ∀ M' v H', Ext M M' H H' → RS K M' S' H' → RW K M' H' v w → D.rt v H'
  | .bk ρ S' => ∀ M' σ' H', Ext M M' H H' → RS K M' S' H' → RO K M' H' σ' ρ → D.bk σ' H'
  | .ct ρ S' => ∀ M' σ' H', Ext M M' H H' → RS K M' S' H' → RO K M' H' σ' ρ → D.ct σ' H'
  | .ex e ρ S' => ∀ M' σ' cls d H', Ext M M' H H' → RS K M' S' H' → RO K M' H' σ' ρ → RX K mg M' H' e cls d → E σ' cls d H'
  | .no => False
def tS (K : PySem.W.Frag) (mg : Str → Option Value) (E : L2.St → XK) (f : Sm) : TS := fun D σ H => ∃ M ρ S, RS K M S H ∧ RO K M H σ ρ ∧ PostS K mg M H E D (f ρ S)
abbrev FS (X : Cx) (E : L2.St → XK) (st : Stmt) (f : Sm) : Prop := PS X st (tS X.K X.mg E f)
abbrev FSs (X : Cx) (E : L2.St → XK) (st : List Stmt) (f : Sm) : Prop := PSs X st (tS X.K X.mg E f)
section
variable {K : PySem.W.Frag} {mg : Str → Option Value} {M : Mp} {H : Hp} {E : L2.St → XK} {D : Ends}
theorem PostS.ext {M1 : Mp} {H1 : Hp} (x : Ext M M1 H H1) : ∀ {r : Ou}, PostS K mg M H E D r → PostS K mg M1 H1 E D r
  | .nx _ _, h => fun M' σ' H' e => h M' σ' H' (x.trans e)
  | .rt _ _, h => fun M' σ' H' e => h M' σ' H' (x.trans e)
  | .bk _ _, h => fun M' σ' H' e => h M' σ' H' (x.trans e)
  | .ct _ _, h => fun M' σ' H' e => h M' σ' H' (x.trans e)
  | .ex _ _ _, h => fun M' σ' c d H' e => h M' σ' c d H' (x.trans e)
  | .no, h => h
/-- a result, then a statement's -/
def Rs.st {α : Type} (r : Rs α) (ρ : Env) (k : α → Store → Ou) : Ou := match r with
  | .ok a S => k a S
  | .ex e S => .ex e ρ S
  | .no => .no
@[simp] theorem Rs.st_ok {α : Type} (a : α) (S : Store) (ρ : Env) (k : α → Store → Ou) : (Rs.ok a S).st ρ k = k a S := rfl
@[simp] theorem Rs.st_ex {α : Type} (e : Exn) (S : Store) (ρ : Env) (k : α → Store → Ou) : (Rs.ex e S : Rs α).st ρ k = .ex e ρ S := rfl
@[simp] theorem Rs.st_no {α : Type} (ρ : Env) (k : α → Store → Ou) : (Rs.no : Rs α).st ρ k = .no := rfl
theorem PostS.st {α β : Type} {R : Mp → Hp → β → α → Prop} {k : α → Store → Ou} {σ : L2.St} {ρ : Env} (ro : RO K M H σ ρ) : ∀ {r : Rs α}, PostS K mg M H E D (r.st ρ k) →
    Post K mg M H (E σ) R (fun b H1 => ∃ M1 a S1, Ext M M1 H H1 ∧ RS K M1 S1 H1 ∧ R M1 H1 b a ∧ PostS K mg M1 H1 E D (k a S1)) r
  | .ok a S', p => fun M' b H' e rs r => ⟨M', a, S', e, rs, r, PostS.ext e p⟩
  | .ex e S', p => fun M' cls d H' e rs rx => p M' σ cls d H' e rs (ro.ext e) rx
  | .no, p => p
theorem tS.st {α β : Type} {R : Mp → Hp → β → α → Prop} {f : Env → Store → Rs α} {k : Env → α → Store → Ou} {σ : L2.St} {N : β → Hp → Prop} (h : tS K mg E (fun ρ S => (f ρ S).st ρ fun a S1 => k ρ a S1) D σ H)
    (i : ∀ b H1 M1 ρ a S1, RS K M1 S1 H1 → RO K M1 H1 σ ρ → R M1 H1 b a → PostS K mg M1 H1 E D (k ρ a S1) → N b H1) : tG K mg E R f σ H N := by
  obtain ⟨M, ρ, S, rs, ro, p⟩ := h
  refine ⟨M, ρ, S, rs, ro, Post.map (fun b H1 q => ?_) (PostS.st (R := R) ro p)⟩
  obtain ⟨M1, a, S1, e, rs1, r, q⟩ := q
  exact i b H1 M1 ρ a S1 rs1 (ro.ext e) r q
end
/-! ### blocks -/
def sNil : Sm := fun ρ S => .nx ρ S
def sSeq (f g : Sm) : Sm := fun ρ S => match f ρ S with
  | .nx ρ' S' => g ρ' S'
  | o => o
section
variable {X : Cx} {E : L2.St → XK} {st : Stmt} {rest : List Stmt} {f g : Sm} {e a : Expr} {fa : Env → Store → Rs W} {ta : Env → Store → Rs Bool} {pos : Pos}
theorem fs_nil : FSs X E [] sNil := by
  refine PSs.imp pss_nil fun D σ H h => ?_
  obtain ⟨M, ρ, S, rs, ro, p⟩ := h
  exact p M σ H (Ext.refl _ _) rs ro
theorem sSeq_ok {K : PySem.W.Frag} {mg : Str → Option Value} {D : Ends} {σ : L2.St} {H : Hp} (h : tS K mg E (sSeq f g) D σ H) : tS K mg E f { D with nx := tS K mg E g D } σ H := by
  obtain ⟨M, ρ, S, rs, ro, p⟩ := h
  refine ⟨M, ρ, S, rs, ro, ?_⟩
  unfold sSeq at p
  cases hf : f ρ S with
  | nx ρ' S' =>
    rw [hf] at p
    exact fun M' σ' H' e rs' ro' => ⟨M', ρ', S', rs', ro', PostS.ext e p⟩
  | rt _ _ => rw [hf] at p; exact p
  | bk _ _ => rw [hf] at p; exact p
  | ct _ _ => rw [hf] at p; exact p
  | ex _ _ _ => rw [hf] at p; exact p
  | no => rw [hf] at p; exact p
theorem fs_cons (h1 : FS X E st f) (h2 : FSs X E rest g) : FSs X E (st :: rest) (sSeq f g) := PSs.imp (pss_cons h1 h2) fun D σ H h => sSeq_ok h
theorem fs_one (h1 : FS X E st f) : FSs X E [st] f := pss_one h1
def sPass : Sm := fun ρ S => .nx ρ S
theorem fs_pass : FS X E (.Pass pos) sPass := by
  refine PS.imp ps_pass fun D σ H h => ?_
  obtain ⟨M, ρ, S, rs, ro, p⟩ := h
  exact p M σ H (Ext.refl _ _) rs ro
theorem fs_break : FS X E (.Break pos) (fun ρ S => .bk ρ S) := by
  refine PS.imp ps_break fun D σ H h => ?_
  obtain ⟨M, ρ, S, rs, ro, p⟩ := h
  exact p M σ H (Ext.refl _ _) rs ro
theorem fs_continue : FS X E (.Continue pos) (fun ρ S => .ct ρ S) := by
  refine PS.imp ps_continue fun D σ H h => ?_
  obtain ⟨M, ρ, S, rs, ro, p⟩ := h
  exact p M σ H (Ext.refl _ _) rs ro
def sExpr (fa : Env → Store → Rs W) : Sm := fun ρ S => (fa ρ S).st ρ fun _ S1 => .nx ρ S1
theorem fs_expr (h : FE X E e fa) (hs : swapsWith e none pos.line X.env = pure false := by rfl) : FS X E (.Expr e pos) (sExpr fa) := by
  refine PS.imp (ps_expr h hs) fun D σ H h => ?_
  exact tS.st (R := RWK X.K) (k := fun ρ _ S1 => .nx ρ S1) h fun b H1 M1 ρ a S1 rs ro r p => p M1 σ H1 (Ext.refl _ _) rs ro
def sRet (fa : Env → Store → Rs W) : Sm := fun ρ S => (fa ρ S).st ρ fun w S1 => .rt w S1
theorem fs_ret (h : FE X E e fa) : FS X E (.Return (some e) pos) (sRet fa) := by
  refine PS.imp (ps_ret h) fun D σ H h => ?_
  exact tS.st (R := RWK X.K) (k := fun _ w S1 => .rt w S1) h fun b H1 M1 ρ a S1 rs ro r p => p M1 b H1 (Ext.refl _ _) rs r
theorem fs_retN : FS X E (.Return none pos) (fun _ S => .rt (.d .non) S) := by
  refine PS.imp ps_retN fun D σ H h => ?_
  obtain ⟨M, ρ, S, rs, ro, p⟩ := h
  exact p M .non H (Ext.refl _ _) rs (.d .non)
def sIf (t : Env → Store → Rs Bool) (f g : Sm) : Sm := fun ρ S => (t ρ S).st ρ fun b S1 => if b = true then f ρ S1 else g ρ S1
theorem fs_if {c : Expr} {b1 b2 : List Stmt} (hc : FT X E c ta) (h1 : FSs X E b1 f) (h2 : FSs X E b2 g) : FS X E (.If c b1 b2 pos) (sIf ta f g) := by
  refine PS.imp (ps_if hc h1 h2) fun D σ H h => ?_
  refine tS.st (R := RB) (k := fun ρ b S1 => if b = true then f ρ S1 else g ρ S1) h fun b H1 M1 ρ a S1 rs ro r p => ?_
  have r' : b = a := r
  subst r'
  cases b with
  | true => exact ⟨M1, ρ, S1, rs, ro, p⟩
  | false => exact ⟨M1, ρ, S1, rs, ro, p⟩
def sSet (i : Nat) (fa : Env → Store → Rs W) : Sm := fun ρ S => (fa ρ S).st ρ fun w S1 => .nx (ρ.set i (some w)) S1
theorem fs_set {i : Nat} {x : Str} {pos' : Pos} (hN : X.N.Nodup) (hi : X.N[i]? = some x) (hx : Loc X.env.scope x) (he : FE X E e fa) (hs : swapsWith e (some (.Name x pos')) pos.line X.env = pure false := by rfl) (hf : X.fn x = true ∨ X.env.scope.names.lookup x = some .local := by first | exact .inl rfl | exact .inr rfl | assumption) :
    FS X E (.Assign [.Name x pos'] e pos) (sSet i fa) := by
  refine PS.imp (ps_set hN hi hx he hs hf) fun D σ H h => ?_
  exact tS.st (R := RWK X.K) (k := fun ρ w S1 => .nx (ρ.set i (some w)) S1) h fun b H1 M1 ρ a S1 rs ro r p => p M1 _ H1 (Ext.refl _ _) rs (RO.set r i ro)
end
/-! ### targets that are names, or tuples of them -/
inductive Pt where
  | n (i : Nat)
  | t (ps : List Pt)
def unW : W → Option (List W)
  | .d (.tup ds) => some (ds.map .d)
  | .t ws => some ws
  | _ => none
mutual
def bindP : Pt → W → Env → Option Env
  | .n i, w, ρ => some (ρ.set i (some w))
  | .t ps, w, ρ => match unW w with
    | some ws => bindPs ps ws ρ
    | none => none
def bindPs : List Pt → List W → Env → Option Env
  | [], [], ρ => some ρ
  | p :: ps, w :: ws, ρ => match bindP p w ρ with
    | some ρ' => bindPs ps ws ρ'
    | none => none
  | _, _, _ => none
end
mutual
def gP (K : PySem.W.Frag) : Pt → TG
  | .n i => gName i
  | .t ps => gTup K ps.length (gPs K ps)
def gPs (K : PySem.W.Frag) : List Pt → TGs
  | [] => gNil
  | p :: ps => gCons (gP K p) (gPs K ps)
end
mutual
def Pt.nms : Pt → List Nat
  | .n i => [i]
  | .t ps => ptNms ps
def ptNms : List Pt → List Nat
  | [] => []
  | p :: ps => p.nms ++ ptNms ps
end
theorem gP_t (K : PySem.W.Frag) (ps : List Pt) : gP K (.t ps) = gTup K ps.length (gPs K ps) := by rw [gP]
theorem unW_ok {K : PySem.W.Frag} {M : Mp} {H : Hp} {v : V} {w : W} {ws : List W} (r : RW K M H v w) (h : unW w = some ws) : ∃ a xs, v = .ref a ∧ SqT K H a xs ∧ RWs K M H xs ws := by
  cases r with
  | d rd =>
    cases rd with
    | tup n t =>
      have h' := Option.some.inj h
      subst h'
      exact ⟨_, _, rfl, n.sq, t.ws⟩
    | _ => cases h
  | t n ha t =>
    have h' := Option.some.inj h
    subst h'
    exact ⟨_, _, rfl, .inl (.inl ha), t⟩
  | _ => cases h
theorem bindPs_len : ∀ {ps : List Pt} {ws : List W} {ρ ρ' : Env}, bindPs ps ws ρ = some ρ' → ws.length = ps.length
  | [], [], _, _, _ => rfl
  | p :: ps, w :: ws, ρ, ρ', h => by
    rw [bindPs] at h
    cases q : bindP p w ρ with
    | none => rw [q] at h; cases h
    | some ρ1 =>
      rw [q] at h
      exact congrArg (· + 1) (bindPs_len h)
  | [], w :: ws, _, _, h => by rw [bindPs] at h; cases h; all_goals (intros; simp_all)
  | p :: ps, [], _, _, h => by rw [bindPs] at h; cases h; all_goals (intros; simp_all)
section
variable {K : PySem.W.Frag} {M : Mp}
theorem wipe_set {σ : L2.St} {i : Nat} {v : Option V} {vs : List Nat} (h : i ∈ vs) : wipe (σ.set i v) vs = wipe σ vs := by
  refine List.ext_getElem? fun j => ?_
  by_cases hj : j ∈ vs
  · have e : ∀ τ : L2.St, j < τ.length → (wipe τ vs)[j]? = some none := fun τ hl => by
      cases q : (wipe τ vs)[j]? with
      | none =>
        have := List.getElem?_eq_none_iff.mp q
        rw [wipe_length] at this
        omega
      | some o =>
        cases o with
        | none => rfl
        | some x => exact absurd hj (wipe_some q).2
    by_cases hl : j < σ.length
    · rw [e _ hl, e _ (by rw [List.length_set]; exact hl)]
    · rw [List.getElem?_eq_none (by rw [wipe_length, List.length_set]; omega), List.getElem?_eq_none (by rw [wipe_length]; omega)]
  · rw [wipe_out hj, wipe_out hj]
    rw [List.getElem?_set_ne]
    rintro rfl
    exact hj h
mutual
theorem bindP_ok : ∀ {p : Pt} {v : V} {w : W} {σ : L2.St} {ρ ρ' : Env} {H : Hp} {Q : L2.St → Hp → Prop}, RW K M H v w → RO K M H σ ρ → bindP p w ρ = some ρ' →
    (∀ σ', RO K M H σ' ρ' → (∀ vs : List Nat, (∀ i ∈ p.nms, i ∈ vs) → wipe σ' vs = wipe σ vs) → Q σ' H) → gP K p v σ H Q
  | .n i, v, w, σ, ρ, ρ', H, Q, r, ro, h, q => by
    rw [bindP] at h
    have h' := Option.some.inj h
    subst h'
    rw [gP]
    exact q _ (RO.set r i ro) fun vs hv => wipe_set (hv i (by rw [Pt.nms]; exact List.mem_singleton.mpr rfl))
  | .t ps, v, w, σ, ρ, ρ', H, Q, r, ro, h, q => by
    rw [bindP] at h
    cases hu : unW w with
    | none => rw [hu] at h; cases h
    | some ws =>
      rw [hu] at h
      obtain ⟨a, xs, rfl, hq, rw'⟩ := unW_ok r hu
      rw [gP_t]
      refine ⟨a, xs, rfl, hq, rw'.length.trans (bindPs_len h), bindPs_ok rw' ro h fun σ' ro' hv => q σ' ro' fun vs hs => hv vs fun i hi => hs i (by rw [Pt.nms]; exact hi)⟩
theorem bindPs_ok : ∀ {ps : List Pt} {xs : List V} {ws : List W} {σ : L2.St} {ρ ρ' : Env} {H : Hp} {Q : L2.St → Hp → Prop}, RWs K M H xs ws → RO K M H σ ρ → bindPs ps ws ρ = some ρ' →
    (∀ σ', RO K M H σ' ρ' → (∀ vs : List Nat, (∀ i ∈ ptNms ps, i ∈ vs) → wipe σ' vs = wipe σ vs) → Q σ' H) → gPs K ps xs σ H Q
  | [], _, _, σ, ρ, ρ', H, Q, .nil, ro, h, q => by
    rw [bindPs] at h
    have h' := Option.some.inj h
    subst h'
    rw [gPs]
    exact ⟨rfl, q σ ro fun _ _ => rfl⟩
  | p :: ps, _, _, σ, ρ, ρ', H, Q, .cons (v := v) (d := w) r rr, ro, h, q => by
    rw [bindPs] at h
    cases hb : bindP p w ρ with
    | none => rw [hb] at h; cases h
    | some ρ1 =>
      rw [hb] at h
      rw [gPs]
      refine ⟨v, _, rfl, bindP_ok r ro hb fun σ1 ro1 hv => bindPs_ok rr ro1 h fun σ2 ro2 hv2 => q σ2 ro2 fun vs hs => ?_⟩
      rw [hv2 vs fun i hi => hs i (by rw [ptNms]; exact List.mem_append_right _ hi), hv vs fun i hi => hs i (by rw [ptNms]; exact List.mem_append_left _ hi)]
  | [], _, _, σ, ρ, ρ', H, Q, .cons _ _, ro, h, q => by rw [bindPs] at h; cases h; all_goals (intros; simp_all)
  | p :: ps, _, _, σ, ρ, ρ', H, Q, .nil, ro, h, q => by rw [bindPs] at h; cases h; all_goals (intros; simp_all)
end
end
section
variable {X : Cx} {E : L2.St → XK} {pos : Pos}
theorem gp_n {i : Nat} {x : Str} (hN : X.N.Nodup) (hi : X.N[i]? = some x) (hx : Loc X.env.scope x) (hf : X.fn x = true ∨ X.env.scope.names.lookup x = some .local := by first | exact .inl rfl | exact .inr rfl | assumption) : PG X (.Name x pos) (gP X.K (.n i)) := by
  rw [gP]
  exact pg_name hN hi hx hf
theorem gps_nil : PGs X [] (gPs X.K []) := by
  rw [gPs]
  exact pgs_nil
theorem gps_cons {e : Expr} {es : List Expr} {p : Pt} {ps : List Pt} (h1 : PG X e (gP X.K p)) (h2 : PGs X es (gPs X.K ps)) (hs : (assignEach (e :: es) X.env).map (·.2) = assign e X.env :: (assignEach es X.env).map (·.2) := by rfl) : PGs X (e :: es) (gPs X.K (p :: ps)) := by
  rw [gPs]
  exact pgs_cons h1 h2 hs
theorem gp_t {es : List Expr} {k : Nat} {ps : List Pt} (hc : X.calm = true) (h : PGs X es (gPs X.K ps)) (hn : (assignEach es X.env).length = ps.length := by rfl) (hst : (assignEach es X.env).findIdx? (·.1) = none := by rfl) : PG X (.Tuple es k pos) (gP X.K (.t ps)) := by
  rw [gP_t]
  exact pg_tup hc h hn hst
/-- a, b = e -/
def sAsg (p : Pt) (fa : Env → Store → Rs W) : Sm := fun ρ S => (fa ρ S).st ρ fun w S1 => match bindP p w ρ with
  | some ρ' => .nx ρ' S1
  | none => .no
theorem fs_asg {tg e : Expr} {p : Pt} {fa : Env → Store → Rs W} (he : FE X E e fa) (hg : PG X tg (gP X.K p)) (hs : swapsWithSole [tg] e pos.line X.env = pure false := by rfl) (hw : swappedStores [tg] e X.env = pure none := by rfl)
    (h1 : (assignEach [tg] X.env).map (·.2) = [assign tg X.env] := by rfl) : FS X E (.Assign [tg] e pos) (sAsg p fa) := by
  refine PS.imp (ps_asg he hg hs hw h1) fun D σ H h => ?_
  refine tS.st (R := RWK X.K) (k := fun ρ w S1 => match bindP p w ρ with
    | some ρ' => .nx ρ' S1
    | none => .no) h fun b H1 M1 ρ a S1 rs ro r p' => ?_
  cases hb : bindP p a ρ with
  | none => rw [hb] at p'; exact (show False from p').elim
  | some ρ' =>
    rw [hb] at p'
    exact bindP_ok r ro hb fun σ' ro' _ => p' M1 σ' H1 (Ext.refl _ _) rs ro'
/-! ### what a loop goes through: its items, and what must stay so -/
abbrev Itm := List W × (Store → Prop)
def ItOk (K : PySem.W.Frag) (M : Mp) (H : Hp) (J : It) (ws : List W) (g : Store → Prop) : Prop :=
  ∀ M1 S1 H1, Ex0 M M1 H H1 → RS K M1 S1 H1 → g S1 → (∀ i w, ws[i]? = some w → J.go i H1 ∧ ∀ x H2, J.yld i H1 x H2 → (∀ a o, H1 a = some o → H2 a = some o) ∧ RW K M1 H2 x w) ∧ J.stop ws.length H1
def PostI (K : PySem.W.Frag) (mg : Str → Option Value) (M : Mp) (H : Hp) (E : XK) (R : It → Hp → Prop) : Rs Itm → Prop
  | .ok a S' => ∀ M' J H', Ext M M' H H' → RS K M' S' H' → ItOk K M' H' J a.1 a.2 → R J H'
  | .ex e S' => ∀ M' cls d H', Ext M M' H H' → RS K M' S' H' → RX K mg M' H' e cls d → E cls d H'
  | .no => False
def tI (K : PySem.W.Frag) (mg : Str → Option Value) (E : L2.St → XK) (f : Env → Store → Rs Itm) : TI := fun σ H R => ∃ M ρ S, RS K M S H ∧ RO K M H σ ρ ∧ PostI K mg M H (E σ) R (f ρ S)
abbrev FI (X : Cx) (E : L2.St → XK) (tg it : Expr) (f : Env → Store → Rs Itm) : Prop := PI X tg it (tI X.K X.mg E f)
open Classical in
noncomputable def forL (p : Pt) (g : Store → Prop) (body : Sm) : List W → Env → Store → Ou
  | [], ρ, S => if g S then .nx ρ S else .no
  | w :: ws, ρ, S => if g S then match bindP p w ρ with
      | some ρ1 => match body ρ1 S with
        | .nx ρ2 S2 => forL p g body ws ρ2 S2
        | .ct ρ2 S2 => forL p g body ws ρ2 S2
        | .bk ρ2 S2 => .nx ρ2 S2
        | o => o
      | none => .no
    else .no
noncomputable def sFor (fi : Env → Store → Rs Itm) (p : Pt) (body : Sm) : Sm := fun ρ S => (fi ρ S).st ρ fun a S1 => forL p a.2 body a.1 ρ S1
theorem Ex0.trans {M M1 M2 : Mp} {H H1 H2 : Hp} (a : Ex0 M M1 H H1) (b : Ex0 M1 M2 H1 H2) : Ex0 M M2 H H2 := by
  obtain ⟨m1, e1⟩ := a.ad
  obtain ⟨m2, e2⟩ := b.ad
  exact ⟨⟨m1 ++ m2, by rw [e2, e1, List.append_assoc]⟩, fun x o n h => let z := a.lv x o n h; b.lv x o z.1 z.2⟩
theorem Ex0.refl (M : Mp) (H : Hp) : Ex0 M M H H := (Ext.refl M H).ex0
theorem fs_for {tg iter : Expr} {body : List Stmt} {fi : Env → Store → Rs Itm} {p : Pt} {f : Sm} (hp : PassesOwn (model X.prog X.w) X.A X.env X.xe) (hc : X.calm = true) (hi : FI X E tg iter fi) (hg : PG X tg (gP X.K p)) (hb : FSs X E body f)
    (hs : ∀ x, foldedSetIterable iter X.env x = pure x := by intro _; rfl) : FS X E (.For tg iter body [] pos) (sFor fi p f) := by
  refine PS.imp (ps_for hp hc hi hg hb hs) fun D σ H h => ?_
  obtain ⟨M, ρ, S, rs, ro, q⟩ := h
  refine ⟨M, ρ, S, rs, ro, ?_⟩
  unfold sFor at q
  cases hf : fi ρ S with
  | no => rw [hf] at q; exact q
  | ex e S' => rw [hf] at q; exact fun M' cls d H' e rs rx => q M' σ cls d H' e rs (ro.ext e) rx
  | ok a S' =>
    rw [hf] at q
    obtain ⟨ws, g⟩ := a
    intro M' J H' e rs' it
    have q' : PostS X.K X.mg M' H' E D (forL p g f ws ρ S') := PostS.ext e q
    have ro' := ro.ext e
    refine ⟨fun i m σ1 H1 => m = ws.length - i ∧ i ≤ ws.length ∧ ∃ M1 ρ1 S1, Ext M' M1 H' H1 ∧ RS X.K M1 S1 H1 ∧ RO X.K M1 H1 σ1 ρ1 ∧ PostS X.K X.mg M1 H1 E D (forL p g f (ws.drop i) ρ1 S1),
      ⟨_, rfl, Nat.zero_le _, M', ρ, S', Ext.refl _ _, rs', ro', q'⟩, fun i m σ1 H1 h => ?_⟩
    obtain ⟨rfl, hi, M1, ρ1, S1, e1, rs1, ro1, p1⟩ := h
    by_cases hlt : i < ws.length
    · refine .inr ?_
      rw [List.drop_eq_getElem_cons hlt] at p1
      rw [forL] at p1
      by_cases hg1 : g S1
      · rw [if_pos hg1] at p1
        obtain ⟨iok, _⟩ := it M1 S1 H1 e1.ex0 rs1 hg1
        obtain ⟨go, yl⟩ := iok i _ (List.getElem?_eq_getElem hlt)
        refine ⟨go, _, fun σ' H' w => ⟨_, Nat.sub_succ_lt_self _ _ hlt, w⟩, fun x H2 y => ?_⟩
        obtain ⟨keep, rw2⟩ := yl x H2 y
        obtain ⟨rs2, e2⟩ := rs1.same keep
        have ro2 := ro1.ext e2
        cases hb : bindP p ws[i] ρ1 with
        | none => rw [hb] at p1; exact (show False from p1).elim
        | some ρ2 =>
          rw [hb] at p1
          dsimp only at p1
          refine bindP_ok rw2 ro2 hb fun σ2 ro3 _ => ?_
          refine ⟨M1, ρ2, S1, rs2, ro3, ?_⟩
          cases hbd : f ρ2 S1 with
          | nx ρ3 S3 =>
            rw [hbd] at p1
            intro M3 σ3 H3 e3 rs3 ro4
            exact ⟨by omega, hlt, M3, ρ3, S3, (e1.trans e2).trans e3, rs3, ro4, PostS.ext (e2.trans e3) p1⟩
          | ct ρ3 S3 =>
            rw [hbd] at p1
            intro M3 σ3 H3 e3 rs3 ro4
            exact ⟨by omega, hlt, M3, ρ3, S3, (e1.trans e2).trans e3, rs3, ro4, PostS.ext (e2.trans e3) p1⟩
          | bk ρ3 S3 =>
            rw [hbd] at p1
            intro M3 σ3 H3 e3 rs3 ro4
            exact p1 M3 σ3 H3 (e2.trans e3) rs3 ro4
          | rt w S3 =>
            rw [hbd] at p1
            exact fun M3 v H3 e3 => p1 M3 v H3 (e2.trans e3)
          | ex w ρ3 S3 =>
            rw [hbd] at p1
            exact fun M3 σ3 c d H3 e3 => p1 M3 σ3 c d H3 (e2.trans e3)
          | no =>
            rw [hbd] at p1
            exact p1
      · rw [if_neg hg1] at p1
        exact (show False from p1).elim
    · have e0 : i = ws.length := by omega
      subst e0
      rw [List.drop_length, forL] at p1
      by_cases hg1 : g S1
      · rw [if_pos hg1] at p1
        exact .inl ⟨(it M1 S1 H1 e1.ex0 rs1 hg1).2, p1 M1 σ1 H1 (Ext.refl _ _) rs1 ro1⟩
      · rw [if_neg hg1] at p1
        exact (show False from p1).elim
/-! ### while -/
def whL (t : Env → Store → Rs Bool) (body : Sm) : Nat → Env → Store → Ou
  | 0, _, _ => .no
  | n + 1, ρ, S => (t ρ S).st ρ fun b S1 => if b = true then match body ρ S1 with
      | .nx ρ2 S2 => whL t body n ρ2 S2
      | .ct ρ2 S2 => whL t body n ρ2 S2
      | .bk ρ2 S2 => .nx ρ2 S2
      | o => o
    else .nx ρ S1
theorem fs_while {c : Expr} {body : List Stmt} {t : Env → Store → Rs Bool} {f : Sm} (n : Nat) (hp : PassesOwn (model X.prog X.w) X.A X.env X.xe) (hc : FT X E c t) (hb : FSs X E body f) : FS X E (.While c body [] pos) (fun ρ S => whL t f n ρ S) := by
  refine PS.imp (ps_while hp hc hb) fun D σ H h => ?_
  obtain ⟨M, ρ, S, rs, ro, q⟩ := h
  refine ⟨fun m σ1 H1 => ∃ M1 ρ1 S1, RS X.K M1 S1 H1 ∧ RO X.K M1 H1 σ1 ρ1 ∧ PostS X.K X.mg M1 H1 E D (whL t f m ρ1 S1), ⟨n, M, ρ, S, rs, ro, q⟩, fun m σ1 H1 h => ?_⟩
  obtain ⟨M1, ρ1, S1, rs1, ro1, p1⟩ := h
  cases m with
  | zero => exact (show False from p1).elim
  | succ m =>
    rw [whL] at p1
    refine ⟨M1, ρ1, S1, rs1, ro1, Post.map (fun b H2 q => ?_) (PostS.st (R := RB) ro1 p1)⟩
    obtain ⟨M2, b', S2, e, rs2, r, q⟩ := q
    have r' : b = b' := r
    subst r'
    have ro2 := ro1.ext e
    cases b with
    | false => exact q M2 σ1 H2 (Ext.refl _ _) rs2 ro2
    | true =>
      rw [if_pos rfl] at q ⊢
      refine ⟨fun σ' H' => ∃ M1 ρ1 S1, RS X.K M1 S1 H' ∧ RO X.K M1 H' σ' ρ1 ∧ PostS X.K X.mg M1 H' E D (whL t f m ρ1 S1), fun σ' H' w => ⟨m, Nat.lt_succ_self m, w⟩, M2, ρ1, S2, rs2, ro2, ?_⟩
      cases hbd : f ρ1 S2 with
      | nx ρ3 S3 =>
        rw [hbd] at q
        exact fun M3 σ3 H3 e3 rs3 ro4 => ⟨M3, ρ3, S3, rs3, ro4, PostS.ext e3 q⟩
      | ct ρ3 S3 =>
        rw [hbd] at q
        exact fun M3 σ3 H3 e3 rs3 ro4 => ⟨M3, ρ3, S3, rs3, ro4, PostS.ext e3 q⟩
      | bk ρ3 S3 => rw [hbd] at q; exact q
      | rt w S3 => rw [hbd] at q; exact q
      | ex w ρ3 S3 => rw [hbd] at q; exact q
      | no => rw [hbd] at q; exact q
end
end As

namespace As
open PySem PySem.Spec PyProof.Rows L2
/-- a new list: a cell, or plain data -/
def newL (b : Bool) (ds : List D) (S : Store) : Rs W := if b then .ok (.c S.length) (S ++ [.l ds]) else .ok (.d (.lst ds)) S
def newT (ds : List D) (S : Store) : Rs W := .ok (.d (.tup ds)) S
section
variable {K : PySem.W.Frag} {mg : Str → Option Value} {M : Mp} {H : Hp} {E : XK}
theorem newL_ok {b : Bool} {ds : List D} {S : Store} {p : Addr} {xs : List V} {Q : VK} (rs : RS K M S H) (np : H p = none) (r : RDs K M H xs ds) (h : Post K mg M H E (RWK K) Q (newL b ds S)) : Q (.ref p) (upd H p (.lst xs)) := by
  have e := Ext.fz (M := M) (o := .lst xs) np
  cases b with
  | false => exact h M (.ref p) _ e (rs.fz np) (.d (.lst ⟨rs.fresh np, upd_same⟩ (r.ext e)))
  | true =>
    have n := rs.new (c := .l ds) (o := .lst xs) np ⟨xs, upd_same, r.ex0 ?_⟩
    · refine h _ (.ref p) _ n.2 n.1 (.c ?_)
      show (M.ad ++ [p])[S.length]? = _
      rw [← rs.len, List.getElem?_append_right (Nat.le_refl _), Nat.sub_self]
      rfl
    · refine ⟨⟨[p], rfl⟩, fun a o n h => ?_⟩
      have q := ne_of_none h np
      rw [upd_ne q]
      refine ⟨fun z => ?_, h⟩
      rcases z with z | z
      · rcases List.mem_append.mp z with z | z
        · exact n (.inl z)
        · exact q (List.mem_singleton.mp z)
      · exact n (.inr z)
theorem newT_ok {ds : List D} {S : Store} {p : Addr} {xs : List V} {Q : VK} (rs : RS K M S H) (np : H p = none) (r : RDs K M H xs ds) (h : Post K mg M H E (RWK K) Q (newT ds S)) : Q (.ref p) (upd H p (.tup xs)) := by
  have e := Ext.fz (M := M) (o := .tup xs) np
  exact h M (.ref p) _ e (rs.fz np) (.d (.tup (.inl ⟨rs.fresh np, .inl upd_same⟩) (r.ext e)))
/-- a hidden list grows -/
theorem hid_put {D : Addr} {o : HO} : Ex0 (M.hide D) (M.hide D) H (upd H D o) := ⟨⟨[], (List.append_nil _).symm⟩, fun a u n h => by
  have q : a ≠ D := fun z => n (.inr (.inr z))
  rw [upd_ne q]
  exact ⟨n, h⟩⟩
theorem RS.hid_put {S : Store} {D : Addr} {o : HO} (r : RS K (M.hide D) S H) : RS K (M.hide D) S (upd H D o) := by
  refine ⟨r.nd, r.dj, r.len, fun k a c h1 h2 => (r.ok k a c h1 h2).ex0 As.hid_put fun u hu => ?_, fun a h z => ?_⟩
  · have q : a ≠ D := fun z => r.dj a (List.mem_of_getElem? h1) (.inr z)
    rw [upd_ne q]
    exact hu
  · by_cases q : a = D
    · subst q
      rw [upd_same] at z
      cases z
    · rw [upd_ne q] at z
      exact r.hd a h z
theorem adopt {M0 : Mp} {H0 : Hp} {S S0 : Store} {D : Addr} {xs : List V} {ds : List As.D} (r : RS K (M.hide D) S H) (hD : H D = some (.lst xs)) (t : RDs K (M.hide D) H xs ds) (rs0 : RS K M0 S0 H0) (e : Ext M0 M H0 H) (n0 : H0 D = none) :
    RS K (M.push D) (S ++ [.l ds]) H ∧ Ext M0 (M.push D) H0 H := by
  have nD : D ∉ M.ad := fun z => r.dj D z (.inr rfl)
  have x : Ex0 (M.hide D) (M.push D) H H := ⟨⟨[D], rfl⟩, fun a o n h => ⟨fun z => n (by
    rcases z with z | z
    · rcases List.mem_append.mp z with z | z
      · exact .inl z
      · exact .inr (.inr (List.mem_singleton.mp z))
    · exact .inr (.inl z)), h⟩⟩
  obtain ⟨more, em⟩ := e.ad
  refine ⟨⟨?_, fun a h z => ?_, ?_, fun k a c h1 h2 => ?_, fun a h => r.hd a (.inl h)⟩, e.hid, ⟨more ++ [D], by show M.ad ++ [D] = _; rw [em, List.append_assoc]⟩, fun a o h n => ?_⟩
  · show (M.ad ++ [D]).Nodup
    rw [List.nodup_append]
    refine ⟨r.nd, by simp, fun a ha b hb => ?_⟩
    have := List.mem_singleton.mp hb
    subst this
    rintro rfl
    exact nD ha
  · rcases List.mem_append.mp h with h | h
    · exact r.dj a h (.inl z)
    · have := List.mem_singleton.mp h
      subst this
      have z' : M0.hid a := e.hid ▸ z
      exact rs0.hd a z' n0
  · show (M.ad ++ [D]).length = _
    have := r.len
    have e1 : (M.hide D).ad = M.ad := rfl
    rw [e1] at this
    rw [List.length_append, List.length_append, this]
    rfl
  · have h1' : (M.ad ++ [D])[k]? = some a := h1
    have rl : M.ad.length = S.length := r.len
    by_cases hk : k < M.ad.length
    · rw [List.getElem?_append_left hk] at h1'
      rw [List.getElem?_append_left (by omega)] at h2
      exact (r.ok k a c h1' h2).ex0 x fun u hu => hu
    · rw [List.getElem?_append_right (by omega)] at h1'
      rw [List.getElem?_append_right (by omega), ← rl] at h2
      have hz : k - M.ad.length = 0 := by
        cases hq : k - M.ad.length with
        | zero => rfl
        | succ n => rw [hq] at h1'; simp at h1'
      rw [hz] at h1' h2
      cases h1'
      cases h2
      exact ⟨xs, hD, t.ex0 x⟩
  · obtain ⟨h1, n1⟩ := e.st a o h n
    refine ⟨h1, fun z => ?_⟩
    rcases List.mem_append.mp z with z | z
    · exact n1 z
    · rw [List.mem_singleton.mp z] at h
      rw [n0] at h
      cases h
end
/-! ### comprehensions -/
def wipeE (ρ : Env) : List Nat → Env
  | [] => ρ
  | i :: vs => (wipeE ρ vs).set i none
theorem RO.none_at {K : PySem.W.Frag} {M : Mp} {H : Hp} : ∀ {vs : List (Option V)} {ws : Env} (i : Nat), RO K M H vs ws → RO K M H (vs.set i none) (ws.set i none)
  | _, _, _, .nil => .nil
  | _, _, 0, .no t => .no t
  | _, _, 0, .so _ t => .no t
  | _, _, i + 1, .no t => .no (RO.none_at i t)
  | _, _, i + 1, .so q t => .so q (RO.none_at i t)
theorem RO.wipe {K : PySem.W.Frag} {M : Mp} {H : Hp} {σ : L2.St} {ρ : Env} (h : RO K M H σ ρ) : ∀ vs : List Nat, RO K M H (L2.wipe σ vs) (wipeE ρ vs)
  | [] => by rw [L2.wipe, wipeE]; exact h
  | i :: vs => by rw [L2.wipe, wipeE]; exact RO.none_at i (h.wipe vs)
theorem wipe_wipe (σ : L2.St) (vs : List Nat) : L2.wipe (L2.wipe σ vs) vs = L2.wipe σ vs := by
  refine List.ext_getElem? fun j => ?_
  by_cases hj : j ∈ vs
  · have e : ∀ τ : L2.St, j < τ.length → (L2.wipe τ vs)[j]? = some none := fun τ hl => by
      cases q : (L2.wipe τ vs)[j]? with
      | none =>
        have := List.getElem?_eq_none_iff.mp q
        rw [wipe_length] at this
        omega
      | some o =>
        cases o with
        | none => rfl
        | some x => exact absurd hj (wipe_some q).2
    by_cases hl : j < σ.length
    · rw [e _ hl, e _ (by rw [wipe_length]; exact hl)]
    · rw [List.getElem?_eq_none (by rw [wipe_length, wipe_length]; omega), List.getElem?_eq_none (by rw [wipe_length]; omega)]
  · rw [wipe_out hj]
open Classical in
noncomputable def compL (p : Pt) (g : Store → Prop) (t : Env → Store → Rs Bool) (fe : Env → Store → Rs W) (ρw : Env) : List W → Store → Rs (List D)
  | [], S => if g S then .ok [] S else .no
  | w :: ws, S => if g S then match bindP p w ρw with
      | some ρ1 => match t ρ1 S with
        | .ok true S1 => match fe ρ1 S1 with
          | .ok (.d d) S2 => match compL p g t fe ρw ws S2 with
            | .ok ds S3 => .ok (d :: ds) S3
            | _ => .no
          | _ => .no
        | .ok false S1 => compL p g t fe ρw ws S1
        | _ => .no
      | none => .no
    else .no
noncomputable def fLc (b : Bool) (fi : Env → Store → Rs Itm) (p : Pt) (t : Env → Store → Rs Bool) (fe : Env → Store → Rs W) (vs : List Nat) : Env → Store → Rs W :=
  fun ρ S => (fi ρ S).bind fun a S1 => if a.1.length < 100000 then (compL p a.2 t fe (wipeE ρ vs) a.1 S1).bind fun ds S2 => newL b ds S2 else .no
def tYesF : Env → Store → Rs Bool := fun _ S => .ok true S
abbrev EN : L2.St → XK := fun _ _ _ _ => False
section
variable {X : Cx} {E : L2.St → XK} {pos : Pos}
abbrev FTs (X : Cx) (E : L2.St → XK) (ifs : List Expr) (f : Env → Store → Rs Bool) : Prop := PTs X ifs (tG X.K X.mg E RB f)
theorem fts_nil : FTs X E [] tYesF := ⟨fun pins s σ H Q I h => pts_nil.run pins s σ H Q I (by
  obtain ⟨M, ρ, S, rs, ro, p⟩ := h
  exact Post.ret (R := RB) rs rfl p)⟩
theorem fts_one {c : Expr} {t : Env → Store → Rs Bool} (h : FT X E c t) : FTs X E [c] t := pts_one h
theorem lc_imp {K : PySem.W.Frag} {mg : Str → Option Value} {b : Bool} {fi : Env → Store → Rs Itm} {p : Pt} {t : Env → Store → Rs Bool} {fe : Env → Store → Rs W} {vs : List Nat} (hv : ∀ i ∈ p.nms, i ∈ vs) :
    ∀ σ H Q, tG K mg E (RWK K) (fLc b fi p t fe vs) σ H Q → tLc (tI K mg E fi) (gP K p) (tG K mg EN RB t) (tG K mg EN (RWK K) fe) vs σ H Q := by
  intro σ H Q h
  obtain ⟨M, ρ, S, rs, ro, q⟩ := h
  refine ⟨M, ρ, S, rs, ro, ?_⟩
  unfold fLc at q
  cases hf : fi ρ S with
  | no => rw [hf] at q; exact q
  | ex e S' => rw [hf] at q; exact q
  | ok a S' =>
    rw [hf] at q
    obtain ⟨ws, g⟩ := a
    intro M' J H' e rs' it D nD
    have q0 : Post K mg M H (E σ) (RWK K) Q (if ws.length < 100000 then (compL p g t fe (wipeE ρ vs) ws S').bind fun ds S2 => newL b ds S2 else .no) := q
    have ro' := (ro.ext e).wipe vs
    by_cases hz : ws.length < 100000
    · rw [if_pos hz] at q0
      have q' := Post.ext e q0
      have fin : ∀ {M1 : Mp} {H1 : Hp} {S1 : Store} {xs : List V} {ds : List As.D}, Post K mg M' H' (E σ) (RWK K) Q (newL b ds S1) → Ext M' M1 H' H1 → RS K (M1.hide D) S1 H1 → H1 D = some (.lst xs) → RDs K (M1.hide D) H1 xs ds → Q (.ref D) H1 := by
        intro M1 H1 S1 xs ds pp e1 r hD tt
        cases b with
        | false =>
          refine pp M1 (.ref D) H1 e1 r.show_ (.d (.lst ⟨?_, hD⟩ (tt.ex0 Ex0.show_)))
          rintro (z | z)
          · exact r.dj D z (.inr rfl)
          · exact rs'.hd D (e1.hid ▸ z) nD
        | true =>
          obtain ⟨r2, e2⟩ := adopt r hD tt rs' e1 nD
          refine pp _ (.ref D) H1 e2 r2 (.c ?_)
          have rl : M1.ad.length = S1.length := r.len
          show (M1.ad ++ [D])[S1.length]? = _
          rw [← rl, List.getElem?_append_right (Nat.le_refl _), Nat.sub_self]
          rfl
      -- what is left to do, from a turn on
      let Fin : List As.D → Rs (List As.D) → Prop := fun acc r => match r with
        | .ok ds S1 => ∀ M1 H1 xs, Ext M' M1 H' H1 → RS K (M1.hide D) S1 H1 → H1 D = some (.lst xs) → RDs K (M1.hide D) H1 xs (acc ++ ds) → Q (.ref D) H1
        | _ => False
      have start : Fin [] (compL p g t fe (wipeE ρ vs) ws S') ∨ ∃ e S1, compL p g t fe (wipeE ρ vs) ws S' = .ex e S1 := by
        cases hc : compL p g t fe (wipeE ρ vs) ws S' with
        | no => rw [hc] at q'; exact (show False from q').elim
        | ex e S1 => exact .inr ⟨e, S1, rfl⟩
        | ok ds S1 =>
          rw [hc] at q'
          exact .inl fun M1 H1 xs e1 r hD tt => fin q' e1 r hD tt
      have noex : ∀ (l : List W) (S1 : Store) (x : Exn) (S2 : Store), compL p g t fe (wipeE ρ vs) l S1 ≠ .ex x S2 := by
        intro l
        induction l with
        | nil =>
          intro S1 x S2 h
          rw [compL] at h
          split at h <;> cases h
        | cons w l ih =>
          intro S1 x S2 h
          rw [compL] at h
          split at h
          · split at h
            · split at h
              · split at h
                · split at h
                  · cases h
                  · cases h
                · cases h
              · exact ih _ _ _ h
              · cases h
            · cases h
          · cases h
      have start' : Fin [] (compL p g t fe (wipeE ρ vs) ws S') := by
        rcases start with z | ⟨e, S1, z⟩
        · exact z
        · exact absurd z (noex ws S' e S1)
      have base0 : Ex0 M' (M'.hide D) H' (upd H' D (.lst [])) := Ex0.hide nD
      refine ⟨fun i m H1 => m = ws.length - i ∧ i ≤ ws.length ∧ ∃ M1 S1 acc xs, Ext M' M1 H' H1 ∧ RS K (M1.hide D) S1 H1 ∧ H1 D = some (.lst xs) ∧ RDs K (M1.hide D) H1 xs acc ∧ acc.length ≤ i ∧ Fin acc (compL p g t fe (wipeE ρ vs) (ws.drop i) S1),
        ⟨_, rfl, Nat.zero_le _, M', S', [], [], ?_, rs'.hide nD, upd_same, .nil, Nat.le_refl _, start'⟩, fun i m H1 h => ?_⟩
      · exact ⟨rfl, ⟨[], (List.append_nil _).symm⟩, fun a o h n => ⟨by rw [upd_ne (ne_of_none h nD)]; exact h, n⟩⟩
      obtain ⟨rfl, hi, M1, S1, acc, xs, e1, rs1, hD, td, hl, fi1⟩ := h
      have x1 : Ex0 M' (M1.hide D) H' H1 := ⟨e1.ad, fun a o n h => by
        have q := (e1.live n h).1
        refine ⟨fun z => ?_, (e1.live n h).2⟩
        rcases z with z | z | z
        · exact q (.inl z)
        · exact q (.inr z)
        · rw [z, nD] at h
          cases h⟩
      by_cases hlt : i < ws.length
      · refine .inr ?_
        rw [List.drop_eq_getElem_cons hlt, compL] at fi1
        by_cases hg1 : g S1
        · rw [if_pos hg1] at fi1
          obtain ⟨iok, _⟩ := it (M1.hide D) S1 H1 x1 rs1 hg1
          obtain ⟨go, yl⟩ := iok i _ (List.getElem?_eq_getElem hlt)
          refine ⟨go, _, fun H' w => ⟨_, Nat.sub_succ_lt_self _ _ hlt, w⟩, fun x H2 y => ?_⟩
          obtain ⟨keep, rw2⟩ := yl x H2 y
          obtain ⟨rs2, e2⟩ := rs1.same keep
          have ro2 : RO K (M1.hide D) H2 (L2.wipe σ vs) (wipeE ρ vs) := (ro'.ex0 x1).ext e2
          cases hb : bindP p ws[i] (wipeE ρ vs) with
          | none => rw [hb] at fi1; exact (show False from fi1).elim
          | some ρ2 =>
            rw [hb] at fi1
            dsimp only at fi1
            refine bindP_ok rw2 ro2 hb fun σ2 ro3 hw => ⟨by rw [hw vs hv]; exact wipe_wipe σ vs, ?_⟩
            refine ⟨M1.hide D, ρ2, S1, rs2, ro3, ?_⟩
            -- back to the measure
            have back : ∀ {H5 : Hp} {M5 : Mp} {S5 : Store} {acc5 : List As.D} {xs5 : List V}, Ext M' M5 H' H5 → RS K (M5.hide D) S5 H5 → H5 D = some (.lst xs5) → RDs K (M5.hide D) H5 xs5 acc5 → acc5.length ≤ i + 1 → Fin acc5 (compL p g t fe (wipeE ρ vs) (ws.drop (i + 1)) S5) →
                ws.length - (i + 1) = ws.length - (i + 1) ∧ i + 1 ≤ ws.length ∧ ∃ M1 S1 acc xs, Ext M' M1 H' H5 ∧ RS K (M1.hide D) S1 H5 ∧ H5 D = some (.lst xs) ∧ RDs K (M1.hide D) H5 xs acc ∧ acc.length ≤ i + 1 ∧ Fin acc (compL p g t fe (wipeE ρ vs) (ws.drop (i + 1)) S1) :=
              fun {H5 M5 S5 acc5 xs5} a1 a2 a3 a4 a5 a6 => ⟨rfl, hlt, M5, S5, acc5, xs5, a1, a2, a3, a4, a5, a6⟩
            cases ht : t ρ2 S1 with
            | no => rw [ht] at fi1; exact (show False from fi1).elim
            | ex _ _ => rw [ht] at fi1; exact (show False from fi1).elim
            | ok c S3 =>
              rw [ht] at fi1
              intro M3 c' H3 e3 rs3 r3
              have r3' : c' = c := r3
              subst r3'
              have h3 : M3 = Mp.hide ⟨M1.hid, M3.ad⟩ D := by
                have := e3.hid
                cases M3
                cases this
                rfl
              have keepD : ∀ {Ha : Hp} {Ma : Mp}, Ext (M1.hide D) Ma H1 Ha → Ha D = some (.lst xs) := fun {Ha Ma} ea => (ea.st D _ hD fun z => rs1.dj D z (.inr rfl)).1
              have toB : ∀ {Ha : Hp} {Ma : Mp}, Ext (M1.hide D) Ma H1 Ha → Ext M' ⟨M1.hid, Ma.ad⟩ H' Ha := fun {Ha Ma} ea => by
                obtain ⟨m1, q1⟩ := e1.ad
                obtain ⟨m2, q2⟩ := ea.ad
                have q2' : Ma.ad = M1.ad ++ m2 := q2
                refine ⟨e1.hid, ⟨m1 ++ m2, by show Ma.ad = _; rw [q2', q1, List.append_assoc]⟩, fun a o h n => ?_⟩
                obtain ⟨h1, n1⟩ := e1.st a o h n
                exact ea.st a o h1 n1
              cases c' with
              | false =>
                rw [if_neg Bool.false_ne_true]
                have e13 := e2.trans e3
                rw [h3] at rs3
                exact back (toB e13) rs3 (keepD e13) (by
                  have := td.ext e13
                  rw [h3] at this
                  exact this) (by omega) fi1
              | true =>
                rw [if_pos rfl]
                dsimp only at fi1
                refine ⟨M3, ρ2, S3, rs3, ro3.ext e3, ?_⟩
                cases hfe : fe ρ2 S3 with
                | no => rw [hfe] at fi1; exact (show False from fi1).elim
                | ex _ _ => rw [hfe] at fi1; exact (show False from fi1).elim
                | ok w S4 =>
                  rw [hfe] at fi1
                  cases w with
                  | d d =>
                    dsimp only at fi1
                    intro M4 v H4 e4 rs4 r4
                    have e14 := (e2.trans e3).trans e4
                    have h4 : M4 = Mp.hide ⟨M1.hid, M4.ad⟩ D := by
                      have := e4.hid.trans e3.hid
                      cases M4
                      cases this
                      rfl
                    have rd : RD K M4 H4 v d := by
                      cases r4 with
                      | d r => exact r
                    have hl2 := td.length
                    refine ⟨xs, keepD e14, Nat.lt_of_lt_of_le (show xs.length < 100000 by omega) (by decide), ?_⟩
                    rw [h4] at rs4 rd
                    have td4 := td.ext e14
                    rw [h4] at td4
                    refine back (M5 := ⟨M1.hid, M4.ad⟩) (S5 := S4) (acc5 := acc ++ [d]) ?_ rs4.hid_put upd_same ((td4.append (.cons rd .nil)).ex0 hid_put) (by rw [List.length_append]; exact Nat.add_le_add_right hl 1) ?_
                    · have z := toB e14
                      exact ⟨z.hid, z.ad, fun a o h n => by
                        rw [upd_ne (ne_of_none h nD)]
                        exact z.st a o h n⟩
                    · cases hcc : compL p g t fe (wipeE ρ vs) (ws.drop (i + 1)) S4 with
                      | no => rw [hcc] at fi1; exact (show False from fi1).elim
                      | ex _ _ => rw [hcc] at fi1; exact (show False from fi1).elim
                      | ok ds S5 =>
                        rw [hcc] at fi1
                        intro Ma Ha xa ea ra da ta
                        refine fi1 Ma Ha xa ea ra da ?_
                        rw [List.append_assoc] at ta
                        exact ta
                  | _ => exact (show False from fi1).elim
        · rw [if_neg hg1] at fi1
          exact (show False from fi1).elim
      · have e0 : i = ws.length := by omega
        subst e0
        rw [List.drop_length, compL] at fi1
        by_cases hg1 : g S1
        · rw [if_pos hg1] at fi1
          exact .inl ⟨(it (M1.hide D) S1 H1 x1 rs1 hg1).2, fi1 M1 H1 xs e1 rs1 hD (by rw [List.append_nil]; exact td)⟩
        · rw [if_neg hg1] at fi1
          exact (show False from fi1).elim
    · rw [if_neg hz] at q0
      exact (show False from q0).elim
theorem f_lc (b : Bool) {elt tg iter : Expr} {ifs : List Expr} {scope : Scope} {own : List (Str × Nat)} {fi : Env → Store → Rs Itm} {p : Pt} {t : Env → Store → Rs Bool} {fe : Env → Store → Rs W} (hc : X.calm = true) (hN : X.N.Nodup) (hi : FI X E tg iter fi) (ok : BlkOk X.N X.env.scope scope own)
    (hg : ∀ (s : Shared) (H : Hp) (C : Addr) (cl : List (Str × Addr)) (fp : List Addr), PG (X.blk s H scope (compEnvC scope cl C X.env) fp) tg (gP X.K p))
    (ht : ∀ (s : Shared) (H : Hp) (C : Addr) (cl : List (Str × Addr)) (fp : List Addr), FTs (X.blk s H scope (compEnvC scope cl C X.env) fp) EN ifs t)
    (he : ∀ (s : Shared) (H : Hp) (C : Addr) (cl : List (Str × Addr)) (fp : List Addr), FE (X.blk s H scope (compEnvC scope cl C X.env) fp) EN elt fe)
    (hv : ∀ i ∈ p.nms, i ∈ own.map (·.2) := by decide) (hs : ∀ x, foldedSetIterable iter X.env x = pure x := by intro _; rfl) :
    FE X E (.ListComp elt [⟨tg, iter, ifs, 0⟩] scope pos) (fLc b fi p t fe (own.map (·.2))) :=
  PE.imp (pe_lc hc hN hi ok hg ht he hs) (lc_imp hv)
theorem fs_setLc (b : Bool) {i : Nat} {y : Str} {py spos : Pos} {elt tg iter : Expr} {ifs : List Expr} {scope : Scope} {own : List (Str × Nat)} {fi : Env → Store → Rs Itm} {p : Pt} {t : Env → Store → Rs Bool} {fe : Env → Store → Rs W} (hc : X.calm = true) (hN : X.N.Nodup) (hy : X.N[i]? = some y) (hyl : X.env.scope.names.lookup y = some .local)
    (hsw : swapsWith (.ListComp elt [⟨tg, iter, ifs, 0⟩] scope pos) (some (.Name y py)) spos.line X.env = pure true) (hi : FI X E tg iter fi) (ok : BlkOk X.N X.env.scope scope own)
    (hg : ∀ (s : Shared) (H : Hp) (C : Addr) (cl : List (Str × Addr)) (fp : List Addr), PG (X.blk s H scope (compEnvC scope cl C X.env) fp) tg (gP X.K p))
    (ht : ∀ (s : Shared) (H : Hp) (C : Addr) (cl : List (Str × Addr)) (fp : List Addr), FTs (X.blk s H scope (compEnvC scope cl C X.env) fp) EN ifs t)
    (he : ∀ (s : Shared) (H : Hp) (C : Addr) (cl : List (Str × Addr)) (fp : List Addr), FE (X.blk s H scope (compEnvC scope cl C X.env) fp) EN elt fe)
    (hv : ∀ i ∈ p.nms, i ∈ own.map (·.2) := by decide) (hs : ∀ x, foldedSetIterable iter X.env x = pure x := by intro _; rfl) :
    FS X E (.Assign [.Name y py] (.ListComp elt [⟨tg, iter, ifs, 0⟩] scope pos) spos) (sSet i (fLc b fi p t fe (own.map (·.2)))) := by
  refine PS.imp (ps_setLc (tt := tG X.K X.mg EN RB t) (te := tG X.K X.mg EN (RWK X.K) fe) hc hN hy hyl hsw hi ok hg ht he hs) fun D σ H h => ?_
  have h1 : tG X.K X.mg E (RWK X.K) (fLc b fi p t fe (own.map (·.2))) σ H (fun x H1 => gName i x σ H1 D.nx) := tS.st (R := RWK X.K) (k := fun ρ w S1 => .nx (ρ.set i (some w)) S1) h fun b H1 M1 ρ a S1 rs ro r p => p M1 _ H1 (Ext.refl _ _) rs (RO.set r i ro)
  exact lc_imp hv σ H _ h1
end
end As

/-! a def's promise where no repr is under way (A.guards = some []), so that the def may call repr of what it likes; the law's own call -/
namespace As
open PySem PySem.Spec PyProof.Rows L2
structure FnG (P : Program) (w : World) (K : PySem.W.Frag) (mg : Str → Option Value) (base : Heap) (CX : CXT) (k : Nat) (f : Addr) (fd : FuncData) (ps : List Str) (sp : Sp) : Prop where
  ln : ∀ vs H Q E, sp vs H Q E → vs.length = ps.length
  run : ∀ (A : Around) (out : List PySem.Env) (s : Shared) (H : Hp) (args : Args) (us : List Value) (vs : List V) (Q : VK) (E : XK), A.guards = some [] → Room k A → Env0 P w K mg base A out s H → BindsTo s fd args (ps.zip us) → Vals vs us → sp vs H Q E →
    codeAny (model P w) A (.call (.ref f) args) (CR CX out P w H s Q E) s
section
variable {P : Program} {w : World} {K : PySem.W.Frag} {mg : Str → Option Value} {base : Heap} {CX : CXT} {k : Nat}
theorem FnG.imp {f : Addr} {fd : FuncData} {ps : List Str} {sp sp' : Sp} (F : FnG P w K mg base CX k f fd ps sp) (i : ∀ vs H Q E, sp' vs H Q E → sp vs H Q E) : FnG P w K mg base CX k f fd ps sp' :=
  ⟨fun vs H Q E q => F.ln vs H Q E (i _ _ _ _ q), fun A out s H args us vs Q E gd hr he hb hv hs => F.run A out s H args us vs Q E gd hr he hb hv (i _ _ _ _ hs)⟩
theorem fnG_of {f : Addr} {nm qual : Str} {pars : Arguments} {bod : List Stmt} {scp : Scope} {dV kV dok pm cdv ct oc : Value} {an od : Option Addr}
    {osl : Array (Option Value)} {N ps : List Str} {sp : Sp} (lk : K.lookup f = some ⟨oc, od, .func (PySem.W.fnOf nm qual pars bod scp dV kV dok pm an cdv ct), osl⟩) (hcd : PySem.W.codeIn K cdv qual = true) (S : FnScope N ps scp) (len : ∀ vs H Q E, sp vs H Q E → vs.length = ps.length)
    (hbod : ∀ (A : Around) (out : List PySem.Env) (s : Shared) (H : Hp) (vs : List V) (Q : VK) (E : XK), A.guards = some [] → Room k (A.deeper (envOfC qual scp s.heap.objs.size f cdv)) → sp vs H Q E →
      ∃ t, PSs (cxOf CX P w K mg base N qual scp f cdv A out s H E) bod t ∧ t { nx := fun _ H' => Q .non H', rt := Q } (start N vs) H) :
    FnG P w K mg base CX (k + 1) f (PySem.W.fnOf nm qual pars bod scp dV kV dok pm an cdv ct) ps sp := by
  refine ⟨len, fun A out s H args us vs Q E gd hr en hbd rv hsp => ?_⟩
  have hlen := len _ _ _ _ hsp
  have KH : K.In s.heap := en.mod.kin.keeps fun b ob e => (en.bs b ob e).1
  have nlm : s.heap.NoLimit := en.mod.nolimit.keeps fun b ob e => (en.bs b ob e).1
  have knd : ∀ y ∈ ps.zip us, scp.names.lookup y.1 = some .local ∨ (scp.names.lookup y.1 = some .cell ∧ ((cellsFrom (s.heap.objs.size + 1) scp.names []).lookup y.1).isSome = true) := fun ⟨m, u⟩ hy => by
    rcases S.par m (List.of_mem_zip hy).1 with z | z
    · exact .inl z
    · exact .inr ⟨z, PySem.W.cellsFrom_some _ _ _ (.inl z)⟩
  refine codeAny_call_function hr.depth (KH _ _ lk) rfl S.co S.gen rfl (PySem.W.codeRec_of KH hcd) (hbd _ _ _ _ ?_)
  refine wpAny_newFunctionEnv_cells S.kind knd fun ev he s2 x => ?_
  subst he
  refine ⟨nlm.keeps x.toInCall.keep, codeAny_func ?_⟩
  obtain ⟨t, ht, hq⟩ := hbod A out s H vs Q E gd (hr.deeper _) hsp
  have J0 : Inv (cxOf CX P w K mg base N qual scp f cdv A out s H E) [] (start N vs) H s2 := inv_start S hr.hd en hlen rv x
  refine wpAny_mono (ht.run [] s2 (start N vs) H _ J0 hq) (fun fl s' hs => ?_) fun e s' hs => hs
  have done : ∀ {τ : L2.St} {H' : Hp} {v : V} {u : Value}, Inv (cxOf CX P w K mg base N qual scp f cdv A out s H E) [] τ H' s' → RelV v u → Q v H' → CE out P w H s Q u s' :=
    fun {τ H' v u} J r q => ⟨v, H', J.os, J.bare, J.base, J.hok, r, q⟩
  cases fl with
  | ret u =>
    obtain ⟨v, τ, H', J, r, q⟩ := hs
    exact done J r q
  | next =>
    obtain ⟨τ, H', J, q⟩ := hs
    exact done (v := V.non) (u := Value.none) J rfl q
  | brk =>
    obtain ⟨_, _, _, z⟩ := hs
    exact z.elim
  | cont =>
    obtain ⟨_, _, _, z⟩ := hs
    exact z.elim
end
section
variable {X : Cx} {CX : CXT} {k : Nat} {f C : Addr} {fd : FuncData} {ps : List Str} {sp : Sp} {E : L2.St → XK} {x m : Str} {p pos apos : Pos} {e o : Expr} {es : List Expr} {ta : TE} {t : TA}
theorem run_fnG {pins : List (Addr × Obj)} {σ : L2.St} {H : Hp} {s : Shared} {Q : VK} {us : List Value} {vs : List V} (F : FnG X.prog X.w X.K X.mg X.base CX k f fd ps sp) (gd : X.A.guards = some []) (hr : Room k X.A) (hb : Binds X.K fd ps []) (hx : PassesAt CX X σ (E σ))
    (I : Inv X pins σ H s) (rv : Vals vs us) (h : sp vs H Q (E σ)) : wpAny (model X.prog X.w) X.A (call (.ref f) us) (EP X pins σ Q) X.xe s := by
  have hlen : us.length = ps.length := by rw [← rv.length]; exact F.ln _ _ _ _ h
  have bt := hb s us I.kIn (by rw [List.append_nil]; exact hlen)
  rw [List.append_nil] at bt
  refine wpAny_call (codeAny_mono (F.run X.A X.stack s H ⟨us, []⟩ us vs Q (E σ) gd hr I.env0 bt rv h) fun res s' hq => ?_)
  cases res with
  | error er => exact hx pins H s er s' I hq
  | ok fl =>
    cases fl with
    | ret u => exact I.after hq
    | _ => exact (show False from hq).elim
theorem pe_callG (F : FnG X.prog X.w X.K X.mg X.base CX k f fd ps sp) (gd : X.A.guards = some []) (hr : Room k X.A) (hg : Gl X x) (hm : X.mg x = some (.ref f)) (hk : PySem.W.keepIn X.K (.ref f) = true) (hb : Binds X.K fd ps []) (hx : ∀ σ, PassesAt CX X σ (E σ)) (ha : PA X (e :: es) t) (hdb : (x == ("__debug__" : Str)) = false := by decide) (he : starEach (e :: es) X.env = (false, eval e X.env) :: starEach es X.env := by rfl) (hpl : (backTo pos (starEach es X.env)).any (·.1) = false := by rfl) :
    PE X (.Call (.Name x p) (e :: es) [] pos) (tCallS sp E t) :=
  ⟨fun pins s σ H Q I h => wpAny_Call_Name_kw (ld_glob I hg hm (PySem.W.callWith_K (h₀ := X.base) I.ok.mod.kin hk
    (thn (ha.run pos pins s σ H _ I h) fun us s1 ⟨vs, H1, I1, r, q⟩ => ⟨I1.kIn, run_fnG F gd hr hb (hx σ) I1 r q⟩) he hpl) hdb)⟩
end
/-! ### the law's own call -/
theorem ints_vals : ∀ {vs : List Value} {ns : List Int}, IntsAre vs ns → Vals (ns.map V.int) vs
  | _, _, .nil => .nil
  | _, _, .cons _ t h => .cons ⟨t, rfl⟩ (ints_vals h)
theorem law_callG {P : Program} {w : World} {K : PySem.W.Frag} {mg mb : Str → Option Value} {CX : CXT} {k : Nat} {fa a : Addr} {fd : FuncData} {x : Str} {sp : Sp} {s1 : Shared} {vs : List Value} {ns : List Int}
    (KX : K.In s1.heap) (hns : s1.heap.Ns mainGlobals mg) (hb : s1.heap.Ns builtinsNs mb) (hbb : ∀ x : Str, x ≠ "__name__" → mb x = bootBuiltins x) (hlim : s1.heap.NoLimit) (hg : s1.gens = #[])
    (ha : s1.heap.get? a = some { cls := .type "list", data := .seq vs.toArray }) (hi : IntsAre vs ns) (hl : ns.length ≤ sizeLine) (hr : Room k callerA)
    (F : ∀ base : Heap, K.In base → base.Ns mainGlobals mg → FnG P w K mg base CX k fa fd [x] sp) (hbind : ∀ (s : Shared) (u : Value), BindsTo s fd ⟨[u], []⟩ [(x, u)]) (hsp : ∀ H : Hp, Only H → SqL K H a (ns.map V.int) → sp [.ref a] H (fun v _ => v = .bl true) fun _ _ _ => False)
    (hCX : ∀ H e s', CX [] H s1 (fun _ _ _ => False) e s' → False) :
    codeAny (model P w) callerA (.call (.ref fa) ⟨[.ref a], []⟩) (fun r s' => r = .ok (.ret (.bool true)) ∧ OldK s1.heap s'.heap ∧ s'.os = s1.os ∧ AllBare s'.gens) s1 := by
  have rvs := ints_vals hi
  have lnv := hi.length
  have main : ∀ H : Hp, Only H → SqL K H a (ns.map V.int) → HOk P w H s1.heap → (∀ b, H b ≠ none → b = a) → (H a ≠ none → K.lookup a = none) →
      codeAny (model P w) callerA (.call (.ref fa) ⟨[.ref a], []⟩) (fun r s' => r = .ok (.ret (.bool true)) ∧ OldK s1.heap s'.heap ∧ s'.os = s1.os ∧ AllBare s'.gens) s1 := by
    intro H only seq hok atA noK
    have isA : ∀ {b : Addr} {u : HO}, H b = some u → b = a := fun {b u} q => atA b (by rw [q]; exact fun z => by cases z)
    have keepD : ∀ {b : Addr} {ob : Obj} {es : Array DictEntry} {ep : Nat}, s1.heap.get? b = some ob → ob.data = .dict es ep → H b = none := fun {b ob es ep} e dd => by
      cases q : H b with
      | none => rfl
      | some u =>
        have eb := isA q
        subst eb
        rw [ha] at e
        cases e
        exact absurd dd (fun z => by cases (show Data.seq vs.toArray _ = Data.dict es ep from z))
    have nsH : ∀ {b : Addr} {m : Str → Option Value}, s1.heap.Ns b m → (hidT s1.heap H).Ns b m := fun {b m} ⟨ob, es, ep, e, dd, r⟩ => ⟨ob, es, ep, hidT_get e (keepD e dd), dd, r⟩
    have KH : K.In (hidT s1.heap H) := fun b ob e => hidT_get (KX b ob e) (by
      cases q : H b with
      | none => rfl
      | some u =>
        have eb := isA q
        subst eb
        rw [noK (by rw [q]; exact fun z => by cases z)] at e
        cases e)
    have md : Mod K mg (hidT s1.heap H) := ⟨KH, nsH hns, ⟨mb, nsH hb, hbb⟩, let ⟨mc, z1, z2⟩ := hlim; ⟨mc, nsH z1, z2⟩⟩
    have en : Env0 P w K mg (hidT s1.heap H) callerA [] s1 H := ⟨rfl, md, fun b ob e => of_hidT e, Nat.le_of_eq (hidT_size _ _), trivial, (fun b z => absurd (show b ∈ ([] : List Addr) from z) List.not_mem_nil), hok, .of_eq hg⟩
    refine codeAny_mono ((F _ KH (nsH hns)).run callerA [] s1 H ⟨[.ref a], []⟩ [.ref a] [.ref a] _ _ rfl hr en (hbind s1 (.ref a)) (.cons rfl .nil) (hsp H only seq)) fun res s' h => ?_
    cases res with
    | error er => exact (hCX H er s' h).elim
    | ok fl =>
      cases fl with
      | ret u =>
        obtain ⟨v, H', hos, bare, un, hok2, rr, q⟩ := h
        have qv : v = .bl true := q
        subst qv
        obtain rfl : u = Value.bool true := rr
        refine ⟨rfl, OldK.of_keep fun b ob e => ?_, hos, bare⟩
        cases q : H b with
        | none => exact un.keep b ob e q (fun z => absurd (show b ∈ ([] : List Addr) from z) List.not_mem_nil) List.not_mem_nil
        | some u =>
          rcases only b with z | ⟨ob2, xs, z⟩
          · rw [q] at z
            cases z
          · obtain ⟨g1, _⟩ := hok b _ z
            obtain ⟨g2, _⟩ := hok2 b _ (un.frzs b ob2 _ z)
            rw [e] at g1
            cases g1
            exact g2
      | _ => exact (show False from h).elim
  cases hk : K.lookup a with
  | some ob =>
    have e := KX a ob hk
    rw [ha] at e
    cases e
    exact main (fun _ => none) (fun _ => .inl rfl) (.inr ⟨_, vs.toArray, _, hk, rfl, rfl, rfl, by rw [List.size_toArray, lnv]; exact hl, by simpa using rvs⟩) (fun b u z => by cases (show (none : Option HO) = some u from z)) (fun b z => absurd rfl z) fun z => absurd rfl z
  | none =>
    refine main (upd (fun _ => none) a (.frz { cls := .type "list", data := .seq vs.toArray } (.lst (ns.map V.int)))) (fun b => ?_) (.inl (.inr ⟨_, upd_same⟩)) (fun b u z => ?_) (fun b z => ?_) fun _ => hk
    · by_cases eb : b = a
      · subst eb
        exact .inr ⟨_, _, upd_same⟩
      · exact .inl (upd_ne eb)
    · by_cases eb : b = a
      · subst eb
        rw [upd_same] at z
        cases z
        exact ⟨ha, by rw [List.length_map]; exact hl, vs, _, rvs, ha⟩
      · rw [upd_ne eb] at z
        cases z
    · by_cases eb : b = a
      · exact eb
      · exact absurd (upd_ne eb) z
theorem walk_ofG {l : PySem.W.OpenLaw} {n k : Nat} {q : Program} {lo : List Str} {XP : (Str → Option Value) → Heap → Prop} {YP : World → Heap → Prop} {d : DefRec} {K : Params → PySem.W.Frag} {CX : World → CXT} {sp : World → Sp} {x : Str} (hn : l.most = some n) (hn2 : n ≤ sizeLine) (hdf : d.params.defaults = []) (hr : Room k callerA) (hY : ∀ (w : World) (h : Heap), YP w h → (K w.params).In h) (F : ∀ (w : World) (mg : Str → Option Value) (fa : Addr) (h : Heap), (K w.params).In h → h.Ns mainGlobals mg → mg d.name = some (.ref fa) → ∃ fd : FuncData, (∀ (s : Shared) (u : Value), BindsTo s fd ⟨[u], []⟩ [(x, u)]) ∧
        ∀ base : Heap, (K w.params).In base → base.Ns mainGlobals mg → FnG l.prog w (K w.params) mg base (CX w) k fa fd [x] (sp w)) (hsp : ∀ (w : World) (H : Hp) (a : Addr) (ns : List Int), ns.length ≤ n → Only H → SqL (K w.params) H a (ns.map V.int) → sp w [.ref a] H (fun v _ => v = .bl true) fun _ _ _ => False) (hCX : ∀ (w : World) (H : Hp) (s : Shared) (e : Value) (s' : Shared), CX w [] H s (fun _ _ _ => False) e s' → False) :
    PySem.W.WalkO q lo XP YP l.row.toRowW d [] (fun f vs => PySem.call f vs) := by
  refine Att.attach_call hn hdf fun w s0 s1 mg mb fa o pm cd dok a vs ns G Y ho hd hcd hmg hobj hints hlen hg => ?_
  have KH := hY w _ Y
  obtain ⟨fd, hbd, hF⟩ := F w mg fa _ KH G.T.g hmg
  exact law_callG KH G.T.g G.T.b G.T.builtins G.T.nolimit hg hobj hints (Nat.le_trans hlen hn2) hr hF hbd (fun H hO hS => hsp w H a ns hlen hO hS) fun H er s' => hCX w H s1 er s'
end As

namespace As
open PySem PySem.Spec PyProof.Rows L2
abbrev Fn := List W → Store → Rs W
def cutW (n : Nat) (S : Store) : W → Option W
  | .d d => some (.d d)
  | .c k => if k < n then some (.c k) else match S[k]? with
    | some (.l ds) => some (.d (.lst ds))
    | _ => none
  | .t ws => if lowAll n ws = true then some (.t ws) else none
  | .g v => some (.g v)
  | .j => some .j
  | .s ns => some (.s ns)
def cutR (b : Bool) (n : Nat) (w : W) (S : Store) : Rs W := if b then (match cutW n S w with
    | some w' => if lowS n (S.take n) = true then .ok w' (S.take n) else .no
    | none => .no) else .ok w S
def fin (b : Bool) (n : Nat) : Ou → Rs W
  | .rt w S => cutR b n w S
  | .nx _ S => cutR b n (.d .non) S
  | .ex e _ S => if b then (if lowS n (S.take n) = true then .ex e (S.take n) else .no) else .ex e S
  | _ => .no
def fnF (b : Bool) (n m : Nat) (f : Sm) : Fn := fun ws S => if ws.length = n then fin b S.length (f (ws.map some ++ List.replicate (m - ws.length) none) S) else .no
def spF (K : PySem.W.Frag) (mg : Str → Option Value) (F : Fn) : Sp := fun vs H Q E => ∃ M S ws, RS K M S H ∧ RWs K M H vs ws ∧ Post K mg M H E (RWK K) Q (F ws S)
section
variable {K : PySem.W.Frag} {mg : Str → Option Value} {M : Mp} {H : Hp} {E : XK}
theorem RX.cutE {M' : Mp} {H' : Hp} (e : Ext M M' H H') : Ext M (M'.cut M.ad.length) H H' := e.cut
theorem cutR_ok {b : Bool} {S0 S' : Store} {w : W} {v : V} {M' : Mp} {H' : Hp} {Q : VK} (rs0 : RS K M S0 H) (p : Post K mg M H E (RWK K) Q (cutR b S0.length w S')) (e : Ext M M' H H') (rs : RS K M' S' H') (r : RW K M' H' v w) : Q v H' := by
  unfold cutR at p
  cases b with
  | false => exact p M' v H' e rs r
  | true =>
    rw [if_pos rfl] at p
    cases hc : cutW S0.length S' w with
    | none => rw [hc] at p; exact (show False from p).elim
    | some w' =>
      rw [hc] at p
      by_cases hl : lowS S0.length (S'.take S0.length) = true
      · dsimp only at p
        rw [if_pos hl] at p
        rw [← rs0.len] at p hl hc
        refine p (M'.cut M.ad.length) v H' e.cut (rs.cut _ hl) ?_
        cases r with
        | d rd =>
          have hc' := Option.some.inj hc
          subst hc'
          exact .d (rd.cut _)
        | @c k a ha =>
          have hc' : (if k < M.ad.length then some (W.c k) else match S'[k]? with
            | some (.l ds) => some (W.d (.lst ds))
            | _ => none) = some w' := hc
          by_cases hk : k < M.ad.length
          · rw [if_pos hk] at hc'
            have hc2 := Option.some.inj hc'
            subst hc2
            exact RW.cut _ (.c ha) (decide_eq_true hk)
          · rw [if_neg hk] at hc'
            cases hs : S'[k]? with
            | none => rw [hs] at hc'; cases hc'
            | some c =>
              rw [hs] at hc'
              cases c with
              | l ds =>
                have hc2 := Option.some.inj hc'
                subst hc2
                exact .d (rs.frz ha hs (by omega))
              | _ => cases hc'
        | @t a xs ws n ha t =>
          have hc' : (if lowAll M.ad.length ws = true then some (W.t ws) else none) = some w' := hc
          by_cases hk : lowAll M.ad.length ws = true
          · rw [if_pos hk] at hc'
            have hc2 := Option.some.inj hc'
            subst hc2
            exact RW.cut _ (.t n ha t) hk
          · rw [if_neg hk] at hc'
            cases hc'
        | g v =>
          have hc' := Option.some.inj hc
          subst hc'
          exact .g _
        | j v =>
          have hc' := Option.some.inj hc
          subst hc'
          exact .j _
        | s h =>
          have hc' := Option.some.inj hc
          subst hc'
          exact RW.cut _ (.s h) rfl
      · dsimp only at p
        rw [if_neg hl] at p
        exact (show False from p).elim
theorem fin_ok {b : Bool} {S0 : Store} {Q : VK} (rs0 : RS K M S0 H) {o : Ou} (p : Post K mg M H E (RWK K) Q (fin b S0.length o)) : PostS K mg M H (fun _ => E) { nx := fun _ H' => Q .non H', rt := Q } o := by
  cases o with
  | rt w S' => exact fun M' v H' e rs r => cutR_ok rs0 p e rs r
  | nx ρ S' => exact fun M' σ' H' e rs ro => cutR_ok rs0 p e rs (.d .non)
  | ex x ρ S' =>
    intro M' σ' cls d H' e rs ro rx
    cases b with
    | false => exact p M' cls d H' e rs rx
    | true =>
      have p1 : Post K mg M H E (RWK K) Q (if lowS S0.length (S'.take S0.length) = true then .ex x (S'.take S0.length) else .no) := p
      by_cases hl : lowS S0.length (S'.take S0.length) = true
      · rw [if_pos hl] at p1
        rw [← rs0.len] at p1 hl
        exact p1 (M'.cut M.ad.length) cls d H' e.cut (rs.cut _ hl) (rx.cut _)
      · rw [if_neg hl] at p1
        exact (show False from p1).elim
  | bk _ _ => exact (show False from p).elim
  | ct _ _ => exact (show False from p).elim
  | no => exact (show False from p).elim
theorem RWs.start : ∀ {vs : List V} {ws : List W} (m : Nat), RWs K M H vs ws → RO K M H (vs.map some ++ List.replicate m none) (ws.map some ++ List.replicate m none)
  | _, _, 0, .nil => .nil
  | _, _, m + 1, .nil => .no (RWs.start m .nil)
  | _, _, m, .cons h t => .so h (RWs.start m t)
end
section
variable {P : Program} {w : World} {K : PySem.W.Frag} {mg : Str → Option Value} {base : Heap}
/-- THE RULE for a def -/
theorem fn_ok {x qual : Str} {st : Stmt} {f : Addr} {fd : FuncData} {N ps : List Str} {k : Nat} {b : Bool} {g : Sm} (F : Fun K x qual st f fd) (S : FnScope N ps (defScope st))
    (hb : ∀ (cdv : Value) (A : Around) (outer : List PySem.Env) (s : Shared) (H : Hp) (E : XK), A.guards = some [] → Room k (A.deeper (envOfC qual (defScope st) s.heap.objs.size f cdv)) →
      Takes (cxOf (L2.CX P w) P w K mg base N qual (defScope st) f cdv A outer s H E) (fun cls d _ H => E cls d H) → PassesOwn (model P w) (cxOf (L2.CX P w) P w K mg base N qual (defScope st) f cdv A outer s H E).A (cxOf (L2.CX P w) P w K mg base N qual (defScope st) f cdv A outer s H E).env (cxOf (L2.CX P w) P w K mg base N qual (defScope st) f cdv A outer s H E).xe →
      FSs (cxOf (L2.CX P w) P w K mg base N qual (defScope st) f cdv A outer s H E) (fun _ => E) (defBody st) g) :
    FnG P w K mg base (L2.CX P w) (k + 1) f fd ps (spF K mg (fnF b ps.length N.length g)) := by
  have len : ∀ vs H Q E, spF K mg (fnF b ps.length N.length g) vs H Q E → vs.length = ps.length := fun vs H Q E h => by
    obtain ⟨M, S0, ws, rs, rw, p⟩ := h
    rw [rw.length]
    unfold fnF at p
    by_cases hl : ws.length = ps.length
    · exact hl
    · rw [if_neg hl] at p
      exact (show False from p).elim
  obtain ⟨oc, od, kV, dok, pm, an, cdv, ct, osl, rfl, lk, hcd⟩ := F.ex
  refine fnG_of lk hcd S len fun A outer s H vs Q E gd hr h => ?_
  have hl := len vs H Q E h
  refine ⟨_, hb cdv A outer s H E gd hr (takes_of rfl rfl rfl rfl) (passes_of rfl), ?_⟩
  obtain ⟨M, S0, ws, rs, rw, p⟩ := h
  refine ⟨M, _, S0, rs, RWs.start (N.length - vs.length) rw, ?_⟩
  unfold fnF at p
  have hl2 : ws.length = ps.length := by rw [← rw.length]; exact hl
  rw [if_pos hl2] at p
  rw [rw.length]
  exact fin_ok rs p
/-- a def's promise in other words -/
theorem fn_eq {k : Nat} {f : Addr} {fd : FuncData} {ps : List Str} {F G : Fn} (h : FnG P w K mg base (L2.CX P w) k f fd ps (spF K mg F)) (e : ∀ ws S, G ws S ≠ .no → F ws S = G ws S) : FnG P w K mg base (L2.CX P w) k f fd ps (spF K mg G) := by
  refine h.imp fun vs H Q E q => ?_
  obtain ⟨M, S0, ws, rs, rw, p⟩ := q
  refine ⟨M, S0, ws, rs, rw, ?_⟩
  rw [e ws S0 fun z => by rw [z] at p; exact p]
  exact p
end
section
variable {X : Cx} {E : L2.St → XK} {k : Nat} {f C : Addr} {fd : FuncData} {ps : List Str} {F : Fn} {x : Str} {p pos : Pos} {e : Expr} {es : List Expr} {fs : Env → Store → Rs (List W)}
/-- f(..) -/
theorem f_call (G : FnG X.prog X.w X.K X.mg X.base (L2.CX X.prog X.w) k f fd ps (spF X.K X.mg F)) (gd : X.A.guards = some []) (hr : Room k X.A) (hg : Gl X x) (hm : X.mg x = some (.ref f)) (hk : PySem.W.keepIn X.K (.ref f) = true) (hb : Binds X.K fd ps []) (tk : Takes X (fun cls d σ H => E σ cls d H))
    (ha : FA X E (e :: es) fs) (hdb : (x == ("__debug__" : Str)) = false := by decide) (he : starEach (e :: es) X.env = (false, eval e X.env) :: starEach es X.env := by rfl) (hpl : (backTo pos (starEach es X.env)).any (·.1) = false := by rfl) :
    FE X E (.Call (.Name x p) (e :: es) [] pos) (fApp F fs) := by
  refine PE.imp (pe_callG (E := fun σ => E σ) G gd hr hg hm hk hb (fun σ => passAt tk σ) ha hdb he hpl) fun σ H Q h => ?_
  exact tG.bind (R := RWsK X.K) (R' := RWK X.K) (g := fun _ x S1 => F x S1) h fun b H1 M1 ρ a S1 rs ro r p => ⟨M1, S1, a, rs, r, p⟩
/-- raise C('..') -/
theorem fs_raise {c : Str} {m : Str} {j : Nat} {p2 p3 : Pos} {bmB : List Value} {B newId initId : String} (hc : X.calm = true) (tk : Takes X (fun cls d σ H => E σ cls d H)) (Fb : ExcBaseFacts B newId initId bmB) (q : PySem.W.excIn X.K C bmB newId = true) (gC : X.mg c = some (.ref C)) (kC : PySem.W.keepIn X.K (.ref C) = true)
    (r : Raises X (.ref C)) (hg : Gl X c) (hdb : (c == ("__debug__" : Str)) = false := by decide) : FS X E (.Raise (some (.Call (.Name c p) [.Constant (.str m) j p2] [] p3)) none pos) (fun ρ S => .ex ⟨c, none⟩ ρ S) := by
  refine PS.imp (ps_raise hc tk (L2.pmk_own Fb q gC kC r hg hdb)) fun D σ H h => ?_
  obtain ⟨M, ρ, S, rs, ro, pp⟩ := h
  exact pp M σ (.ref C) none H (Ext.refl _ _) rs ro ⟨C, gC, rfl, rfl⟩
end
end As
namespace As
open PySem PySem.Spec PyProof.Rows L2
/-! ### cells that a block has made fall away at its end -/
def gcE (n : Nat) : Env → Env
  | [] => []
  | none :: ρ => none :: gcE n ρ
  | some w :: ρ => (if w.low n = true then some w else some .j) :: gcE n ρ
theorem RO.gc {K : PySem.W.Frag} {M : Mp} {H : Hp} (n : Nat) : ∀ {vs : List (Option V)} {ws : Env}, RO K M H vs ws → RO K (M.cut n) H vs (gcE n ws)
  | _, _, .nil => .nil
  | _, _, .no t => .no (RO.gc n t)
  | _, _, .so (w := w) h t => by
    rw [gcE]
    by_cases hl : w.low n = true
    · rw [if_pos hl]
      exact .so (h.cut n hl) (RO.gc n t)
    · rw [if_neg hl]
      exact .so (.j _) (RO.gc n t)
def sGc (f : Sm) : Sm := fun ρ S => match f ρ S with
  | .nx ρ' S' => if lowS S.length (S'.take S.length) = true then .nx (gcE S.length ρ') (S'.take S.length) else .no
  | .ct ρ' S' => if lowS S.length (S'.take S.length) = true then .ct (gcE S.length ρ') (S'.take S.length) else .no
  | o => o
theorem fss_gc {X : Cx} {E : L2.St → XK} {b : List Stmt} {f : Sm} (h : FSs X E b f) : FSs X E b (sGc f) := by
  refine PSs.imp h ?_
  rintro D σ H ⟨M, ρ, S, rs, ro, p⟩
  refine ⟨M, ρ, S, rs, ro, ?_⟩
  unfold sGc at p
  cases hf : f ρ S with
  | nx ρ' S' =>
    rw [hf] at p
    dsimp only at p
    by_cases hl : lowS S.length (S'.take S.length) = true
    · rw [if_pos hl] at p
      rw [← rs.len] at p hl
      exact fun M' σ' H' e rs' ro' => p (M'.cut M.ad.length) σ' H' e.cut (rs'.cut _ hl) (RO.gc _ ro')
    · rw [if_neg hl] at p
      exact (show False from p).elim
  | ct ρ' S' =>
    rw [hf] at p
    dsimp only at p
    by_cases hl : lowS S.length (S'.take S.length) = true
    · rw [if_pos hl] at p
      rw [← rs.len] at p hl
      exact fun M' σ' H' e rs' ro' => p (M'.cut M.ad.length) σ' H' e.cut (rs'.cut _ hl) (RO.gc _ ro')
    · rw [if_neg hl] at p
      exact (show False from p).elim
  | rt _ _ => rw [hf] at p; exact p
  | bk _ _ => rw [hf] at p; exact p
  | ex _ _ _ => rw [hf] at p; exact p
  | no => rw [hf] at p; exact p
end As

/-! an empty dict beside a text: ==, != -/
namespace PySem
open Sem (wp)
theorem dct_eq_str (l : Addr) (es : Array DictEntry) (n : Nat) (dd : Option Addr) (sl : Array (Option Value)) (b : Str) (u : Tok) :
    Meets (Builtin.«dict.__eq__» ⟨[.ref l, .str b u], []⟩) (fun _ R s => s.heap.get? l = some { cls := .type "dict", dict := dd, data := .dict es n, slots := sl } ∧ R (.ok (.ret .notImplemented)) s) :=
  .of_wp fun prog w A R s h => by
    obtain ⟨hp, g, d, tk, os⟩ := s
    obtain ⟨hl, h⟩ := h
    have f1 := F.sub_str_dict
    wp_walk using wpAny_loadPart' hl
    exact ⟨_, rfl, h⟩
theorem dct_ne_str (l : Addr) (es : Array DictEntry) (n : Nat) (dd : Option Addr) (sl : Array (Option Value)) (b : Str) (u : Tok) :
    Meets (Builtin.«dict.__ne__» ⟨[.ref l, .str b u], []⟩) (fun _ R s => s.heap.get? l = some { cls := .type "dict", dict := dd, data := .dict es n, slots := sl } ∧ R (.ok (.ret .notImplemented)) s) :=
  .of_wp fun prog w A R s h => by
    obtain ⟨hp, g, d, tk, os⟩ := s
    obtain ⟨hl, h⟩ := h
    have f1 := F.sub_str_dict
    wp_walk using wpAny_loadPart' hl
    exact ⟨_, rfl, h⟩
theorem str_eq_dct (b : Str) (u : Tok) (l : Addr) (es : Array DictEntry) (n : Nat) (dd : Option Addr) (sl : Array (Option Value)) :
    Meets (Builtin.«str.__eq__» ⟨[.str b u, .ref l], []⟩) (fun _ R s => s.heap.get? l = some { cls := .type "dict", dict := dd, data := .dict es n, slots := sl } ∧ R (.ok (.ret .notImplemented)) s) :=
  .of_wp fun prog w A R s h => by
    obtain ⟨hp, g, d, tk, os⟩ := s
    obtain ⟨hl, h⟩ := h
    wp_walk using wpAny_loadPart' hl, wpAny_load hl
    exact ⟨_, rfl, h⟩
theorem str_ne_dct (b : Str) (u : Tok) (l : Addr) (es : Array DictEntry) (n : Nat) (dd : Option Addr) (sl : Array (Option Value)) :
    Meets (Builtin.«str.__ne__» ⟨[.str b u, .ref l], []⟩) (fun _ R s => s.heap.get? l = some { cls := .type "dict", dict := dd, data := .dict es n, slots := sl } ∧ R (.ok (.ret .notImplemented)) s) :=
  .of_wp fun prog w A R s h => by
    obtain ⟨hp, g, d, tk, os⟩ := s
    obtain ⟨hl, h⟩ := h
    wp_walk using wpAny_loadPart' hl, wpAny_load hl
    exact ⟨_, rfl, h⟩
open SeqAt
theorem rcAt_dct_str {A : Around} {s : Shared} {l : Addr} {es : Array DictEntry} {n : Nat} {dd : Option Addr} {sl : Array (Option Value)} (b : Str) (u : Tok) (ho : s.heap.get? l = some { cls := .type "dict", dict := dd, data := .dict es n, slots := sl }) (hu : A.units < cLine) : RcAt A s (.ref l) (.str b u) false := fun prog w E Q h =>
  rc_eq_decline_or (k := false) ⟨_, ho, rfl⟩ (typeIs_str s b u) (by decide) F.sub_str_dict F.slot_dict_eq F.slot_str_eq_refl
    (fun _ hq => call_meets F.slot_dict_eq ⟨_, ho, rfl⟩ F.entry_dict_eq (F.args_dict_eq_2 _ _) (dct_eq_str l es n dd sl b u) ⟨ho, hq⟩)
    (fun _ hq => call_meets F.slot_str_eq_refl (typeIs_str s b u) F.entry_str_eq (F.args_str_eq_2 _ _) (str_eq_dct b u l es n dd sl) ⟨ho, hq⟩)
    (fun _ hq => wpAny_of_eq (rfl : isSame (.ref l) (.str b u) = pure false) hq) (.inr hu) h
theorem rcNeAt_dct_str {A : Around} {s : Shared} {l : Addr} {es : Array DictEntry} {n : Nat} {dd : Option Addr} {sl : Array (Option Value)} (b : Str) (u : Tok) (ho : s.heap.get? l = some { cls := .type "dict", dict := dd, data := .dict es n, slots := sl }) (hu : A.units < cLine) : RcNeAt A s (.ref l) (.str b u) true := fun prog w E Q h =>
  rc_ne_decline_or (k := false) ⟨_, ho, rfl⟩ (typeIs_str s b u) (by decide) F.sub_str_dict F.slot_dict_ne F.slot_str_ne_refl
    (fun _ hq => call_meets F.slot_dict_ne ⟨_, ho, rfl⟩ F.entry_dict_ne (F.args_dict_ne_2 _ _) (dct_ne_str l es n dd sl b u) ⟨ho, hq⟩)
    (fun _ hq => call_meets F.slot_str_ne_refl (typeIs_str s b u) F.entry_str_ne (F.args_str_ne_2 _ _) (str_ne_dct b u l es n dd sl) ⟨ho, hq⟩)
    (fun _ hq => wpAny_of_eq (rfl : isSame (.ref l) (.str b u) = pure false) hq) (.inr hu) h
end PySem
namespace As
open PySem PySem.Spec PyProof.Rows L2
section
variable {X : Cx}
def rEqDS (K : PySem.W.Frag) : R2 := fun x y H Q => ∃ a z, x = .ref a ∧ y = .str z ∧ (H a = some (.dK []) ∨ (∃ xs, SqL K H a xs) ∨ ∃ xs, SqT K H a xs) ∧ Q (.bl false) H
def rNeDS (K : PySem.W.Frag) : R2 := fun x y H Q => ∃ a z, x = .ref a ∧ y = .str z ∧ (H a = some (.dK []) ∨ (∃ xs, SqL K H a xs) ∨ ∃ xs, SqT K H a xs) ∧ Q (.bl true) H
def rEqE (K : PySem.W.Frag) : R2 := fun x y H Q => ∃ a b xs, x = .ref a ∧ y = .ref b ∧ SqL K H a xs ∧ SqL K H b [] ∧ Q (.bl xs.isEmpty) H
theorem op_eqE (hu : X.A.units < cLine) : OpR X (compareOp .Eq) (rEqE X.K) := by
  intro pins s σ H x y v u Q I rx ry h
  obtain ⟨a, b, xs, rfl, rfl, ha, hb, q⟩ := h
  cases rx
  cases ry
  obtain ⟨its, rv, p1, _⟩ := I.list ha
  obtain ⟨its2, rv2, p2, _⟩ := I.list hb
  cases rv2
  cases xs with
  | nil =>
    cases rv
    exact SeqAt.RcAt.lists p1.isList p2.isList rfl hu (e := fun _ => true) (fun j h1 _ => absurd h1 (Nat.not_lt_zero _)) X.prog X.w X.xe _ ⟨.bl true, H, I, rfl, q⟩
  | cons x xs =>
    cases rv with
    | cons r1 r2 => exact SeqAt.RcAt.lists_lengths p1.isList p2.isList (by simp) hu X.prog X.w X.xe _ ⟨.bl false, H, I, rfl, q⟩
def rNeE (K : PySem.W.Frag) : R2 := fun x y H Q => ∃ a b xs, x = .ref a ∧ y = .ref b ∧ SqL K H a xs ∧ SqL K H b [] ∧ Q (.bl (!xs.isEmpty)) H
theorem op_neE (hu : X.A.units < cLine) : OpR X (compareOp .NotEq) (rNeE X.K) := by
  intro pins s σ H x y v u Q I rx ry h
  obtain ⟨a, b, xs, rfl, rfl, ha, hb, q⟩ := h
  cases rx
  cases ry
  obtain ⟨its, rv, p1, _⟩ := I.list ha
  obtain ⟨its2, rv2, p2, _⟩ := I.list hb
  cases rv2
  cases xs with
  | nil =>
    cases rv
    exact SeqAt.RcNeAt.lists p1.isList p2.isList rfl hu (e := fun _ => true) (fun j h1 _ => absurd h1 (Nat.not_lt_zero _)) X.prog X.w X.xe _ ⟨.bl false, H, I, rfl, q⟩
  | cons x xs =>
    cases rv with
    | cons r1 r2 => exact SeqAt.RcNeAt.lists_lengths p1.isList p2.isList (by simp) hu X.prog X.w X.xe _ ⟨.bl true, H, I, rfl, q⟩
theorem dct_obj {pins : List (Addr × Obj)} {σ : L2.St} {H : Hp} {s : Shared} {a : Addr} (I : Inv X pins σ H s) (h : H a = some (.dK [])) : (a == sysModules) = false ∧ ∃ dd es ep sl, s.heap.get? a = some { cls := .type "dict", dict := dd, data := .dict es ep, slots := sl } ∧ es = #[] := by
  obtain ⟨_, hs, vs, kv, o, es, ep, e, ex, hd, _, pr, _⟩ := I.hok a _ h
  cases kv
  obtain ⟨cls, dd, data, sl⟩ := o
  have c1 : cls = .type "dict" := ex.1
  have c2 : data = .dict es ep := hd
  subst c1 c2
  obtain ⟨l⟩ := es
  cases l with
  | nil => exact ⟨hs, dd, _, ep, sl, e, rfl⟩
  | cons x l => cases pr
theorem op_eqDS (hu : X.A.units + 64 < cLine) : OpR X (compareOp .Eq) (rEqDS X.K) := by
  intro pins s σ H x y v u Q I rx ry h
  obtain ⟨a, z, rfl, rfl, ha, q⟩ := h
  cases rx
  obtain ⟨t, rfl⟩ := ry
  rcases ha with ha | ⟨xs, ha⟩ | ⟨xs, ha⟩
  · obtain ⟨_, dd, es, ep, sl, e, _⟩ := dct_obj I ha
    exact rcAt_dct_str z t e (by omega) X.prog X.w X.xe _ ⟨.bl false, H, I, rfl, q⟩
  · obtain ⟨its, rv, p1, _⟩ := I.list ha
    exact SeqAt.RcAt.list_str z t p1.isList (by omega) X.prog X.w X.xe _ ⟨.bl false, H, I, rfl, q⟩
  · obtain ⟨its, rv, p1, _⟩ := I.tuple ha
    exact SeqAt.RcAt.tuple_str z t p1 (by omega) X.prog X.w X.xe _ ⟨.bl false, H, I, rfl, q⟩
theorem op_neDS (hu : X.A.units + 64 < cLine) : OpR X (compareOp .NotEq) (rNeDS X.K) := by
  intro pins s σ H x y v u Q I rx ry h
  obtain ⟨a, z, rfl, rfl, ha, q⟩ := h
  cases rx
  obtain ⟨t, rfl⟩ := ry
  rcases ha with ha | ⟨xs, ha⟩ | ⟨xs, ha⟩
  · obtain ⟨_, dd, es, ep, sl, e, _⟩ := dct_obj I ha
    exact rcNeAt_dct_str z t e (by omega) X.prog X.w X.xe _ ⟨.bl true, H, I, rfl, q⟩
  · obtain ⟨its, rv, p1, _⟩ := I.list ha
    exact SeqAt.RcNeAt.list_str z t p1.isList (by omega) X.prog X.w X.xe _ ⟨.bl true, H, I, rfl, q⟩
  · obtain ⟨its, rv, p1, _⟩ := I.tuple ha
    exact SeqAt.RcNeAt.tuple_str z t p1 (by omega) X.prog X.w X.xe _ ⟨.bl true, H, I, rfl, q⟩
end
end As

namespace As
open PySem PySem.Spec PyProof.Rows L2
section
variable {K : PySem.W.Frag} {mg : Str → Option Value} {M : Mp} {H : Hp} {v u : V}
theorem RW.i_ {i : Int} (r : RW K M H v (.d (.int i))) : v = .int i := by
  cases r with
  | d h => cases h; rfl
theorem RW.s_ {i : Str} (r : RW K M H v (.d (.str i))) : v = .str i := by
  cases r with
  | d h => cases h; rfl
theorem RW.b_ {i : Bool} (r : RW K M H v (.d (.bl i))) : v = .bl i := by
  cases r with
  | d h => cases h; rfl
theorem RW.n_ (r : RW K M H v (.d .non)) : v = .non := by
  cases r with
  | d h => cases h; rfl
theorem RW.d_ {d : D} (r : RW K M H v (.d d)) : RD K M H v d := by
  cases r with
  | d h => exact h
theorem RW.c_ {k : Nat} (r : RW K M H v (.c k)) : ∃ a, v = .ref a ∧ M.ad[k]? = some a := by
  cases r with
  | c h => exact ⟨_, rfl, h⟩
theorem RW.l_ {ds : List D} (r : RW K M H v (.d (.lst ds))) : ∃ a xs, v = .ref a ∧ NL M H a xs ∧ RDs K M H xs ds := by
  cases r with
  | d h => cases h with
    | lst n t => exact ⟨_, _, rfl, n, t⟩
theorem RW.t_ {ds : List D} (r : RW K M H v (.d (.tup ds))) : ∃ a xs, v = .ref a ∧ NT K M H a xs ∧ RDs K M H xs ds := by
  cases r with
  | d h => cases h with
    | tup n t => exact ⟨_, _, rfl, n, t⟩
end
/-! ### whole numbers -/
def onII (k : Int → Int → Store → Rs W) : O2 := fun x y S => match x, y with
  | .d (.int i), .d (.int j) => k i j S
  | _, _ => .no
@[simp] theorem onII_ii (k : Int → Int → Store → Rs W) (i j : Int) (S : Store) : onII k (.d (.int i)) (.d (.int j)) S = k i j S := rfl
theorem onII_of {K : PySem.W.Frag} {mg : Str → Option Value} {M : Mp} {H : Hp} {E : XK} {k : Int → Int → Store → Rs W} {x y : W} {S : Store} {Q : VK} (h : Post K mg M H E (RWK K) Q (onII k x y S)) : ∃ i j, x = .d (.int i) ∧ y = .d (.int j) ∧ Post K mg M H E (RWK K) Q (k i j S) := by
  unfold onII at h
  split at h
  · exact ⟨_, _, rfl, rfl, h⟩
  · exact (show False from h).elim
theorem opF_I {K : PySem.W.Frag} {mg : Str → Option Value} {C : Int → Int → Prop} [∀ i j, Decidable (C i j)] (g : Int → Int → Int) : OpF K mg (onII fun i j S => if C i j then .ok (.d (.int (g i j))) S else .no) (rI C fun i j => .int (g i j)) := by
  intro M S H v u x y E Q rs rx ry p
  obtain ⟨i, j, rfl, rfl, p⟩ := onII_of p
  refine ⟨i, j, rx.i_, ry.i_, ?_⟩
  have p : Post K mg M H E (RWK K) Q (if C i j then .ok (.d (.int (g i j))) S else .no) := p
  by_cases hc : C i j
  · rw [if_pos hc] at p
    exact ⟨hc, p.ret rs (.d (.int _))⟩
  · rw [if_neg hc] at p
    exact (show False from p).elim
theorem opF_I0 {K : PySem.W.Frag} {mg : Str → Option Value} (g : Int → Int → Int) : OpF K mg (onII fun i j S => .ok (.d (.int (g i j))) S) (rI0 fun i j => .int (g i j)) := by
  intro M S H v u x y E Q rs rx ry p
  obtain ⟨i, j, rfl, rfl, p⟩ := onII_of p
  exact ⟨i, j, rx.i_, ry.i_, p.ret rs (.d (.int _))⟩
theorem opF_B0 {K : PySem.W.Frag} {mg : Str → Option Value} (g : Int → Int → Bool) : OpF K mg (onII fun i j S => .ok (.d (.bl (g i j))) S) (rI0 fun i j => .bl (g i j)) := by
  intro M S H v u x y E Q rs rx ry p
  obtain ⟨i, j, rfl, rfl, p⟩ := onII_of p
  exact ⟨i, j, rx.i_, ry.i_, p.ret rs (.d (.bl _))⟩
def oAdd : O2 := onII fun i j S => .ok (.d (.int (i + j))) S
def oSub : O2 := onII fun i j S => .ok (.d (.int (i - j))) S
instance (i j : Int) : Decidable (CMul i j) := by unfold CMul; exact inferInstance
instance (i j : Int) : Decidable (CDiv i j) := by unfold CDiv; exact inferInstance
instance (i j : Int) : Decidable (CPow i j) := by unfold CPow; exact inferInstance
def oMul : O2 := onII fun i j S => if CMul i j then .ok (.d (.int (i * j))) S else .no
def oDiv : O2 := onII fun i j S => if CDiv i j then .ok (.d (.int (i / j))) S else .no
def oMod : O2 := onII fun i j S => if 0 < j then .ok (.d (.int (i % j))) S else .no
def oPow : O2 := onII fun i j S => if CPow i j then .ok (.d (.int (i ^ j.toNat))) S else .no
def oLt : O2 := onII fun i j S => .ok (.d (.bl (decide (i < j)))) S
def oLe : O2 := onII fun i j S => .ok (.d (.bl (decide (i ≤ j)))) S
def oGt : O2 := onII fun i j S => .ok (.d (.bl (decide (j < i)))) S
def oGe : O2 := onII fun i j S => .ok (.d (.bl (decide (j ≤ i)))) S
section
variable {X : Cx} {E : L2.St → XK} {a b c : Expr} {fa fb fc : Env → Store → Rs W} {pos : Pos}
theorem f_add (ha : FE X E a fa) (hb : FE X E b fb) : FE X E (.BinOp a .Add b pos) (fOp oAdd fa fb) := f_op op_add (opF_I0 _) ha hb
theorem f_sub (ha : FE X E a fa) (hb : FE X E b fb) : FE X E (.BinOp a .Sub b pos) (fOp oSub fa fb) := f_op op_sub (opF_I0 _) ha hb
theorem f_mul (ha : FE X E a fa) (hb : FE X E b fb) : FE X E (.BinOp a .Mult b pos) (fOp oMul fa fb) := f_op op_mul (opF_I _) ha hb
theorem f_div (ha : FE X E a fa) (hb : FE X E b fb) : FE X E (.BinOp a .FloorDiv b pos) (fOp oDiv fa fb) := f_op op_fdiv (opF_I _) ha hb
theorem f_mod (ha : FE X E a fa) (hb : FE X E b fb) : FE X E (.BinOp a .Mod b pos) (fOp oMod fa fb) := f_op op_mod (opF_I (C := fun _ j => 0 < j) _) ha hb
theorem f_pow (ha : FE X E a fa) (hb : FE X E b fb) : FE X E (.BinOp a .Pow b pos) (fOp oPow fa fb) := f_op op_pow (opF_I _) ha hb
theorem f_lt (ha : FE X E a fa) (hb : FE X E b fb) : FE X E (.Compare a [.Lt] [b] pos) (fOp oLt fa fb) := f_cmp op_lt (opF_B0 _) ha hb (nomark _)
theorem f_le (ha : FE X E a fa) (hb : FE X E b fb) : FE X E (.Compare a [.LtE] [b] pos) (fOp oLe fa fb) := f_cmp op_le (opF_B0 _) ha hb (nomark _)
theorem f_gt (ha : FE X E a fa) (hb : FE X E b fb) : FE X E (.Compare a [.Gt] [b] pos) (fOp oGt fa fb) := f_cmp op_gt (opF_B0 _) ha hb (nomark _)
theorem f_ge (ha : FE X E a fa) (hb : FE X E b fb) : FE X E (.Compare a [.GtE] [b] pos) (fOp oGe fa fb) := f_cmp op_ge (opF_B0 _) ha hb (nomark _)
theorem ft_lt (ha : FE X E a fa) (hb : FE X E b fb) : FT X E (.Compare a [.Lt] [b] pos) (fB (fOp oLt fa fb)) := ft_cmp op_lt (opF_B0 _) ha hb (nomark _)
theorem ft_le (ha : FE X E a fa) (hb : FE X E b fb) : FT X E (.Compare a [.LtE] [b] pos) (fB (fOp oLe fa fb)) := ft_cmp op_le (opF_B0 _) ha hb (nomark _)
theorem ft_gt (ha : FE X E a fa) (hb : FE X E b fb) : FT X E (.Compare a [.Gt] [b] pos) (fB (fOp oGt fa fb)) := ft_cmp op_gt (opF_B0 _) ha hb (nomark _)
theorem ft_ge (ha : FE X E a fa) (hb : FE X E b fb) : FT X E (.Compare a [.GtE] [b] pos) (fB (fOp oGe fa fb)) := ft_cmp op_ge (opF_B0 _) ha hb (nomark _)
/-! ### chains -/
theorem chain_imp {K : PySem.W.Frag} {mg : Str → Option Value} {g g' : O2} {r r' : R2} (hg : OpF K mg g r) (hg' : OpF K mg g' r') : ∀ σ H Q, tG K mg E (RWK K) (fChain g g' fa fb fc) σ H Q → tChain r r' (tG K mg E (RWK K) fa) (tG K mg E (RWK K) fb) (tG K mg E (RWK K) fc) σ H Q := by
  rintro σ H Q ⟨M, ρ, S, rs, ro, p⟩
  refine ⟨M, ρ, S, rs, ro, Post.map (fun vx H1 q => ?_) (Post.bindE (R := RWK K) p)⟩
  obtain ⟨M1, x, S1, e1, rs1, rx, p1⟩ := q
  refine ⟨M1, ρ, S1, rs1, ro.ext e1, Post.map (fun vy H2 q => ?_) (Post.bindE (R := RWK K) p1)⟩
  obtain ⟨M2, y, S2, e2, rs2, ry, p2⟩ := q
  refine hg M2 S2 H2 vx vy x y (E σ) _ rs2 (RW.ext e2 rx) ry (Post.map (fun vz H3 q => ?_) (Post.bindE (R := RWK K) p2))
  obtain ⟨M3, z, S3, e3, rs3, rz, p3⟩ := q
  have ro3 := ((ro.ext e1).ext e2).ext e3
  cases rz with
  | d rd =>
    cases rd with
    | bl c =>
      cases c with
      | true =>
        refine ⟨true, rfl, ?_⟩
        rw [if_pos rfl]
        refine ⟨M3, ρ, S3, rs3, ro3, Post.map (fun vw H4 q => ?_) (Post.bindE (R := RWK K) p3)⟩
        obtain ⟨M4, w, S4, e4, rs4, rw4, p4⟩ := q
        exact hg' M4 S4 H4 vy vw y w (E σ) Q rs4 (RW.ext e4 (RW.ext e3 (RW.ext (Ext.refl _ _) ry))) rw4 p4
      | false =>
        refine ⟨false, rfl, ?_⟩
        rw [if_neg Bool.false_ne_true]
        exact Post.ret (R := RWK K) rs3 (.d (.bl _)) p3
    | _ => exact (show False from p3).elim
  | _ => exact (show False from p3).elim
theorem f_chain {op op' : CmpOp} {r r' : R2} {g g' : O2} (ho : OpR X (compareOp op) r) (ho' : OpR X (compareOp op') r') (hg : OpF X.K X.mg g r) (hg' : OpF X.K X.mg g' r') (ha : FE X E a fa) (hb : FE X E b fb) (hc : FE X E c fc) (hm : lastMarks [op, op'] [b, c] = false := by with_unfolding_all rfl) :
    FE X E (.Compare a [op, op'] [b, c] pos) (fChain g g' fa fb fc) := PE.imp (pe_chain ho ho' ha hb hc hm) (chain_imp hg hg')
theorem ft_chain {op op' : CmpOp} {r r' : R2} {g g' : O2} (ho : OpR X (compareOp op) r) (ho' : OpR X (compareOp op') r') (hg : OpF X.K X.mg g r) (hg' : OpF X.K X.mg g' r') (ha : FE X E a fa) (hb : FE X E b fb) (hc : FE X E c fc) (hm : lastMarks [op, op'] [b, c] = false := by with_unfolding_all rfl) :
    FT X E (.Compare a [op, op'] [b, c] pos) (fB (fChain g g' fa fb fc)) := PT.imp (pt_chain ho ho' ha hb hc hm) fun σ H Q h => chain_imp hg hg' σ H _ (fB_imp σ H Q h)
theorem f_chain_le_lt (ha : FE X E a fa) (hb : FE X E b fb) (hc : FE X E c fc) (hm : lastMarks [.LtE, .Lt] [b, c] = false := by with_unfolding_all rfl) : FE X E (.Compare a [.LtE, .Lt] [b, c] pos) (fChain oLe oLt fa fb fc) := f_chain op_le op_lt (opF_B0 _) (opF_B0 _) ha hb hc hm
theorem f_chain_le_le (ha : FE X E a fa) (hb : FE X E b fb) (hc : FE X E c fc) (hm : lastMarks [.LtE, .LtE] [b, c] = false := by with_unfolding_all rfl) : FE X E (.Compare a [.LtE, .LtE] [b, c] pos) (fChain oLe oLe fa fb fc) := f_chain op_le op_le (opF_B0 _) (opF_B0 _) ha hb hc hm
theorem ft_chain_le_lt (ha : FE X E a fa) (hb : FE X E b fb) (hc : FE X E c fc) (hm : lastMarks [.LtE, .Lt] [b, c] = false := by with_unfolding_all rfl) : FT X E (.Compare a [.LtE, .Lt] [b, c] pos) (fB (fChain oLe oLt fa fb fc)) := ft_chain op_le op_lt (opF_B0 _) (opF_B0 _) ha hb hc hm
theorem ft_chain_le_le (ha : FE X E a fa) (hb : FE X E b fb) (hc : FE X E c fc) (hm : lastMarks [.LtE, .LtE] [b, c] = false := by with_unfolding_all rfl) : FT X E (.Compare a [.LtE, .LtE] [b, c] pos) (fB (fChain oLe oLe fa fb fc)) := ft_chain op_le op_le (opF_B0 _) (opF_B0 _) ha hb hc hm
end
/-! ### plain data as the library's -/
mutual
def pd : D → PyData
  | .non => .none
  | .bl b => .bool b
  | .int i => .int i
  | .str z => .str z
  | .tup ds => .tuple (pds ds)
  | .lst ds => .list (pds ds)
  | .dct => .dict []
def pds : List D → List PyData
  | [] => []
  | d :: ds => pd d :: pds ds
end
theorem pds_map : ∀ ds : List D, pds ds = ds.map pd
  | [] => by rw [pds]; rfl
  | d :: ds => by rw [pds, pds_map ds]; rfl
mutual
def nod : D → Bool
  | .dct => false
  | .tup ds => nods ds
  | .lst ds => nods ds
  | _ => true
def nods : List D → Bool
  | [] => true
  | d :: ds => nod d && nods ds
end
section
variable {K : PySem.W.Frag} {M : Mp} {H : Hp}
mutual
theorem RD.dp : ∀ {v : V} {d : D}, RD K M H v d → nod d = true → Dp K H v (pd d)
  | _, _, .non, _ => by rw [pd]; exact .non
  | _, _, .bl b, _ => by rw [pd]; exact .bl b
  | _, _, .int i, _ => by rw [pd]; exact .int i
  | _, _, .str z, _ => by rw [pd]; exact .str z
  | _, _, .tup (ds := ds) n t, h => by
    rw [nod] at h
    rw [pd]
    exact .tup n.sq (RDs.dp t h)
  | _, _, .lst (ds := ds) n t, h => by
    rw [nod] at h
    rw [pd]
    exact .lst n.sq (RDs.dp t h)
  | _, _, .dct _ _, h => by rw [nod] at h; cases h
theorem RDs.dp : ∀ {vs : List V} {ds : List D}, RDs K M H vs ds → nods ds = true → DpAll K H vs (pds ds)
  | _, _, .nil, _ => by rw [pds]; exact .nil
  | _, _, .cons (d := d) (ds := ds) h t, q => by
    rw [nods, Bool.and_eq_true] at q
    rw [pds]
    exact .cons (RD.dp h q.1) (RDs.dp t q.2)
end
end
/-- may be compared -/
def okD (d : D) : Bool := nod d && SeqAt.shaped (pd d)
/-- a value read through: what it is as plain data -/
def rdW (S : Store) : W → Option D
  | .d d => some d
  | .c k => match S[k]? with
    | some (.l ds) => some (.lst ds)
    | _ => none
  | .t ws => match unDs ws with
    | some ds => some (.tup ds)
    | none => none
  | _ => none
@[simp] theorem rdW_d (S : Store) (d : D) : rdW S (.d d) = some d := rfl
section
variable {K : PySem.W.Frag} {mg : Str → Option Value} {M : Mp} {H : Hp}
theorem rdW_dp {S : Store} {v : V} {w : W} {d : D} (rs : RS K M S H) (r : RW K M H v w) (h : rdW S w = some d) (n : nod d = true) : Dp K H v (pd d) := by
  cases r with
  | d rd =>
    have h' := Option.some.inj h
    subst h'
    exact rd.dp n
  | @c k a ha =>
    cases hs : S[k]? with
    | none => rw [rdW, hs] at h; cases h
    | some c =>
      rw [rdW, hs] at h
      cases c with
      | l ds =>
        have h' := Option.some.inj h
        subst h'
        obtain ⟨xs, h1, h2⟩ := rs.ok k a _ ha hs
        rw [nod] at n
        rw [pd]
        exact .lst (SqL.of h1) (h2.dp n)
      | _ => cases h
  | @t a xs ws nl ha t =>
    cases hu : unDs ws with
    | none => rw [rdW, hu] at h; cases h
    | some ds =>
      rw [rdW, hu] at h
      have h' := Option.some.inj h
      subst h'
      rw [nod] at n
      rw [pd]
      exact .tup (SqT.of ha) ((t.un hu).dp n)
  | g _ => cases h
  | j _ => cases h
  | s _ => cases h
def onDD (k : D → D → Store → Rs W) : O2 := fun x y S => match rdW S x, rdW S y with
  | some d, some e => k d e S
  | _, _ => .no
@[simp] theorem onDD_dd (k : D → D → Store → Rs W) (d e : D) (S : Store) : onDD k (.d d) (.d e) S = k d e S := rfl
theorem onDD_of {E : XK} {k : D → D → Store → Rs W} {x y : W} {S : Store} {Q : VK} (h : Post K mg M H E (RWK K) Q (onDD k x y S)) : ∃ d e, rdW S x = some d ∧ rdW S y = some e ∧ Post K mg M H E (RWK K) Q (k d e S) := by
  unfold onDD at h
  split at h
  · exact ⟨_, _, by assumption, by assumption, h⟩
  · exact (show False from h).elim
/-- ==, != of data -/
def eqB (a b : D) : Bool := PyData.eqv (pd a) (pd b)
def kEq (neg : Bool) (a b : D) (S : Store) : Rs W := match a, b with
  | .str x, .str y => .ok (.d (.bl (if neg then !decide (x = y) else decide (x = y)))) S
  | .dct, .str _ => .ok (.d (.bl neg)) S
  | .lst _, .str _ => .ok (.d (.bl neg)) S
  | .tup _, .str _ => .ok (.d (.bl neg)) S
  | .lst ds, .lst [] => .ok (.d (.bl (if neg then !ds.isEmpty else ds.isEmpty))) S
  | a, b => if okD a && okD b then .ok (.d (.bl (if neg then !eqB a b else eqB a b))) S else .no
def oEq : O2 := onDD (kEq false)
def oNe : O2 := onDD (kEq true)
theorem okD_and {a b : D} (h : (okD a && okD b) = true) : nod a = true ∧ SeqAt.shaped (pd a) = true ∧ nod b = true ∧ SeqAt.shaped (pd b) = true := by
  unfold okD at h
  simp only [Bool.and_eq_true] at h
  exact ⟨h.1.1, h.1.2, h.2.1, h.2.2⟩
theorem rdW_str {S : Store} {v : V} {w : W} {z : Str} (r : RW K M H v w) (h : rdW S w = some (.str z)) : v = .str z := by
  cases r with
  | d rd =>
    have h' := Option.some.inj h
    subst h'
    cases rd
    rfl
  | @c k a ha =>
    cases hs : S[k]? with
    | none => rw [rdW, hs] at h; cases h
    | some c => rw [rdW, hs] at h; cases c <;> cases h
  | @t a xs ws nl ha t =>
    cases hu : unDs ws with
    | none => rw [rdW, hu] at h; cases h
    | some ds => rw [rdW, hu] at h; cases h
  | g _ => cases h
  | j _ => cases h
  | s _ => cases h
theorem rdW_dct {S : Store} {v : V} {w : W} (r : RW K M H v w) (h : rdW S w = some .dct) : ∃ a, v = .ref a ∧ H a = some (.dK []) := by
  cases r with
  | d rd =>
    have h' := Option.some.inj h
    subst h'
    cases rd with
    | dct n hd => exact ⟨_, rfl, hd⟩
  | @c k a ha =>
    cases hs : S[k]? with
    | none => rw [rdW, hs] at h; cases h
    | some c => rw [rdW, hs] at h; cases c <;> cases h
  | @t a xs ws nl ha t =>
    cases hu : unDs ws with
    | none => rw [rdW, hu] at h; cases h
    | some ds => rw [rdW, hu] at h; cases h
  | g _ => cases h
  | j _ => cases h
  | s _ => cases h
theorem rdW_rd {S : Store} {v : V} {w : W} {d : D} (rs : RS K M S H) (r : RW K M H v w) (h : rdW S w = some d) : RD K (M.cut 0) H v d := by
  cases r with
  | d rd =>
    have h' := Option.some.inj h
    subst h'
    exact rd.cut 0
  | @c k a ha =>
    cases hs : S[k]? with
    | none => rw [rdW, hs] at h; cases h
    | some c =>
      rw [rdW, hs] at h
      cases c with
      | l ds =>
        have h' := Option.some.inj h
        subst h'
        obtain ⟨xs, h1, h2⟩ := rs.ok k a _ ha hs
        refine .lst ⟨?_, h1⟩ (h2.cut 0)
        rintro (z | z)
        · exact absurd (show a ∈ M.ad.take 0 from z) (by rw [List.take_zero]; exact List.not_mem_nil)
        · exact rs.dj a (List.mem_of_getElem? ha) z
      | _ => cases h
  | @t a xs ws nl ha t =>
    cases hu : unDs ws with
    | none => rw [rdW, hu] at h; cases h
    | some ds =>
      rw [rdW, hu] at h
      have h' := Option.some.inj h
      subst h'
      exact .tup (.inl ⟨Mp.cut_live nl, .inl ha⟩) ((t.un hu).cut 0)
  | g _ => cases h
  | j _ => cases h
  | s _ => cases h
theorem RDs.empty {vs : List V} {ds : List D} (t : RDs K M H vs ds) : vs.isEmpty = ds.isEmpty := by cases t <;> rfl
theorem kEq_of {neg : Bool} {S : Store} {v u : V} {x y : W} {d e : D} {Q : VK} {E : XK} (rs : RS K M S H) (rx : RW K M H v x) (ry : RW K M H u y) (hd : rdW S x = some d) (he : rdW S y = some e) (p : Post K mg M H E (RWK K) Q (kEq neg d e S)) :
    (∃ z z', v = .str z ∧ u = .str z' ∧ Q (.bl (if neg then !decide (z = z') else decide (z = z'))) H) ∨ (∃ a z, v = .ref a ∧ u = .str z ∧ (H a = some (.dK []) ∨ (∃ xs, SqL K H a xs) ∨ ∃ xs, SqT K H a xs) ∧ Q (.bl neg) H) ∨
    (∃ a b xs, v = .ref a ∧ u = .ref b ∧ SqL K H a xs ∧ SqL K H b [] ∧ Q (.bl (if neg then !xs.isEmpty else xs.isEmpty)) H) ∨
    (Dp K H v (pd d) ∧ Dp K H u (pd e) ∧ SeqAt.shaped (pd d) = true ∧ SeqAt.shaped (pd e) = true ∧ Q (.bl (if neg then !eqB d e else eqB d e)) H) := by
  unfold kEq at p
  split at p
  · exact .inl ⟨_, _, rdW_str rx hd, rdW_str ry he, p.ret rs (.d (.bl _))⟩
  · obtain ⟨a, e1, e2⟩ := rdW_dct rx hd
    exact .inr (.inl ⟨a, _, e1, rdW_str ry he, .inl e2, p.ret rs (.d (.bl _))⟩)
  · have r := rdW_rd rs rx hd
    cases r with
    | lst n t => exact .inr (.inl ⟨_, _, rfl, rdW_str ry he, .inr (.inl ⟨_, n.sq⟩), p.ret rs (.d (.bl _))⟩)
  · have r := rdW_rd rs rx hd
    cases r with
    | tup n t => exact .inr (.inl ⟨_, _, rfl, rdW_str ry he, .inr (.inr ⟨_, n.sq⟩), p.ret rs (.d (.bl _))⟩)
  · have r := rdW_rd rs rx hd
    have r2 := rdW_rd rs ry he
    cases r with
    | lst n t =>
      cases r2 with
      | lst n2 t2 =>
        cases t2
        have q := p.ret rs (.d (.bl _))
        rw [← t.empty] at q
        exact .inr (.inr (.inl ⟨_, _, _, rfl, rfl, n.sq, n2.sq, q⟩))
  · by_cases hc : (okD d && okD e) = true
    · rw [if_pos hc] at p
      obtain ⟨n1, s1, n2, s2⟩ := okD_and hc
      exact .inr (.inr (.inr ⟨rdW_dp rs rx hd n1, rdW_dp rs ry he n2, s1, s2, p.ret rs (.d (.bl _))⟩))
    · rw [if_neg hc] at p
      exact (show False from p).elim
theorem opF_eq : OpF K mg oEq (fun x y H Q => rEq x y H Q ∨ rEqDS K x y H Q ∨ rEqE K x y H Q ∨ rEqD K x y H Q) := by
  intro M S H v u x y E Q rs rx ry p
  obtain ⟨d, e, hd, he, p⟩ := onDD_of p
  rcases kEq_of rs rx ry hd he p with ⟨z, z', rfl, rfl, q⟩ | ⟨a, z, rfl, rfl, h, q⟩ | ⟨a, b, xs, rfl, rfl, h1, h2, q⟩ | ⟨a, b, c, f, q⟩
  · refine .inl ⟨rfl, ?_⟩
    have q2 : Q (.bl (decide (z = z'))) H := q
    rw [show decide (V.str z = V.str z') = decide (z = z') from decide_eq_decide.mpr ⟨fun e => V.str.inj e, fun e => congrArg _ e⟩]
    exact q2
  · exact .inr (.inl ⟨a, z, rfl, rfl, h, q⟩)
  · exact .inr (.inr (.inl ⟨a, b, xs, rfl, rfl, h1, h2, q⟩))
  · exact .inr (.inr (.inr ⟨_, _, a, b, c, f, q⟩))
theorem opF_ne : OpF K mg oNe (fun x y H Q => rNe x y H Q ∨ rNeDS K x y H Q ∨ rNeE K x y H Q ∨ rNeD K x y H Q) := by
  intro M S H v u x y E Q rs rx ry p
  obtain ⟨d, e, hd, he, p⟩ := onDD_of p
  rcases kEq_of rs rx ry hd he p with ⟨z, z', rfl, rfl, q⟩ | ⟨a, z, rfl, rfl, h, q⟩ | ⟨a, b, xs, rfl, rfl, h1, h2, q⟩ | ⟨a, b, c, f, q⟩
  · refine .inl ⟨rfl, ?_⟩
    have q2 : Q (.bl (!decide (z = z'))) H := q
    rw [show decide (V.str z = V.str z') = decide (z = z') from decide_eq_decide.mpr ⟨fun e => V.str.inj e, fun e => congrArg _ e⟩]
    exact q2
  · exact .inr (.inl ⟨a, z, rfl, rfl, h, q⟩)
  · exact .inr (.inr (.inl ⟨a, b, xs, rfl, rfl, h1, h2, q⟩))
  · exact .inr (.inr (.inr ⟨_, _, a, b, c, f, q⟩))
/-- texts alone -/
def strsD : List D → Option (List Str)
  | [] => some []
  | .str z :: ds => (strsD ds).map (z :: ·)
  | _ => none
theorem RDs.strs : ∀ {vs : List V} {ds : List D} {zs : List Str}, RDs K M H vs ds → strsD ds = some zs → vs = zs.map V.str
  | _, _, zs, .nil, e => by cases e; rfl
  | _, _, zs, .cons (ds := ds) h t, e => by
    cases h with
    | str z =>
      have e' : (strsD ds).map (z :: ·) = some zs := e
      cases q : strsD ds with
      | none => rw [q] at e'; cases e'
      | some ys =>
        rw [q] at e'
        cases e'
        rw [List.map_cons, t.strs q]
    | _ => cases e
theorem inV_strs (z : Str) (zs : List Str) : inV (.str z) (zs.map V.str) = zs.any fun y => decide (y = z) := by
  unfold inV
  rw [List.any_map]
  rfl
theorem flat_strs (zs : List Str) : (zs.map V.str).all flatV = true := by
  rw [List.all_map]
  exact List.all_eq_true.mpr fun _ _ => rfl
/-- in, not in a list or a tuple of data -/
def inB (a : D) (ds : List D) : Bool := ds.any fun z => eqB z a
def kInO (neg : Bool) (a b : D) (ds : List D) (S : Store) : Rs W := if okD a && okD b then .ok (.d (.bl (if neg then !inB a ds else inB a ds))) S else .no
def kInS (neg : Bool) (a b : D) (ds : List D) (S : Store) : Rs W := match a, strsD ds with
  | .str z, some zs => .ok (.d (.bl (if neg then !zs.any fun y => decide (y = z) else zs.any fun y => decide (y = z)))) S
  | a, _ => kInO neg a b ds S
def kIn (neg : Bool) (a b : D) (S : Store) : Rs W := match b with
  | .lst ds => kInS neg a (.lst ds) ds S
  | .tup ds => kInS neg a (.tup ds) ds S
  | _ => .no
def oIn : O2 := onDD (kIn false)
def oNotIn : O2 := onDD (kIn true)
theorem any_pds (ds : List D) (a : D) : ((pds ds).any fun z => PyData.eqv z (pd a)) = inB a ds := by
  rw [pds_map, List.any_map]
  rfl
theorem kIn_of {neg : Bool} {S : Store} {v u : V} {x y : W} {d e : D} {Q : VK} {E : XK} (rs : RS K M S H) (rx : RW K M H v x) (ry : RW K M H u y) (hd : rdW S x = some d) (he : rdW S y = some e) (p : Post K mg M H E (RWK K) Q (kIn neg d e S)) :
    rIn K neg v u H Q ∨ ∃ ds, (e = .lst ds ∨ e = .tup ds) ∧ Dp K H v (pd d) ∧ Dp K H u (pd e) ∧ SeqAt.shaped (pd d) = true ∧ SeqAt.shaped (pd e) = true ∧ Q (.bl (if neg then !inB d ds else inB d ds)) H := by
  have ord : ∀ ds, (e = .lst ds ∨ e = .tup ds) → Post K mg M H E (RWK K) Q (kInO neg d e ds S) → ∃ ds, (e = .lst ds ∨ e = .tup ds) ∧ Dp K H v (pd d) ∧ Dp K H u (pd e) ∧ SeqAt.shaped (pd d) = true ∧ SeqAt.shaped (pd e) = true ∧ Q (.bl (if neg then !inB d ds else inB d ds)) H := by
    intro ds h p
    unfold kInO at p
    by_cases hc : (okD d && okD e) = true
    · rw [if_pos hc] at p
      obtain ⟨n1, s1, n2, s2⟩ := okD_and hc
      exact ⟨ds, h, rdW_dp rs rx hd n1, rdW_dp rs ry he n2, s1, s2, p.ret rs (.d (.bl _))⟩
    · rw [if_neg hc] at p
      exact (show False from p).elim
  have all : ∀ ds, (e = .lst ds ∨ e = .tup ds) → Post K mg M H E (RWK K) Q (kInS neg d e ds S) → rIn K neg v u H Q ∨ ∃ ds, (e = .lst ds ∨ e = .tup ds) ∧ Dp K H v (pd d) ∧ Dp K H u (pd e) ∧ SeqAt.shaped (pd d) = true ∧ SeqAt.shaped (pd e) = true ∧ Q (.bl (if neg then !inB d ds else inB d ds)) H := by
    intro ds h p2
    unfold kInS at p2
    split at p2
    · rename_i z zs hz
      have q := p2.ret rs (.d (.bl _))
      have rd := rdW_rd rs ry he
      refine .inl ?_
      rcases h with h | h
      · subst h
        cases rd with
        | lst n t =>
          have ex := t.strs hz
          subst ex
          refine ⟨_, _, rfl, .inl n.sq, by rw [rdW_str rx hd]; rfl, flat_strs zs, ?_⟩
          rw [rdW_str rx hd, inV_strs]
          exact q
      · subst h
        cases rd with
        | tup n t =>
          have ex := t.strs hz
          subst ex
          refine ⟨_, _, rfl, .inr n.sq, by rw [rdW_str rx hd]; rfl, flat_strs zs, ?_⟩
          rw [rdW_str rx hd, inV_strs]
          exact q
    · exact .inr (ord ds h p2)
  unfold kIn at p
  split at p
  · exact all _ (.inl rfl) p
  · exact all _ (.inr rfl) p
  · exact (show False from p).elim
theorem opF_in : OpF K mg oIn (fun x y H Q => rIn K false x y H Q ∨ rInD K x y H Q ∨ rInDT K x y H Q) := by
  intro M S H v u x y E Q rs rx ry p
  obtain ⟨d, e, hd, he, p⟩ := onDD_of p
  rcases kIn_of rs rx ry hd he p with q | ⟨ds, h, a1, a2, a3, a4, q⟩
  · exact .inl q
  · rcases h with h | h
    · subst h
      rw [pd] at a2 a4
      refine .inr (.inl ⟨pd d, pds ds, a1, a2, a3, a4, ?_⟩)
      rw [any_pds]
      exact q
    · subst h
      rw [pd] at a2 a4
      refine .inr (.inr ⟨pd d, pds ds, a1, a2, a3, a4, ?_⟩)
      rw [any_pds]
      exact q
theorem opF_notIn : OpF K mg oNotIn (fun x y H Q => rIn K true x y H Q ∨ rNotInD K x y H Q ∨ rNotInDT K x y H Q) := by
  intro M S H v u x y E Q rs rx ry p
  obtain ⟨d, e, hd, he, p⟩ := onDD_of p
  rcases kIn_of rs rx ry hd he p with q | ⟨ds, h, a1, a2, a3, a4, q⟩
  · exact .inl q
  · rcases h with h | h
    · subst h
      rw [pd] at a2 a4
      refine .inr (.inl ⟨pd d, pds ds, a1, a2, a3, a4, ?_⟩)
      rw [any_pds]
      exact q
    · subst h
      rw [pd] at a2 a4
      refine .inr (.inr ⟨pd d, pds ds, a1, a2, a3, a4, ?_⟩)
      rw [any_pds]
      exact q
end
section
variable {X : Cx} {E : L2.St → XK} {a b c : Expr} {fa fb fc : Env → Store → Rs W} {pos : Pos}
theorem f_eq (hu : X.A.units + 64 < cLine) (ha : FE X E a fa) (hb : FE X E b fb) : FE X E (.Compare a [.Eq] [b] pos) (fOp oEq fa fb) := f_cmp (op_eq.or ((op_eqDS hu).or ((op_eqE (by omega)).or (op_eqD hu)))) opF_eq ha hb (nomark _)
theorem f_ne (hu : X.A.units + 64 < cLine) (ha : FE X E a fa) (hb : FE X E b fb) : FE X E (.Compare a [.NotEq] [b] pos) (fOp oNe fa fb) := f_cmp (op_ne.or ((op_neDS hu).or ((op_neE (by omega)).or (op_neD hu)))) opF_ne ha hb (nomark _)
theorem ft_eq (hu : X.A.units + 64 < cLine) (ha : FE X E a fa) (hb : FE X E b fb) : FT X E (.Compare a [.Eq] [b] pos) (fB (fOp oEq fa fb)) := ft_cmp (op_eq.or ((op_eqDS hu).or ((op_eqE (by omega)).or (op_eqD hu)))) opF_eq ha hb (nomark _)
theorem ft_ne (hu : X.A.units + 64 < cLine) (ha : FE X E a fa) (hb : FE X E b fb) : FT X E (.Compare a [.NotEq] [b] pos) (fB (fOp oNe fa fb)) := ft_cmp (op_ne.or ((op_neDS hu).or ((op_neE (by omega)).or (op_neD hu)))) opF_ne ha hb (nomark _)
theorem f_in (hu : X.A.units + 65 < cLine) (ha : FE X E a fa) (hb : FE X E b fb) (hm : behindInMarks .In b = false := by rfl) : FE X E (.Compare a [.In] [b] pos) (fOp oIn fa fb) := f_cmp (op_in_seq.or ((op_inD hu).or (op_inDT hu))) opF_in ha hb hm
theorem f_notIn (hu : X.A.units + 65 < cLine) (ha : FE X E a fa) (hb : FE X E b fb) (hm : behindInMarks .NotIn b = false := by rfl) : FE X E (.Compare a [.NotIn] [b] pos) (fOp oNotIn fa fb) := f_cmp (op_notIn_seq.or ((op_notInD hu).or (op_notInDT hu))) opF_notIn ha hb hm
theorem ft_in (hu : X.A.units + 65 < cLine) (ha : FE X E a fa) (hb : FE X E b fb) (hm : behindInMarks .In b = false := by rfl) : FT X E (.Compare a [.In] [b] pos) (fB (fOp oIn fa fb)) := ft_cmp (op_in_seq.or ((op_inD hu).or (op_inDT hu))) opF_in ha hb hm
theorem ft_notIn (hu : X.A.units + 65 < cLine) (ha : FE X E a fa) (hb : FE X E b fb) (hm : behindInMarks .NotIn b = false := by rfl) : FT X E (.Compare a [.NotIn] [b] pos) (fB (fOp oNotIn fa fb)) := ft_cmp (op_notIn_seq.or ((op_notInD hu).or (op_notInDT hu))) opF_notIn ha hb hm
end
end As

namespace As
open PySem PySem.Spec PyProof.Rows L2
/-! ### displays -/
/-- items: plain data, if all are -/
def mkT (ws : List W) (S : Store) : Rs W := if ws.length ≤ 100000 then (match unDs ws with
  | some ds => .ok (.d (.tup ds)) S
  | none => .ok (.t ws) S) else .no
def mkL (b : Bool) (ws : List W) (S : Store) : Rs W := if ws.length ≤ 100000 then (match unDs ws with
  | some ds => newL b ds S
  | none => .no) else .no
section
variable {K : PySem.W.Frag} {mg : Str → Option Value}
theorem apF_tup : ApF K mg mkT (fun xs H Q => xs.length ≤ sizeLine ∧ ∀ p, H p = none → Q (.ref p) (upd H p (.tup xs))) := by
  intro M S H vs ws E Q rs r p
  unfold mkT at p
  by_cases hl : ws.length ≤ 100000
  · rw [if_pos hl] at p
    refine ⟨sl_of (by rw [r.length]; exact hl), fun q nq => ?_⟩
    cases hu : unDs ws with
    | some ds =>
      rw [hu] at p
      exact newT_ok rs nq (r.un hu) p
    | none =>
      rw [hu] at p
      have e := Ext.fz (M := M) (o := .tup vs) nq
      exact p M (.ref q) _ e (rs.fz nq) (.t (rs.fresh nq) upd_same (r.ext e))
  · rw [if_neg hl] at p
    exact (show False from p).elim
theorem apF_lst {b : Bool} : ApF K mg (mkL b) (fun xs H Q => xs.length ≤ sizeLine ∧ ∀ p, H p = none → Q (.ref p) (upd H p (.lst xs))) := by
  intro M S H vs ws E Q rs r p
  unfold mkL at p
  by_cases hl : ws.length ≤ 100000
  · rw [if_pos hl] at p
    refine ⟨sl_of (by rw [r.length]; exact hl), fun q nq => ?_⟩
    cases hu : unDs ws with
    | some ds =>
      rw [hu] at p
      exact newL_ok rs nq (r.un hu) p
    | none =>
      rw [hu] at p
      exact (show False from p).elim
  · rw [if_neg hl] at p
    exact (show False from p).elim
end
section
variable {X : Cx} {E : L2.St → XK} {a b c : Expr} {es : List Expr} {fa fb fc : Env → Store → Rs W} {fs : Env → Store → Rs (List W)} {pos : Pos}
theorem f_tup {x1} (h : FA X E es fs) : FE X E (.Tuple es x1 pos) (fApp mkT fs) := PE.imp (pe_tup h) (fApp_imp apF_tup)
theorem f_lst (b : Bool) (h : FA X E es fs) : FE X E (.List es pos) (fApp (mkL b) fs) := PE.imp (pe_lst h) (fApp_imp apF_lst)
end
/-! ### an item, a slice, a length -/
/-- what a value holds in order -/
def itW (S : Store) : W → Option (List W)
  | .d (.lst ds) => some (ds.map .d)
  | .d (.tup ds) => some (ds.map .d)
  | .t ws => some ws
  | .c k => match S[k]? with
    | some (.l ds) => some (ds.map .d)
    | some (.w ws) => some ws
    | _ => none
  | .s ns => some (ns.map fun i => .d (.int i))
  | _ => none
section
variable {K : PySem.W.Frag} {mg : Str → Option Value} {M : Mp} {H : Hp}
theorem rws_ints : ∀ ns : List Int, RWs K M H (ns.map V.int) (ns.map fun i => W.d (.int i))
  | [] => .nil
  | n :: ns => .cons (.d (.int n)) (rws_ints ns)
theorem itW_ok {S : Store} {v : V} {w : W} {ws : List W} (rs : RS K M S H) (r : RW K M H v w) (h : itW S w = some ws) : ∃ a xs, v = .ref a ∧ (SqL K H a xs ∨ SqT K H a xs) ∧ RWs K M H xs ws := by
  cases r with
  | d rd =>
    cases rd with
    | tup n t =>
      have h' := Option.some.inj h
      subst h'
      exact ⟨_, _, rfl, .inr n.sq, t.ws⟩
    | lst n t =>
      have h' := Option.some.inj h
      subst h'
      exact ⟨_, _, rfl, .inl n.sq, t.ws⟩
    | _ => cases h
  | t n ha t =>
    have h' := Option.some.inj h
    subst h'
    exact ⟨_, _, rfl, .inr (SqT.of ha), t⟩
  | @c k a ha =>
    cases hs : S[k]? with
    | none => rw [itW, hs] at h; cases h
    | some c =>
      rw [itW, hs] at h
      cases c with
      | l ds =>
        have h' := Option.some.inj h
        subst h'
        obtain ⟨xs, h1, h2⟩ := rs.ok k a _ ha hs
        exact ⟨a, xs, rfl, .inl (SqL.of h1), h2.ws⟩
      | w ds =>
        have h' := Option.some.inj h
        subst h'
        obtain ⟨xs, h1, h2⟩ := rs.ok k a _ ha hs
        exact ⟨a, xs, rfl, .inl (SqL.of h1), h2⟩
      | _ => cases h
  | g _ => cases h
  | j _ => cases h
  | @s a ns hs =>
    have h' := Option.some.inj h
    subst h'
    exact ⟨a, _, rfl, .inl (hs.elim (fun z => .inl z.2) .inr), rws_ints ns⟩
/-- the i-th, from the end where i is below nought -/
def oIx : O2 := fun x y S => match y with
  | .d (.int i) => match itW S x with
    | some ws => match atI ws i with
      | some w => .ok w S
      | none => .no
    | none => .no
  | _ => .no
theorem atI_rws {xs : List V} {ws : List W} {i : Int} {w : W} (r : RWs K M H xs ws) (h : atI ws i = some w) : ∃ v, atI xs i = some v ∧ RW K M H v w := by
  unfold atI at h ⊢
  rw [r.length]
  cases hj : ixN ws.length i with
  | none => rw [hj] at h; cases h
  | some j =>
    rw [hj] at h
    have h' : ws[j]? = some w := h
    obtain ⟨v, h1, h2⟩ := r.get h'
    exact ⟨v, h1, h2⟩
theorem opF_ix : OpF K mg oIx (fun x y H Q => rIxL K x y H Q ∨ rIxT K x y H Q) := by
  intro M S H v u x y E Q rs rx ry p
  unfold oIx at p
  split at p
  · rename_i i
    cases hi : itW S x with
    | none => rw [hi] at p; exact (show False from p).elim
    | some ws =>
      rw [hi] at p
      cases hw : atI ws i with
      | none => dsimp only at p; rw [hw] at p; exact (show False from p).elim
      | some w =>
        dsimp only at p
        rw [hw] at p
        obtain ⟨a, xs, rfl, hq, r⟩ := itW_ok rs rx hi
        obtain ⟨z, hz, rz⟩ := atI_rws r hw
        rcases hq with hq | hq
        · exact .inl ⟨a, xs, i, z, rfl, ry.i_, hq, hz, p.ret rs rz⟩
        · exact .inr ⟨a, xs, i, z, rfl, ry.i_, hq, hz, p.ret rs rz⟩
  · exact (show False from p).elim
/-- len -/
def aLen : OA := fun xs S => match xs with
  | [x] => match itW S x with
    | some ws => .ok (.d (.int ws.length)) S
    | none => .no
  | _ => .no
theorem apF_len : ApF K mg aLen (fun xs H Q => ∃ p ys, xs = [.ref p] ∧ (SqL K H p ys ∨ SqT K H p ys) ∧ Q (.int ys.length) H) := by
  intro M S H vs ws E Q rs r p
  unfold aLen at p
  split at p
  · rename_i x
    cases r with
    | cons rx rr =>
      cases rr
      cases hi : itW S x with
      | none => rw [hi] at p; exact (show False from p).elim
      | some ws =>
        rw [hi] at p
        obtain ⟨a, xs, rfl, hq, r⟩ := itW_ok rs rx hi
        refine ⟨a, xs, rfl, hq, ?_⟩
        rw [r.length]
        exact p.ret rs (.d (.int _))
  · exact (show False from p).elim
/-- list(..), tuple(..) -/
def aList (b : Bool) : OA := fun xs S => match xs with
  | [x] => match itW S x with
    | some ws => match unDs ws with
      | some ds => newL b ds S
      | none => .no
    | none => .no
  | _ => .no
theorem apF_list {b : Bool} : ApF K mg (aList b) (fun xs H Q => ∃ p ys, xs = [.ref p] ∧ (SqL K H p ys ∨ SqT K H p ys) ∧ ∀ l, H l = none → Q (.ref l) (upd H l (.lst ys))) := by
  intro M S H vs ws E Q rs r p
  unfold aList at p
  split at p
  · rename_i x
    cases r with
    | cons rx rr =>
      cases rr
      cases hi : itW S x with
      | none => rw [hi] at p; exact (show False from p).elim
      | some ws =>
        rw [hi] at p
        cases hu : unDs ws with
        | none => dsimp only at p; rw [hu] at p; exact (show False from p).elim
        | some ds =>
          dsimp only at p
          rw [hu] at p
          obtain ⟨a, xs, rfl, hq, r⟩ := itW_ok rs rx hi
          exact ⟨a, xs, rfl, hq, fun l nl => newL_ok rs nl (r.un hu) p⟩
  · exact (show False from p).elim
def aTuple : OA := fun xs S => match xs with
  | [x] => match x with
    | .d (.tup ds) => .ok (.d (.tup ds)) S
    | _ => match itW S x with
      | some ws => match unDs ws with
        | some ds => newT ds S
        | none => .no
      | none => .no
  | _ => .no
theorem apF_tuple : ApF K mg aTuple (fun xs H Q => ∃ p ys, xs = [.ref p] ∧ ((SqL K H p ys ∧ ∀ l, H l = none → Q (.ref l) (upd H l (.tup ys))) ∨ (SqT K H p ys ∧ Q (.ref p) H))) := by
  intro M S H vs ws E Q rs r p
  unfold aTuple at p
  split at p
  · rename_i x
    cases r with
    | cons rx rr =>
      cases rr
      cases rx with
      | d rd =>
        cases rd with
        | tup n t => exact ⟨_, _, rfl, .inr ⟨n.sq, p.ret rs (.d (.tup n t))⟩⟩
        | lst n t =>
          have p' : Post K mg M H E (RWK K) Q (match unDs ((_ : List D).map W.d) with
            | some ds => newT ds S
            | none => .no) := p
          rw [unDs_map] at p'
          exact ⟨_, _, rfl, .inl ⟨n.sq, fun l nl => newT_ok rs nl t p'⟩⟩
        | _ => exact (show False from p).elim
      | @t a xs ws n ha t =>
        have p' : Post K mg M H E (RWK K) Q (match unDs ws with
          | some ds => newT ds S
          | none => .no) := p
        cases hu : unDs ws with
        | none => rw [hu] at p'; exact (show False from p').elim
        | some ds =>
          rw [hu] at p'
          exact ⟨_, _, rfl, .inr ⟨SqT.of ha, p'.ret rs (.d (.tup (.inl ⟨n, .inl ha⟩) (t.un hu)))⟩⟩
      | @c k a ha =>
        have p' : Post K mg M H E (RWK K) Q (match itW S (.c k) with
          | some ws => match unDs ws with
            | some ds => newT ds S
            | none => .no
          | none => .no) := p
        cases hs : S[k]? with
        | none => rw [itW, hs] at p'; exact (show False from p').elim
        | some c =>
          rw [itW, hs] at p'
          cases c with
          | l ds =>
            dsimp only at p'
            rw [unDs_map] at p'
            obtain ⟨xs, h1, h2⟩ := rs.ok k a _ ha hs
            exact ⟨a, xs, rfl, .inl ⟨SqL.of h1, fun l nl => newT_ok rs nl h2 p'⟩⟩
          | w ws =>
            dsimp only at p'
            cases hu : unDs ws with
            | none => rw [hu] at p'; exact (show False from p').elim
            | some ds =>
              rw [hu] at p'
              obtain ⟨xs, h1, h2⟩ := rs.ok k a _ ha hs
              exact ⟨a, xs, rfl, .inl ⟨SqL.of h1, fun l nl => newT_ok rs nl (h2.un hu) p'⟩⟩
          | _ => exact (show False from p').elim
      | g _ => exact (show False from p).elim
      | j _ => exact (show False from p).elim
      | @s a ns hs =>
        have p' : Post K mg M H E (RWK K) Q (match unDs (ns.map fun i => W.d (.int i)) with
          | some ds => newT ds S
          | none => .no) := p
        cases hu : unDs (ns.map fun i => W.d (.int i)) with
        | none => rw [hu] at p'; exact (show False from p').elim
        | some ds =>
          rw [hu] at p'
          exact ⟨a, _, rfl, .inl ⟨hs.elim (fun z => .inl z.2) .inr, fun l nl => newT_ok rs nl ((rws_ints ns).un hu) p'⟩⟩
  · exact (show False from p).elim
/-- int(..) of a number, a truth; bool(..) -/
def aInt : OA := fun xs S => match xs with
  | [.d (.int i)] => .ok (.d (.int i)) S
  | [.d (.bl b)] => .ok (.d (.int (if b then 1 else 0))) S
  | _ => .no
/-- all, any -/
def unBs : List W → Option (List Bool)
  | [] => some []
  | .d (.bl b) :: ws => (unBs ws).map (b :: ·)
  | _ => none
theorem unBs_map (bs : List Bool) : unBs (bs.map fun b => W.d (.bl b)) = some bs := by
  induction bs with
  | nil => rfl
  | cons b bs ih => show (unBs (bs.map fun b => W.d (.bl b))).map (b :: ·) = _; rw [ih]; rfl
theorem RWs.bs : ∀ {vs : List V} {ws : List W} {bs : List Bool}, RWs K M H vs ws → unBs ws = some bs → vs = bs.map V.bl
  | _, _, bs, .nil, e => by cases e; rfl
  | _, _, bs, .cons (d := w) (ds := ws') h t, e => by
    cases h with
    | d rd =>
      cases rd with
      | bl b =>
        have e' : (unBs ws').map (b :: ·) = some bs := e
        cases q : unBs ws' with
        | none => rw [q] at e'; cases e'
        | some cs =>
          rw [q] at e'
          cases e'
          rw [List.map_cons, t.bs q]
      | _ => cases e
    | _ => cases e
/-- lists alone -/
def liW (S : Store) : W → Option (List W)
  | .d (.lst ds) => some (ds.map .d)
  | .c k => match S[k]? with
    | some (.l ds) => some (ds.map .d)
    | some (.w ws) => some ws
    | _ => none
  | _ => none
theorem liW_ok {S : Store} {v : V} {w : W} {ws : List W} (rs : RS K M S H) (r : RW K M H v w) (h : liW S w = some ws) : ∃ a xs, v = .ref a ∧ H a = some (.lst xs) ∧ RWs K M H xs ws := by
  cases r with
  | d rd =>
    cases rd with
    | lst n t =>
      have h' := Option.some.inj h
      subst h'
      exact ⟨_, _, rfl, n.2, t.ws⟩
    | _ => cases h
  | @c k a ha =>
    cases hs : S[k]? with
    | none => rw [liW, hs] at h; cases h
    | some c =>
      rw [liW, hs] at h
      cases c with
      | l ds =>
        have h' := Option.some.inj h
        subst h'
        obtain ⟨xs, h1, h2⟩ := rs.ok k a _ ha hs
        exact ⟨a, xs, rfl, h1, h2.ws⟩
      | w ds =>
        have h' := Option.some.inj h
        subst h'
        obtain ⟨xs, h1, h2⟩ := rs.ok k a _ ha hs
        exact ⟨a, xs, rfl, h1, h2⟩
      | _ => cases h
  | t _ _ _ => cases h
  | g _ => cases h
  | j _ => cases h
  | s _ => cases h
def aAll : OA := fun xs S => match xs with
  | [x] => match liW S x with
    | some ws => match unBs ws with
      | some bs => .ok (.d (.bl (bs.all id))) S
      | none => .no
    | none => .no
  | _ => .no
def aAny : OA := fun xs S => match xs with
  | [x] => match liW S x with
    | some ws => match unBs ws with
      | some bs => .ok (.d (.bl (bs.any id))) S
      | none => .no
    | none => .no
  | _ => .no
theorem apF_all : ApF K mg aAll (rAll K) := by
  intro M S H vs ws E Q rs r p
  unfold aAll at p
  split at p
  · rename_i x
    cases r with
    | cons rx rr =>
      cases rr
      cases hi : liW S x with
      | none => rw [hi] at p; exact (show False from p).elim
      | some ws =>
        rw [hi] at p
        dsimp only at p
        cases hb : unBs ws with
        | none => rw [hb] at p; exact (show False from p).elim
        | some bs =>
          rw [hb] at p
          obtain ⟨a, xs, rfl, hq, r⟩ := liW_ok rs rx hi
          have e := r.bs hb
          subst e
          exact ⟨a, bs, rfl, .inl (.inl hq), p.ret rs (.d (.bl _))⟩
  · exact (show False from p).elim
theorem apF_any : ApF K mg aAny (rAny K) := by
  intro M S H vs ws E Q rs r p
  unfold aAny at p
  split at p
  · rename_i x
    cases r with
    | cons rx rr =>
      cases rr
      cases hi : liW S x with
      | none => rw [hi] at p; exact (show False from p).elim
      | some ws =>
        rw [hi] at p
        dsimp only at p
        cases hb : unBs ws with
        | none => rw [hb] at p; exact (show False from p).elim
        | some bs =>
          rw [hb] at p
          obtain ⟨a, xs, rfl, hq, r⟩ := liW_ok rs rx hi
          have e := r.bs hb
          subst e
          exact ⟨a, bs, rfl, .inl (.inl hq), p.ret rs (.d (.bl _))⟩
  · exact (show False from p).elim
theorem apF_int : ApF K mg aInt (fun xs H Q => (∃ i, xs = [.int i] ∧ Q (.int i) H) ∨ (∃ b, xs = [.bl b] ∧ Q (.int (if b then 1 else 0)) H)) := by
  intro M S H vs ws E Q rs r p
  unfold aInt at p
  split at p
  · cases r with
    | cons rx rr =>
      cases rr
      exact .inl ⟨_, by rw [rx.i_], p.ret rs (.d (.int _))⟩
  · cases r with
    | cons rx rr =>
      cases rr
      exact .inr ⟨_, by rw [rx.b_], p.ret rs (.d (.int _))⟩
  · exact (show False from p).elim
/-- isinstance(x, T), T a built-in class -/
def isTy (n : String) : D → Bool := fun d => (kitB (tyD d) n).getD false
def knownTy (n : String) : Bool := n == "int" || n == "bool" || n == "str" || n == "tuple" || n == "list"
theorem kit_known {n : String} (h : knownTy n = true) (d : D) : kitB (tyD d) n = some (isTy n d) := by
  unfold knownTy at h
  simp only [Bool.or_eq_true, beq_iff_eq] at h
  unfold isTy
  rcases h with (((h | h) | h) | h) | h
  · subst h; rw [kit_int]; rfl
  · subst h; rw [kit_bool]; rfl
  · subst h; rw [kit_str]; rfl
  · subst h; rw [kit_tup]; rfl
  · subst h; rw [kit_lst]; rfl
theorem RD.ty {v : V} {d : D} (r : RD K M H v d) : TyX K H v (.type (tyD d)) := by
  cases r with
  | non => exact .base .non
  | bl b => exact .base (.bl b)
  | int i => exact .base (.int i)
  | str z => exact .base (.str z)
  | tup n t =>
    rcases n with ⟨_, n | ⟨o, n⟩⟩ | ⟨o, its, k, hk, hc, _⟩
    · exact .base (.tup n)
    · exact .fTuple n
    · exact .kTuple hk hc
  | lst n t =>
    exact .base (.lst n.2)
  | dct n h => exact .base (.dK h)
def aIsi : OA := fun xs S => match xs with
  | [x, .g (.ty n)] => match rdW S x with
    | some d => if knownTy n then .ok (.d (.bl (isTy n d))) S else .no
    | none => .no
  | _ => .no
theorem rdW_ty {S : Store} {v : V} {w : W} {d : D} (rs : RS K M S H) (r : RW K M H v w) (h : rdW S w = some d) : TyX K H v (.type (tyD d)) := by
  cases r with
  | d rd =>
    have h' := Option.some.inj h
    subst h'
    exact rd.ty
  | @c k a ha =>
    cases hs : S[k]? with
    | none => rw [rdW, hs] at h; cases h
    | some c =>
      rw [rdW, hs] at h
      cases c with
      | l ds =>
        have h' := Option.some.inj h
        subst h'
        obtain ⟨xs, h1, h2⟩ := rs.ok k a _ ha hs
        exact .base (.lst h1)
      | _ => cases h
  | @t a xs ws nl ha t =>
    cases hu : unDs ws with
    | none => rw [rdW, hu] at h; cases h
    | some ds =>
      rw [rdW, hu] at h
      have h' := Option.some.inj h
      subst h'
      exact .base (.tup ha)
  | g _ => cases h
  | j _ => cases h
  | s _ => cases h
theorem apF_isi : ApF K mg aIsi (rIsi K) := by
  intro M S H vs ws E Q rs r p
  unfold aIsi at p
  split at p
  · rename_i x n
    cases r with
    | cons rx rr =>
      cases rr with
      | cons ry rr =>
        cases rr
        cases ry
        cases hd : rdW S x with
        | none => rw [hd] at p; exact (show False from p).elim
        | some d =>
          rw [hd] at p
          dsimp only at p
          by_cases hk : knownTy n = true
          · rw [if_pos hk] at p
            exact ⟨_, .ty n, _, _, _, rfl, .ty n, rdW_ty rs rx hd, kit_ty (kit_known hk d), p.ret rs (.d (.bl _))⟩
          · rw [if_neg hk] at p
            exact (show False from p).elim
  · exact (show False from p).elim
/-! ### put together -/
def oCatL (b : Bool) : O2 := fun x y S => match liW S x, liW S y with
  | some us, some ws => match unDs us, unDs ws with
    | some ds, some es => if ds.length + es.length ≤ 100000 then newL b (ds ++ es) S else .no
    | _, _ => .no
  | _, _ => .no
theorem opF_catL {b : Bool} : OpF K mg (oCatL b) rCat := by
  intro M S H v u x y E Q rs rx ry p
  unfold oCatL at p
  cases h1 : liW S x with
  | none => rw [h1] at p; exact (show False from p).elim
  | some us =>
    cases h2 : liW S y with
    | none => rw [h1, h2] at p; exact (show False from p).elim
    | some ws =>
      rw [h1, h2] at p
      dsimp only at p
      cases h3 : unDs us with
      | none => rw [h3] at p; exact (show False from p).elim
      | some ds =>
        cases h4 : unDs ws with
        | none => rw [h3, h4] at p; exact (show False from p).elim
        | some es =>
          rw [h3, h4] at p
          dsimp only at p
          by_cases hl : ds.length + es.length ≤ 100000
          · rw [if_pos hl] at p
            obtain ⟨a, xs, rfl, ha, ra⟩ := liW_ok rs rx h1
            obtain ⟨c, zs, rfl, hc, rc⟩ := liW_ok rs ry h2
            have ta := ra.un h3
            have tc := rc.un h4
            exact ⟨a, c, xs, zs, rfl, rfl, ha, hc, sl_of (by rw [ta.length, tc.length]; exact hl), fun q nq => newL_ok rs nq (ta.append tc) p⟩
          · rw [if_neg hl] at p
            exact (show False from p).elim
def oCatT : O2 := fun x y S => match x, y with
  | .d (.tup ds), .d (.tup es) => if ds.length + es.length ≤ 100000 then newT (ds ++ es) S else .no
  | _, _ => .no
theorem opF_catT : OpF K mg oCatT (rCatA K) := by
  intro M S H v u x y E Q rs rx ry p
  unfold oCatT at p
  split at p
  · rename_i ds es
    by_cases hl : ds.length + es.length ≤ 100000
    · rw [if_pos hl] at p
      obtain ⟨a, xs, rfl, ha, ta⟩ := rx.t_
      obtain ⟨c, zs, rfl, hc, tc⟩ := ry.t_
      refine ⟨a, c, xs, zs, rfl, rfl, ha.sq, hc.sq, sl_of (by rw [ta.length, tc.length]; exact hl), fun e => ?_, fun _ e => ?_, fun _ _ q nq => newT_ok rs nq (ta.append tc) p⟩
      · subst e
        cases ta
        exact p.ret rs (.d (.tup hc tc))
      · subst e
        cases tc
        rw [List.append_nil] at p
        exact p.ret rs (.d (.tup ha ta))
    · rw [if_neg hl] at p
      exact (show False from p).elim
  · exact (show False from p).elim
/-- a list, so many times -/
def oRepL (b : Bool) : O2 := fun x y S => match liW S x, y with
  | some us, .d (.int k) => match unDs us with
    | some ds => if -(2 ^ 63) ≤ k ∧ k < 2 ^ 63 ∧ ds.length * k.toNat ≤ 100000 then newL b (List.replicate k.toNat ds).flatten S else .no
    | _ => .no
  | _, _ => .no
/-! ### cut out -/
/-- the cut of plain data, texts aside -/
def cutD (ds : List D) (lo hi : Option Int) : List D := (ds.drop (HT.sIx ds.length 0 lo)).take (HT.sIx ds.length ds.length hi - HT.sIx ds.length 0 lo)
theorem RDs.cutV {xs : List V} {ds : List D} (h : RDs K M H xs ds) (lo hi : Option Int) : RDs K M H (L2.cutV xs lo hi) (cutD ds lo hi) := by
  unfold L2.cutV cutD
  rw [h.length]
  exact (h.drop _).take _
abbrev OS := W → Option Int → Option Int → Store → Rs W
def SlF (K : PySem.W.Frag) (mg : Str → Option Value) (g : OS) (r : V → Option Int → Option Int → Hp → VK → Prop) : Prop := ∀ M S H v x lo hi E Q, RS K M S H → RW K M H v x → Post K mg M H E (RWK K) Q (g x lo hi S) → r v lo hi H Q
def oSlT : OS := fun x lo hi S => match x with
  | .d (.tup ds) => newT (cutD ds lo hi) S
  | _ => .no
def laW (S : Store) : W → Option (List W)
  | .s ns => some (ns.map fun i => .d (.int i))
  | w => liW S w
theorem laW_ok {S : Store} {v : V} {w : W} {ws : List W} (rs : RS K M S H) (r : RW K M H v w) (h : laW S w = some ws) : ∃ a xs, v = .ref a ∧ SqL K H a xs ∧ RWs K M H xs ws := by
  cases r with
  | @s a ns hs =>
    have h' := Option.some.inj h
    subst h'
    exact ⟨a, _, rfl, hs.elim (fun z => .inl z.2) .inr, rws_ints ns⟩
  | d rd =>
    obtain ⟨a, xs, e, q, r⟩ := liW_ok rs (.d rd) h
    exact ⟨a, xs, e, .inl (.inl q), r⟩
  | c ha =>
    obtain ⟨a, xs, e, q, r⟩ := liW_ok rs (.c ha) h
    exact ⟨a, xs, e, .inl (.inl q), r⟩
  | t _ _ _ => cases h
  | g _ => cases h
  | j _ => cases h
def oSlL (b : Bool) : OS := fun x lo hi S => match laW S x with
  | some ws => match unDs ws with
    | some ds => newL b (cutD ds lo hi) S
    | none => .no
  | none => .no
theorem slF_T : SlF K mg oSlT (rSlA K) := by
  intro M S H v x lo hi E Q rs rx p
  unfold oSlT at p
  split at p
  · rename_i ds
    obtain ⟨a, xs, rfl, ha, ta⟩ := rx.t_
    refine ⟨a, xs, rfl, ha.sq, fun e => ?_, fun _ q nq => newT_ok rs nq (ta.cutV lo hi) p⟩
    have hc : cutD ds lo hi = ds := by
      unfold cutD
      rw [← ta.length, e.1, e.2, List.drop_zero, Nat.sub_zero, List.take_of_length_le (by rw [ta.length]; exact Nat.le_refl _)]
    rw [hc] at p
    exact p.ret rs (.d (.tup ha ta))
  · exact (show False from p).elim
theorem slF_L {b : Bool} : SlF K mg (oSlL b) (rSlL K) := by
  intro M S H v x lo hi E Q rs rx p
  unfold oSlL at p
  cases h1 : laW S x with
  | none => rw [h1] at p; exact (show False from p).elim
  | some ws =>
    rw [h1] at p
    dsimp only at p
    cases h2 : unDs ws with
    | none => rw [h2] at p; exact (show False from p).elim
    | some ds =>
      rw [h2] at p
      obtain ⟨a, xs, rfl, ha, ra⟩ := laW_ok rs rx h1
      exact ⟨a, xs, rfl, ha, fun q nq => newL_ok rs nq ((ra.un h2).cutV lo hi) p⟩
end
/-- a part of a slice -/
def pNo : Env → Store → Rs (Option Int) := fun _ S => .ok none S
def pSo (fa : Env → Store → Rs W) : Env → Store → Rs (Option Int) := fun ρ S => (fa ρ S).bind fun x S1 => match x with
  | .d (.int i) => .ok (some i) S1
  | _ => .no
abbrev RI : Mp → Hp → Option Int → Option Int → Prop := fun _ _ a b => a = b
section
variable {X : Cx} {E : L2.St → XK} {a b c : Expr} {es : List Expr} {fa fb fc : Env → Store → Rs W} {fs : Env → Store → Rs (List W)} {pos : Pos}
abbrev FO (X : Cx) (E : L2.St → XK) (e : Option Expr) (f : Env → Store → Rs (Option Int)) : Prop := PO X e (tG X.K X.mg E RI f)
theorem fo_no : FO X E none pNo := PO.imp po_none fun σ H Q h => by
  obtain ⟨M, ρ, S, rs, ro, p⟩ := h
  exact Post.ret (R := RI) rs rfl p
theorem fo_so (h : FE X E a fa) : FO X E (some a) (pSo fa) := PO.imp (po_some h) fun σ H Q h => by
  refine tG.bind (R := RWK X.K) (R' := RI) (g := fun _ x S1 => match x with
    | .d (.int i) => .ok (some i) S1
    | _ => .no) h fun v H1 M1 ρ x S1 rs ro r p => ?_
  cases r with
  | d rd =>
    cases rd with
    | int i => exact ⟨i, rfl, Post.ret (R := RI) rs rfl p⟩
    | _ => exact (show False from p).elim
  | _ => exact (show False from p).elim
def fSl (g : OS) (fa : Env → Store → Rs W) (fl fh : Env → Store → Rs (Option Int)) : Env → Store → Rs W := fun ρ S => (fa ρ S).bind fun x S1 => (fl ρ S1).bind fun lo S2 => (fh ρ S2).bind fun hi S3 => g x lo hi S3
theorem f_sl {r : V → Option Int → Option Int → Hp → VK → Prop} {g : OS} {lo hi : Option Expr} {fl fh : Env → Store → Rs (Option Int)} {p2 : Pos} (hr : SlR X r) (hg : SlF X.K X.mg g r) (he : FE X E a fa) (hl : FO X E lo fl) (hh : FO X E hi fh) :
    FE X E (.Subscript a (.Slice lo hi none p2) pos) (fSl g fa fl fh) := by
  refine PE.imp (pe_slice hr he hl hh) ?_
  rintro σ H Q ⟨M, ρ, S, rs, ro, p⟩
  refine ⟨M, ρ, S, rs, ro, Post.map (fun vx H1 q => ?_) (Post.bindE (R := RWK X.K) p)⟩
  obtain ⟨M1, x, S1, e1, rs1, rx, p1⟩ := q
  refine ⟨M1, ρ, S1, rs1, ro.ext e1, Post.map (fun vl H2 q => ?_) (Post.bindE (R := RI) p1)⟩
  obtain ⟨M2, l, S2, e2, rs2, rl, p2⟩ := q
  refine ⟨M2, ρ, S2, rs2, (ro.ext e1).ext e2, Post.map (fun vh H3 q => ?_) (Post.bindE (R := RI) p2)⟩
  obtain ⟨M3, h, S3, e3, rs3, rh, p3⟩ := q
  have rl' : vl = l := rl
  have rh' : vh = h := rh
  subst rl' rh'
  exact hg M3 S3 H3 vx x vl vh (E σ) Q rs3 ((RW.ext e2 rx).ext e3) p3
theorem f_slT {lo hi : Option Expr} {fl fh : Env → Store → Rs (Option Int)} {p2 : Pos} (he : FE X E a fa) (hl : FO X E lo fl) (hh : FO X E hi fh) : FE X E (.Subscript a (.Slice lo hi none p2) pos) (fSl oSlT fa fl fh) := f_sl sl_tupA slF_T he hl hh
theorem f_slL (b : Bool) {lo hi : Option Expr} {fl fh : Env → Store → Rs (Option Int)} {p2 : Pos} (he : FE X E a fa) (hl : FO X E lo fl) (hh : FO X E hi fh) : FE X E (.Subscript a (.Slice lo hi none p2) pos) (fSl (oSlL b) fa fl fh) := f_sl sl_list slF_L he hl hh
theorem f_idx (ha : FE X E a fa) (hb : FE X E b fb) (hs : PlainIx b := by exact fun _ _ => rfl) : FE X E (.Subscript a b pos) (fOp oIx fa fb) := f_ix (ix_list.or ix_tup) opF_ix ha hb hs
theorem f_catL (b' : Bool) (ha : FE X E a fa) (hb : FE X E b fb) : FE X E (.BinOp a .Add b pos) (fOp (oCatL b') fa fb) := f_op op_cat opF_catL ha hb
theorem f_catT (ha : FE X E a fa) (hb : FE X E b fb) : FE X E (.BinOp a .Add b pos) (fOp oCatT fa fb) := f_op op_catA opF_catT ha hb
end
/-! ### a list's methods, on a cell -/
abbrev OM := W → List W → Store → Rs W
def MtF (K : PySem.W.Frag) (mg : Str → Option Value) (T : String) (g : OM) (r : V → List V → Hp → VK → Prop) : Prop := ∀ M S H v x vs ws E Q, RS K M S H → RW K M H v x → RWs K M H vs ws → Post K mg M H E (RWK K) Q (g x ws S) → r v vs H Q
def fMt (k : W → Store → Prop) [∀ x S, Decidable (k x S)] (g : OM) (fa : Env → Store → Rs W) (fs : Env → Store → Rs (List W)) : Env → Store → Rs W := fun ρ S => (fa ρ S).bind fun x S1 => if k x S1 then (fs ρ S1).bind fun xs S2 => g x xs S2 else .no
def isCl (x : W) (S : Store) : Bool := (liW S x).isSome
section
variable {K : PySem.W.Frag} {mg : Str → Option Value} {M : Mp} {H : Hp}
theorem isCl_ty {S : Store} {x : W} {v : V} (rs : RS K M S H) (r : RW K M H v x) (h : isCl x S = true) : tyV K "list" v H := by
  unfold isCl at h
  obtain ⟨ws, hw⟩ := Option.isSome_iff_exists.mp h
  obtain ⟨a, xs, rfl, hq, _⟩ := liW_ok rs r hw
  exact .inl ⟨rfl, xs, .inl (.inl hq)⟩
end
section
variable {X : Cx} {E : L2.St → XK} {a b c : Expr} {es : List Expr} {fa fb fc : Env → Store → Rs W} {fs : Env → Store → Rs (List W)} {pos apos : Pos}
theorem fMt_imp {K : PySem.W.Frag} {mg : Str → Option Value} {g : OM} {r : V → List V → Hp → VK → Prop} (hg : MtF K mg "list" g r) : ∀ σ H Q, tG K mg E (RWK K) (fMt (fun x S => isCl x S = true) g fa fs) σ H Q → tBM K "list" r (tG K mg E (RWK K) fa) (tG K mg E (RWsK K) fs) σ H Q := by
  rintro σ H Q ⟨M, ρ, S, rs, ro, p⟩
  refine ⟨M, ρ, S, rs, ro, Post.map (fun vx H1 q => ?_) (Post.bindE (R := RWK K) p)⟩
  obtain ⟨M1, x, S1, e1, rs1, rx, p1⟩ := q
  by_cases hk : isCl x S1 = true
  · rw [if_pos hk] at p1
    refine ⟨isCl_ty rs1 rx hk, M1, ρ, S1, rs1, ro.ext e1, Post.map (fun vl H2 q => ?_) (Post.bindE (R := RWsK K) p1)⟩
    obtain ⟨M2, l, S2, e2, rs2, rl, p2⟩ := q
    exact hg M2 S2 H2 vx x vl l (E σ) Q rs2 (RW.ext e2 rx) rl p2
  · rw [if_neg hk] at p1
    exact (show False from p1).elim
theorem fMt0_imp {K : PySem.W.Frag} {mg : Str → Option Value} {g : OM} {r : V → List V → Hp → VK → Prop} (hg : MtF K mg "list" g r) : ∀ σ H Q, tG K mg E (RWK K) (fMt (fun x S => isCl x S = true) g fa aNil) σ H Q → tBM0 K "list" r (tG K mg E (RWK K) fa) σ H Q := by
  rintro σ H Q ⟨M, ρ, S, rs, ro, p⟩
  refine ⟨M, ρ, S, rs, ro, Post.map (fun vx H1 q => ?_) (Post.bindE (R := RWK K) p)⟩
  obtain ⟨M1, x, S1, e1, rs1, rx, p1⟩ := q
  by_cases hk : isCl x S1 = true
  · rw [if_pos hk] at p1
    exact ⟨isCl_ty rs1 rx hk, hg M1 S1 H1 vx x [] [] (E σ) Q rs1 rx .nil p1⟩
  · rw [if_neg hk] at p1
    exact (show False from p1).elim
/-- xs.append(e) -/
def mApp : OM := fun x ws S => match x, ws with
  | .c k, [.d d] => match S[k]? with
    | some (.l ds) => if ds.length < 100000 then .ok (.d .non) (S.set k (.l (ds ++ [d]))) else .no
    | _ => .no
  | _, _ => .no
theorem mtF_app {K : PySem.W.Frag} {mg : Str → Option Value} : MtF K mg "list" mApp rAppend := by
  intro M S H v x vs ws E Q rs rx r p
  unfold mApp at p
  split at p
  · rename_i k d
    obtain ⟨a, rfl, ha⟩ := rx.c_
    cases r with
    | cons ry rr =>
      cases rr
      cases hs : S[k]? with
      | none => rw [hs] at p; exact (show False from p).elim
      | some c =>
        rw [hs] at p
        cases c with
        | l ds =>
          dsimp only at p
          by_cases hl : ds.length < 100000
          · rw [if_pos hl] at p
            obtain ⟨xs, h1, h2⟩ := rs.ok k a _ ha hs
            have hz := h2.length
            refine ⟨a, xs, _, rfl, rfl, h1, sl_lt (by omega), ?_⟩
            obtain ⟨rs2, e2⟩ := rs.put (o := .lst (xs ++ [_])) (c := .l (ds ++ [d])) ha fun e => ⟨_, upd_same, (h2.append (.cons ry.d_ .nil)).ext e⟩
            exact p M .non _ e2 rs2 (.d .non)
          · rw [if_neg hl] at p
            exact (show False from p).elim
        | _ => exact (show False from p).elim
  · exact (show False from p).elim
theorem f_mt {name : Str} {id : String} {r : V → List V → Hp → VK → Prop} {g : OM} (slot : Slot "list" name id) (hty : typeOf (.builtin id) = pure (.type "method_descriptor")) (hm : MtR X id r) (hg : MtF X.K X.mg "list" g r) (ho : FE X E a fa) (ha : FA X E (b :: es) fs)
    (hbase : attributeBase a name X.env (eval a X.env) = eval a X.env := by rfl)
    (hfew : ((backTo pos (starEach (b :: es) X.env)).all (fun x => !x.1) && (backToKw pos (keywordEach [] X.env)).all (fun x => x.1.isSome)
      && decide ((b :: es).length + ([] : List Keyword).length + (if ([] : List Keyword).isEmpty then 0 else 1) < 30)) = true := by rfl)
    (hline : (apos.endLine == pos.line) = true := by rfl) (hs : starEach (b :: es) X.env = (false, eval b X.env) :: starEach es X.env := by rfl) (hplain : (backTo pos (starEach es X.env)).any (·.1) = false := by rfl) :
    FE X E (.Call (.Attribute a name apos) (b :: es) [] pos) (fMt (fun x S => isCl x S = true) g fa fs) := PE.imp (pe_bm PySem.F.plainAttrs_list slot hty hm ho ha hbase hfew hline hs hplain) (fMt_imp hg)
theorem f_mt0 {name : Str} {id : String} {r : V → List V → Hp → VK → Prop} {g : OM} (slot : Slot "list" name id) (hty : typeOf (.builtin id) = pure (.type "method_descriptor")) (hm : MtR X id r) (hg : MtF X.K X.mg "list" g r) (ho : FE X E a fa)
    (hbase : attributeBase a name X.env (eval a X.env) = eval a X.env := by rfl) (hline : (apos.endLine == pos.line) = true := by rfl) :
    FE X E (.Call (.Attribute a name apos) [] [] pos) (fMt (fun x S => isCl x S = true) g fa aNil) := PE.imp (pe_bm0 PySem.F.plainAttrs_list slot hty hm ho hbase hline) (fMt0_imp hg)
/-- xs.extend(ys): ys a list -/
def mExt : OM := fun x ws S => match x, ws with
  | .c k, [y] => match S[k]? with
    | some (.l ds) => match liW S y with
      | some us => match unDs us with
        | some es => if ds.length + es.length ≤ 100000 then .ok (.d .non) (S.set k (.l (ds ++ es))) else .no
        | none => .no
      | none => .no
    | _ => .no
  | _, _ => .no
theorem mtF_ext {K : PySem.W.Frag} {mg : Str → Option Value} : MtF K mg "list" mExt rExtend := by
  intro M S H v x vs ws E Q rs rx r p
  unfold mExt at p
  split at p
  · rename_i k y
    obtain ⟨a, rfl, ha⟩ := rx.c_
    cases r with
    | cons ry rr =>
      cases rr
      cases hs : S[k]? with
      | none => rw [hs] at p; exact (show False from p).elim
      | some c =>
        rw [hs] at p
        cases c with
        | l ds =>
          dsimp only at p
          cases h1 : liW S y with
          | none => rw [h1] at p; exact (show False from p).elim
          | some us =>
            rw [h1] at p
            dsimp only at p
            cases h2 : unDs us with
            | none => rw [h2] at p; exact (show False from p).elim
            | some es =>
              rw [h2] at p
              dsimp only at p
              by_cases hl : ds.length + es.length ≤ 100000
              · rw [if_pos hl] at p
                obtain ⟨xs, g1, g2⟩ := rs.ok k a _ ha hs
                obtain ⟨b, zs, rfl, hb, rb⟩ := liW_ok rs ry h1
                have tb := rb.un h2
                refine ⟨a, b, xs, zs, rfl, rfl, g1, hb, sl_of (by rw [g2.length, tb.length]; exact hl), ?_⟩
                obtain ⟨rs2, e2⟩ := rs.put (o := .lst (xs ++ zs)) (c := .l (ds ++ es)) ha fun e => ⟨_, upd_same, (g2.append tb).ext e⟩
                exact p M .non _ e2 rs2 (.d .non)
              · rw [if_neg hl] at p
                exact (show False from p).elim
        | _ => exact (show False from p).elim
  · exact (show False from p).elim
/-- xs.pop(), xs.pop(i), of what is there -/
def mPop : OM := fun x ws S => match x, ws with
  | .c k, [] => match S[k]? with
    | some (.l ds) => match ds[ds.length - 1]? with
      | some d => .ok (.d d) (S.set k (.l ds.dropLast))
      | none => .no
    | _ => .no
  | .c k, [.d (.int i)] => match S[k]? with
    | some (.l ds) => if -(2 ^ 63) ≤ i ∧ i < 2 ^ 63 then (match seqIndex? i ds.length with
      | some j => match ds[j]? with
        | some d => .ok (.d d) (S.set k (.l (ds.eraseIdx j)))
        | none => .no
      | none => .no) else .no
    | _ => .no
  | _, _ => .no
theorem RDs.eraseIdx {K : PySem.W.Frag} {M : Mp} {H : Hp} : ∀ {vs : List V} {ds : List D} (i : Nat), RDs K M H vs ds → RDs K M H (vs.eraseIdx i) (ds.eraseIdx i)
  | _, _, _, .nil => .nil
  | _, _, 0, .cons _ t => t
  | _, _, i + 1, .cons q t => .cons q (RDs.eraseIdx i t)
theorem RDs.dropLast {K : PySem.W.Frag} {M : Mp} {H : Hp} {vs : List V} {ds : List D} (h : RDs K M H vs ds) : RDs K M H vs.dropLast ds.dropLast := by
  rw [List.dropLast_eq_take, List.dropLast_eq_take, h.length]
  exact h.take _
theorem mtF_popAt {K : PySem.W.Frag} {mg : Str → Option Value} : MtF K mg "list" mPop (fun x vs H Q => (vs = [] → rPop x vs H Q) ∧ (vs ≠ [] → rPopAt x vs H Q)) := by
  intro M S H v x vs ws E Q rs rx r p
  unfold mPop at p
  split at p
  · rename_i k
    cases r
    obtain ⟨a, rfl, ha⟩ := rx.c_
    refine ⟨fun _ => ?_, fun z => absurd rfl z⟩
    cases hs : S[k]? with
    | none => rw [hs] at p; exact (show False from p).elim
    | some c =>
      rw [hs] at p
      cases c with
      | l ds =>
        dsimp only at p
        cases hd : ds[ds.length - 1]? with
        | none => rw [hd] at p; exact (show False from p).elim
        | some d =>
          rw [hd] at p
          obtain ⟨xs, h1, h2⟩ := rs.ok k a _ ha hs
          obtain ⟨y, hy, ry⟩ := h2.get hd
          rw [← h2.length] at hy
          refine ⟨a, xs, y, rfl, rfl, h1, hy, ?_⟩
          obtain ⟨rs2, e2⟩ := rs.put (o := .lst xs.dropLast) (c := .l ds.dropLast) ha fun e => ⟨_, upd_same, h2.dropLast.ext e⟩
          exact p M y _ e2 rs2 (.d (ry.ext e2))
      | _ => exact (show False from p).elim
  · rename_i k i
    obtain ⟨a, rfl, ha⟩ := rx.c_
    cases r with
    | cons ri rr =>
      cases rr
      refine ⟨(fun z => by cases z), fun _ => ?_⟩
      cases hs : S[k]? with
      | none => rw [hs] at p; exact (show False from p).elim
      | some c =>
        rw [hs] at p
        cases c with
        | l ds =>
          dsimp only at p
          by_cases hb : -(2 ^ 63) ≤ i ∧ i < 2 ^ 63
          · rw [if_pos hb] at p
            cases hj : seqIndex? i ds.length with
            | none => rw [hj] at p; exact (show False from p).elim
            | some j =>
              rw [hj] at p
              dsimp only at p
              cases hd : ds[j]? with
              | none => rw [hd] at p; exact (show False from p).elim
              | some d =>
                rw [hd] at p
                obtain ⟨xs, h1, h2⟩ := rs.ok k a _ ha hs
                obtain ⟨y, hy, ry⟩ := h2.get hd
                refine ⟨a, xs, i, j, y, rfl, by rw [ri.i_], h1, hb.1, hb.2, by rw [h2.length]; exact hj, hy, ?_⟩
                obtain ⟨rs2, e2⟩ := rs.put (o := .lst (xs.eraseIdx j)) (c := .l (ds.eraseIdx j)) ha fun e => ⟨_, upd_same, (h2.eraseIdx j).ext e⟩
                exact p M y _ e2 rs2 (.d (ry.ext e2))
          · rw [if_neg hb] at p
            exact (show False from p).elim
        | _ => exact (show False from p).elim
  · exact (show False from p).elim
theorem f_append {b : Expr} {fb : Env → Store → Rs (List W)} (ho : FE X E a fa) (ha : FA X E (b :: es) fb)
    (hbase : attributeBase a "append" X.env (eval a X.env) = eval a X.env := by rfl)
    (hfew : ((backTo pos (starEach (b :: es) X.env)).all (fun x => !x.1) && (backToKw pos (keywordEach [] X.env)).all (fun x => x.1.isSome)
      && decide ((b :: es).length + ([] : List Keyword).length + (if ([] : List Keyword).isEmpty then 0 else 1) < 30)) = true := by rfl)
    (hline : (apos.endLine == pos.line) = true := by rfl) (hs : starEach (b :: es) X.env = (false, eval b X.env) :: starEach es X.env := by rfl) (hplain : (backTo pos (starEach es X.env)).any (·.1) = false := by rfl) :
    FE X E (.Call (.Attribute a "append" apos) (b :: es) [] pos) (fMt (fun x S => isCl x S = true) mApp fa fb) := f_mt PySem.F.slot_list_append PySem.F.type_list_append mt_append mtF_app ho ha hbase hfew hline hs hplain
/-- xs[i] = e -/
def sPut (fo fi fe : Env → Store → Rs W) : Sm := fun ρ S => (fe ρ S).st ρ fun w S1 => (fo ρ S1).st ρ fun o S2 => (fi ρ S2).st ρ fun i S3 => match o, i, w with
  | .c k, .d (.int z), .d d => match S3[k]? with
    | some (.l ds) => match ixN ds.length z with
      | some j => .nx ρ (S3.set k (.l (ds.set j d)))
      | none => .no
    | _ => .no
  | _, _, _ => .no
theorem fs_put {o i e : Expr} {fo fi fe : Env → Store → Rs W} {tpos : Pos} (he : FE X E e fe) (ho : FE X E o fo) (hi : FE X E i fi)
    (ha : ∀ v, assign (.Subscript o i tpos) X.env v = (do
      let ov ← holding [v] (eval o X.env)
      let iv ← holding [v, ov] (eval i X.env)
      standAt tpos
      holding [v, ov, iv] (setItem ov iv v)
      release [v, ov, iv] []) := by intro _; rfl) (hs : swapsWithSole [.Subscript o i tpos] e pos.line X.env = pure false := by rfl) (hw : swappedStores [.Subscript o i tpos] e X.env = pure none := by rfl)
    (h1 : (assignEach [.Subscript o i tpos] X.env).map (·.2) = [assign (.Subscript o i tpos) X.env] := by rfl) : FS X E (.Assign [.Subscript o i tpos] e pos) (sPut fo fi fe) := by
  refine PS.imp (ps_asg he (pg_sub ho hi set_list ha) hs hw h1) ?_
  rintro Dd σ H ⟨M, ρ, S, rs, ro, p⟩
  refine ⟨M, ρ, S, rs, ro, Post.map (fun vw H1 q => ?_) (PostS.st (R := RWK X.K) ro p)⟩
  obtain ⟨M1, w, S1, e1, rs1, rw1, p1⟩ := q
  have ro1 := ro.ext e1
  refine ⟨M1, ρ, S1, rs1, ro1, Post.map (fun vo H2 q => ?_) (PostS.st (R := RWK X.K) ro1 p1)⟩
  obtain ⟨M2, o', S2, e2, rs2, rw2, p2⟩ := q
  have ro2 := ro1.ext e2
  refine ⟨M2, ρ, S2, rs2, ro2, Post.map (fun vi H3 q => ?_) (PostS.st (R := RWK X.K) ro2 p2)⟩
  obtain ⟨M3, i', S3, e3, rs3, rw3, p3⟩ := q
  have ro3 := ro2.ext e3
  have rwA := (RW.ext e2 rw1).ext e3
  have rwB := RW.ext e3 rw2
  have rwC : RW X.K M3 H3 vi i' := rw3
  split at p3
  · rename_i k z d
    obtain ⟨a, rfl, ha⟩ := rwB.c_
    cases hk : S3[k]? with
    | none => rw [hk] at p3; exact (show False from p3).elim
    | some c =>
      rw [hk] at p3
      cases c with
      | l ds =>
        dsimp only at p3
        cases hj : ixN ds.length z with
        | none => rw [hj] at p3; exact (show False from p3).elim
        | some j =>
          rw [hj] at p3
          obtain ⟨xs, h1, h2⟩ := rs3.ok k a _ ha hk
          refine ⟨a, xs, z, j, rfl, rwC.i_, h1, by rw [h2.length]; exact hj, ?_⟩
          obtain ⟨rs4, e4⟩ := rs3.put (o := .lst (xs.set j vw)) (c := .l (ds.set j d)) ha fun e => ⟨_, upd_same, (RDs.set rwA.d_ j h2).ext e⟩
          exact p3 M3 σ _ e4 rs4 (ro3.ext e4)
      | _ => exact (show False from p3).elim
  · exact (show False from p3).elim
end
/-! ### what is gone through -/
def iList (fa : Env → Store → Rs W) : Env → Store → Rs Itm := fun ρ S => (fa ρ S).bind fun x S1 => match x with
  | .d (.lst ds) => .ok (ds.map .d, fun _ => True) S1
  | .c k => match S1[k]? with
    | some (.l ds) => .ok (ds.map .d, fun S => S[k]? = some (.l ds)) S1
    | some (.w ws) => .ok (ws, fun S => S[k]? = some (.w ws)) S1
    | _ => .no
  | _ => .no
def iTupF (fa : Env → Store → Rs W) : Env → Store → Rs Itm := fun ρ S => (fa ρ S).bind fun x S1 => match x with
  | .d (.tup ds) => .ok (ds.map .d, fun _ => True) S1
  | .t ws => .ok (ws, fun _ => True) S1
  | _ => .no
def rngW (lo : Int) : Nat → List W
  | 0 => []
  | n + 1 => .d (.int lo) :: rngW (lo + 1) n
theorem rngW_len (lo : Int) (n : Nat) : (rngW lo n).length = n := by
  induction n generalizing lo with
  | zero => rfl
  | succ n ih => rw [rngW, List.length_cons, ih]
theorem rngW_get {lo : Int} {n i : Nat} {w : W} (h : (rngW lo n)[i]? = some w) : i < n ∧ w = .d (.int (lo + i)) := by
  induction n generalizing lo i with
  | zero => simp [rngW] at h
  | succ n ih =>
    rw [rngW] at h
    cases i with
    | zero =>
      have := Option.some.inj h
      subst this
      exact ⟨Nat.succ_pos _, by simp⟩
    | succ i =>
      rw [List.getElem?_cons_succ] at h
      obtain ⟨a, b⟩ := ih h
      refine ⟨Nat.succ_lt_succ a, ?_⟩
      rw [b]
      have : lo + 1 + (i : Int) = lo + ((i + 1 : Nat) : Int) := by omega
      rw [this]
def smallI (i : Int) : Bool := decide (-(2 ^ 62) ≤ i) && decide (i < 2 ^ 62)
def iRange1 (fs : Env → Store → Rs (List W)) : Env → Store → Rs Itm := fun ρ S => (fs ρ S).bind fun xs S1 => match xs with
  | [.d (.int j)] => if smallI j then .ok (rngW 0 j.toNat, fun _ => True) S1 else .no
  | _ => .no
def iRange2 (fs : Env → Store → Rs (List W)) : Env → Store → Rs Itm := fun ρ S => (fs ρ S).bind fun xs S1 => match xs with
  | [.d (.int i), .d (.int j)] => if smallI i && smallI j then .ok (rngW i (j - i).toNat, fun _ => True) S1 else .no
  | _ => .no
/-- pairs of a place and an item -/
def enumW : Nat → List D → List W
  | _, [] => []
  | n, d :: ds => .d (.tup [.int n, d]) :: enumW (n + 1) ds
theorem enumW_len (n : Nat) (ds : List D) : (enumW n ds).length = ds.length := by
  induction ds generalizing n with
  | nil => rfl
  | cons d ds ih => rw [enumW, List.length_cons, List.length_cons, ih]
theorem enumW_get {n i : Nat} {ds : List D} {w : W} (h : (enumW n ds)[i]? = some w) : ∃ d, ds[i]? = some d ∧ w = .d (.tup [.int ((n + i : Nat) : Int), d]) := by
  induction ds generalizing n i with
  | nil => simp [enumW] at h
  | cons d ds ih =>
    rw [enumW] at h
    cases i with
    | zero => exact ⟨d, rfl, (Option.some.inj h).symm⟩
    | succ i =>
      rw [List.getElem?_cons_succ] at h
      obtain ⟨e, h1, h2⟩ := ih h
      exact ⟨e, h1, by rw [h2, show n + 1 + i = n + (i + 1) by omega]⟩
def iEnumL (fs : Env → Store → Rs (List W)) : Env → Store → Rs Itm := fun ρ S => (fs ρ S).bind fun xs S1 => match xs with
  | [.d (.lst ds)] => .ok (enumW 0 ds, fun _ => True) S1
  | _ => .no
def iEnumT (fs : Env → Store → Rs (List W)) : Env → Store → Rs Itm := fun ρ S => (fs ρ S).bind fun xs S1 => match xs with
  | [.d (.tup ds)] => .ok (enumW 0 ds, fun _ => True) S1
  | _ => .no
def zipW : List D → List D → List W
  | d :: ds, e :: es => .d (.tup [d, e]) :: zipW ds es
  | _, _ => []
section
variable {X : Cx} {E : L2.St → XK} {a b c tg : Expr} {es : List Expr} {fa fb fc : Env → Store → Rs W} {fs : Env → Store → Rs (List W)} {pos apos : Pos}
theorem PI.imp {X : Cx} {tg it : Expr} {t t' : TI} (h : PI X tg it t) (i : ∀ σ H R, t' σ H R → t σ H R) : PI X tg it t' := ⟨fun pins s σ H R I q => h.run pins s σ H R I (i σ H R q)⟩
theorem PostI.bindE {K : PySem.W.Frag} {mg : Str → Option Value} {M : Mp} {H : Hp} {E : XK} {α β : Type} {R : Mp → Hp → β → α → Prop} {R' : It → Hp → Prop} {k : α → Store → Rs Itm} : ∀ {r : Rs α}, PostI K mg M H E R' (r.bind k) →
    Post K mg M H E R (fun b H1 => ∃ M1 a S1, Ext M M1 H H1 ∧ RS K M1 S1 H1 ∧ R M1 H1 b a ∧ PostI K mg M1 H1 E R' (k a S1)) r
  | .ok a S', p => fun M' b H' e rs r => ⟨M', a, S', e, rs, r, by
      cases hk : k a S' with
      | ok x S2 =>
        have p' : PostI K mg M H E R' (k a S') := p
        rw [hk] at p'
        exact fun M2 J H2 e2 => p' M2 J H2 (e.trans e2)
      | ex x S2 =>
        have p' : PostI K mg M H E R' (k a S') := p
        rw [hk] at p'
        exact fun M2 c d H2 e2 => p' M2 c d H2 (e.trans e2)
      | no =>
        have p' : PostI K mg M H E R' (k a S') := p
        rw [hk] at p'
        exact p'⟩
  | .ex e S', p => p
  | .no, p => p
/-- a list that stands -/
theorem it_list {K : PySem.W.Frag} {M : Mp} {H : Hp} {a : Addr} {xs : List V} {ds : List D} (n : NL M H a xs) (t : RDs K M H xs ds) : ItOk K M H (Itl K a) (ds.map .d) (fun _ => True) := by
  intro M1 S1 H1 x rs _
  have n1 := x.nl n
  have q : SqL K H1 a xs := n1.sq
  refine ⟨fun i w hw => ?_, ⟨xs, q, by rw [List.length_map, t.length]; exact Nat.le_refl _⟩⟩
  rw [List.getElem?_map] at hw
  cases hd : ds[i]? with
  | none => rw [hd] at hw; cases hw
  | some d =>
    rw [hd] at hw
    have hw' := Option.some.inj hw
    subst hw'
    obtain ⟨v, hv, rv⟩ := t.get hd
    refine ⟨⟨xs, v, q, hv⟩, fun z H2 y => ?_⟩
    obtain ⟨e1, e2⟩ := y
    subst e1
    have ez := e2 xs q
    rw [hv] at ez
    have ez' := Option.some.inj ez
    subst ez'
    exact ⟨fun a o h => h, .d (rv.ex0 x)⟩
theorem it_cell {K : PySem.W.Frag} {M : Mp} {H : Hp} {a : Addr} {k : Nat} {c : Cell} {ws : List W} (ha : M.ad[k]? = some a) (hc : ∀ {M1 : Mp} {H1 : Hp}, CellOk K M1 H1 a c → ∃ xs, H1 a = some (.lst xs) ∧ RWs K M1 H1 xs ws) : ItOk K M H (Itl K a) ws (fun S => S[k]? = some c) := by
  intro M1 S1 H1 x rs hg
  obtain ⟨more, em⟩ := x.ad
  have ha1 : M1.ad[k]? = some a := by
    rw [em, List.getElem?_append_left (List.getElem?_eq_some_iff.mp ha).1]
    exact ha
  obtain ⟨xs, h1, h2⟩ := hc (rs.ok k a c ha1 hg)
  have q : SqL K H1 a xs := SqL.of h1
  refine ⟨fun i w hw => ?_, ⟨xs, q, by rw [h2.length]; exact Nat.le_refl _⟩⟩
  obtain ⟨v, hv, rv⟩ := h2.get hw
  refine ⟨⟨xs, v, q, hv⟩, fun z H2 y => ?_⟩
  obtain ⟨e1, e2⟩ := y
  subst e1
  have ez := e2 xs q
  rw [hv] at ez
  have ez' := Option.some.inj ez
  subst ez'
  exact ⟨fun a o h => h, rv⟩
theorem fi_list (h : FE X E a fa) : FI X E tg a (iList fa) := by
  refine PI.imp (pi_list h) ?_
  rintro σ H R ⟨M, ρ, S, rs, ro, p⟩
  refine ⟨M, ρ, S, rs, ro, Post.map (fun v H1 q => ?_) (PostI.bindE (R := RWK X.K) p)⟩
  obtain ⟨M1, x, S1, e1, rs1, rx, p1⟩ := q
  cases rx with
  | d rd =>
    cases rd with
    | lst n t => exact ⟨_, rfl, ⟨_, n.sq⟩, p1 M1 _ H1 (Ext.refl _ _) rs1 (it_list n t)⟩
    | _ => exact (show False from p1).elim
  | @c k a' ha =>
    cases hk : S1[k]? with
    | none => dsimp only at p1; rw [hk] at p1; exact (show False from p1).elim
    | some c =>
      dsimp only at p1
      rw [hk] at p1
      cases c with
      | l ds =>
        obtain ⟨xs, h1, h2⟩ := rs1.ok k a' _ ha hk
        exact ⟨a', rfl, ⟨xs, SqL.of h1⟩, p1 M1 _ H1 (Ext.refl _ _) rs1 (it_cell ha fun {M2 H2} z => let ⟨xs, z1, z2⟩ := z; ⟨xs, z1, z2.ws⟩)⟩
      | w ds =>
        obtain ⟨xs, h1, h2⟩ := rs1.ok k a' _ ha hk
        exact ⟨a', rfl, ⟨xs, SqL.of h1⟩, p1 M1 _ H1 (Ext.refl _ _) rs1 (it_cell ha fun {M2 H2} z => let ⟨xs, z1, z2⟩ := z; ⟨xs, z1, z2⟩)⟩
      | _ => exact (show False from p1).elim
  | _ => exact (show False from p1).elim
theorem it_tup {K : PySem.W.Frag} {M : Mp} {H : Hp} {a : Addr} {xs : List V} {ws : List W} (n : NT K M H a xs) (t : RWs K M H xs ws) : ItOk K M H (Itt K a) ws (fun _ => True) := by
  intro M1 S1 H1 x rs _
  have n1 := x.nt n
  have q : SqT K H1 a xs := n1.sq
  refine ⟨fun i w hw => ?_, ⟨xs, q, by rw [t.length]; exact Nat.le_refl _⟩⟩
  obtain ⟨v, hv, rv⟩ := t.get hw
  refine ⟨⟨xs, v, q, hv⟩, fun z H2 y => ?_⟩
  obtain ⟨e1, e2⟩ := y
  subst e1
  have ez := e2 xs q
  rw [hv] at ez
  have ez' := Option.some.inj ez
  subst ez'
  exact ⟨fun a o h => h, rv.ex0 x⟩
theorem fi_tup (h : FE X E a fa) : FI X E tg a (iTupF fa) := by
  refine PI.imp (pi_tup h) ?_
  rintro σ H R ⟨M, ρ, S, rs, ro, p⟩
  refine ⟨M, ρ, S, rs, ro, Post.map (fun v H1 q => ?_) (PostI.bindE (R := RWK X.K) p)⟩
  obtain ⟨M1, x, S1, e1, rs1, rx, p1⟩ := q
  cases rx with
  | d rd =>
    cases rd with
    | tup n t => exact ⟨_, rfl, ⟨_, n.sq⟩, p1 M1 _ H1 (Ext.refl _ _) rs1 (it_tup n t.ws)⟩
    | _ => exact (show False from p1).elim
  | t nl ha t => exact ⟨_, rfl, ⟨_, SqT.of ha⟩, p1 M1 _ H1 (Ext.refl _ _) rs1 (it_tup (.inl ⟨nl, .inl ha⟩) t)⟩
  | _ => exact (show False from p1).elim
theorem it_range {K : PySem.W.Frag} {M : Mp} {H : Hp} (lo : Int) (n : Nat) : ItOk K M H (Itr lo n) (rngW lo n) (fun _ => True) := by
  intro M1 S1 H1 x rs _
  refine ⟨fun i w hw => ?_, by rw [rngW_len]; exact Nat.le_refl n⟩
  obtain ⟨hi, e⟩ := rngW_get hw
  subst e
  refine ⟨hi, fun z H2 y => ?_⟩
  obtain ⟨e1, e2⟩ := y
  subst e1 e2
  exact ⟨fun a o h => h, .d (.int _)⟩
theorem smallI_ok {i : Int} (h : smallI i = true) : -(2 ^ 62) ≤ i ∧ i < 2 ^ 62 := by
  unfold smallI at h
  rw [Bool.and_eq_true, decide_eq_true_eq, decide_eq_true_eq] at h
  exact h
theorem fi_range1 {p : Pos} (hg : Gl X "range") (hm : X.mg "range" = none) (ha : FA X E [a] fs) (hs : starEach [a] X.env = [(false, eval a X.env)] := by rfl) : FI X E tg (.Call (.Name "range" p) [a] [] pos) (iRange1 fs) := by
  refine PI.imp (pi_range1 hg hm ha hs) ?_
  rintro σ H R ⟨M, ρ, S, rs, ro, p⟩
  refine ⟨M, ρ, S, rs, ro, Post.map (fun v H1 q => ?_) (PostI.bindE (R := RWsK X.K) p)⟩
  obtain ⟨M1, x, S1, e1, rs1, rx, p1⟩ := q
  split at p1
  · rename_i j
    by_cases hj : smallI j = true
    · rw [if_pos hj] at p1
      cases rx with
      | cons r rr =>
        cases rr
        obtain ⟨h1, h2⟩ := smallI_ok hj
        exact ⟨j, by rw [r.i_], h1, h2, p1 M1 _ H1 (Ext.refl _ _) rs1 (it_range 0 j.toNat)⟩
    · rw [if_neg hj] at p1
      exact (show False from p1).elim
  · exact (show False from p1).elim
theorem fi_range2 {p : Pos} (hg : Gl X "range") (hm : X.mg "range" = none) (ha : FA X E [a, b] fs) (hs : starEach [a, b] X.env = [(false, eval a X.env), (false, eval b X.env)] := by rfl) (hs2 : starEach [b] X.env = [(false, eval b X.env)] := by rfl) : FI X E tg (.Call (.Name "range" p) [a, b] [] pos) (iRange2 fs) := by
  refine PI.imp (pi_range2 hg hm ha hs hs2) ?_
  rintro σ H R ⟨M, ρ, S, rs, ro, p⟩
  refine ⟨M, ρ, S, rs, ro, Post.map (fun v H1 q => ?_) (PostI.bindE (R := RWsK X.K) p)⟩
  obtain ⟨M1, x, S1, e1, rs1, rx, p1⟩ := q
  split at p1
  · rename_i i j
    by_cases hj : (smallI i && smallI j) = true
    · rw [if_pos hj] at p1
      rw [Bool.and_eq_true] at hj
      cases rx with
      | cons r rr =>
        cases rr with
        | cons r2 rr =>
          cases rr
          obtain ⟨h1, h2⟩ := smallI_ok hj.1
          obtain ⟨h3, h4⟩ := smallI_ok hj.2
          exact ⟨i, j, by rw [r.i_, r2.i_], ⟨h1, h2, h3, h4⟩, p1 M1 _ H1 (Ext.refl _ _) rs1 (it_range i (j - i).toNat)⟩
    · rw [if_neg hj] at p1
      exact (show False from p1).elim
  · exact (show False from p1).elim
/-- enumerate: a list -/
theorem it_enumL {K : PySem.W.Frag} {M : Mp} {H : Hp} {a : Addr} {xs : List V} {ds : List D} (n : NL M H a xs) (t : RDs K M H xs ds) : ItOk K M H (Ite K a) (enumW 0 ds) (fun _ => True) := by
  intro M1 S1 H1 x rs _
  have q : SqL K H1 a xs := (x.nl n).sq
  refine ⟨fun i w hw => ?_, ⟨xs, q, by first | exact Nat.le_of_eq (by rw [enumW_len, t.length]) | rw [enumW_len, t.length]⟩⟩
  obtain ⟨d, hd, e⟩ := enumW_get hw
  subst e
  obtain ⟨v, hv, rv⟩ := t.get hd
  refine ⟨⟨xs, v, q, hv⟩, fun z H2 y => ?_⟩
  obtain ⟨T, u, e1, e2, e3, e4⟩ := y
  have eu := e4 xs q
  rw [hv] at eu
  have eu' := Option.some.inj eu
  subst e1 e3 eu'
  have ex := Ext.fz (M := M1) (o := .tup [.int (i : Nat), v]) e2
  refine ⟨fun a o h => ?_, .d (.tup (.inl ⟨rs.fresh e2, .inl upd_same⟩) ?_)⟩
  · rw [upd_ne (ne_of_none h e2)]
    exact h
  · rw [Nat.zero_add]
    exact .cons (.int _) (.cons ((rv.ex0 x).ext ex) .nil)
theorem it_enumT {K : PySem.W.Frag} {M : Mp} {H : Hp} {a : Addr} {xs : List V} {ds : List D} (n : NT K M H a xs) (t : RDs K M H xs ds) : ItOk K M H (ItEt K a) (enumW 0 ds) (fun _ => True) := by
  intro M1 S1 H1 x rs _
  have q : SqT K H1 a xs := (x.nt n).sq
  refine ⟨fun i w hw => ?_, ⟨xs, q, by first | exact Nat.le_of_eq (by rw [enumW_len, t.length]) | rw [enumW_len, t.length]⟩⟩
  obtain ⟨d, hd, e⟩ := enumW_get hw
  subst e
  obtain ⟨v, hv, rv⟩ := t.get hd
  refine ⟨⟨xs, v, q, hv⟩, fun z H2 y => ?_⟩
  obtain ⟨T, u, e1, e2, e3, e4⟩ := y
  have eu := e4 xs q
  rw [hv] at eu
  have eu' := Option.some.inj eu
  subst e1 e3 eu'
  have ex := Ext.fz (M := M1) (o := .tup [.int (i : Nat), v]) e2
  refine ⟨fun a o h => ?_, .d (.tup (.inl ⟨rs.fresh e2, .inl upd_same⟩) ?_)⟩
  · rw [upd_ne (ne_of_none h e2)]
    exact h
  · rw [Nat.zero_add]
    exact .cons (.int _) (.cons ((rv.ex0 x).ext ex) .nil)
theorem fi_enumL {p tpos : Pos} {elts : List Expr} {kk : Nat} (hg : Gl X "enumerate") (hm : X.mg "enumerate" = none) (ha : FA X E [a] fs) (hs : starEach [a] X.env = [(false, eval a X.env)] := by rfl) : FI X E (.Tuple elts kk tpos) (.Call (.Name "enumerate" p) [a] [] pos) (iEnumL fs) := by
  refine PI.imp (pi_enum hg hm ha hs) ?_
  rintro σ H R ⟨M, ρ, S, rs, ro, p⟩
  refine ⟨M, ρ, S, rs, ro, Post.map (fun v H1 q => ?_) (PostI.bindE (R := RWsK X.K) p)⟩
  obtain ⟨M1, x, S1, e1, rs1, rx, p1⟩ := q
  split at p1
  · cases rx with
    | cons r rr =>
      cases rr
      obtain ⟨a, xs, rfl, n, t⟩ := r.l_
      exact ⟨a, xs, rfl, n.sq, p1 M1 _ H1 (Ext.refl _ _) rs1 (it_enumL n t)⟩
  · exact (show False from p1).elim
theorem fi_enumT {p tpos : Pos} {elts : List Expr} {kk : Nat} (hg : Gl X "enumerate") (hm : X.mg "enumerate" = none) (ha : FA X E [a] fs) (hs : starEach [a] X.env = [(false, eval a X.env)] := by rfl) : FI X E (.Tuple elts kk tpos) (.Call (.Name "enumerate" p) [a] [] pos) (iEnumT fs) := by
  refine PI.imp (pi_enumT hg hm ha hs) ?_
  rintro σ H R ⟨M, ρ, S, rs, ro, p⟩
  refine ⟨M, ρ, S, rs, ro, Post.map (fun v H1 q => ?_) (PostI.bindE (R := RWsK X.K) p)⟩
  obtain ⟨M1, x, S1, e1, rs1, rx, p1⟩ := q
  split at p1
  · cases rx with
    | cons r rr =>
      cases rr
      obtain ⟨a, xs, rfl, n, t⟩ := r.t_
      exact ⟨a, xs, rfl, n.sq, p1 M1 _ H1 (Ext.refl _ _) rs1 (it_enumT n t)⟩
  · exact (show False from p1).elim
def mPop0 : OM := fun x ws S => match ws with
  | [] => mPop x [] S
  | _ => .no
def mPop1 : OM := fun x ws S => match ws with
  | [i] => mPop x [i] S
  | _ => .no
theorem mtF_pop0 {K : PySem.W.Frag} {mg : Str → Option Value} : MtF K mg "list" mPop0 rPop := by
  intro M S H v x vs ws E Q rs rx r p
  unfold mPop0 at p
  split at p
  · cases r
    exact (mtF_popAt M S H v x [] [] E Q rs rx .nil p).1 rfl
  · exact (show False from p).elim
theorem mtF_pop1 {K : PySem.W.Frag} {mg : Str → Option Value} : MtF K mg "list" mPop1 rPopAt := by
  intro M S H v x vs ws E Q rs rx r p
  unfold mPop1 at p
  split at p
  · refine (mtF_popAt M S H v x vs _ E Q rs rx r p).2 fun z => ?_
    subst z
    cases r
  · exact (show False from p).elim
theorem f_popAt {es : List Expr} {fb : Env → Store → Rs (List W)} (ho : FE X E a fa) (ha : FA X E (b :: es) fb)
    (hbase : attributeBase a "pop" X.env (eval a X.env) = eval a X.env := by rfl)
    (hfew : ((backTo pos (starEach (b :: es) X.env)).all (fun x => !x.1) && (backToKw pos (keywordEach [] X.env)).all (fun x => x.1.isSome)
      && decide ((b :: es).length + ([] : List Keyword).length + (if ([] : List Keyword).isEmpty then 0 else 1) < 30)) = true := by rfl)
    (hline : (apos.endLine == pos.line) = true := by rfl) (hs : starEach (b :: es) X.env = (false, eval b X.env) :: starEach es X.env := by rfl) (hplain : (backTo pos (starEach es X.env)).any (·.1) = false := by rfl) :
    FE X E (.Call (.Attribute a "pop" apos) (b :: es) [] pos) (fMt (fun x S => isCl x S = true) mPop1 fa fb) := f_mt PySem.F.slot_list_pop PySem.F.type_list_pop mt_popAt mtF_pop1 ho ha hbase hfew hline hs hplain
/-- the built-ins by their names -/
theorem f_len {e : Expr} {es : List Expr} {p : Pos} (h1 : Gl X "len") (hm : X.mg "len" = none) (ha : FA X E (e :: es) fs) (he : starEach (e :: es) X.env = (false, eval e X.env) :: starEach es X.env := by rfl) (hpl : (backTo pos (starEach es X.env)).any (·.1) = false := by rfl) : FE X E (.Call (.Name "len" p) (e :: es) [] pos) (fApp aLen fs) :=
  f_callB call_len_seq apF_len h1 hm PySem.boot_len ha (by decide) (by decide) he hpl
theorem f_isi {e : Expr} {es : List Expr} {p : Pos} (h1 : Gl X "isinstance") (hm : X.mg "isinstance" = none) (ha : FA X E (e :: es) fs) (he : starEach (e :: es) X.env = (false, eval e X.env) :: starEach es X.env := by rfl) (hpl : (backTo pos (starEach es X.env)).any (·.1) = false := by rfl) : FE X E (.Call (.Name "isinstance" p) (e :: es) [] pos) (fApp aIsi fs) :=
  f_callB call_isi apF_isi h1 hm (by decide +kernel) ha (by decide) (by decide) he hpl
theorem f_all {e : Expr} {es : List Expr} {p : Pos} (hc : X.calm = true) (h1 : Gl X "all") (hm : X.mg "all" = none) (ha : FA X E (e :: es) fs) (he : starEach (e :: es) X.env = (false, eval e X.env) :: starEach es X.env := by rfl) (hpl : (backTo pos (starEach es X.env)).any (·.1) = false := by rfl) : FE X E (.Call (.Name "all" p) (e :: es) [] pos) (fApp aAll fs) :=
  f_callB (cr_all hc) apF_all h1 hm (by decide +kernel) ha (by decide) (by decide) he hpl
theorem f_any {e : Expr} {es : List Expr} {p : Pos} (hc : X.calm = true) (h1 : Gl X "any") (hm : X.mg "any" = none) (ha : FA X E (e :: es) fs) (he : starEach (e :: es) X.env = (false, eval e X.env) :: starEach es X.env := by rfl) (hpl : (backTo pos (starEach es X.env)).any (·.1) = false := by rfl) : FE X E (.Call (.Name "any" p) (e :: es) [] pos) (fApp aAny fs) :=
  f_callB (cr_any hc) apF_any h1 hm (by decide +kernel) ha (by decide) (by decide) he hpl
theorem f_list (b : Bool) {e : Expr} {es : List Expr} {p : Pos} (h1 : Gl X "list") (hm : X.mg "list" = none) (ha : FA X E (e :: es) fs) (he : starEach (e :: es) X.env = (false, eval e X.env) :: starEach es X.env := by rfl) (hpl : (backTo pos (starEach es X.env)).any (·.1) = false := by rfl) : FE X E (.Call (.Name "list" p) (e :: es) [] pos) (fApp (aList b) fs) :=
  f_callTy call_list_of apF_list h1 hm (by decide +kernel) ha (by decide) (by decide) he hpl
theorem f_tuple {e : Expr} {es : List Expr} {p : Pos} (h1 : Gl X "tuple") (hm : X.mg "tuple" = none) (ha : FA X E (e :: es) fs) (he : starEach (e :: es) X.env = (false, eval e X.env) :: starEach es X.env := by rfl) (hpl : (backTo pos (starEach es X.env)).any (·.1) = false := by rfl) : FE X E (.Call (.Name "tuple" p) (e :: es) [] pos) (fApp aTuple fs) :=
  f_callTy call_tuple_of apF_tuple h1 hm (by decide +kernel) ha (by decide) (by decide) he hpl
theorem f_intc {e : Expr} {es : List Expr} {p : Pos} (h1 : Gl X "int") (hm : X.mg "int" = none) (ha : FA X E (e :: es) fs) (he : starEach (e :: es) X.env = (false, eval e X.env) :: starEach es X.env := by rfl) (hpl : (backTo pos (starEach es X.env)).any (·.1) = false := by rfl) : FE X E (.Call (.Name "int" p) (e :: es) [] pos) (fApp aInt fs) :=
  f_callTy call_int1 apF_int h1 hm (by decide +kernel) ha (by decide) (by decide) he hpl
end
end As

namespace As
open PySem PySem.Spec PyProof.Rows L2
/-- a def as the top has left it -/
def DefAt (K : PySem.W.Frag) (mg : Str → Option Value) (x : Str) (st : Stmt) (ps : List Str) : Prop := ∃ f fd, Fun K x x st f fd ∧ mg x = some (.ref f) ∧ Binds K fd ps []
/-- a def and what it is worth -/
def DefOk (P : Program) (w : World) (K : PySem.W.Frag) (mg : Str → Option Value) (base : Heap) (x : Str) (ps : List Str) (k : Nat) (F : Fn) : Prop :=
  ∃ f fd, mg x = some (.ref f) ∧ PySem.W.keepIn K (.ref f) = true ∧ Binds K fd ps [] ∧ FnG P w K mg base (L2.CX P w) k f fd ps (spF K mg F)
section
variable {P : Program} {w : World} {K : PySem.W.Frag} {mg : Str → Option Value} {base : Heap}
theorem def_ok {x : Str} {st : Stmt} {N ps : List Str} {k : Nat} {b : Bool} {g : Sm} (F : DefAt K mg x st ps) (S : FnScope N ps (defScope st))
    (hb : ∀ (f : Addr) (cdv : Value) (A : Around) (outer : List PySem.Env) (s : Shared) (H : Hp) (E : XK), A.guards = some [] → Room k (A.deeper (envOfC x (defScope st) s.heap.objs.size f cdv)) →
      Takes (cxOf (L2.CX P w) P w K mg base N x (defScope st) f cdv A outer s H E) (fun cls d _ H => E cls d H) → PassesOwn (model P w) (cxOf (L2.CX P w) P w K mg base N x (defScope st) f cdv A outer s H E).A (cxOf (L2.CX P w) P w K mg base N x (defScope st) f cdv A outer s H E).env (cxOf (L2.CX P w) P w K mg base N x (defScope st) f cdv A outer s H E).xe →
      FSs (cxOf (L2.CX P w) P w K mg base N x (defScope st) f cdv A outer s H E) (fun _ => E) (defBody st) g) :
    DefOk P w K mg base x ps (k + 1) (fnF b ps.length N.length g) := by
  obtain ⟨f, fd, h1, h2, h3⟩ := F
  exact ⟨f, fd, h2, h1.kp, h3, fn_ok h1 S (hb f)⟩
theorem DefOk.eq {x : Str} {ps : List Str} {k : Nat} {F G : Fn} (h : DefOk P w K mg base x ps k F) (e : ∀ ws S, G ws S ≠ .no → F ws S = G ws S) : DefOk P w K mg base x ps k G := by
  obtain ⟨f, fd, h1, h2, h3, h4⟩ := h
  exact ⟨f, fd, h1, h2, h3, fn_eq h4 e⟩
end
section
variable {X : Cx} {E : L2.St → XK} {k j : Nat} {ps : List Str} {F : Fn} {x : Str} {p pos : Pos} {e : Expr} {es : List Expr} {fs : Env → Store → Rs (List W)}
theorem f_callD (h : DefOk X.prog X.w X.K X.mg X.base x ps k F) (gd : X.A.guards = some []) (hr : Room j X.A) (hj : k ≤ j) (hg : Gl X x) (tk : Takes X (fun cls d σ H => E σ cls d H)) (ha : FA X E (e :: es) fs) (hdb : (x == ("__debug__" : Str)) = false := by decide)
    (he : starEach (e :: es) X.env = (false, eval e X.env) :: starEach es X.env := by rfl) (hpl : (backTo pos (starEach es X.env)).any (·.1) = false := by rfl) : FE X E (.Call (.Name x p) (e :: es) [] pos) (fApp F fs) := by
  obtain ⟨f, fd, h1, h2, h3, h4⟩ := h
  exact f_call h4 gd (hr.mono hj) hg h1 h2 h3 tk ha hdb he hpl
/-- a whole number of the module's top -/
theorem f_gint {i : Int} (h : ∃ t, X.mg x = some (.int i t)) (hg : Gl X x) (hd : (x == ("__debug__" : Str)) = false := by decide) : FE X E (.Name x pos) (fK (.d (.int i))) := by
  obtain ⟨t, h⟩ := h
  exact f_glob (v := .int i) hg h ⟨t, rfl⟩ (fun _ _ => .d (.int i)) hd
end
theorem hu64 {A : Around} {k : Nat} (hr : Room k A) : A.units + 64 < cLine := hr.units
theorem take_n {X : Cx} : Takes X (fun cls d σ H => EN σ cls d H) := fun _ _ x => by
  obtain ⟨_, _, _, _, _, _, _, _, _, _, _, _, _, _, _, _, z⟩ := x
  exact z.elim
/-! ### the law's own call -/
def spLawF (K : PySem.W.Frag) : Sp := fun vs H Q _ => ∃ (a : Addr) (ns : List Int), vs = [.ref a] ∧ SqL K H a (ns.map V.int) ∧ ns.length ≤ 63 ∧ ∀ H', Q (.bl true) H'
theorem law_fn {P : Program} {w : World} {K : PySem.W.Frag} {mg : Str → Option Value} {base : Heap} {k : Nat} {f : Addr} {fd : FuncData} {ps : List Str} {F : Fn} (h : FnG P w K mg base (L2.CX P w) k f fd ps (spF K mg F)) (hp : ps.length = 1)
    (e : ∀ ns : List Int, ns.length ≤ 63 → ∃ S', F [.s ns] [] = .ok (.d (.bl true)) S') : FnG P w K mg base (L2.CX P w) k f fd ps (spLawF K) := by
  refine ⟨fun vs H Q E hs => ?_, fun A outer s H args us vs Q E gd hr e0 hb hv hs => ?_⟩
  · obtain ⟨a, ns, rfl, _⟩ := hs
    exact hp.symm
  · refine h.run A outer s H args us vs Q E gd hr e0 hb hv ?_
    obtain ⟨a, ns, rfl, hq, hl, q⟩ := hs
    obtain ⟨S', eS⟩ := e ns hl
    refine ⟨⟨fun _ => False, []⟩, [], [.s ns], ⟨List.nodup_nil, (fun a h => by cases h), rfl, (fun k a c h => by simp at h), fun a h => h.elim⟩, .cons (.s ?_) .nil, ?_⟩
    · rcases hq with hq | hq
      · exact .inl ⟨fun z => z.elim (fun z => by cases z) fun z => z, hq⟩
      · exact .inr hq
    · rw [eS]
      intro M' v H' _ _ r
      have := RW.b_ r
      subst this
      exact q H'
theorem cx_no {P : Program} {w : World} {out : List PySem.Env} {H : Hp} {s s' : Shared} {e : Value} (h : L2.CX P w out H s (fun _ _ _ => False) e s') : False := by
  obtain ⟨_, _, _, _, _, _, _, _, _, _, _, _, z⟩ := h
  exact z
end As

namespace As
open PySem PySem.Spec PyProof.Rows L2
section
variable {K : PySem.W.Frag} {mg : Str → Option Value} {M : Mp} {H : Hp}
def uNeg : O1 := fun x S => match x with
  | .d (.int i) => .ok (.d (.int (-i))) S
  | _ => .no
theorem unF_neg : UnF K mg uNeg (rU fun i => .int (-i)) := by
  intro M S H v x E Q rs rx p
  unfold uNeg at p
  split at p
  · exact ⟨_, rx.i_, p.ret rs (.d (.int _))⟩
  · exact (show False from p).elim
def fDct : Env → Store → Rs W := fun _ S => .ok (.d .dct) S
def uIsN : O1 := fun x S => match x with
  | .d .non => .ok (.d (.bl true)) S
  | .d _ => .ok (.d (.bl false)) S
  | .c _ => .ok (.d (.bl false)) S
  | .t _ => .ok (.d (.bl false)) S
  | _ => .no
def uNotN : O1 := fun x S => match x with
  | .d .non => .ok (.d (.bl false)) S
  | .d _ => .ok (.d (.bl true)) S
  | .c _ => .ok (.d (.bl true)) S
  | .t _ => .ok (.d (.bl true)) S
  | _ => .no
def rI1 (v : V) (H : Hp) (Q : VK) : Prop := Q (.bl (decide (v = .non))) H
def rN1 (v : V) (H : Hp) (Q : VK) : Prop := Q (.bl (!decide (v = .non))) H
theorem unF_isN : UnF K mg uIsN rI1 := by
  intro M S H v x E Q rs rx p
  unfold rI1
  cases rx with
  | d rd => cases rd <;> exact Post.ret (R := RWK K) rs (.d (.bl _)) p
  | c _ => exact Post.ret (R := RWK K) rs (.d (.bl _)) p
  | t _ _ _ => exact Post.ret (R := RWK K) rs (.d (.bl _)) p
  | _ => exact (show False from p).elim
theorem unF_notN : UnF K mg uNotN rN1 := by
  intro M S H v x E Q rs rx p
  unfold rN1
  cases rx with
  | d rd => cases rd <;> exact Post.ret (R := RWK K) rs (.d (.bl _)) p
  | c _ => exact Post.ret (R := RWK K) rs (.d (.bl _)) p
  | t _ _ _ => exact Post.ret (R := RWK K) rs (.d (.bl _)) p
  | _ => exact (show False from p).elim
theorem opF_repL {b : Bool} : OpF K mg (oRepL b) rRep := by
  intro M S H v u x y E Q rs rx ry p
  unfold oRepL at p
  split at p
  · rename_i us k h1
    cases h2 : unDs us with
    | none => rw [h2] at p; exact (show False from p).elim
    | some ds =>
      rw [h2] at p
      dsimp only at p
      by_cases hc : -(2 ^ 63) ≤ k ∧ k < 2 ^ 63 ∧ ds.length * k.toNat ≤ 100000
      · rw [if_pos hc] at p
        obtain ⟨a, xs, rfl, ha, ra⟩ := liW_ok rs rx h1
        have ta := ra.un h2
        exact ⟨a, k, xs, rfl, ry.i_, ha, hc.1, hc.2.1, sl_of (by rw [ta.length]; exact hc.2.2), fun q nq => newL_ok rs nq (ta.flat _) p⟩
      · rw [if_neg hc] at p
        exact (show False from p).elim
  · exact (show False from p).elim
def uRevT : O1 := fun x S => match x with
  | .d (.tup ds) => newT ds.reverse S
  | _ => .no
/-- truth of a value -/
def truD : D → Bool
  | .non => false
  | .bl b => b
  | .int i => i != 0
  | .str z => ((z.length : Int) != 0)
  | .tup ds => !ds.isEmpty
  | .lst ds => !ds.isEmpty
  | .dct => false
def smallD : D → Bool
  | .str z => decide (z.length ≤ 100000)
  | _ => true
def fTru (fa : Env → Store → Rs W) : Env → Store → Rs Bool := fun ρ S => (fa ρ S).bind fun x S1 => match rdW S1 x with
  | some d => if smallD d then .ok (truD d) S1 else .no
  | none => .no
theorem emp_of {vs : List V} {ds : List D} (t : RDs K M H vs ds) : vs.isEmpty = ds.isEmpty := by
  cases t <;> rfl
theorem tru_of {S : Store} {v : V} {x : W} {d : D} (rs : RS K M S H) (r : RW K M H v x) (h : rdW S x = some d) (hs : smallD d = true) : TruV K v H (truD d) := by
  cases r with
  | d rd =>
    have h' := Option.some.inj h
    subst h'
    cases rd with
    | non => rfl
    | bl b => rfl
    | int i => rfl
    | str z => exact ⟨sl_of (of_decide_eq_true hs), rfl⟩
    | tup n t => exact .inr (.inl ⟨_, n.sq, by rw [emp_of t]; rfl⟩)
    | lst n t => exact .inl ⟨_, n.sq, by rw [emp_of t]; rfl⟩
    | dct n hd => exact .inr (.inr ⟨[], hd, rfl⟩)
  | @c k a ha =>
    cases hk : S[k]? with
    | none => rw [rdW, hk] at h; cases h
    | some c =>
      rw [rdW, hk] at h
      cases c with
      | l ds =>
        have h' := Option.some.inj h
        subst h'
        obtain ⟨xs, h1, h2⟩ := rs.ok k a _ ha hk
        exact .inl ⟨xs, SqL.of h1, by rw [emp_of h2]; rfl⟩
      | _ => cases h
  | @t a xs ws nl ha t =>
    cases hu : unDs ws with
    | none => rw [rdW, hu] at h; cases h
    | some ds =>
      rw [rdW, hu] at h
      have h' := Option.some.inj h
      subst h'
      exact .inr (.inl ⟨xs, SqT.of ha, by rw [emp_of (t.un hu)]; rfl⟩)
  | g _ => cases h
  | j _ => cases h
  | s _ => cases h
end
section
variable {X : Cx} {E : L2.St → XK} {a b c : Expr} {es : List Expr} {fa fb fc : Env → Store → Rs W} {fs : Env → Store → Rs (List W)} {pos apos : Pos}
theorem f_neg (ha : FE X E a fa) : FE X E (.UnaryOp .USub a pos) (fUn uNeg fa) := f_un un_neg unF_neg ha
theorem f_repL (b' : Bool) (ha : FE X E a fa) (hb : FE X E b fb) : FE X E (.BinOp a .Mult b pos) (fOp (oRepL b') fa fb) := f_op op_rep opF_repL ha hb
theorem f_dct : FE X E (.Dict [] [] pos) fDct := by
  refine PE.imp pe_dnewK ?_
  rintro σ H Q ⟨M, ρ, S, rs, ro, p⟩ q nq
  exact p M (.ref q) _ (Ext.fz nq) (rs.fz nq) (.d (.dct (rs.fresh nq) upd_same))
theorem f_isN {j : Nat} {p2 : Pos} (ha : FE X E a fa) : FE X E (.Compare a [.Is] [.Constant .none j p2] pos) (fUn uIsN fa) := PE.imp (pe_cmp (pc_isN ha)) fun σ H Q h => fUn_imp (K := X.K) (mg := X.mg) (r := rI1) unF_isN σ H Q h
theorem f_notN {j : Nat} {p2 : Pos} (ha : FE X E a fa) : FE X E (.Compare a [.IsNot] [.Constant .none j p2] pos) (fUn uNotN fa) := PE.imp (pe_cmp (pc_notN ha)) fun σ H Q h => fUn_imp (K := X.K) (mg := X.mg) (r := rN1) unF_notN σ H Q h
theorem ft_isN {j : Nat} {p2 : Pos} (ha : FE X E a fa) : FT X E (.Compare a [.Is] [.Constant .none j p2] pos) (fB (fUn uIsN fa)) := PT.imp (pt_cmp (pc_isN ha)) fun σ H Q h => fUn_imp (K := X.K) (mg := X.mg) (r := rI1) unF_isN σ H _ (fB_imp σ H Q h)
theorem ft_notN {j : Nat} {p2 : Pos} (ha : FE X E a fa) : FT X E (.Compare a [.IsNot] [.Constant .none j p2] pos) (fB (fUn uNotN fa)) := PT.imp (pt_cmp (pc_notN ha)) fun σ H Q h => fUn_imp (K := X.K) (mg := X.mg) (r := rN1) unF_notN σ H _ (fB_imp σ H Q h)
theorem ft_tru (ha : FE X E a fa) (he : ∀ whole, isTrue a X.env whole = (do let v ← whole; standAt a.pos; holding [v] (truthy v)) := by intro _; rfl) : FT X E a (fTru fa) := by
  refine PT.imp (pt_truth ha he) ?_
  intro σ H Q h
  refine tG.bind (R := RWK X.K) (R' := RB) (g := fun _ x S1 => match rdW S1 x with
    | some d => if smallD d then .ok (truD d) S1 else .no
    | none => .no) h fun v H1 M1 ρ x S1 rs ro r p => ?_
  cases hd : rdW S1 x with
  | none => rw [hd] at p; exact (show False from p).elim
  | some d =>
    rw [hd] at p
    dsimp only at p
    by_cases hs : smallD d = true
    · rw [if_pos hs] at p
      exact ⟨truD d, tru_of rs r hd hs, Post.ret (R := RB) rs rfl p⟩
    · rw [if_neg hs] at p
      exact (show False from p).elim
theorem f_revT {k : Nat} {p1 p2 p3 : Pos} (ha : FE X E a fa) : FE X E (.Subscript a (.Slice none none (some (.UnaryOp .USub (.Constant (.int 1) k p1) p2)) p3) pos) (fUn uRevT fa) := by
  refine PE.imp (pe_revT ha) ?_
  intro σ H Q h
  refine tG.bind (R := RWK X.K) (R' := RWK X.K) (g := fun _ x S1 => uRevT x S1) h fun v H1 M1 ρ x S1 rs ro r p => ?_
  unfold uRevT at p
  split at p
  · obtain ⟨q, xs, rfl, n, t⟩ := RW.t_ r
    exact ⟨q, xs, rfl, n.sq, fun z nz => newT_ok rs nz t.rev p⟩
  · exact (show False from p).elim
theorem f_extend {es : List Expr} {fb : Env → Store → Rs (List W)} (ho : FE X E a fa) (ha : FA X E (b :: es) fb)
    (hbase : attributeBase a "extend" X.env (eval a X.env) = eval a X.env := by rfl)
    (hfew : ((backTo pos (starEach (b :: es) X.env)).all (fun x => !x.1) && (backToKw pos (keywordEach [] X.env)).all (fun x => x.1.isSome)
      && decide ((b :: es).length + ([] : List Keyword).length + (if ([] : List Keyword).isEmpty then 0 else 1) < 30)) = true := by rfl)
    (hline : (apos.endLine == pos.line) = true := by rfl) (hs : starEach (b :: es) X.env = (false, eval b X.env) :: starEach es X.env := by rfl) (hplain : (backTo pos (starEach es X.env)).any (·.1) = false := by rfl) :
    FE X E (.Call (.Attribute a "extend" apos) (b :: es) [] pos) (fMt (fun x S => isCl x S = true) mExt fa fb) := f_mt PySem.F.slot_list_extend PySem.F.type_list_extend mt_extend mtF_ext ho ha hbase hfew hline hs hplain
end
end As

/-! repr of plain data, empty dicts among them -/
namespace As
open PySem PySem.Spec PyProof.Rows L2
def showD (d : D) : Bool := (pd d).showable && decide ((pd d).shown.length ≤ 1000000) && decide ((pd d).depth ≤ 50)
section
variable {X : Cx} {pins : List (Addr × Obj)} {σ : L2.St} {H : Hp} {s : Shared} {M : Mp}
theorem dct_at {a : Addr} (I : Inv X pins σ H s) (h : H a = some (.dK [])) : (a == sysModules) = false ∧ ∃ o ep, s.heap.get? a = some o ∧ o.cls = .type "dict" ∧ o.data = .dict #[] ep := by
  obtain ⟨_, hs, vs, kv, o, es, ep, e, ex, hd, _, pr, _⟩ := I.hok a _ h
  cases kv
  obtain ⟨l⟩ := es
  cases l with
  | nil => exact ⟨hs, o, ep, e, ex.1, hd⟩
  | cons x l => cases pr
mutual
theorem RD.rpK (I : Inv X pins σ H s) : ∀ {v : V} {d : D} {u : Value}, RD X.K M H v d → RelV v u → (pd d).showable = true → (pd d).shown.length ≤ sizeLine →
    (∃ as, Reads s.heap u (pd d) as) ∧ ∃ bs, ReadAtMost s.heap (pd d).depth bs ∧ ReprK X.prog X.w bs s.heap (pd d).depth u (pd d).shown
  | _, _, _, .non, r, _, _ => by
    cases r
    rw [pd]
    exact ⟨⟨_, .none⟩, [], (fun _ z => nomatch z), by simp only [PyData.shown]; exact .of_is .none _ _ _⟩
  | _, _, _, .bl b, r, _, _ => by
    cases r
    rw [pd]
    exact ⟨⟨_, .bool b⟩, [], (fun _ z => nomatch z), by simp only [PyData.shown]; exact .of_is (.bool b) _ _ _⟩
  | _, _, _, .int i, r, hs, _ => by
    obtain ⟨t, rfl⟩ := r
    rw [pd] at hs ⊢
    exact ⟨⟨_, .int i t⟩, [], (fun _ z => nomatch z), by simp only [PyData.shown]; exact .of_is (.int t (by simpa [PyData.showable] using hs)) _ _ _⟩
  | _, _, _, .str z, r, _, hz => by
    obtain ⟨t, rfl⟩ := r
    rw [pd] at hz ⊢
    exact ⟨⟨_, .str z t⟩, [], (fun _ z => nomatch z), by simp only [PyData.shown]; exact .of_is (.str z t (by simpa only [PyData.shown] using hz)) _ _ _⟩
  | _, _, _, .lst (a := a) (xs := xs) (ds := ds) n t, r, hs, hz => by
    cases r
    rw [pd] at hs hz ⊢
    obtain ⟨its, rv, ⟨o, k, e, c, dn, dt⟩, _⟩ := I.list (n.sq (K := X.K))
    have hs2 : PyData.showableAll (pds ds) = true := by simpa [PyData.showable] using hs
    have hz2 : (listText (PyData.shownAll (pds ds))).length ≤ sizeLine := by simpa only [PyData.shown] using hz
    obtain ⟨⟨as, ra⟩, bs, hb, hk⟩ := RDs.rpK I t rv hs2 fun x hx => Nat.le_trans (listText_mem_le hx) hz2
    have rd : Reads s.heap (.ref a) (.list (pds ds)) (a :: as) := .list e c dt (by simpa using ra)
    have out : a ∉ bs := not_mem_of_deeper rd (by simp only [PyData.depth]; omega) hb
    refine ⟨⟨_, rd⟩, a :: bs, ReadAtMost.cons rd (by simp only [PyData.depth]; omega) hb, ?_⟩
    simp only [PyData.depth, PyData.shown]
    cases its with
    | nil =>
      cases rv
      cases t
      rw [pds]
      simp only [PyData.shownAll, listText_nil]
      exact ReprK.listEmpty e c dt
    | cons y ys => exact ReprK.list e c dt out (by simpa using hk.length_eq) (fun i z ez => hk.item i z (by simpa using ez))
  | _, _, _, .tup (a := a) (xs := xs) (ds := ds) n t, r, hs, hz => by
    cases r
    rw [pd] at hs hz ⊢
    obtain ⟨its, rv, ⟨o, e, c, k, dt⟩, _⟩ := I.tuple n.sq
    have hs2 : PyData.showableAll (pds ds) = true := by simpa [PyData.showable] using hs
    have hz2 : (tupleText (PyData.shownAll (pds ds))).length ≤ sizeLine := by simpa only [PyData.shown] using hz
    obtain ⟨⟨as, ra⟩, bs, hb, hk⟩ := RDs.rpK I t rv hs2 fun x hx => Nat.le_trans (tupleText_mem_le hx) hz2
    have rd : Reads s.heap (.ref a) (.tuple (pds ds)) as := .tuple e c dt (by simpa using ra)
    have out : a ∉ bs := not_mem_of_deeper rd (by simp only [PyData.depth]; omega) hb
    refine ⟨⟨_, rd⟩, a :: bs, ReadAtMost.cons rd (by simp only [PyData.depth]; omega) hb, ?_⟩
    simp only [PyData.depth, PyData.shown]
    exact ReprK.tuple e c dt out (by simpa using hk)
  | _, _, _, .dct (a := a) n h, r, _, _ => by
    cases r
    rw [pd]
    obtain ⟨hsys, o, ep, e, c, dt⟩ := dct_at I h
    have rd : Reads s.heap (.ref a) (.dict []) (a :: [] ++ []) := .dict e c dt .nil .nil
    refine ⟨⟨_, rd⟩, a :: [], ReadAtMost.cons rd (n := 0) (Nat.zero_le _) (fun _ z => nomatch z), ?_⟩
    simp only [PyData.depth, PyData.shown]
    exact ReprK.dict e c dt hsys (fun z => nomatch z) .nil
theorem RDs.rpK (I : Inv X pins σ H s) : ∀ {vs : List V} {ds : List D} {us : List Value}, RDs X.K M H vs ds → Vals vs us → PyData.showableAll (pds ds) = true → (∀ t ∈ PyData.shownAll (pds ds), t.length ≤ sizeLine) →
    (∃ as, ReadsAll s.heap us (pds ds) as) ∧ ∃ bs, ReadAtMost s.heap (PyData.depthAll (pds ds)) bs ∧ ReprAllK X.prog X.w bs s.heap (PyData.depthAll (pds ds)) us (PyData.shownAll (pds ds))
  | _, _, _, .nil, r, _, _ => by
    cases r
    rw [pds]
    exact ⟨⟨_, .nil⟩, [], (fun _ z => nomatch z), by simp only [PyData.shownAll]; exact .nil⟩
  | _, _, _, .cons (d := d) (ds := ds) h t, r, hs, hz => by
    cases r with
    | cons r rr =>
      rw [pds] at hs hz ⊢
      rw [PyData.showableAll, Bool.and_eq_true] at hs
      obtain ⟨⟨a1, q1⟩, b1, hb1, k1⟩ := RD.rpK I h r hs.1 (hz _ (by simp only [PyData.shownAll]; exact List.mem_cons_self ..))
      obtain ⟨⟨a2, q2⟩, b2, hb2, k2⟩ := RDs.rpK I t rr hs.2 fun x hx => hz x (by simp only [PyData.shownAll]; exact List.mem_cons_of_mem _ hx)
      simp only [PyData.depthAll, PyData.shownAll]
      exact ⟨⟨_, .cons q1 q2⟩, b1 ++ b2, (hb1.mono (Nat.le_max_left _ _)).append (hb2.mono (Nat.le_max_right _ _)),
        .cons ((k1.more fun b hb => List.mem_append_left _ hb).level_le (Nat.le_max_left _ _)) (k2.more_le (fun b hb => List.mem_append_right _ hb) (Nat.le_max_right _ _))⟩
end
def aRepr : OA := fun xs S => match xs with
  | [x] => match rdW S x with
    | some d => if showD d then .ok (.d (.str (pd d).shown)) S else .no
    | none => .no
  | _ => .no
def rRepr (K : PySem.W.Frag) : List V → Hp → VK → Prop := fun xs H Q => ∃ (x : V) (d : D) (M : Mp), xs = [x] ∧ RD K M H x d ∧ showD d = true ∧ Q (.str (pd d).shown) H
theorem showD_ok {d : D} (h : showD d = true) : (pd d).showable = true ∧ (pd d).shown.length ≤ sizeLine ∧ (pd d).depth ≤ 50 := by
  unfold showD at h
  rw [Bool.and_eq_true, Bool.and_eq_true, decide_eq_true_eq, decide_eq_true_eq] at h
  exact ⟨h.1.1, Nat.le_trans h.1.2 (by decide), h.2⟩
theorem cr_repr (gd : X.A.guards = some []) (hu : X.A.units + 64 < cLine) : CallR X (.builtin "repr") (rRepr X.K) := by
  intro pins s σ H xs us Q I r h
  obtain ⟨x, d, M, rfl, rd, hs, q⟩ := h
  obtain ⟨h1, h2, h3⟩ := showD_ok hs
  cases r with
  | cons rx rr =>
    cases rr
    have fin : ∀ h' u tk, (∀ b o, s.heap.get? b = some o → h'.get? b = some o) → EP X pins σ Q (.str (pd d).shown u) { s with heap := h', toks := tk } := fun h' u tk hk => ⟨.str (pd d).shown, H, I.kept (t' := tk) hk, ⟨u, rfl⟩, q⟩
    cases rd with
    | non => cases rx; exact PySem.P.repr_of_none (by rw [pd] at fin; simp only [PyData.shown] at fin; exact fin s.heap s.toks (s.toks + 1) fun _ _ e => e)
    | bl b =>
      cases rx
      rw [pd] at fin
      simp only [PyData.shown] at fin
      exact PySem.P.repr_of_bool (fin s.heap s.toks (s.toks + 1) fun _ _ e => e)
    | int i =>
      obtain ⟨t, rfl⟩ := rx
      rw [pd] at fin h1
      simp only [PyData.shown] at fin
      exact PySem.P.repr_of_int (by simpa [PyData.showable] using h1) (fin s.heap s.toks (s.toks + 1) fun _ _ e => e)
    | str z =>
      obtain ⟨t, rfl⟩ := rx
      rw [pd] at fin h2
      simp only [PyData.shown] at fin h2
      exact PySem.P.repr_of_str (fin s.heap s.toks (s.toks + 1) fun _ _ e => e) h2
    | @lst a xs ds n t =>
      cases rx
      rw [pd] at fin h1 h2 h3
      obtain ⟨its, rv, ⟨o, k, e, c, dn, dt⟩, _⟩ := I.list (n.sq (K := X.K))
      have hs2 : PyData.showableAll (pds ds) = true := by simpa [PyData.showable] using h1
      have hz2 : (listText (PyData.shownAll (pds ds))).length ≤ sizeLine := by simpa only [PyData.shown] using h2
      obtain ⟨⟨as, ra⟩, bs, hb, hk⟩ := RDs.rpK I t rv hs2 fun x hx => Nat.le_trans (listText_mem_le hx) hz2
      have rdd : Reads s.heap (.ref a) (.list (pds ds)) (a :: as) := .list e c dt (by simpa using ra)
      have out : a ∉ bs := not_mem_of_deeper rdd (by simp only [PyData.depth]; omega) hb
      simp only [PyData.depth] at h3
      simp only [PyData.shown] at fin
      refine call_repr_slot (by omega) (show s.TypeIs (.ref a) "list" from ⟨o, e, c⟩) F.slot_list_repr.toG ?_
      cases its with
      | nil =>
        cases rv
        cases t
        rw [pds] at fin
        simp only [PyData.shownAll, listText_nil] at fin
        exact call_list_repr_empty ⟨o, e, c⟩ e dt ⟨_, _, rfl, fin s.heap _ _ fun _ _ z => z⟩
      | cons y ys => exact call_list_reprK e c dt out (by simpa using hk.length_eq) (fun i z ez => hk.item i z (by simpa using ez)) gd (fun b _ => Clear.nil b) (by show X.A.units + 1 + _ < cLine; omega) (fun _ _ z => z) (fun h' u tk hk => ⟨_, _, rfl, fin h' u tk hk⟩) hz2
    | @tup a xs ds n t =>
      cases rx
      rw [pd] at fin h1 h2 h3
      obtain ⟨its, rv, ⟨o, e, c, k, dt⟩, _⟩ := I.tuple n.sq
      have hs2 : PyData.showableAll (pds ds) = true := by simpa [PyData.showable] using h1
      have hz2 : (tupleText (PyData.shownAll (pds ds))).length ≤ sizeLine := by simpa only [PyData.shown] using h2
      obtain ⟨⟨as, ra⟩, bs, hb, hk⟩ := RDs.rpK I t rv hs2 fun x hx => Nat.le_trans (tupleText_mem_le hx) hz2
      have rdd : Reads s.heap (.ref a) (.tuple (pds ds)) as := .tuple e c dt (by simpa using ra)
      have out : a ∉ bs := not_mem_of_deeper rdd (by simp only [PyData.depth]; omega) hb
      simp only [PyData.depth] at h3
      simp only [PyData.shown] at fin
      exact call_repr_slot (by omega) (show s.TypeIs (.ref a) "tuple" from ⟨o, e, c⟩) F.slot_tuple_repr (call_tuple_reprK e c dt out (by simpa using hk) gd (fun b _ => Clear.nil b) (by show X.A.units + 1 + _ < cLine; omega) (fun _ _ z => z) (fun h' u tk hk => ⟨_, _, rfl, fin h' u tk hk⟩) hz2)
    | @dct a n hd =>
      cases rx
      rw [pd] at fin h1 h2 h3
      obtain ⟨hsys, o, ep, e, c, dt⟩ := dct_at I hd
      simp only [PyData.shown] at fin h2
      exact call_repr_slot (by omega) (show s.TypeIs (.ref a) "dict" from ⟨o, e, c⟩) F.slot_dict_repr (call_dict_reprK (d := 0) (as := []) e c dt hsys (fun z => nomatch z) .nil gd (fun b _ => Clear.nil b) (by show X.A.units + 1 + _ < cLine; omega) (fun _ _ z => z) (fun h' u tk hk => ⟨_, _, rfl, fin h' u tk hk⟩) h2)
end
section
variable {K : PySem.W.Frag} {mg : Str → Option Value} {M : Mp} {H : Hp}
theorem apF_repr : ApF K mg aRepr (rRepr K) := by
  intro M S H vs ws E Q rs r p
  unfold aRepr at p
  split at p
  · rename_i x
    cases r with
    | cons rx rr =>
      cases rr
      cases hd : rdW S x with
      | none => rw [hd] at p; exact (show False from p).elim
      | some d =>
        rw [hd] at p
        dsimp only at p
        by_cases hk : showD d = true
        · rw [if_pos hk] at p
          exact ⟨_, d, M.cut 0, rfl, rdW_rd rs rx hd, hk, p.ret rs (.d (.str _))⟩
        · rw [if_neg hk] at p
          exact (show False from p).elim
  · exact (show False from p).elim
end
section
variable {X : Cx} {E : L2.St → XK} {fs : Env → Store → Rs (List W)} {pos : Pos}
theorem f_repr {e : Expr} {es : List Expr} {p : Pos} (gd : X.A.guards = some []) (hu : X.A.units + 64 < cLine) (h1 : Gl X "repr") (hm : X.mg "repr" = none) (ha : FA X E (e :: es) fs) (he : starEach (e :: es) X.env = (false, eval e X.env) :: starEach es X.env := by rfl) (hpl : (backTo pos (starEach es X.env)).any (·.1) = false := by rfl) : FE X E (.Call (.Name "repr" p) (e :: es) [] pos) (fApp aRepr fs) :=
  f_callB (cr_repr gd hu) apF_repr h1 hm (by decide +kernel) ha (by decide) (by decide) he hpl
end
end As

/-! how the functions are worked out: one step a row, by simp -/
namespace As
open PySem PySem.Spec PyProof.Rows L2
section
variable {ρ : Env} {S : Store}
@[simp] theorem fVar_ap (i : Nat) : fVar i ρ S = match ρ[i]? with | some (some w) => .ok w S | _ => .no := rfl
@[simp] theorem fK_ap (w : W) : fK w ρ S = .ok w S := rfl
@[simp] theorem fOp_ap (g : O2) (fa fb : Env → Store → Rs W) : fOp g fa fb ρ S = (fa ρ S).bind fun x S1 => (fb ρ S1).bind fun y S2 => g x y S2 := rfl
@[simp] theorem fUn_ap (g : O1) (fa : Env → Store → Rs W) : fUn g fa ρ S = (fa ρ S).bind fun x S1 => g x S1 := rfl
@[simp] theorem aNil_ap : aNil ρ S = .ok [] S := rfl
@[simp] theorem aCons_ap (fa : Env → Store → Rs W) (fr : Env → Store → Rs (List W)) : aCons fa fr ρ S = (fa ρ S).bind fun x S1 => (fr ρ S1).bind fun xs S2 => .ok (x :: xs) S2 := rfl
@[simp] theorem fApp_ap (g : OA) (fa : Env → Store → Rs (List W)) : fApp g fa ρ S = (fa ρ S).bind fun x S1 => g x S1 := rfl
@[simp] theorem fB_ap (fa : Env → Store → Rs W) : fB fa ρ S = (fa ρ S).bind fun x S1 => match x with | .d (.bl b) => .ok b S1 | _ => .no := rfl
@[simp] theorem tNotF_ap (f : Env → Store → Rs Bool) : tNotF f ρ S = (f ρ S).bind fun b S1 => .ok (!b) S1 := rfl
@[simp] theorem tAndF_ap (f g : Env → Store → Rs Bool) : tAndF f g ρ S = (f ρ S).bind fun b S1 => if b = true then g ρ S1 else .ok false S1 := rfl
@[simp] theorem tOrF_ap (f g : Env → Store → Rs Bool) : tOrF f g ρ S = (f ρ S).bind fun b S1 => if b = true then .ok true S1 else g ρ S1 := rfl
@[simp] theorem fNot_ap (fa : Env → Store → Rs W) : fNot fa ρ S = (fB fa ρ S).bind fun b S1 => .ok (.d (.bl (!b))) S1 := rfl
@[simp] theorem fAnd_ap (fa fb : Env → Store → Rs W) : fAnd fa fb ρ S = (fB fa ρ S).bind fun b S1 => if b = true then fb ρ S1 else .ok (.d (.bl false)) S1 := rfl
@[simp] theorem fOr_ap (fa fb : Env → Store → Rs W) : fOr fa fb ρ S = (fB fa ρ S).bind fun b S1 => if b = true then .ok (.d (.bl true)) S1 else fb ρ S1 := rfl
@[simp] theorem fIfE_ap (t : Env → Store → Rs Bool) (fa fb : Env → Store → Rs W) : fIfE t fa fb ρ S = (t ρ S).bind fun b S1 => if b = true then fa ρ S1 else fb ρ S1 := rfl
@[simp] theorem fChain_ap (g g' : O2) (fa fb fc : Env → Store → Rs W) : fChain g g' fa fb fc ρ S = (fa ρ S).bind fun x S1 => (fb ρ S1).bind fun y S2 => (g x y S2).bind fun z S3 => match z with
  | .d (.bl true) => (fc ρ S3).bind fun w S4 => g' y w S4
  | .d (.bl false) => .ok (.d (.bl false)) S3
  | _ => .no := rfl
@[simp] theorem fSl_ap (g : OS) (fa : Env → Store → Rs W) (fl fh : Env → Store → Rs (Option Int)) : fSl g fa fl fh ρ S = (fa ρ S).bind fun x S1 => (fl ρ S1).bind fun lo S2 => (fh ρ S2).bind fun hi S3 => g x lo hi S3 := rfl
@[simp] theorem pNo_ap : pNo ρ S = .ok none S := rfl
@[simp] theorem pSo_ap (fa : Env → Store → Rs W) : pSo fa ρ S = (fa ρ S).bind fun x S1 => match x with | .d (.int i) => .ok (some i) S1 | _ => .no := rfl
@[simp] theorem fMt_ap (g : OM) (fa : Env → Store → Rs W) (fs : Env → Store → Rs (List W)) : fMt (fun x S => isCl x S = true) g fa fs ρ S = (fa ρ S).bind fun x S1 => if isCl x S1 = true then (fs ρ S1).bind fun xs S2 => g x xs S2 else .no := rfl
@[simp] theorem fDct_ap : fDct ρ S = .ok (.d .dct) S := rfl
@[simp] theorem tYesF_ap : tYesF ρ S = .ok true S := rfl
/-- statements -/
@[simp] theorem sNil_ap : sNil ρ S = .nx ρ S := rfl
@[simp] theorem sSeq_ap (f g : Sm) : sSeq f g ρ S = match f ρ S with | .nx ρ' S' => g ρ' S' | o => o := rfl
@[simp] theorem sPass_ap : sPass ρ S = .nx ρ S := rfl
@[simp] theorem sExpr_ap (fa : Env → Store → Rs W) : sExpr fa ρ S = (fa ρ S).st ρ fun _ S1 => .nx ρ S1 := rfl
@[simp] theorem sRet_ap (fa : Env → Store → Rs W) : sRet fa ρ S = (fa ρ S).st ρ fun w S1 => .rt w S1 := rfl
@[simp] theorem sIf_ap (t : Env → Store → Rs Bool) (f g : Sm) : sIf t f g ρ S = (t ρ S).st ρ fun b S1 => if b = true then f ρ S1 else g ρ S1 := rfl
@[simp] theorem sSet_ap (i : Nat) (fa : Env → Store → Rs W) : sSet i fa ρ S = (fa ρ S).st ρ fun w S1 => .nx (ρ.set i (some w)) S1 := rfl
@[simp] theorem sAsg_ap (p : Pt) (fa : Env → Store → Rs W) : sAsg p fa ρ S = (fa ρ S).st ρ fun w S1 => match bindP p w ρ with | some ρ' => .nx ρ' S1 | none => .no := rfl
@[simp] theorem sPut_ap (fo fi fe : Env → Store → Rs W) : sPut fo fi fe ρ S = (fe ρ S).st ρ fun w S1 => (fo ρ S1).st ρ fun o S2 => (fi ρ S2).st ρ fun i S3 => match o, i, w with
  | .c k, .d (.int z), .d d => match S3[k]? with
    | some (.l ds) => match ixN ds.length z with
      | some j => .nx ρ (S3.set k (.l (ds.set j d)))
      | none => .no
    | _ => .no
  | _, _, _ => .no := rfl
@[simp] theorem sFor_ap (fi : Env → Store → Rs Itm) (p : Pt) (body : Sm) : sFor fi p body ρ S = (fi ρ S).st ρ fun a S1 => forL p a.2 body a.1 ρ S1 := rfl
@[simp] theorem fLc_ap (b : Bool) (fi : Env → Store → Rs Itm) (p : Pt) (t : Env → Store → Rs Bool) (fe : Env → Store → Rs W) (vs : List Nat) : fLc b fi p t fe vs ρ S = (fi ρ S).bind fun a S1 => if a.1.length < 100000 then (compL p a.2 t fe (wipeE ρ vs) a.1 S1).bind fun ds S2 => newL b ds S2 else .no := rfl
@[simp] theorem iList_ap (fa : Env → Store → Rs W) : iList fa ρ S = (fa ρ S).bind fun x S1 => match x with
  | .d (.lst ds) => .ok (ds.map .d, fun _ : Store => True) S1
  | .c k => match S1[k]? with
    | some (.l ds) => .ok (ds.map .d, fun S : Store => S[k]? = some (.l ds)) S1
    | some (.w ws) => .ok (ws, fun S : Store => S[k]? = some (.w ws)) S1
    | _ => .no
  | _ => .no := rfl
@[simp] theorem iTupF_ap (fa : Env → Store → Rs W) : iTupF fa ρ S = (fa ρ S).bind fun x S1 => match x with
  | .d (.tup ds) => .ok (ds.map .d, fun _ : Store => True) S1
  | .t ws => .ok (ws, fun _ : Store => True) S1
  | _ => .no := rfl
@[simp] theorem iRange1_ap (fs : Env → Store → Rs (List W)) : iRange1 fs ρ S = (fs ρ S).bind fun xs S1 => match xs with
  | [.d (.int j)] => if smallI j then .ok (rngW 0 j.toNat, fun _ : Store => True) S1 else .no
  | _ => .no := rfl
@[simp] theorem iRange2_ap (fs : Env → Store → Rs (List W)) : iRange2 fs ρ S = (fs ρ S).bind fun xs S1 => match xs with
  | [.d (.int i), .d (.int j)] => if smallI i && smallI j then .ok (rngW i (j - i).toNat, fun _ : Store => True) S1 else .no
  | _ => .no := rfl
@[simp] theorem iEnumL_ap (fs : Env → Store → Rs (List W)) : iEnumL fs ρ S = (fs ρ S).bind fun xs S1 => match xs with
  | [.d (.lst ds)] => .ok (enumW 0 ds, fun _ : Store => True) S1
  | _ => .no := rfl
@[simp] theorem iEnumT_ap (fs : Env → Store → Rs (List W)) : iEnumT fs ρ S = (fs ρ S).bind fun xs S1 => match xs with
  | [.d (.tup ds)] => .ok (enumW 0 ds, fun _ : Store => True) S1
  | _ => .no := rfl
end
/-! ### values -/
@[simp] theorem oAdd_ii (i j : Int) (S : Store) : oAdd (.d (.int i)) (.d (.int j)) S = .ok (.d (.int (i + j))) S := rfl
@[simp] theorem oSub_ii (i j : Int) (S : Store) : oSub (.d (.int i)) (.d (.int j)) S = .ok (.d (.int (i - j))) S := rfl
@[simp] theorem oMul_ii (i j : Int) (S : Store) : oMul (.d (.int i)) (.d (.int j)) S = if CMul i j then .ok (.d (.int (i * j))) S else .no := rfl
@[simp] theorem oDiv_ii (i j : Int) (S : Store) : oDiv (.d (.int i)) (.d (.int j)) S = if CDiv i j then .ok (.d (.int (i / j))) S else .no := rfl
@[simp] theorem oMod_ii (i j : Int) (S : Store) : oMod (.d (.int i)) (.d (.int j)) S = if 0 < j then .ok (.d (.int (i % j))) S else .no := rfl
@[simp] theorem oPow_ii (i j : Int) (S : Store) : oPow (.d (.int i)) (.d (.int j)) S = if CPow i j then .ok (.d (.int (i ^ j.toNat))) S else .no := rfl
@[simp] theorem oLt_ii (i j : Int) (S : Store) : oLt (.d (.int i)) (.d (.int j)) S = .ok (.d (.bl (decide (i < j)))) S := rfl
@[simp] theorem oLe_ii (i j : Int) (S : Store) : oLe (.d (.int i)) (.d (.int j)) S = .ok (.d (.bl (decide (i ≤ j)))) S := rfl
@[simp] theorem oGt_ii (i j : Int) (S : Store) : oGt (.d (.int i)) (.d (.int j)) S = .ok (.d (.bl (decide (j < i)))) S := rfl
@[simp] theorem oGe_ii (i j : Int) (S : Store) : oGe (.d (.int i)) (.d (.int j)) S = .ok (.d (.bl (decide (j ≤ i)))) S := rfl
@[simp] theorem uNeg_i (i : Int) (S : Store) : uNeg (.d (.int i)) S = .ok (.d (.int (-i))) S := rfl
/-- == of numbers, of texts -/
theorem okD_int (i : Int) : okD (.int i) = true := by
  unfold okD
  rw [pd]
  simp [nod, SeqAt.shaped, PyData.canLay0, PyData.depth]
theorem okD_non : okD .non = true := by
  unfold okD
  rw [pd]
  simp [nod, SeqAt.shaped, PyData.canLay0, PyData.depth]
theorem okD_bl (b : Bool) : okD (.bl b) = true := by
  unfold okD
  rw [pd]
  simp [nod, SeqAt.shaped, PyData.canLay0, PyData.depth]
theorem eqB_ii (i j : Int) : eqB (.int i) (.int j) = decide (i = j) := by
  unfold eqB
  rw [pd, pd]
  by_cases h : i = j <;> simp [PyData.eqv, h]
@[simp] theorem kEq_ss (n : Bool) (x y : Str) (S : Store) : kEq n (.str x) (.str y) S = .ok (.d (.bl (if n then !decide (x = y) else decide (x = y)))) S := rfl
@[simp] theorem kEq_ii (n : Bool) (i j : Int) (S : Store) : kEq n (.int i) (.int j) S = .ok (.d (.bl (if n then !decide (i = j) else decide (i = j)))) S := by
  show (if (okD (.int i) && okD (.int j)) = true then Rs.ok (W.d (.bl (if n then !eqB (.int i) (.int j) else eqB (.int i) (.int j)))) S else .no) = _
  rw [okD_int, okD_int, Bool.and_self, if_pos rfl, eqB_ii]
@[simp] theorem oEq_dd (a b : D) (S : Store) : oEq (.d a) (.d b) S = kEq false a b S := rfl
@[simp] theorem oNe_dd (a b : D) (S : Store) : oNe (.d a) (.d b) S = kEq true a b S := rfl
/-- isinstance -/
theorem kTy_int : knownTy "int" = true := by decide
theorem kTy_bool : knownTy "bool" = true := by decide
theorem kTy_str : knownTy "str" = true := by decide
theorem kTy_tup : knownTy "tuple" = true := by decide
theorem kTy_lst : knownTy "list" = true := by decide
theorem isTy_int (d : D) : isTy "int" d = isInt d := by unfold isTy; rw [kit_int]; rfl
theorem isTy_bool (d : D) : isTy "bool" d = isBool d := by unfold isTy; rw [kit_bool]; rfl
theorem isTy_str (d : D) : isTy "str" d = isStr d := by unfold isTy; rw [kit_str]; rfl
theorem isTy_tup (d : D) : isTy "tuple" d = isTup d := by unfold isTy; rw [kit_tup]; rfl
theorem isTy_lst (d : D) : isTy "list" d = isLst d := by unfold isTy; rw [kit_lst]; rfl
@[simp] theorem aIsi_int (d : D) (S : Store) : aIsi [.d d, .g (.ty "int")] S = .ok (.d (.bl (isInt d))) S := by
  show (if knownTy "int" = true then Rs.ok (W.d (.bl (isTy "int" d))) S else .no) = _
  rw [kTy_int, if_pos rfl, isTy_int]
@[simp] theorem aIsi_bool (d : D) (S : Store) : aIsi [.d d, .g (.ty "bool")] S = .ok (.d (.bl (isBool d))) S := by
  show (if knownTy "bool" = true then Rs.ok (W.d (.bl (isTy "bool" d))) S else .no) = _
  rw [kTy_bool, if_pos rfl, isTy_bool]
@[simp] theorem aIsi_str (d : D) (S : Store) : aIsi [.d d, .g (.ty "str")] S = .ok (.d (.bl (isStr d))) S := by
  show (if knownTy "str" = true then Rs.ok (W.d (.bl (isTy "str" d))) S else .no) = _
  rw [kTy_str, if_pos rfl, isTy_str]
@[simp] theorem aIsi_tup (d : D) (S : Store) : aIsi [.d d, .g (.ty "tuple")] S = .ok (.d (.bl (isTup d))) S := by
  show (if knownTy "tuple" = true then Rs.ok (W.d (.bl (isTy "tuple" d))) S else .no) = _
  rw [kTy_tup, if_pos rfl, isTy_tup]
@[simp] theorem aIsi_lst (d : D) (S : Store) : aIsi [.d d, .g (.ty "list")] S = .ok (.d (.bl (isLst d))) S := by
  show (if knownTy "list" = true then Rs.ok (W.d (.bl (isTy "list" d))) S else .no) = _
  rw [kTy_lst, if_pos rfl, isTy_lst]
/-- displays, items -/
@[simp] theorem unDs_nil : unDs [] = some [] := rfl
@[simp] theorem unDs_cons (d : D) (ws : List W) : unDs (.d d :: ws) = (unDs ws).map (d :: ·) := rfl
@[simp] theorem unDs_all (ds : List D) : unDs (ds.map .d) = some ds := unDs_map ds
@[simp] theorem newL_f (ds : List D) (S : Store) : newL false ds S = .ok (.d (.lst ds)) S := rfl
@[simp] theorem newL_t (ds : List D) (S : Store) : newL true ds S = .ok (.c S.length) (S ++ [.l ds]) := rfl
@[simp] theorem newT_ap (ds : List D) (S : Store) : newT ds S = .ok (.d (.tup ds)) S := rfl
theorem mkT_ds (ds : List D) (S : Store) (h : ds.length ≤ 100000) : mkT (ds.map .d) S = .ok (.d (.tup ds)) S := by
  unfold mkT
  rw [List.length_map, if_pos h, unDs_map]
theorem mkL_ds (b : Bool) (ds : List D) (S : Store) (h : ds.length ≤ 100000) : mkL b (ds.map .d) S = newL b ds S := by
  unfold mkL
  rw [List.length_map, if_pos h, unDs_map]
@[simp] theorem itW_l (S : Store) (ds : List D) : itW S (.d (.lst ds)) = some (ds.map .d) := rfl
@[simp] theorem itW_t (S : Store) (ds : List D) : itW S (.d (.tup ds)) = some (ds.map .d) := rfl
@[simp] theorem itW_s (S : Store) (ns : List Int) : itW S (.s ns) = some (ns.map fun i => .d (.int i)) := rfl
@[simp] theorem itW_c0 (ds : List D) (S : Store) : itW (.l ds :: S) (.c 0) = some (ds.map .d) := rfl
@[simp] theorem itW_c1 (c : Cell) (ds : List D) (S : Store) : itW (c :: .l ds :: S) (.c 1) = some (ds.map .d) := rfl
@[simp] theorem itW_c2 (c c' : Cell) (ds : List D) (S : Store) : itW (c :: c' :: .l ds :: S) (.c 2) = some (ds.map .d) := rfl
@[simp] theorem liW_l (S : Store) (ds : List D) : liW S (.d (.lst ds)) = some (ds.map .d) := rfl
@[simp] theorem liW_c0 (ds : List D) (S : Store) : liW (.l ds :: S) (.c 0) = some (ds.map .d) := rfl
@[simp] theorem liW_c1 (c : Cell) (ds : List D) (S : Store) : liW (c :: .l ds :: S) (.c 1) = some (ds.map .d) := rfl
@[simp] theorem liW_c2 (c c' : Cell) (ds : List D) (S : Store) : liW (c :: c' :: .l ds :: S) (.c 2) = some (ds.map .d) := rfl
@[simp] theorem rdW_c0 (ds : List D) (S : Store) : rdW (.l ds :: S) (.c 0) = some (.lst ds) := rfl
@[simp] theorem rdW_c1 (c : Cell) (ds : List D) (S : Store) : rdW (c :: .l ds :: S) (.c 1) = some (.lst ds) := rfl
@[simp] theorem rdW_c2 (c c' : Cell) (ds : List D) (S : Store) : rdW (c :: c' :: .l ds :: S) (.c 2) = some (.lst ds) := rfl
@[simp] theorem isCl_l (S : Store) (ds : List D) : isCl (.d (.lst ds)) S = true := rfl
@[simp] theorem isCl_c0 (ds : List D) (S : Store) : isCl (.c 0) (.l ds :: S) = true := rfl
@[simp] theorem isCl_c1 (c : Cell) (ds : List D) (S : Store) : isCl (.c 1) (c :: .l ds :: S) = true := rfl
@[simp] theorem isCl_c2 (c c' : Cell) (ds : List D) (S : Store) : isCl (.c 2) (c :: c' :: .l ds :: S) = true := rfl
@[simp] theorem aLen_ap (x : W) (S : Store) : aLen [x] S = match itW S x with | some ws => .ok (.d (.int ws.length)) S | none => .no := rfl
theorem oIx_ap (x : W) (i : Int) (S : Store) : oIx x (.d (.int i)) S = match itW S x with
  | some ws => match atI ws i with
    | some w => .ok w S
    | none => .no
  | none => .no := rfl
theorem fnF_ap (b : Bool) (n m : Nat) (f : Sm) (ws : List W) (S : Store) : fnF b n m f ws S = if ws.length = n then fin b S.length (f (ws.map some ++ List.replicate (m - ws.length) none) S) else .no := rfl
@[simp] theorem fin_rt (n : Nat) (w : W) (S : Store) : fin false n (.rt w S) = .ok w S := rfl
@[simp] theorem fin_nx (n : Nat) (ρ : Env) (S : Store) : fin false n (.nx ρ S) = .ok (.d .non) S := rfl
@[simp] theorem fin_ex (n : Nat) (e : Exn) (ρ : Env) (S : Store) : fin false n (.ex e ρ S) = .ex e S := rfl
end As
namespace As
open PySem PySem.Spec PyProof.Rows L2
@[simp] theorem oIn_dd (a b : D) (S : Store) : oIn (.d a) (.d b) S = kIn false a b S := rfl
@[simp] theorem oNotIn_dd (a b : D) (S : Store) : oNotIn (.d a) (.d b) S = kIn true a b S := rfl
@[simp] theorem kIn_t (n : Bool) (a : D) (ds : List D) (S : Store) : kIn n a (.tup ds) S = kInS n a (.tup ds) ds S := rfl
@[simp] theorem kIn_l (n : Bool) (a : D) (ds : List D) (S : Store) : kIn n a (.lst ds) S = kInS n a (.lst ds) ds S := rfl
@[simp] theorem strsD_nil : strsD [] = some [] := rfl
@[simp] theorem strsD_cons (z : Str) (ds : List D) : strsD (.str z :: ds) = (strsD ds).map (z :: ·) := rfl
@[simp] theorem kInS_t (n : Bool) (as : List D) (b : D) (ds : List D) (S : Store) : kInS n (.tup as) b ds S = kInO n (.tup as) b ds S := rfl
@[simp] theorem kInS_i (n : Bool) (i : Int) (b : D) (ds : List D) (S : Store) : kInS n (.int i) b ds S = kInO n (.int i) b ds S := rfl
theorem kInS_s (n : Bool) (z : Str) (b : D) {ds : List D} {zs : List Str} (S : Store) (h : strsD ds = some zs) : kInS n (.str z) b ds S = .ok (.d (.bl (if n then !zs.any fun y => decide (y = z) else zs.any fun y => decide (y = z)))) S := by
  unfold kInS
  rw [h]
theorem kInO_ok {n : Bool} {a b : D} {ds : List D} {S : Store} (h1 : okD a = true) (h2 : okD b = true) : kInO n a b ds S = .ok (.d (.bl (if n then !inB a ds else inB a ds))) S := by
  unfold kInO
  rw [h1, h2, Bool.and_self, if_pos rfl]
/-! ### data that may be compared, by their depth -/
def okK (n : Nat) (d : D) : Bool := nod d && (pd d).canLay0 && decide ((pd d).depth ≤ n)
theorem okK_D {n : Nat} {d : D} (h : okK n d = true) (hn : n ≤ 64) : okD d = true := by
  unfold okK at h
  unfold okD SeqAt.shaped
  simp only [Bool.and_eq_true, decide_eq_true_eq] at h ⊢
  exact ⟨h.1.1, h.1.2, by omega⟩
theorem okK_int (n : Nat) (i : Int) : okK n (.int i) = true := by
  unfold okK
  rw [pd]
  simp [nod, PyData.canLay0, PyData.depth]
theorem okK_str (n : Nat) {z : Str} (h : PyData.strOk z = true) : okK n (.str z) = true := by
  unfold okK
  rw [pd]
  simp [nod, PyData.canLay0, PyData.depth, h]
theorem okK_all {n : Nat} : ∀ {ds : List D}, (∀ d ∈ ds, okK n d = true) → nods ds = true ∧ PyData.canLayAll0 (pds ds) = true ∧ PyData.depthAll (pds ds) ≤ n
  | [], _ => by
    rw [nods, pds]
    simp [PyData.canLayAll0, PyData.depthAll]
  | d :: ds, h => by
    obtain ⟨h1, h2, h3⟩ := okK_all fun e he => h e (List.mem_cons_of_mem _ he)
    have h4 := h d (List.mem_cons_self ..)
    unfold okK at h4
    simp only [Bool.and_eq_true, decide_eq_true_eq] at h4
    rw [nods, pds]
    simp only [PyData.canLayAll0, PyData.depthAll, Bool.and_eq_true]
    exact ⟨⟨h4.1.1, h1⟩, ⟨h4.1.2, h2⟩, by omega⟩
theorem okK_tup {n : Nat} {ds : List D} (h : ∀ d ∈ ds, okK n d = true) : okK (n + 1) (.tup ds) = true := by
  obtain ⟨h1, h2, h3⟩ := okK_all h
  have h4 : (PyData.tuple (pds ds)).depth ≤ n + 1 := by rw [PyData.depth]; omega
  unfold okK
  rw [nod, pd]
  simp only [PyData.canLay0, Bool.and_eq_true, decide_eq_true_eq]
  exact ⟨⟨h1, h2⟩, h4⟩
theorem okK_lst {n : Nat} {ds : List D} (h : ∀ d ∈ ds, okK n d = true) : okK (n + 1) (.lst ds) = true := by
  obtain ⟨h1, h2, h3⟩ := okK_all h
  have h4 : (PyData.list (pds ds)).depth ≤ n + 1 := by rw [PyData.depth]; omega
  unfold okK
  rw [nod, pd]
  simp only [PyData.canLay0, Bool.and_eq_true, decide_eq_true_eq]
  exact ⟨⟨h1, h2⟩, h4⟩
def eqS (d : D) (z : Str) : Bool := match d with
  | .str x => decide (x = z)
  | _ => false
theorem okD_str0 (z : Str) : okD (.str z) = (PyData.strOk z) := by
  unfold okD
  rw [pd]
  simp [nod, SeqAt.shaped, PyData.canLay0, PyData.depth]
theorem kEq_S {n : Bool} {z : Str} (hz : PyData.strOk z = true) (d : D) (S : Store) : kEq n d (.str z) S = .ok (.d (.bl (if n then !eqS d z else eqS d z))) S := by
  have e0 : okD (.str z) = true := (okD_str0 z).trans hz
  cases d with
  | str x => rfl
  | dct => cases n <;> rfl
  | lst ds => cases n <;> rfl
  | tup ds => cases n <;> rfl
  | non =>
    show (if (okD .non && okD (.str z)) = true then Rs.ok (W.d (.bl (if n then !eqB .non (.str z) else eqB .non (.str z)))) S else .no) = _
    rw [okD_non, e0, Bool.and_self, if_pos rfl]
    have e1 : eqB .non (.str z) = false := by unfold eqB; rw [pd, pd]; simp [PyData.eqv]
    rw [e1]; rfl
  | bl b =>
    show (if (okD (.bl b) && okD (.str z)) = true then Rs.ok (W.d (.bl (if n then !eqB (.bl b) (.str z) else eqB (.bl b) (.str z)))) S else .no) = _
    rw [okD_bl, e0, Bool.and_self, if_pos rfl]
    have e1 : eqB (.bl b) (.str z) = false := by unfold eqB; rw [pd, pd]; simp [PyData.eqv]
    rw [e1]; rfl
  | int i =>
    show (if (okD (.int i) && okD (.str z)) = true then Rs.ok (W.d (.bl (if n then !eqB (.int i) (.str z) else eqB (.int i) (.str z)))) S else .no) = _
    rw [okD_int, e0, Bool.and_self, if_pos rfl]
    have e1 : eqB (.int i) (.str z) = false := by unfold eqB; rw [pd, pd]; simp [PyData.eqv]
    rw [e1]; rfl
@[simp] theorem kEq_nil (n : Bool) (ds : List D) (S : Store) : kEq n (.lst ds) (.lst []) S = .ok (.d (.bl (if n then !ds.isEmpty else ds.isEmpty))) S := rfl
/-! ### comprehensions whose parts change nothing -/
theorem compL_map {i : Nat} {g : Store → Prop} {fe : Env → Store → Rs W} {ρw : Env} {S : Store} (hg : g S) {f : D → D} : ∀ {ds : List D}, (∀ d ∈ ds, fe (ρw.set i (some (.d d))) S = .ok (.d (f d)) S) → compL (.n i) g tYesF fe ρw (ds.map .d) S = .ok (ds.map f) S
  | [], _ => by rw [List.map_nil, compL, if_pos hg]; rfl
  | d :: ds, h => by
    rw [List.map_cons, compL, if_pos hg, bindP]
    dsimp only [tYesF]
    rw [h d (List.mem_cons_self ..)]
    dsimp only
    rw [compL_map hg fun e he => h e (List.mem_cons_of_mem _ he)]
    rfl
theorem compL_filter {i : Nat} {g : Store → Prop} {t : Env → Store → Rs Bool} {fe : Env → Store → Rs W} {ρw : Env} {S : Store} (hg : g S) {q : D → Bool} {f : D → D} : ∀ {ds : List D}, (∀ d ∈ ds, t (ρw.set i (some (.d d))) S = .ok (q d) S) → (∀ d ∈ ds, q d = true → fe (ρw.set i (some (.d d))) S = .ok (.d (f d)) S) →
    compL (.n i) g t fe ρw (ds.map .d) S = .ok ((ds.filter q).map f) S
  | [], _, _ => by rw [List.map_nil, compL, if_pos hg]; rfl
  | d :: ds, ht, h => by
    rw [List.map_cons, compL, if_pos hg, bindP]
    dsimp only
    rw [ht d (List.mem_cons_self ..)]
    have ih := compL_filter hg (fun e he => ht e (List.mem_cons_of_mem _ he)) fun e he => h e (List.mem_cons_of_mem _ he)
    cases hq : q d with
    | false =>
      dsimp only
      rw [ih, List.filter_cons, hq]
      rfl
    | true =>
      dsimp only
      rw [h d (List.mem_cons_self ..) hq]
      dsimp only
      rw [ih, List.filter_cons, hq]
      rfl
/-- over range(n) -/
theorem compL_range {i : Nat} {g : Store → Prop} {t : Env → Store → Rs Bool} {fe : Env → Store → Rs W} {ρw : Env} {S : Store} (hg : g S) {q : Int → Bool} {f : Int → D} : ∀ {n : Nat} {lo : Int}, (∀ k : Int, lo ≤ k → k < lo + n → t (ρw.set i (some (.d (.int k)))) S = .ok (q k) S) →
    (∀ k : Int, lo ≤ k → k < lo + n → q k = true → fe (ρw.set i (some (.d (.int k)))) S = .ok (.d (f k)) S) → compL (.n i) g t fe ρw (rngW lo n) S = .ok ((((List.range n).map fun j : Nat => lo + (j : Int)).filter q).map f) S
  | 0, lo, _, _ => by rw [rngW, compL, if_pos hg]; rfl
  | n + 1, lo, ht, h => by
    have e0 : ((List.range (n + 1)).map fun j : Nat => lo + (j : Int)) = lo :: (List.range n).map fun j : Nat => lo + 1 + (j : Int) := by
      rw [List.range_succ_eq_map, List.map_cons, List.map_map]
      congr 1
      · simp
      · refine List.map_congr_left fun j _ => ?_
        show lo + ((j + 1 : Nat) : Int) = lo + 1 + (j : Int)
        omega
    rw [e0, rngW, compL, if_pos hg, bindP]
    dsimp only
    rw [ht lo (Int.le_refl _) (by omega)]
    have ih := compL_range (n := n) (lo := lo + 1) hg (fun k a b => ht k (by omega) (by omega)) fun k a b => h k (by omega) (by omega)
    cases hq : q lo with
    | false =>
      dsimp only
      rw [ih, List.filter_cons, hq]
      rfl
    | true =>
      dsimp only
      rw [h lo (Int.le_refl _) (by omega) hq]
      dsimp only
      rw [ih, List.filter_cons, hq]
      rfl
/-- over enumerate -/
theorem compL_enum {i j : Nat} {g : Store → Prop} {fe : Env → Store → Rs W} {ρw : Env} {S : Store} (hg : g S) {f : Nat → D → D} : ∀ {ds : List D} {n : Nat}, (∀ k d, ds[k]? = some d → fe ((ρw.set i (some (.d (.int ((n + k : Nat) : Int))))).set j (some (.d d))) S = .ok (.d (f (n + k) d)) S) →
    compL (.t [.n i, .n j]) g tYesF fe ρw (enumW n ds) S = .ok ((ds.zipIdx n).map fun p => f p.2 p.1) S
  | [], n, _ => by rw [enumW, compL, if_pos hg]; rfl
  | d :: ds, n, h => by
    rw [enumW, compL, if_pos hg, bindP]
    dsimp only [unW]
    rw [List.map_cons, List.map_cons, List.map_nil, bindPs, bindP]
    dsimp only
    rw [bindPs, bindP]
    dsimp only
    rw [bindPs]
    dsimp only [tYesF]
    have h0 := h 0 d rfl
    rw [Nat.add_zero] at h0
    rw [h0]
    dsimp only
    rw [compL_enum hg (n := n + 1) fun k e he => ?_]
    · rfl
    · have := h (k + 1) e he
      rw [show n + (k + 1) = n + 1 + k by omega] at this
      exact this
/-- all, any of what was asked of each -/
theorem unBs_map' {α : Type} (f : α → Bool) (l : List α) : unBs ((l.map fun x => D.bl (f x)).map .d) = some (l.map f) := by
  induction l with
  | nil => rfl
  | cons a l ih =>
    show (unBs ((l.map fun x => D.bl (f x)).map .d)).map (f a :: ·) = _
    rw [ih]
    rfl
theorem aAll_map {α : Type} (f : α → Bool) (l : List α) (S : Store) : aAll [.d (.lst (l.map fun x => D.bl (f x)))] S = .ok (.d (.bl (l.all f))) S := by
  show (match unBs ((l.map fun x => D.bl (f x)).map .d) with | some bs => Rs.ok (W.d (.bl (bs.all id))) S | none => .no) = _
  rw [unBs_map']
  dsimp only
  rw [List.all_map]
  rfl
theorem aAny_map {α : Type} (f : α → Bool) (l : List α) (S : Store) : aAny [.d (.lst (l.map fun x => D.bl (f x)))] S = .ok (.d (.bl (l.any f))) S := by
  show (match unBs ((l.map fun x => D.bl (f x)).map .d) with | some bs => Rs.ok (W.d (.bl (bs.any id))) S | none => .no) = _
  rw [unBs_map']
  dsimp only
  rw [List.any_map]
  rfl
theorem eq_nil_lst (ds : List D) : eqB (.lst ds) (.lst []) = ds.isEmpty := by
  unfold eqB
  rw [pd, pd, pds]
  cases ds with
  | nil => rw [pds]; simp [PyData.eqv, PyData.eqvAll]
  | cons d ds => rw [pds]; simp [PyData.eqv, PyData.eqvAll]
end As

namespace As
open PySem PySem.Spec PyProof.Rows L2
def topS (i : Nat) : Stmt := PySem.Challenge.pw_asifalone_k71_what_is_a_program.main.body.getD i (.Pass ⟨0, 0, 0, 0⟩)
structure Mx (K : PySem.W.Frag) (mg : Str → Option Value) : Prop where
  isinstance : mg "isinstance" = none
  int : mg "int" = none
  bool : mg "bool" = none
  str : mg "str" = none
  tuple : mg "tuple" = none
  list : mg "list" = none
  len : mg "len" = none
  all : mg "all" = none
  enumerate : mg "enumerate" = none
  range : mg "range" = none
  repr : mg "repr" = none
  c_MANY_KEYS : ∃ t, mg "MANY_KEYS" = some (.int 1000000 t)
  c_MOST_TABLE : ∃ t, mg "MOST_TABLE" = some (.int 9 t)
  c_MOST_TABLES : ∃ t, mg "MOST_TABLES" = some (.int 3 t)
  c_MOST_STEPS : ∃ t, mg "MOST_STEPS" = some (.int 6 t)
  c_MOST_PROGRAMS : ∃ t, mg "MOST_PROGRAMS" = some (.int 4 t)
/-! ### is_whole -/
abbrev sIsWhole : Stmt := topS 1
abbrev nIsWhole : List Str := ["thing"]
theorem scIsWhole : FnScope nIsWhole ["thing"] (defScope sIsWhole) := ⟨rfl, rfl, rfl, by decide +kernel, rfl, by decide +kernel, by decide +kernel⟩
-- slots: 0:thing
noncomputable def gIsWhole : Sm :=
    (sRet (fAnd (fApp aIsi (aCons (fVar 0) (aCons (fK (.g (.ty "int"))) aNil))) (fNot (fApp aIsi (aCons (fVar 0) (aCons (fK (.g (.ty "bool"))) aNil))))))
noncomputable def FIsWhole : Fn := fnF false 1 1 gIsWhole
theorem d_IsWhole {P : Program} {w : World} {K : PySem.W.Frag} {mg : Str → Option Value} {base : Heap} (M : Mx K mg) (D : DefAt K mg "is_whole" sIsWhole ["thing"])  : DefOk P w K mg base "is_whole" ["thing"] 1 FIsWhole := by
  refine def_ok D scIsWhole (fun f cdv A outer s H E gd hr tk hp => ?_)
  exact (fs_one (fs_ret (f_and (f_isi (by rfl) M.isinstance (fa_cons (fv 0) (fa_cons (f_ty (n := "int") (by rfl) M.int (by decide +kernel)) fa_nil))) (f_one (f_not (f_isi (by rfl) M.isinstance (fa_cons (fv 0) (fa_cons (f_ty (n := "bool") (by rfl) M.bool (by decide +kernel)) fa_nil))))))))
/-! ### is_number -/
abbrev sIsNumber : Stmt := topS 2
abbrev nIsNumber : List Str := ["thing", "many"]
theorem scIsNumber : FnScope nIsNumber ["thing", "many"] (defScope sIsNumber) := ⟨rfl, rfl, rfl, by decide +kernel, rfl, by decide +kernel, by decide +kernel⟩
-- slots: 0:thing 1:many
noncomputable def gIsNumber : Sm :=
    (sRet (fAnd (fApp FIsWhole (aCons (fVar 0) aNil)) (fChain oLe oLt (fK (.d (.int 0))) (fVar 0) (fVar 1))))
noncomputable def FIsNumber : Fn := fnF false 2 2 gIsNumber
theorem d_IsNumber {P : Program} {w : World} {K : PySem.W.Frag} {mg : Str → Option Value} {base : Heap} (M : Mx K mg) (D : DefAt K mg "is_number" sIsNumber ["thing", "many"]) (dIsWhole : DefOk P w K mg base "is_whole" ["thing"] 1 FIsWhole) : DefOk P w K mg base "is_number" ["thing", "many"] 2 FIsNumber := by
  refine def_ok D scIsNumber (fun f cdv A outer s H E gd hr tk hp => ?_)
  exact (fs_one (fs_ret (f_and (f_callD dIsWhole gd hr (by decide) (by rfl) tk (fa_cons (fv 0) fa_nil)) (f_one (f_chain_le_lt f_int (fv 0) (fv 1))))))
/-! ### is_one_of -/
abbrev sIsOneOf : Stmt := topS 3
abbrev nIsOneOf : List Str := ["thing", "words"]
theorem scIsOneOf : FnScope nIsOneOf ["thing", "words"] (defScope sIsOneOf) := ⟨rfl, rfl, rfl, by decide +kernel, rfl, by decide +kernel, by decide +kernel⟩
-- slots: 0:thing 1:words
noncomputable def gIsOneOf : Sm :=
    (sRet (fAnd (fApp aIsi (aCons (fVar 0) (aCons (fK (.g (.ty "str"))) aNil))) (fOp oIn (fVar 0) (fVar 1))))
noncomputable def FIsOneOf : Fn := fnF false 2 2 gIsOneOf
theorem d_IsOneOf {P : Program} {w : World} {K : PySem.W.Frag} {mg : Str → Option Value} {base : Heap} (M : Mx K mg) (D : DefAt K mg "is_one_of" sIsOneOf ["thing", "words"])  : DefOk P w K mg base "is_one_of" ["thing", "words"] 1 FIsOneOf := by
  refine def_ok D scIsOneOf (fun f cdv A outer s H E gd hr tk hp => ?_)
  have hu5 := hu65 hr
  exact (fs_one (fs_ret (f_and (f_isi (by rfl) M.isinstance (fa_cons (fv 0) (fa_cons (f_ty (n := "str") (by rfl) M.str (by decide +kernel)) fa_nil))) (f_one (f_in hu5 (fv 0) (fv 1))))))
/-! ### may_follow -/
abbrev sMayFollow : Stmt := topS 4
abbrev nMayFollow : List Str := ["step", "ahead"]
theorem scMayFollow : FnScope nMayFollow ["step", "ahead"] (defScope sMayFollow) := ⟨rfl, rfl, rfl, by decide +kernel, rfl, by decide +kernel, by decide +kernel⟩
-- slots: 0:step 1:ahead
noncomputable def gMayFollow : Sm :=
    (sRet (fAnd (fOp oNotIn (fVar 0) (fVar 1)) (fOp oNotIn (fApp mkT (aCons (fK (.d (.str "write"))) (aCons (fOp oIx (fVar 0) (fK (.d (.int 1)))) aNil))) (fVar 1))))
noncomputable def FMayFollow : Fn := fnF false 2 2 gMayFollow
theorem d_MayFollow {P : Program} {w : World} {K : PySem.W.Frag} {mg : Str → Option Value} {base : Heap} (M : Mx K mg) (D : DefAt K mg "may_follow" sMayFollow ["step", "ahead"])  : DefOk P w K mg base "may_follow" ["step", "ahead"] 1 FMayFollow := by
  refine def_ok D scMayFollow (fun f cdv A outer s H E gd hr tk hp => ?_)
  have hu5 := hu65 hr
  exact (fs_one (fs_ret (f_and (f_notIn hu5 (fv 0) (fv 1)) (f_one (f_notIn hu5 (f_tup (fa_cons f_str (fa_cons (f_idx (fv 0) f_int) fa_nil))) (fv 1))))))
/-! ### are_tables -/
abbrev sAreTables : Stmt := topS 11
abbrev nAreTables : List Str := ["thing", "table"]
theorem scAreTables : FnScope nAreTables ["thing"] (defScope sAreTables) := ⟨rfl, rfl, rfl, by decide +kernel, rfl, by decide +kernel, by decide +kernel⟩
-- slots: 0:thing 1:table
noncomputable def gAreTables : Sm :=
    (sSeq (sIf (tOrF (tNotF (fB (fApp aIsi (aCons (fVar 0) (aCons (fK (.g (.ty "tuple"))) aNil))))) (fB (fOp oGt (fApp aLen (aCons (fVar 0) aNil)) (fK (.d (.int 3))))))
    (sRet (fK (.d (.bl false)))) sNil)
    (sRet (fApp aAll (aCons (fLc false (iTupF (fVar 0)) (.n 1) tYesF (fAnd (fApp FIsWhole (aCons (fVar 1) aNil)) (fChain oLe oLe (fK (.d (.int 1))) (fVar 1) (fK (.d (.int 9))))) [1]) aNil))))
noncomputable def FAreTables : Fn := fnF false 1 2 gAreTables
theorem d_AreTables {P : Program} {w : World} {K : PySem.W.Frag} {mg : Str → Option Value} {base : Heap} (M : Mx K mg) (D : DefAt K mg "are_tables" sAreTables ["thing"]) (dIsWhole : DefOk P w K mg base "is_whole" ["thing"] 1 FIsWhole) : DefOk P w K mg base "are_tables" ["thing"] 2 FAreTables := by
  refine def_ok D scAreTables (fun f cdv A outer s H E gd hr tk hp => ?_)
  exact (fs_cons (fs_if (ft_pw (fw_or (ft_not (ft_val (f_isi (by rfl) M.isinstance (fa_cons (fv 0) (fa_cons (f_ty (n := "tuple") (by rfl) M.tuple (by decide +kernel)) fa_nil))))) (fw_or1 (ft_gt (f_len (by rfl) M.len (fa_cons (fv 0) fa_nil)) (f_gint M.c_MOST_TABLES (by rfl))))))
    (fs_one (fs_ret f_bl)) fs_nil)
    (fs_one (fs_ret (f_all rfl (by rfl) M.all (fa_cons (f_lc false (own := [("table", 1)]) (p := (.n 1)) rfl scAreTables.nd (fi_tup (fv 0)) (blkOk_by (own := [("table", 1)]) (N := nAreTables) (sc := defScope sAreTables) (by decide +kernel)) (fun _ _ _ _ _ => (gp_n (i := 1) scAreTables.nd rfl (.inl rfl))) (fun _ _ _ _ _ => fts_nil) (fun _ _ _ _ _ => (f_and (f_callD dIsWhole gd hr (by decide) (by rfl) take_n (fa_cons (fv 1) fa_nil)) (f_one (f_chain_le_le f_int (fv 1) (f_gint M.c_MOST_TABLE (by rfl))))))) fa_nil)))))
/-! ### is_slot -/
abbrev sIsSlot : Stmt := topS 12
abbrev nIsSlot : List Str := ["thing", "many"]
theorem scIsSlot : FnScope nIsSlot ["thing", "many"] (defScope sIsSlot) := ⟨rfl, rfl, rfl, by decide +kernel, rfl, by decide +kernel, by decide +kernel⟩
-- slots: 0:thing 1:many
noncomputable def gIsSlot : Sm :=
    (sSeq (sIf (tOrF (tNotF (fB (fApp aIsi (aCons (fVar 0) (aCons (fK (.g (.ty "tuple"))) aNil))))) (tOrF (fB (fOp oNe (fApp aLen (aCons (fVar 0) aNil)) (fK (.d (.int 2))))) (tNotF (fB (fApp FIsOneOf (aCons (fOp oIx (fVar 0) (fK (.d (.int 0)))) (aCons (fApp mkT (aCons (fK (.d (.str "box"))) (aCons (fK (.d (.str "key"))) aNil))) aNil)))))))
    (sRet (fK (.d (.bl false)))) sNil)
    (sSeq (sIf (fB (fOp oEq (fOp oIx (fVar 0) (fK (.d (.int 0)))) (fK (.d (.str "box")))))
    (sRet (fApp FIsNumber (aCons (fOp oIx (fVar 0) (fK (.d (.int 1)))) (aCons (fK (.d (.int 1000000))) aNil)))) sNil)
    (sRet (fApp FIsNumber (aCons (fOp oIx (fVar 0) (fK (.d (.int 1)))) (aCons (fVar 1) aNil))))))
noncomputable def FIsSlot : Fn := fnF false 2 2 gIsSlot
theorem d_IsSlot {P : Program} {w : World} {K : PySem.W.Frag} {mg : Str → Option Value} {base : Heap} (M : Mx K mg) (D : DefAt K mg "is_slot" sIsSlot ["thing", "many"]) (dIsOneOf : DefOk P w K mg base "is_one_of" ["thing", "words"] 1 FIsOneOf) (dIsNumber : DefOk P w K mg base "is_number" ["thing", "many"] 2 FIsNumber) : DefOk P w K mg base "is_slot" ["thing", "many"] 3 FIsSlot := by
  refine def_ok D scIsSlot (fun f cdv A outer s H E gd hr tk hp => ?_)
  have hu := hu64 hr
  exact (fs_cons (fs_if (ft_pw (fw_or (ft_not (ft_val (f_isi (by rfl) M.isinstance (fa_cons (fv 0) (fa_cons (f_ty (n := "tuple") (by rfl) M.tuple (by decide +kernel)) fa_nil))))) (fw_or (ft_ne hu (f_len (by rfl) M.len (fa_cons (fv 0) fa_nil)) f_int) (fw_or1 (ft_not (ft_val (f_callD dIsOneOf gd hr (by decide) (by rfl) tk (fa_cons (f_idx (fv 0) f_int) (fa_cons (f_tup (fa_cons f_str (fa_cons f_str fa_nil))) fa_nil)))))))))
    (fs_one (fs_ret f_bl)) fs_nil)
    (fs_cons (fs_if (ft_eq hu (f_idx (fv 0) f_int) f_str)
    (fs_one (fs_ret (f_callD dIsNumber gd hr (by decide) (by rfl) tk (fa_cons (f_idx (fv 0) f_int) (fa_cons (f_gint M.c_MANY_KEYS (by rfl)) fa_nil))))) fs_nil)
    (fs_one (fs_ret (f_callD dIsNumber gd hr (by decide) (by rfl) tk (fa_cons (f_idx (fv 0) f_int) (fa_cons (fv 1) fa_nil)))))))
/-! ### is_slot_step -/
abbrev sIsSlotStep : Stmt := topS 13
abbrev nIsSlotStep : List Str := ["thing", "many"]
theorem scIsSlotStep : FnScope nIsSlotStep ["thing", "many"] (defScope sIsSlotStep) := ⟨rfl, rfl, rfl, by decide +kernel, rfl, by decide +kernel, by decide +kernel⟩
-- slots: 0:thing 1:many
noncomputable def gIsSlotStep : Sm :=
    (sSeq (sIf (tOrF (tNotF (fB (fApp aIsi (aCons (fVar 0) (aCons (fK (.g (.ty "tuple"))) aNil))))) (fB (fOp oNe (fApp aLen (aCons (fVar 0) aNil)) (fK (.d (.int 2))))))
    (sRet (fK (.d (.bl false)))) sNil)
    (sRet (fAnd (fApp FIsOneOf (aCons (fOp oIx (fVar 0) (fK (.d (.int 0)))) (aCons (fApp mkT (aCons (fK (.d (.str "read"))) (aCons (fK (.d (.str "write"))) aNil))) aNil))) (fApp FIsSlot (aCons (fOp oIx (fVar 0) (fK (.d (.int 1)))) (aCons (fVar 1) aNil))))))
noncomputable def FIsSlotStep : Fn := fnF false 2 2 gIsSlotStep
theorem d_IsSlotStep {P : Program} {w : World} {K : PySem.W.Frag} {mg : Str → Option Value} {base : Heap} (M : Mx K mg) (D : DefAt K mg "is_slot_step" sIsSlotStep ["thing", "many"]) (dIsSlot : DefOk P w K mg base "is_slot" ["thing", "many"] 3 FIsSlot) (dIsOneOf : DefOk P w K mg base "is_one_of" ["thing", "words"] 1 FIsOneOf) : DefOk P w K mg base "is_slot_step" ["thing", "many"] 4 FIsSlotStep := by
  refine def_ok D scIsSlotStep (fun f cdv A outer s H E gd hr tk hp => ?_)
  have hu := hu64 hr
  exact (fs_cons (fs_if (ft_pw (fw_or (ft_not (ft_val (f_isi (by rfl) M.isinstance (fa_cons (fv 0) (fa_cons (f_ty (n := "tuple") (by rfl) M.tuple (by decide +kernel)) fa_nil))))) (fw_or1 (ft_ne hu (f_len (by rfl) M.len (fa_cons (fv 0) fa_nil)) f_int))))
    (fs_one (fs_ret f_bl)) fs_nil)
    (fs_one (fs_ret (f_and (f_callD dIsOneOf gd hr (by decide) (by rfl) tk (fa_cons (f_idx (fv 0) f_int) (fa_cons (f_tup (fa_cons f_str (fa_cons f_str fa_nil))) fa_nil))) (f_one (f_callD dIsSlot gd hr (by decide) (by rfl) tk (fa_cons (f_idx (fv 0) f_int) (fa_cons (fv 1) fa_nil))))))))
/-! ### are_slot_steps -/
abbrev sAreSlotSteps : Stmt := topS 14
abbrev nAreSlotSteps : List Str := ["thing", "many", "step", "place"]
theorem scAreSlotSteps : FnScope nAreSlotSteps ["thing", "many"] (defScope sAreSlotSteps) := ⟨rfl, rfl, rfl, by decide +kernel, rfl, by decide +kernel, by decide +kernel⟩
-- slots: 0:thing 1:many 2:step 3:place
noncomputable def gAreSlotSteps : Sm :=
    (sSeq (sIf (tOrF (tNotF (fB (fApp aIsi (aCons (fVar 0) (aCons (fK (.g (.ty "tuple"))) aNil))))) (tNotF (fB (fChain oLe oLe (fK (.d (.int 1))) (fApp aLen (aCons (fVar 0) aNil)) (fK (.d (.int 6)))))))
    (sRet (fK (.d (.bl false)))) sNil)
    (sSeq (sIf (tNotF (fB (fApp aAll (aCons (fLc false (iTupF (fVar 0)) (.n 2) tYesF (fApp FIsSlotStep (aCons (fVar 2) (aCons (fVar 1) aNil))) [2]) aNil))))
    (sRet (fK (.d (.bl false)))) sNil)
    (sRet (fApp aAll (aCons (fLc false (iEnumT (aCons (fVar 0) aNil)) (.t [.n 3, .n 2]) tYesF (fApp FMayFollow (aCons (fVar 2) (aCons (fSl oSlT (fVar 0) pNo (pSo (fVar 3))) aNil))) [3, 2]) aNil)))))
noncomputable def FAreSlotSteps : Fn := fnF false 2 4 gAreSlotSteps
theorem d_AreSlotSteps {P : Program} {w : World} {K : PySem.W.Frag} {mg : Str → Option Value} {base : Heap} (M : Mx K mg) (D : DefAt K mg "are_slot_steps" sAreSlotSteps ["thing", "many"]) (dIsSlotStep : DefOk P w K mg base "is_slot_step" ["thing", "many"] 4 FIsSlotStep) (dMayFollow : DefOk P w K mg base "may_follow" ["step", "ahead"] 1 FMayFollow) : DefOk P w K mg base "are_slot_steps" ["thing", "many"] 5 FAreSlotSteps := by
  refine def_ok D scAreSlotSteps (fun f cdv A outer s H E gd hr tk hp => ?_)
  exact (fs_cons (fs_if (ft_pw (fw_or (ft_not (ft_val (f_isi (by rfl) M.isinstance (fa_cons (fv 0) (fa_cons (f_ty (n := "tuple") (by rfl) M.tuple (by decide +kernel)) fa_nil))))) (fw_or1 (ft_not (ft_chain_le_le f_int (f_len (by rfl) M.len (fa_cons (fv 0) fa_nil)) (f_gint M.c_MOST_STEPS (by rfl)))))))
    (fs_one (fs_ret f_bl)) fs_nil)
    (fs_cons (fs_if (ft_not (ft_val (f_all rfl (by rfl) M.all (fa_cons (f_lc false (own := [("step", 2)]) (p := (.n 2)) rfl scAreSlotSteps.nd (fi_tup (fv 0)) (blkOk_by (own := [("step", 2)]) (N := nAreSlotSteps) (sc := defScope sAreSlotSteps) (by decide +kernel)) (fun _ _ _ _ _ => (gp_n (i := 2) scAreSlotSteps.nd rfl (.inl rfl))) (fun _ _ _ _ _ => fts_nil) (fun _ _ _ _ _ => (f_callD dIsSlotStep gd hr (by decide) (by rfl) take_n (fa_cons (fv 2) (fa_cons (fv 1) fa_nil))))) fa_nil))))
    (fs_one (fs_ret f_bl)) fs_nil)
    (fs_one (fs_ret (f_all rfl (by rfl) M.all (fa_cons (f_lc false (own := [("place", 3), ("step", 2)]) (p := (.t [.n 3, .n 2])) rfl scAreSlotSteps.nd (fi_enumT (by rfl) M.enumerate (fa_cons (fv 0) fa_nil)) (blkOk_by (own := [("place", 3), ("step", 2)]) (N := nAreSlotSteps) (sc := defScope sAreSlotSteps) (by decide +kernel)) (fun _ _ _ _ _ => (gp_t rfl (gps_cons (gp_n (i := 3) scAreSlotSteps.nd rfl (.inl rfl)) (gps_cons (gp_n (i := 2) scAreSlotSteps.nd rfl (.inl rfl)) gps_nil)))) (fun _ _ _ _ _ => fts_nil) (fun _ _ _ _ _ => (f_callD dMayFollow gd hr (by decide) (by rfl) take_n (fa_cons (fv 2) (fa_cons (f_slT (fv 0) fo_no (fo_so (fv 3))) fa_nil))))) fa_nil))))))
/-! ### is_program -/
abbrev sIsProgram : Stmt := topS 15
abbrev nIsProgram : List Str := ["thing", "tables", "steps", "slots", "slot", "word", "place"]
theorem scIsProgram : FnScope nIsProgram ["thing"] (defScope sIsProgram) := ⟨rfl, rfl, rfl, by decide +kernel, rfl, by decide +kernel, by decide +kernel⟩
-- slots: 0:thing 1:tables 2:steps 3:slots 4:slot 5:word 6:place
noncomputable def gIsProgram : Sm :=
    (sSeq (sIf (tOrF (tNotF (fB (fApp aIsi (aCons (fVar 0) (aCons (fK (.g (.ty "tuple"))) aNil))))) (fB (fOp oNe (fApp aLen (aCons (fVar 0) aNil)) (fK (.d (.int 2))))))
    (sRet (fK (.d (.bl false)))) sNil)
    (sSeq (sAsg (.t [.n 1, .n 2]) (fVar 0))
    (sSeq (sIf (tOrF (tNotF (fB (fApp FAreTables (aCons (fVar 1) aNil)))) (tNotF (fB (fApp FAreSlotSteps (aCons (fVar 2) (aCons (fApp aLen (aCons (fVar 1) aNil)) aNil))))))
    (sRet (fK (.d (.bl false)))) sNil)
    (sSeq (sSet 3 (fLc false (iTupF (fVar 2)) (.t [.n 5, .n 4]) tYesF (fVar 4) [5, 4]))
    (sRet (fApp aAll (aCons (fLc false (iRange1 (aCons (fApp aLen (aCons (fVar 1) aNil)) aNil)) (.n 6) tYesF (fOp oIn (fApp mkT (aCons (fK (.d (.str "key"))) (aCons (fVar 6) aNil))) (fVar 3)) [6]) aNil)))))))
noncomputable def FIsProgram : Fn := fnF false 1 7 gIsProgram
theorem d_IsProgram {P : Program} {w : World} {K : PySem.W.Frag} {mg : Str → Option Value} {base : Heap} (M : Mx K mg) (D : DefAt K mg "is_program" sIsProgram ["thing"]) (dAreSlotSteps : DefOk P w K mg base "are_slot_steps" ["thing", "many"] 5 FAreSlotSteps) (dAreTables : DefOk P w K mg base "are_tables" ["thing"] 2 FAreTables) : DefOk P w K mg base "is_program" ["thing"] 6 FIsProgram := by
  refine def_ok D scIsProgram (fun f cdv A outer s H E gd hr tk hp => ?_)
  have hu5 := hu65 hr
  have hu := hu64 hr
  exact (fs_cons (fs_if (ft_pw (fw_or (ft_not (ft_val (f_isi (by rfl) M.isinstance (fa_cons (fv 0) (fa_cons (f_ty (n := "tuple") (by rfl) M.tuple (by decide +kernel)) fa_nil))))) (fw_or1 (ft_ne hu (f_len (by rfl) M.len (fa_cons (fv 0) fa_nil)) f_int))))
    (fs_one (fs_ret f_bl)) fs_nil)
    (fs_cons (fs_asg (p := (.t [.n 1, .n 2])) (fv 0) (gp_t rfl (gps_cons (gp_n (i := 1) scIsProgram.nd rfl (.inl rfl)) (gps_cons (gp_n (i := 2) scIsProgram.nd rfl (.inl rfl)) gps_nil))))
    (fs_cons (fs_if (ft_pw (fw_or (ft_not (ft_val (f_callD dAreTables gd hr (by decide) (by rfl) tk (fa_cons (fv 1) fa_nil)))) (fw_or1 (ft_not (ft_val (f_callD dAreSlotSteps gd hr (by decide) (by rfl) tk (fa_cons (fv 2) (fa_cons (f_len (by rfl) M.len (fa_cons (fv 1) fa_nil)) fa_nil))))))))
    (fs_one (fs_ret f_bl)) fs_nil)
    (fs_cons (fs_set (i := 3) scIsProgram.nd rfl (.inr rfl) (f_lc false (own := [("word", 5), ("slot", 4)]) (p := (.t [.n 5, .n 4])) rfl scIsProgram.nd (fi_tup (fv 2)) (blkOk_by (own := [("word", 5), ("slot", 4)]) (N := nIsProgram) (sc := defScope sIsProgram) (by decide +kernel)) (fun _ _ _ _ _ => (gp_t rfl (gps_cons (gp_n (i := 5) scIsProgram.nd rfl (.inl rfl)) (gps_cons (gp_n (i := 4) scIsProgram.nd rfl (.inl rfl)) gps_nil)))) (fun _ _ _ _ _ => fts_nil) (fun _ _ _ _ _ => (fv 4))))
    (fs_one (fs_ret (f_all rfl (by rfl) M.all (fa_cons (f_lc false (own := [("place", 6)]) (p := (.n 6)) rfl scIsProgram.nd (fi_range1 (by rfl) M.range (fa_cons (f_len (by rfl) M.len (fa_cons (fv 1) fa_nil)) fa_nil)) (blkOk_by (own := [("place", 6)]) (N := nIsProgram) (sc := defScope sIsProgram) (by decide +kernel)) (fun _ _ _ _ _ => (gp_n (i := 6) scIsProgram.nd rfl (.inl rfl))) (fun _ _ _ _ _ => fts_nil) (fun _ _ _ _ _ => (f_in hu5 (f_tup (fa_cons f_str (fa_cons (fv 6) fa_nil))) (fv 3)))) fa_nil))))))))
/-! ### are_programs -/
abbrev sArePrograms : Stmt := topS 16
abbrev nArePrograms : List Str := ["thing", "program"]
theorem scArePrograms : FnScope nArePrograms ["thing"] (defScope sArePrograms) := ⟨rfl, rfl, rfl, by decide +kernel, rfl, by decide +kernel, by decide +kernel⟩
-- slots: 0:thing 1:program
noncomputable def gArePrograms : Sm :=
    (sSeq (sIf (tOrF (tNotF (fB (fApp aIsi (aCons (fVar 0) (aCons (fK (.g (.ty "list"))) aNil))))) (tNotF (fB (fChain oLe oLe (fK (.d (.int 1))) (fApp aLen (aCons (fVar 0) aNil)) (fK (.d (.int 4)))))))
    (sRet (fK (.d (.bl false)))) sNil)
    (sRet (fApp aAll (aCons (fLc false (iList (fVar 0)) (.n 1) tYesF (fApp FIsProgram (aCons (fVar 1) aNil)) [1]) aNil))))
noncomputable def FArePrograms : Fn := fnF false 1 2 gArePrograms
theorem d_ArePrograms {P : Program} {w : World} {K : PySem.W.Frag} {mg : Str → Option Value} {base : Heap} (M : Mx K mg) (D : DefAt K mg "are_programs" sArePrograms ["thing"]) (dIsProgram : DefOk P w K mg base "is_program" ["thing"] 6 FIsProgram) : DefOk P w K mg base "are_programs" ["thing"] 7 FArePrograms := by
  refine def_ok D scArePrograms (fun f cdv A outer s H E gd hr tk hp => ?_)
  exact (fs_cons (fs_if (ft_pw (fw_or (ft_not (ft_val (f_isi (by rfl) M.isinstance (fa_cons (fv 0) (fa_cons (f_ty (n := "list") (by rfl) M.list (by decide +kernel)) fa_nil))))) (fw_or1 (ft_not (ft_chain_le_le f_int (f_len (by rfl) M.len (fa_cons (fv 0) fa_nil)) (f_gint M.c_MOST_PROGRAMS (by rfl)))))))
    (fs_one (fs_ret f_bl)) fs_nil)
    (fs_one (fs_ret (f_all rfl (by rfl) M.all (fa_cons (f_lc false (own := [("program", 1)]) (p := (.n 1)) rfl scArePrograms.nd (fi_list (fv 0)) (blkOk_by (own := [("program", 1)]) (N := nArePrograms) (sc := defScope sArePrograms) (by decide +kernel)) (fun _ _ _ _ _ => (gp_n (i := 1) scArePrograms.nd rfl (.inl rfl))) (fun _ _ _ _ _ => fts_nil) (fun _ _ _ _ _ => (f_callD dIsProgram gd hr (by decide) (by rfl) take_n (fa_cons (fv 1) fa_nil)))) fa_nil)))))
/-! ### _law_cell_at -/
abbrev sLCellAt : Stmt := topS 18
abbrev nLCellAt : List Str := ["_law_script", "_law_k"]
theorem scLCellAt : FnScope nLCellAt ["_law_script", "_law_k"] (defScope sLCellAt) := ⟨rfl, rfl, rfl, by decide +kernel, rfl, by decide +kernel, by decide +kernel⟩
-- slots: 0:_law_script 1:_law_k
noncomputable def gLCellAt : Sm :=
    (sSeq (sIf (fB (fOp oLt (fVar 1) (fApp aLen (aCons (fVar 0) aNil))))
    (sRet (fOp oIx (fVar 0) (fVar 1))) sNil)
    (sRet (fK (.d (.int 0)))))
noncomputable def FLCellAt : Fn := fnF false 2 2 gLCellAt
theorem d_LCellAt {P : Program} {w : World} {K : PySem.W.Frag} {mg : Str → Option Value} {base : Heap} (M : Mx K mg) (D : DefAt K mg "_law_cell_at" sLCellAt ["_law_script", "_law_k"])  : DefOk P w K mg base "_law_cell_at" ["_law_script", "_law_k"] 1 FLCellAt := by
  refine def_ok D scLCellAt (fun f cdv A outer s H E gd hr tk hp => ?_)
  exact (fs_cons (fs_if (ft_lt (fv 1) (f_len (by rfl) M.len (fa_cons (fv 0) fa_nil)))
    (fs_one (fs_ret (f_idx (fv 0) (fv 1)))) fs_nil)
    (fs_one (fs_ret f_int)))
/-! ### _law_digit -/
abbrev sLDigit : Stmt := topS 19
abbrev nLDigit : List Str := ["_law_state", "_law_base", "_law_cell", "_law_found", "_law_number"]
theorem scLDigit : FnScope nLDigit ["_law_state", "_law_base"] (defScope sLDigit) := ⟨rfl, rfl, rfl, by decide +kernel, rfl, by decide +kernel, by decide +kernel⟩
-- slots: 0:_law_state 1:_law_base 2:_law_cell 3:_law_found 4:_law_number
noncomputable def gLDigit : Sm :=
    (sSeq (sIf (fB (fOp oEq (fApp aLen (aCons (fVar 0) aNil)) (fK (.d (.int 1)))))
    (sSeq (sSet 2 (fOp oIx (fVar 0) (fK (.d (.int 0)))))
      (sSeq (sPut (fVar 0) (fK (.d (.int 0))) (fOp oIx (fApp (mkL false) (aCons (fK (.d (.int 0))) (aCons (fVar 2) aNil))) (fApp aInt (aCons (fOp oGe (fVar 2) (fOp oPow (fK (.d (.int 10))) (fK (.d (.int 18))))) aNil))))
      (sExpr (fMt (fun x S => isCl x S = true) mExt (fVar 0) (aCons (fApp (mkL false) (aCons (fOp oMod (fVar 2) (fK (.d (.int 2147483647)))) (aCons (fK (.d (.int 0))) aNil))) aNil))))) sNil)
    (sSeq (sIf (fB (fOp oGt (fOp oIx (fVar 0) (fK (.d (.int 0)))) (fK (.d (.int 0)))))
    (sSeq (sSet 3 (fOp oMod (fOp oIx (fVar 0) (fK (.d (.int 0)))) (fVar 1)))
      (sSeq (sPut (fVar 0) (fK (.d (.int 0))) (fOp oDiv (fOp oIx (fVar 0) (fK (.d (.int 0)))) (fVar 1)))
      (sRet (fVar 3)))) sNil)
    (sSeq (sPut (fVar 0) (fK (.d (.int 2))) (fOp oAdd (fOp oIx (fVar 0) (fK (.d (.int 2)))) (fK (.d (.int 1)))))
    (sSeq (sSet 4 (fOp oMod (fOp oMul (fOp oAdd (fOp oAdd (fOp oIx (fVar 0) (fK (.d (.int 1)))) (fOp oMul (fK (.d (.int 7919))) (fOp oIx (fVar 0) (fK (.d (.int 2)))))) (fK (.d (.int 1)))) (fK (.d (.int 48271)))) (fK (.d (.int 2147483647)))))
    (sSeq (sSet 4 (fOp oMod (fOp oMul (fVar 4) (fOp oAdd (fOp oDiv (fVar 4) (fK (.d (.int 1009)))) (fK (.d (.int 69621))))) (fK (.d (.int 2147483647)))))
    (sRet (fOp oMod (fOp oMod (fOp oMul (fVar 4) (fOp oAdd (fOp oDiv (fVar 4) (fK (.d (.int 2003)))) (fK (.d (.int 40692))))) (fK (.d (.int 2147483399)))) (fVar 1))))))))
noncomputable def FLDigit : Fn := fnF false 2 5 gLDigit
theorem d_LDigit {P : Program} {w : World} {K : PySem.W.Frag} {mg : Str → Option Value} {base : Heap} (M : Mx K mg) (D : DefAt K mg "_law_digit" sLDigit ["_law_state", "_law_base"])  : DefOk P w K mg base "_law_digit" ["_law_state", "_law_base"] 1 FLDigit := by
  refine def_ok D scLDigit (fun f cdv A outer s H E gd hr tk hp => ?_)
  have hu := hu64 hr
  exact (fs_cons (fs_if (ft_eq hu (f_len (by rfl) M.len (fa_cons (fv 0) fa_nil)) f_int)
    (fs_cons (fs_set (i := 2) scLDigit.nd rfl (.inl rfl) (f_idx (fv 0) f_int))
      (fs_cons (fs_put (f_idx (f_lst false (fa_cons f_int (fa_cons (fv 2) fa_nil))) (f_intc (by rfl) M.int (fa_cons (f_ge (fv 2) (f_pow f_int f_int)) fa_nil))) (fv 0) f_int)
      (fs_one (fs_expr (f_extend (fv 0) (fa_cons (f_lst false (fa_cons (f_mod (fv 2) f_int) (fa_cons f_int fa_nil))) fa_nil)))))) fs_nil)
    (fs_cons (fs_if (ft_gt (f_idx (fv 0) f_int) f_int)
    (fs_cons (fs_set (i := 3) scLDigit.nd rfl (.inl rfl) (f_mod (f_idx (fv 0) f_int) (fv 1)))
      (fs_cons (fs_put (f_div (f_idx (fv 0) f_int) (fv 1)) (fv 0) f_int)
      (fs_one (fs_ret (fv 3))))) fs_nil)
    (fs_cons (fs_put (f_add (f_idx (fv 0) f_int) f_int) (fv 0) f_int)
    (fs_cons (fs_set (i := 4) scLDigit.nd rfl (.inl rfl) (f_mod (f_mul (f_add (f_add (f_idx (fv 0) f_int) (f_mul f_int (f_idx (fv 0) f_int))) f_int) f_int) f_int))
    (fs_cons (fs_set (i := 4) scLDigit.nd rfl (.inl rfl) (f_mod (f_mul (fv 4) (f_add (f_div (fv 4) f_int) f_int)) f_int))
    (fs_one (fs_ret (f_mod (f_mod (f_mul (fv 4) (f_add (f_div (fv 4) f_int) f_int)) f_int) (fv 1)))))))))
/-! ### _law_of -/
abbrev sLOf : Stmt := topS 20
abbrev nLOf : List Str := ["_law_state", "_law_some"]
theorem scLOf : FnScope nLOf ["_law_state", "_law_some"] (defScope sLOf) := ⟨rfl, rfl, rfl, by decide +kernel, rfl, by decide +kernel, by decide +kernel⟩
-- slots: 0:_law_state 1:_law_some
noncomputable def gLOf : Sm :=
    (sRet (fOp oIx (fVar 1) (fApp FLDigit (aCons (fVar 0) (aCons (fApp aLen (aCons (fVar 1) aNil)) aNil)))))
noncomputable def FLOf : Fn := fnF false 2 2 gLOf
theorem d_LOf {P : Program} {w : World} {K : PySem.W.Frag} {mg : Str → Option Value} {base : Heap} (M : Mx K mg) (D : DefAt K mg "_law_of" sLOf ["_law_state", "_law_some"]) (dLDigit : DefOk P w K mg base "_law_digit" ["_law_state", "_law_base"] 1 FLDigit) : DefOk P w K mg base "_law_of" ["_law_state", "_law_some"] 2 FLOf := by
  refine def_ok D scLOf (fun f cdv A outer s H E gd hr tk hp => ?_)
  exact (fs_one (fs_ret (f_idx (fv 1) (f_callD dLDigit gd hr (by decide) (by rfl) tk (fa_cons (fv 0) (fa_cons (f_len (by rfl) M.len (fa_cons (fv 1) fa_nil)) fa_nil))))))
/-! ### _law_steps -/
abbrev sLSteps : Stmt := topS 21
abbrev nLSteps : List Str := ["_law_state", "_law_slots", "_law_most", "_law_rows", "_law_left", "_law_slot", "_law_way", "_law_steps_here", "_law_k", "_law_row"]
theorem scLSteps : FnScope nLSteps ["_law_state", "_law_slots", "_law_most"] (defScope sLSteps) := ⟨rfl, rfl, rfl, by decide +kernel, rfl, by decide +kernel, by decide +kernel⟩
-- slots: 0:_law_state 1:_law_slots 2:_law_most 3:_law_rows 4:_law_left 5:_law_slot 6:_law_way 7:_law_steps_here 8:_law_k 9:_law_row
noncomputable def gLSteps : Sm :=
    (sSeq (sSet 3 (fApp (mkL true) aNil))
    (sSeq (sSet 4 (fOp oSub (fVar 2) (fApp aLen (aCons (fVar 1) aNil))))
    (sSeq (sFor (iList (fVar 1)) (.n 5)
    (sSeq (sSet 6 (fApp FLDigit (aCons (fVar 0) (aCons (fK (.d (.int 3))) aNil))))
      (sIf (tAndF (fB (fOp oEq (fVar 6) (fK (.d (.int 2))))) (fB (fOp oGt (fVar 4) (fK (.d (.int 0))))))
      (sSeq (sExpr (fMt (fun x S => isCl x S = true) mApp (fVar 3) (aCons (fApp (mkL false) (aCons (fApp mkT (aCons (fK (.d (.str "read"))) (aCons (fVar 5) aNil))) (aCons (fApp mkT (aCons (fK (.d (.str "write"))) (aCons (fVar 5) aNil))) aNil))) aNil)))
        (sSet 4 (fOp oSub (fVar 4) (fK (.d (.int 1)))))) (sExpr (fMt (fun x S => isCl x S = true) mApp (fVar 3) (aCons (fApp (mkL false) (aCons (fApp mkT (aCons (fOp oIx (fApp (mkL false) (aCons (fK (.d (.str "read"))) (aCons (fK (.d (.str "write"))) aNil))) (fOp oMod (fVar 6) (fK (.d (.int 2))))) (aCons (fVar 5) aNil))) aNil)) aNil))))))
    (sSeq (sSet 7 (fApp (mkL true) aNil))
    (sSeq (fun ρ S => whL (fB (fOp oNe (fVar 3) (fApp (mkL false) aNil)))
    (sSeq (sSet 8 (fApp FLDigit (aCons (fVar 0) (aCons (fApp aLen (aCons (fVar 3) aNil)) aNil))))
      (sSeq (sExpr (fMt (fun x S => isCl x S = true) mApp (fVar 7) (aCons (fOp oIx (fOp oIx (fVar 3) (fVar 8)) (fK (.d (.int 0)))) aNil)))
      (sSeq (sPut (fVar 3) (fVar 8) (fSl (oSlL false) (fOp oIx (fVar 3) (fVar 8)) (pSo (fK (.d (.int 1)))) pNo))
      (sSet 3 (fLc true (iList (fVar 3)) (.n 9) (fB (fOp oNe (fVar 9) (fApp (mkL false) aNil))) (fVar 9) [9]))))) 100 ρ S)
    (sRet (fApp aTuple (aCons (fVar 7) aNil))))))))
noncomputable def FLSteps : Fn := fnF true 3 10 gLSteps
theorem d_LSteps {P : Program} {w : World} {K : PySem.W.Frag} {mg : Str → Option Value} {base : Heap} (M : Mx K mg) (D : DefAt K mg "_law_steps" sLSteps ["_law_state", "_law_slots", "_law_most"]) (dLDigit : DefOk P w K mg base "_law_digit" ["_law_state", "_law_base"] 1 FLDigit) : DefOk P w K mg base "_law_steps" ["_law_state", "_law_slots", "_law_most"] 2 FLSteps := by
  refine def_ok D scLSteps (fun f cdv A outer s H E gd hr tk hp => ?_)
  have hu := hu64 hr
  exact (fs_cons (fs_set (i := 3) scLSteps.nd rfl (.inl rfl) (f_lst true fa_nil))
    (fs_cons (fs_set (i := 4) scLSteps.nd rfl (.inl rfl) (f_sub (fv 2) (f_len (by rfl) M.len (fa_cons (fv 1) fa_nil))))
    (fs_cons (fs_for (p := (.n 5)) hp rfl (fi_list (fv 1)) (gp_n (i := 5) scLSteps.nd rfl (.inl rfl))
    (fs_cons (fs_set (i := 6) scLSteps.nd rfl (.inl rfl) (f_callD dLDigit gd hr (by decide) (by rfl) tk (fa_cons (fv 0) (fa_cons f_int fa_nil))))
      (fs_one (fs_if (ft_pw (fw_and (ft_eq hu (fv 6) f_int) (fw_and1 (ft_gt (fv 4) f_int))))
      (fs_cons (fs_expr (f_append (fv 3) (fa_cons (f_lst false (fa_cons (f_tup (fa_cons f_str (fa_cons (fv 5) fa_nil))) (fa_cons (f_tup (fa_cons f_str (fa_cons (fv 5) fa_nil))) fa_nil))) fa_nil)))
        (fs_one (fs_set (i := 4) scLSteps.nd rfl (.inl rfl) (f_sub (fv 4) f_int)))) (fs_one (fs_expr (f_append (fv 3) (fa_cons (f_lst false (fa_cons (f_tup (fa_cons (f_idx (f_lst false (fa_cons f_str (fa_cons f_str fa_nil))) (f_mod (fv 6) f_int)) (fa_cons (fv 5) fa_nil))) fa_nil)) fa_nil))))))))
    (fs_cons (fs_set (i := 7) scLSteps.nd rfl (.inl rfl) (f_lst true fa_nil))
    (fs_cons (fs_while 100 hp (ft_ne hu (fv 3) (f_lst false fa_nil))
    (fs_cons (fs_set (i := 8) scLSteps.nd rfl (.inl rfl) (f_callD dLDigit gd hr (by decide) (by rfl) tk (fa_cons (fv 0) (fa_cons (f_len (by rfl) M.len (fa_cons (fv 3) fa_nil)) fa_nil))))
      (fs_cons (fs_expr (f_append (fv 7) (fa_cons (f_idx (f_idx (fv 3) (fv 8)) f_int) fa_nil)))
      (fs_cons (fs_put (f_slL false (f_idx (fv 3) (fv 8)) (fo_so f_int) fo_no) (fv 3) (fv 8))
      (fs_one (fs_setLc true (i := 3) (own := [("_law_row", 9)]) (p := (.n 9)) rfl scLSteps.nd rfl rfl (sw_true rfl rfl rfl (by decide +kernel)) (fi_list (fv 3)) (blkOk_by (own := [("_law_row", 9)]) (N := nLSteps) (sc := defScope sLSteps) (by decide +kernel)) (fun _ _ _ _ _ => (gp_n (i := 9) scLSteps.nd rfl (.inl rfl))) (fun _ _ _ _ _ => (fts_one (ft_ne hu (fv 9) (f_lst false fa_nil)))) (fun _ _ _ _ _ => (fv 9))))))))
    (fs_one (fs_ret (f_tuple (by rfl) M.tuple (fa_cons (fv 7) fa_nil)))))))))
/-! ### _law_program -/
abbrev sLProgram : Stmt := topS 22
abbrev nLProgram : List Str := ["_law_state", "_law_keys_most", "_law_most", "_law_many", "_law_k", "_law_tables", "_law_slots", "_law_box"]
theorem scLProgram : FnScope nLProgram ["_law_state", "_law_keys_most", "_law_most"] (defScope sLProgram) := ⟨rfl, rfl, rfl, by decide +kernel, rfl, by decide +kernel, by decide +kernel⟩
-- slots: 0:_law_state 1:_law_keys_most 2:_law_most 3:_law_many 4:_law_k 5:_law_tables 6:_law_slots 7:_law_box
noncomputable def gLProgram : Sm :=
    (sSeq (sSet 3 (fApp FLDigit (aCons (fVar 0) (aCons (fOp oAdd (fVar 1) (fK (.d (.int 1)))) aNil))))
    (sSeq (sSet 5 (fApp aTuple (aCons (fLc false (iRange1 (aCons (fVar 3) aNil)) (.n 4) tYesF (fApp FLOf (aCons (fVar 0) (aCons (fApp (mkL false) (aCons (fK (.d (.int 1))) (aCons (fK (.d (.int 1))) (aCons (fK (.d (.int 1))) (aCons (fK (.d (.int 2))) (aCons (fOp oAdd (fK (.d (.int 1))) (fApp FLDigit (aCons (fVar 0) (aCons (fK (.d (.int 9))) aNil)))) aNil)))))) aNil))) [4]) aNil)))
    (sSeq (sSet 6 (fLc true (iRange1 (aCons (fVar 3) aNil)) (.n 4) tYesF (fApp mkT (aCons (fK (.d (.str "key"))) (aCons (fVar 4) aNil))) [4]))
    (sSeq (sFor (iRange1 (aCons (fApp FLDigit (aCons (fVar 0) (aCons (fK (.d (.int 3))) aNil))) aNil)) (.n 4)
    (sSeq (sSet 7 (fApp FLOf (aCons (fVar 0) (aCons (fApp (mkL false) (aCons (fK (.d (.int 0))) (aCons (fK (.d (.int 0))) (aCons (fK (.d (.int 1))) (aCons (fK (.d (.int 2))) (aCons (fApp FLDigit (aCons (fVar 0) (aCons (fOp oPow (fK (.d (.int 10))) (fK (.d (.int 6)))) aNil))) aNil)))))) aNil))))
      (sIf (fB (fOp oNotIn (fApp mkT (aCons (fK (.d (.str "box"))) (aCons (fVar 7) aNil))) (fVar 6)))
      (sExpr (fMt (fun x S => isCl x S = true) mApp (fVar 6) (aCons (fApp mkT (aCons (fK (.d (.str "box"))) (aCons (fVar 7) aNil))) aNil))) sNil)))
    (sSeq (sIf (fB (fOp oEq (fVar 6) (fApp (mkL false) aNil)))
    (sSet 6 (fApp (mkL true) (aCons (fApp mkT (aCons (fK (.d (.str "box"))) (aCons (fApp FLDigit (aCons (fVar 0) (aCons (fK (.d (.int 3))) aNil))) aNil))) aNil))) sNil)
    (sRet (fApp mkT (aCons (fVar 5) (aCons (fApp FLSteps (aCons (fVar 0) (aCons (fVar 6) (aCons (fVar 2) aNil)))) aNil)))))))))
noncomputable def FLProgram : Fn := fnF true 3 8 gLProgram
theorem d_LProgram {P : Program} {w : World} {K : PySem.W.Frag} {mg : Str → Option Value} {base : Heap} (M : Mx K mg) (D : DefAt K mg "_law_program" sLProgram ["_law_state", "_law_keys_most", "_law_most"]) (dLDigit : DefOk P w K mg base "_law_digit" ["_law_state", "_law_base"] 1 FLDigit) (dLOf : DefOk P w K mg base "_law_of" ["_law_state", "_law_some"] 2 FLOf) (dLSteps : DefOk P w K mg base "_law_steps" ["_law_state", "_law_slots", "_law_most"] 2 FLSteps) : DefOk P w K mg base "_law_program" ["_law_state", "_law_keys_most", "_law_most"] 3 FLProgram := by
  refine def_ok D scLProgram (fun f cdv A outer s H E gd hr tk hp => ?_)
  have hu5 := hu65 hr
  have hu := hu64 hr
  exact (fs_cons (fs_set (i := 3) scLProgram.nd rfl (.inl rfl) (f_callD dLDigit gd hr (by decide) (by rfl) tk (fa_cons (fv 0) (fa_cons (f_add (fv 1) f_int) fa_nil))))
    (fs_cons (fs_set (i := 5) scLProgram.nd rfl (.inl rfl) (f_tuple (by rfl) M.tuple (fa_cons (f_lc false (own := [("_law_k", 4)]) (p := (.n 4)) rfl scLProgram.nd (fi_range1 (by rfl) M.range (fa_cons (fv 3) fa_nil)) (blkOk_by (own := [("_law_k", 4)]) (N := nLProgram) (sc := defScope sLProgram) (by decide +kernel)) (fun _ _ _ _ _ => (gp_n (i := 4) scLProgram.nd rfl (.inl rfl))) (fun _ _ _ _ _ => fts_nil) (fun _ _ _ _ _ => (f_callD dLOf gd hr (by decide) (by rfl) take_n (fa_cons (fv 0) (fa_cons (f_lst false (fa_cons f_int (fa_cons f_int (fa_cons f_int (fa_cons f_int (fa_cons (f_add f_int (f_callD dLDigit gd hr (by decide) (by rfl) take_n (fa_cons (fv 0) (fa_cons f_int fa_nil)))) fa_nil)))))) fa_nil))))) fa_nil)))
    (fs_cons (fs_setLc true (i := 6) (own := [("_law_k", 4)]) (p := (.n 4)) rfl scLProgram.nd rfl rfl (sw_true rfl rfl rfl (by decide +kernel)) (fi_range1 (by rfl) M.range (fa_cons (fv 3) fa_nil)) (blkOk_by (own := [("_law_k", 4)]) (N := nLProgram) (sc := defScope sLProgram) (by decide +kernel)) (fun _ _ _ _ _ => (gp_n (i := 4) scLProgram.nd rfl (.inl rfl))) (fun _ _ _ _ _ => fts_nil) (fun _ _ _ _ _ => (f_tup (fa_cons f_str (fa_cons (fv 4) fa_nil)))))
    (fs_cons (fs_for (p := (.n 4)) hp rfl (fi_range1 (by rfl) M.range (fa_cons (f_callD dLDigit gd hr (by decide) (by rfl) tk (fa_cons (fv 0) (fa_cons f_int fa_nil))) fa_nil)) (gp_n (i := 4) scLProgram.nd rfl (.inl rfl))
    (fs_cons (fs_set (i := 7) scLProgram.nd rfl (.inl rfl) (f_callD dLOf gd hr (by decide) (by rfl) tk (fa_cons (fv 0) (fa_cons (f_lst false (fa_cons f_int (fa_cons f_int (fa_cons f_int (fa_cons f_int (fa_cons (f_callD dLDigit gd hr (by decide) (by rfl) tk (fa_cons (fv 0) (fa_cons (f_pow f_int f_int) fa_nil))) fa_nil)))))) fa_nil))))
      (fs_one (fs_if (ft_notIn hu5 (f_tup (fa_cons f_str (fa_cons (fv 7) fa_nil))) (fv 6))
      (fs_one (fs_expr (f_append (fv 6) (fa_cons (f_tup (fa_cons f_str (fa_cons (fv 7) fa_nil))) fa_nil)))) fs_nil))))
    (fs_cons (fs_if (ft_eq hu (fv 6) (f_lst false fa_nil))
    (fs_one (fs_set (i := 6) scLProgram.nd rfl (.inl rfl) (f_lst true (fa_cons (f_tup (fa_cons f_str (fa_cons (f_callD dLDigit gd hr (by decide) (by rfl) tk (fa_cons (fv 0) (fa_cons f_int fa_nil))) fa_nil))) fa_nil)))) fs_nil)
    (fs_one (fs_ret (f_tup (fa_cons (fv 5) (fa_cons (f_callD dLSteps gd hr (by decide) (by rfl) tk (fa_cons (fv 0) (fa_cons (fv 6) (fa_cons (fv 2) fa_nil)))) fa_nil))))))))))
/-! ### _law_odd -/
abbrev sLOdd : Stmt := topS 23
abbrev nLOdd : List Str := ["_law_state", "_law_thing", "_law_odd_here"]
theorem scLOdd : FnScope nLOdd ["_law_state", "_law_thing"] (defScope sLOdd) := ⟨rfl, rfl, rfl, by decide +kernel, rfl, by decide +kernel, by decide +kernel⟩
-- slots: 0:_law_state 1:_law_thing 2:_law_odd_here
noncomputable def gLOdd : Sm :=
    (sSeq (sSet 2 (fApp (mkL false) (aCons (fK (.d .non)) (aCons (fK (.d (.bl true))) (aCons (fK (.d (.bl false))) (aCons (fUn uNeg (fK (.d (.int 1)))) (aCons (fK (.d (.int 0))) (aCons (fK (.d (.int 1))) (aCons (fK (.d (.int 2))) (aCons (fK (.d (.int 3))) (aCons (fK (.d (.int 9))) (aCons (fK (.d (.int 10))) (aCons (fK (.d (.int 999999))) (aCons (fK (.d (.int 1000000))) (aCons (fK (.d (.str ""))) (aCons (fK (.d (.str "key"))) (aCons (fK (.d (.str "box"))) (aCons (fK (.d (.str "read"))) (aCons (fK (.d (.str "write"))) (aCons (fApp mkT aNil) (aCons (fApp (mkL false) aNil) aNil)))))))))))))))))))))
    (sSeq (sSet 2 (fOp (oCatL false) (fVar 2) (fApp (mkL false) (aCons (fApp mkT (aCons (fVar 1) aNil)) (aCons (fApp (mkL false) (aCons (fVar 1) aNil)) (aCons fDct (aCons (fOp oPow (fK (.d (.int 10))) (fK (.d (.int 40)))) (aCons (fApp mkT (aCons (fK (.d (.str "box"))) (aCons (fK (.d (.int 5))) aNil))) (aCons (fApp mkT (aCons (fK (.d (.str "key"))) (aCons (fK (.d (.int 0))) aNil))) (aCons (fApp mkT (aCons (fK (.d (.str "read"))) (aCons (fApp mkT (aCons (fK (.d (.str "box"))) (aCons (fK (.d (.int 5))) aNil))) aNil))) (aCons (fApp mkT (aCons (fK (.d (.str "key"))) (aCons (fK (.d (.int 3))) aNil))) aNil)))))))))))
    (sRet (fApp FLOf (aCons (fVar 0) (aCons (fVar 2) aNil))))))
noncomputable def FLOdd : Fn := fnF false 2 3 gLOdd
theorem d_LOdd {P : Program} {w : World} {K : PySem.W.Frag} {mg : Str → Option Value} {base : Heap} (M : Mx K mg) (D : DefAt K mg "_law_odd" sLOdd ["_law_state", "_law_thing"]) (dLOf : DefOk P w K mg base "_law_of" ["_law_state", "_law_some"] 2 FLOf) : DefOk P w K mg base "_law_odd" ["_law_state", "_law_thing"] 3 FLOdd := by
  refine def_ok D scLOdd (fun f cdv A outer s H E gd hr tk hp => ?_)
  exact (fs_cons (fs_set (i := 2) scLOdd.nd rfl (.inl rfl) (f_lst false (fa_cons f_non (fa_cons f_bl (fa_cons f_bl (fa_cons (f_neg f_int) (fa_cons f_int (fa_cons f_int (fa_cons f_int (fa_cons f_int (fa_cons f_int (fa_cons f_int (fa_cons f_int (fa_cons f_int (fa_cons f_str (fa_cons f_str (fa_cons f_str (fa_cons f_str (fa_cons f_str (fa_cons (f_tup fa_nil) (fa_cons (f_lst false fa_nil) fa_nil)))))))))))))))))))))
    (fs_cons (fs_set (i := 2) scLOdd.nd rfl (.inl rfl) (f_catL false (fv 2) (f_lst false (fa_cons (f_tup (fa_cons (fv 1) fa_nil)) (fa_cons (f_lst false (fa_cons (fv 1) fa_nil)) (fa_cons f_dct (fa_cons (f_pow f_int f_int) (fa_cons (f_tup (fa_cons f_str (fa_cons f_int fa_nil))) (fa_cons (f_tup (fa_cons f_str (fa_cons f_int fa_nil))) (fa_cons (f_tup (fa_cons f_str (fa_cons (f_tup (fa_cons f_str (fa_cons f_int fa_nil))) fa_nil))) (fa_cons (f_tup (fa_cons f_str (fa_cons f_int fa_nil))) fa_nil)))))))))))
    (fs_one (fs_ret (f_callD dLOf gd hr (by decide) (by rfl) tk (fa_cons (fv 0) (fa_cons (fv 2) fa_nil)))))))
/-! ### _law_put -/
abbrev sLPut : Stmt := topS 24
abbrev nLPut : List Str := ["_law_row", "_law_k", "_law_thing"]
theorem scLPut : FnScope nLPut ["_law_row", "_law_k", "_law_thing"] (defScope sLPut) := ⟨rfl, rfl, rfl, by decide +kernel, rfl, by decide +kernel, by decide +kernel⟩
-- slots: 0:_law_row 1:_law_k 2:_law_thing
noncomputable def gLPut : Sm :=
    (sRet (fOp oCatT (fOp oCatT (fSl oSlT (fVar 0) pNo (pSo (fVar 1))) (fApp mkT (aCons (fVar 2) aNil))) (fSl oSlT (fVar 0) (pSo (fOp oAdd (fVar 1) (fK (.d (.int 1))))) pNo)))
noncomputable def FLPut : Fn := fnF false 3 3 gLPut
theorem d_LPut {P : Program} {w : World} {K : PySem.W.Frag} {mg : Str → Option Value} {base : Heap} (M : Mx K mg) (D : DefAt K mg "_law_put" sLPut ["_law_row", "_law_k", "_law_thing"])  : DefOk P w K mg base "_law_put" ["_law_row", "_law_k", "_law_thing"] 1 FLPut := by
  refine def_ok D scLPut (fun f cdv A outer s H E gd hr tk hp => ?_)
  exact (fs_one (fs_ret (f_catT (f_catT (f_slT (fv 0) fo_no (fo_so (fv 1))) (f_tup (fa_cons (fv 2) fa_nil))) (f_slT (fv 0) (fo_so (f_add (fv 1) f_int)) fo_no))))
/-! ### _law_spoilt_step -/
abbrev sLSpoiltStep : Stmt := topS 25
abbrev nLSpoiltStep : List Str := ["_law_state", "_law_step", "_law_word", "_law_slot", "_law_way"]
theorem scLSpoiltStep : FnScope nLSpoiltStep ["_law_state", "_law_step"] (defScope sLSpoiltStep) := ⟨rfl, rfl, rfl, by decide +kernel, rfl, by decide +kernel, by decide +kernel⟩
-- slots: 0:_law_state 1:_law_step 2:_law_word 3:_law_slot 4:_law_way
noncomputable def gLSpoiltStep : Sm :=
    (sSeq (sAsg (.t [.n 2, .n 3]) (fVar 1))
    (sSeq (sSet 4 (fApp FLDigit (aCons (fVar 0) (aCons (fK (.d (.int 6))) aNil))))
    (sSeq (sIf (fB (fOp oEq (fVar 4) (fK (.d (.int 0)))))
    (sRet (fApp mkT (aCons (fApp FLOdd (aCons (fVar 0) (aCons (fVar 2) aNil))) (aCons (fVar 3) aNil)))) sNil)
    (sSeq (sIf (fB (fOp oEq (fVar 4) (fK (.d (.int 1)))))
    (sRet (fApp mkT (aCons (fVar 2) (aCons (fApp mkT (aCons (fApp FLOdd (aCons (fVar 0) (aCons (fOp oIx (fVar 3) (fK (.d (.int 0)))) aNil))) (aCons (fOp oIx (fVar 3) (fK (.d (.int 1)))) aNil))) aNil)))) sNil)
    (sSeq (sIf (fB (fOp oEq (fVar 4) (fK (.d (.int 2)))))
    (sRet (fApp mkT (aCons (fVar 2) (aCons (fApp mkT (aCons (fOp oIx (fVar 3) (fK (.d (.int 0)))) (aCons (fApp FLOdd (aCons (fVar 0) (aCons (fOp oIx (fVar 3) (fK (.d (.int 1)))) aNil))) aNil))) aNil)))) sNil)
    (sSeq (sIf (fB (fOp oEq (fVar 4) (fK (.d (.int 3)))))
    (sRet (fApp FLOf (aCons (fVar 0) (aCons (fApp (mkL false) (aCons (fApp mkT (aCons (fVar 2) (aCons (fApp (aList false) (aCons (fVar 3) aNil)) aNil))) (aCons (fApp (aList false) (aCons (fVar 1) aNil)) (aCons (fApp mkT (aCons (fVar 3) (aCons (fVar 2) aNil))) (aCons (fApp mkT (aCons (fVar 2) aNil)) (aCons (fOp oCatT (fVar 1) (fApp mkT (aCons (fK (.d (.int 1))) aNil))) (aCons (fApp mkT (aCons (fVar 2) (aCons (fOp oCatT (fVar 3) (fApp mkT (aCons (fK (.d (.int 0))) aNil))) aNil))) aNil))))))) aNil)))) sNil)
    (sSeq (sIf (fB (fOp oEq (fVar 4) (fK (.d (.int 4)))))
    (sRet (fApp mkT (aCons (fOp oIx (fApp (mkL false) (aCons (fK (.d (.str "read"))) (aCons (fK (.d (.str "write"))) aNil))) (fApp aInt (aCons (fOp oEq (fVar 2) (fK (.d (.str "read")))) aNil))) (aCons (fVar 3) aNil)))) sNil)
    (sRet (fApp FLOdd (aCons (fVar 0) (aCons (fVar 1) aNil)))))))))))
noncomputable def FLSpoiltStep : Fn := fnF false 2 5 gLSpoiltStep
theorem d_LSpoiltStep {P : Program} {w : World} {K : PySem.W.Frag} {mg : Str → Option Value} {base : Heap} (M : Mx K mg) (D : DefAt K mg "_law_spoilt_step" sLSpoiltStep ["_law_state", "_law_step"]) (dLDigit : DefOk P w K mg base "_law_digit" ["_law_state", "_law_base"] 1 FLDigit) (dLOdd : DefOk P w K mg base "_law_odd" ["_law_state", "_law_thing"] 3 FLOdd) (dLOf : DefOk P w K mg base "_law_of" ["_law_state", "_law_some"] 2 FLOf) : DefOk P w K mg base "_law_spoilt_step" ["_law_state", "_law_step"] 4 FLSpoiltStep := by
  refine def_ok D scLSpoiltStep (fun f cdv A outer s H E gd hr tk hp => ?_)
  have hu := hu64 hr
  exact (fs_cons (fs_asg (p := (.t [.n 2, .n 3])) (fv 1) (gp_t rfl (gps_cons (gp_n (i := 2) scLSpoiltStep.nd rfl (.inl rfl)) (gps_cons (gp_n (i := 3) scLSpoiltStep.nd rfl (.inl rfl)) gps_nil))))
    (fs_cons (fs_set (i := 4) scLSpoiltStep.nd rfl (.inl rfl) (f_callD dLDigit gd hr (by decide) (by rfl) tk (fa_cons (fv 0) (fa_cons f_int fa_nil))))
    (fs_cons (fs_if (ft_eq hu (fv 4) f_int)
    (fs_one (fs_ret (f_tup (fa_cons (f_callD dLOdd gd hr (by decide) (by rfl) tk (fa_cons (fv 0) (fa_cons (fv 2) fa_nil))) (fa_cons (fv 3) fa_nil))))) fs_nil)
    (fs_cons (fs_if (ft_eq hu (fv 4) f_int)
    (fs_one (fs_ret (f_tup (fa_cons (fv 2) (fa_cons (f_tup (fa_cons (f_callD dLOdd gd hr (by decide) (by rfl) tk (fa_cons (fv 0) (fa_cons (f_idx (fv 3) f_int) fa_nil))) (fa_cons (f_idx (fv 3) f_int) fa_nil))) fa_nil))))) fs_nil)
    (fs_cons (fs_if (ft_eq hu (fv 4) f_int)
    (fs_one (fs_ret (f_tup (fa_cons (fv 2) (fa_cons (f_tup (fa_cons (f_idx (fv 3) f_int) (fa_cons (f_callD dLOdd gd hr (by decide) (by rfl) tk (fa_cons (fv 0) (fa_cons (f_idx (fv 3) f_int) fa_nil))) fa_nil))) fa_nil))))) fs_nil)
    (fs_cons (fs_if (ft_eq hu (fv 4) f_int)
    (fs_one (fs_ret (f_callD dLOf gd hr (by decide) (by rfl) tk (fa_cons (fv 0) (fa_cons (f_lst false (fa_cons (f_tup (fa_cons (fv 2) (fa_cons (f_list false (by rfl) M.list (fa_cons (fv 3) fa_nil)) fa_nil))) (fa_cons (f_list false (by rfl) M.list (fa_cons (fv 1) fa_nil)) (fa_cons (f_tup (fa_cons (fv 3) (fa_cons (fv 2) fa_nil))) (fa_cons (f_tup (fa_cons (fv 2) fa_nil)) (fa_cons (f_catT (fv 1) (f_tup (fa_cons f_int fa_nil))) (fa_cons (f_tup (fa_cons (fv 2) (fa_cons (f_catT (fv 3) (f_tup (fa_cons f_int fa_nil))) fa_nil))) fa_nil))))))) fa_nil))))) fs_nil)
    (fs_cons (fs_if (ft_eq hu (fv 4) f_int)
    (fs_one (fs_ret (f_tup (fa_cons (f_idx (f_lst false (fa_cons f_str (fa_cons f_str fa_nil))) (f_intc (by rfl) M.int (fa_cons (f_eq hu (fv 2) f_str) fa_nil))) (fa_cons (fv 3) fa_nil))))) fs_nil)
    (fs_one (fs_ret (f_callD dLOdd gd hr (by decide) (by rfl) tk (fa_cons (fv 0) (fa_cons (fv 1) fa_nil))))))))))))
/-! ### _law_spoilt -/
abbrev sLSpoilt : Stmt := topS 26
abbrev nLSpoilt : List Str := ["_law_state", "_law_thing", "_law_tables", "_law_steps_here", "_law_way", "_law_k", "_law_j", "_law_odd_here"]
theorem scLSpoilt : FnScope nLSpoilt ["_law_state", "_law_thing"] (defScope sLSpoilt) := ⟨rfl, rfl, rfl, by decide +kernel, rfl, by decide +kernel, by decide +kernel⟩
-- slots: 0:_law_state 1:_law_thing 2:_law_tables 3:_law_steps_here 4:_law_way 5:_law_k 6:_law_j 7:_law_odd_here
noncomputable def gLSpoilt : Sm :=
    (sSeq (sAsg (.t [.n 2, .n 3]) (fVar 1))
    (sSeq (sSet 4 (fApp FLDigit (aCons (fVar 0) (aCons (fK (.d (.int 9))) aNil))))
    (sSeq (sSet 5 (fApp FLDigit (aCons (fVar 0) (aCons (fApp aLen (aCons (fVar 3) aNil)) aNil))))
    (sSeq (sSet 6 (fApp FLDigit (aCons (fVar 0) (aCons (fOp oAdd (fApp aLen (aCons (fVar 2) aNil)) (fK (.d (.int 1)))) aNil))))
    (sSeq (sIf (fB (fOp oEq (fVar 4) (fK (.d (.int 0)))))
    (sRet (fApp mkT (aCons (fOp oCatT (fOp oCatT (fSl oSlT (fVar 2) pNo (pSo (fVar 6))) (fApp mkT (aCons (fApp FLOdd (aCons (fVar 0) (aCons (fK (.d (.int 1))) aNil))) aNil))) (fSl oSlT (fVar 2) (pSo (fVar 6)) pNo)) (aCons (fVar 3) aNil)))) sNil)
    (sSeq (sIf (fB (fOp oEq (fVar 4) (fK (.d (.int 1)))))
    (sRet (fApp mkT (aCons (fApp FLPut (aCons (fVar 2) (aCons (fVar 6) (aCons (fApp FLOdd (aCons (fVar 0) (aCons (fK (.d (.int 1))) aNil))) aNil)))) (aCons (fVar 3) aNil)))) sNil)
    (sSeq (sIf (fB (fOp oLt (fVar 4) (fK (.d (.int 4)))))
    (sRet (fApp mkT (aCons (fVar 2) (aCons (fApp FLPut (aCons (fVar 3) (aCons (fVar 5) (aCons (fApp FLSpoiltStep (aCons (fVar 0) (aCons (fOp oIx (fVar 3) (fVar 5)) aNil))) aNil)))) aNil)))) sNil)
    (sSeq (sIf (fB (fOp oEq (fVar 4) (fK (.d (.int 4)))))
    (sRet (fApp mkT (aCons (fVar 2) (aCons (fOp oCatT (fSl oSlT (fVar 3) pNo (pSo (fVar 5))) (fSl oSlT (fVar 3) (pSo (fOp oAdd (fVar 5) (fK (.d (.int 1))))) pNo)) aNil)))) sNil)
    (sSeq (sIf (fB (fOp oEq (fVar 4) (fK (.d (.int 5)))))
    (sRet (fApp mkT (aCons (fVar 2) (aCons (fOp oCatT (fOp oCatT (fSl oSlT (fVar 3) pNo (pSo (fVar 5))) (fApp mkT (aCons (fApp mkT (aCons (fK (.d (.str "read"))) (aCons (fApp mkT (aCons (fK (.d (.str "box"))) (aCons (fApp FLDigit (aCons (fVar 0) (aCons (fOp oPow (fK (.d (.int 10))) (fK (.d (.int 6)))) aNil))) aNil))) aNil))) aNil))) (fSl oSlT (fVar 3) (pSo (fVar 5)) pNo)) aNil)))) sNil)
    (sSeq (sIf (fB (fOp oEq (fVar 4) (fK (.d (.int 6)))))
    (sRet (fApp mkT (aCons (fVar 2) (aCons (fUn uRevT (fVar 3)) aNil)))) sNil)
    (sSeq (sIf (fB (fOp oEq (fVar 4) (fK (.d (.int 7)))))
    (sRet (fApp mkT (aCons (fVar 2) (aCons (fOp oCatT (fVar 3) (fSl oSlT (fVar 3) (pSo (fVar 5)) (pSo (fOp oAdd (fVar 5) (fK (.d (.int 1))))))) aNil)))) sNil)
    (sSeq (sSet 7 (fApp (mkL false) (aCons (fApp (aList false) (aCons (fVar 1) aNil)) (aCons (fOp oCatT (fVar 1) (fApp mkT (aCons (fK (.d (.int 1))) aNil))) (aCons (fSl oSlT (fVar 1) pNo (pSo (fK (.d (.int 1))))) (aCons (fApp mkT (aCons (fApp (aList false) (aCons (fVar 2) aNil)) (aCons (fVar 3) aNil))) (aCons (fApp mkT (aCons (fVar 2) (aCons (fApp (aList false) (aCons (fVar 3) aNil)) aNil))) (aCons (fVar 3) (aCons (fK (.d .non)) (aCons (fApp mkT aNil) aNil))))))))))
    (sRet (fApp FLOf (aCons (fVar 0) (aCons (fOp (oCatL false) (fVar 7) (fApp (mkL false) (aCons (fApp mkT (aCons (fVar 3) (aCons (fVar 2) aNil))) (aCons (fApp mkT (aCons (fVar 2) (aCons (fApp mkT aNil) aNil))) (aCons (fApp mkT (aCons (fVar 2) (aCons (fK (.d .non)) aNil))) (aCons (fApp mkT (aCons (fK (.d .non)) (aCons (fVar 3) aNil))) (aCons (fK (.d (.str "program"))) aNil))))))) aNil))))))))))))))))
noncomputable def FLSpoilt : Fn := fnF false 2 8 gLSpoilt
theorem d_LSpoilt {P : Program} {w : World} {K : PySem.W.Frag} {mg : Str → Option Value} {base : Heap} (M : Mx K mg) (D : DefAt K mg "_law_spoilt" sLSpoilt ["_law_state", "_law_thing"]) (dLDigit : DefOk P w K mg base "_law_digit" ["_law_state", "_law_base"] 1 FLDigit) (dLOdd : DefOk P w K mg base "_law_odd" ["_law_state", "_law_thing"] 3 FLOdd) (dLPut : DefOk P w K mg base "_law_put" ["_law_row", "_law_k", "_law_thing"] 1 FLPut) (dLSpoiltStep : DefOk P w K mg base "_law_spoilt_step" ["_law_state", "_law_step"] 4 FLSpoiltStep) (dLOf : DefOk P w K mg base "_law_of" ["_law_state", "_law_some"] 2 FLOf) : DefOk P w K mg base "_law_spoilt" ["_law_state", "_law_thing"] 5 FLSpoilt := by
  refine def_ok D scLSpoilt (fun f cdv A outer s H E gd hr tk hp => ?_)
  have hu := hu64 hr
  exact (fs_cons (fs_asg (p := (.t [.n 2, .n 3])) (fv 1) (gp_t rfl (gps_cons (gp_n (i := 2) scLSpoilt.nd rfl (.inl rfl)) (gps_cons (gp_n (i := 3) scLSpoilt.nd rfl (.inl rfl)) gps_nil))))
    (fs_cons (fs_set (i := 4) scLSpoilt.nd rfl (.inl rfl) (f_callD dLDigit gd hr (by decide) (by rfl) tk (fa_cons (fv 0) (fa_cons f_int fa_nil))))
    (fs_cons (fs_set (i := 5) scLSpoilt.nd rfl (.inl rfl) (f_callD dLDigit gd hr (by decide) (by rfl) tk (fa_cons (fv 0) (fa_cons (f_len (by rfl) M.len (fa_cons (fv 3) fa_nil)) fa_nil))))
    (fs_cons (fs_set (i := 6) scLSpoilt.nd rfl (.inl rfl) (f_callD dLDigit gd hr (by decide) (by rfl) tk (fa_cons (fv 0) (fa_cons (f_add (f_len (by rfl) M.len (fa_cons (fv 2) fa_nil)) f_int) fa_nil))))
    (fs_cons (fs_if (ft_eq hu (fv 4) f_int)
    (fs_one (fs_ret (f_tup (fa_cons (f_catT (f_catT (f_slT (fv 2) fo_no (fo_so (fv 6))) (f_tup (fa_cons (f_callD dLOdd gd hr (by decide) (by rfl) tk (fa_cons (fv 0) (fa_cons f_int fa_nil))) fa_nil))) (f_slT (fv 2) (fo_so (fv 6)) fo_no)) (fa_cons (fv 3) fa_nil))))) fs_nil)
    (fs_cons (fs_if (ft_eq hu (fv 4) f_int)
    (fs_one (fs_ret (f_tup (fa_cons (f_callD dLPut gd hr (by decide) (by rfl) tk (fa_cons (fv 2) (fa_cons (fv 6) (fa_cons (f_callD dLOdd gd hr (by decide) (by rfl) tk (fa_cons (fv 0) (fa_cons f_int fa_nil))) fa_nil)))) (fa_cons (fv 3) fa_nil))))) fs_nil)
    (fs_cons (fs_if (ft_lt (fv 4) f_int)
    (fs_one (fs_ret (f_tup (fa_cons (fv 2) (fa_cons (f_callD dLPut gd hr (by decide) (by rfl) tk (fa_cons (fv 3) (fa_cons (fv 5) (fa_cons (f_callD dLSpoiltStep gd hr (by decide) (by rfl) tk (fa_cons (fv 0) (fa_cons (f_idx (fv 3) (fv 5)) fa_nil))) fa_nil)))) fa_nil))))) fs_nil)
    (fs_cons (fs_if (ft_eq hu (fv 4) f_int)
    (fs_one (fs_ret (f_tup (fa_cons (fv 2) (fa_cons (f_catT (f_slT (fv 3) fo_no (fo_so (fv 5))) (f_slT (fv 3) (fo_so (f_add (fv 5) f_int)) fo_no)) fa_nil))))) fs_nil)
    (fs_cons (fs_if (ft_eq hu (fv 4) f_int)
    (fs_one (fs_ret (f_tup (fa_cons (fv 2) (fa_cons (f_catT (f_catT (f_slT (fv 3) fo_no (fo_so (fv 5))) (f_tup (fa_cons (f_tup (fa_cons f_str (fa_cons (f_tup (fa_cons f_str (fa_cons (f_callD dLDigit gd hr (by decide) (by rfl) tk (fa_cons (fv 0) (fa_cons (f_pow f_int f_int) fa_nil))) fa_nil))) fa_nil))) fa_nil))) (f_slT (fv 3) (fo_so (fv 5)) fo_no)) fa_nil))))) fs_nil)
    (fs_cons (fs_if (ft_eq hu (fv 4) f_int)
    (fs_one (fs_ret (f_tup (fa_cons (fv 2) (fa_cons (f_revT (fv 3)) fa_nil))))) fs_nil)
    (fs_cons (fs_if (ft_eq hu (fv 4) f_int)
    (fs_one (fs_ret (f_tup (fa_cons (fv 2) (fa_cons (f_catT (fv 3) (f_slT (fv 3) (fo_so (fv 5)) (fo_so (f_add (fv 5) f_int)))) fa_nil))))) fs_nil)
    (fs_cons (fs_set (i := 7) scLSpoilt.nd rfl (.inl rfl) (f_lst false (fa_cons (f_list false (by rfl) M.list (fa_cons (fv 1) fa_nil)) (fa_cons (f_catT (fv 1) (f_tup (fa_cons f_int fa_nil))) (fa_cons (f_slT (fv 1) fo_no (fo_so f_int)) (fa_cons (f_tup (fa_cons (f_list false (by rfl) M.list (fa_cons (fv 2) fa_nil)) (fa_cons (fv 3) fa_nil))) (fa_cons (f_tup (fa_cons (fv 2) (fa_cons (f_list false (by rfl) M.list (fa_cons (fv 3) fa_nil)) fa_nil))) (fa_cons (fv 3) (fa_cons f_non (fa_cons (f_tup fa_nil) fa_nil))))))))))
    (fs_one (fs_ret (f_callD dLOf gd hr (by decide) (by rfl) tk (fa_cons (fv 0) (fa_cons (f_catL false (fv 7) (f_lst false (fa_cons (f_tup (fa_cons (fv 3) (fa_cons (fv 2) fa_nil))) (fa_cons (f_tup (fa_cons (fv 2) (fa_cons (f_tup fa_nil) fa_nil))) (fa_cons (f_tup (fa_cons (fv 2) (fa_cons f_non fa_nil))) (fa_cons (f_tup (fa_cons f_non (fa_cons (fv 3) fa_nil))) (fa_cons f_str fa_nil))))))) fa_nil)))))))))))))))))
/-! ### _law_whole -/
abbrev sLWhole : Stmt := topS 27
abbrev nLWhole : List Str := ["_law_thing", "_law_low", "_law_high"]
theorem scLWhole : FnScope nLWhole ["_law_thing", "_law_low", "_law_high"] (defScope sLWhole) := ⟨rfl, rfl, rfl, by decide +kernel, rfl, by decide +kernel, by decide +kernel⟩
-- slots: 0:_law_thing 1:_law_low 2:_law_high
noncomputable def gLWhole : Sm :=
    (sRet (fAnd (fApp aIsi (aCons (fVar 0) (aCons (fK (.g (.ty "int"))) aNil))) (fAnd (fNot (fApp aIsi (aCons (fVar 0) (aCons (fK (.g (.ty "bool"))) aNil)))) (fChain oLe oLe (fVar 1) (fVar 0) (fVar 2)))))
noncomputable def FLWhole : Fn := fnF false 3 3 gLWhole
theorem d_LWhole {P : Program} {w : World} {K : PySem.W.Frag} {mg : Str → Option Value} {base : Heap} (M : Mx K mg) (D : DefAt K mg "_law_whole" sLWhole ["_law_thing", "_law_low", "_law_high"])  : DefOk P w K mg base "_law_whole" ["_law_thing", "_law_low", "_law_high"] 1 FLWhole := by
  refine def_ok D scLWhole (fun f cdv A outer s H E gd hr tk hp => ?_)
  exact (fs_one (fs_ret (f_and (f_isi (by rfl) M.isinstance (fa_cons (fv 0) (fa_cons (f_ty (n := "int") (by rfl) M.int (by decide +kernel)) fa_nil))) (f_and (f_not (f_isi (by rfl) M.isinstance (fa_cons (fv 0) (fa_cons (f_ty (n := "bool") (by rfl) M.bool (by decide +kernel)) fa_nil)))) (f_one (f_chain_le_le (fv 1) (fv 0) (fv 2)))))))
/-! ### _law_is_step -/
abbrev sLIsStep : Stmt := topS 28
abbrev nLIsStep : List Str := ["_law_thing", "_law_many", "_law_slot"]
theorem scLIsStep : FnScope nLIsStep ["_law_thing", "_law_many"] (defScope sLIsStep) := ⟨rfl, rfl, rfl, by decide +kernel, rfl, by decide +kernel, by decide +kernel⟩
-- slots: 0:_law_thing 1:_law_many 2:_law_slot
noncomputable def gLIsStep : Sm :=
    (sSeq (sIf (tOrF (tNotF (fB (fApp aIsi (aCons (fVar 0) (aCons (fK (.g (.ty "tuple"))) aNil))))) (tOrF (fB (fOp oNe (fApp aLen (aCons (fVar 0) aNil)) (fK (.d (.int 2))))) (tAndF (fB (fOp oNe (fOp oIx (fVar 0) (fK (.d (.int 0)))) (fK (.d (.str "read"))))) (fB (fOp oNe (fOp oIx (fVar 0) (fK (.d (.int 0)))) (fK (.d (.str "write"))))))))
    (sRet (fK (.d (.bl false)))) sNil)
    (sSeq (sSet 2 (fOp oIx (fVar 0) (fK (.d (.int 1)))))
    (sSeq (sIf (tOrF (tNotF (fB (fApp aIsi (aCons (fVar 2) (aCons (fK (.g (.ty "tuple"))) aNil))))) (fB (fOp oNe (fApp aLen (aCons (fVar 2) aNil)) (fK (.d (.int 2))))))
    (sRet (fK (.d (.bl false)))) sNil)
    (sSeq (sIf (fB (fOp oEq (fOp oIx (fVar 2) (fK (.d (.int 0)))) (fK (.d (.str "box")))))
    (sRet (fApp FLWhole (aCons (fOp oIx (fVar 2) (fK (.d (.int 1)))) (aCons (fK (.d (.int 0))) (aCons (fK (.d (.int 999999))) aNil))))) sNil)
    (sRet (fAnd (fOp oEq (fOp oIx (fVar 2) (fK (.d (.int 0)))) (fK (.d (.str "key")))) (fApp FLWhole (aCons (fOp oIx (fVar 2) (fK (.d (.int 1)))) (aCons (fK (.d (.int 0))) (aCons (fOp oSub (fVar 1) (fK (.d (.int 1)))) aNil))))))))))
noncomputable def FLIsStep : Fn := fnF false 2 3 gLIsStep
theorem d_LIsStep {P : Program} {w : World} {K : PySem.W.Frag} {mg : Str → Option Value} {base : Heap} (M : Mx K mg) (D : DefAt K mg "_law_is_step" sLIsStep ["_law_thing", "_law_many"]) (dLWhole : DefOk P w K mg base "_law_whole" ["_law_thing", "_law_low", "_law_high"] 1 FLWhole) : DefOk P w K mg base "_law_is_step" ["_law_thing", "_law_many"] 2 FLIsStep := by
  refine def_ok D scLIsStep (fun f cdv A outer s H E gd hr tk hp => ?_)
  have hu := hu64 hr
  exact (fs_cons (fs_if (ft_pw (fw_or (ft_not (ft_val (f_isi (by rfl) M.isinstance (fa_cons (fv 0) (fa_cons (f_ty (n := "tuple") (by rfl) M.tuple (by decide +kernel)) fa_nil))))) (fw_or (ft_ne hu (f_len (by rfl) M.len (fa_cons (fv 0) fa_nil)) f_int) (fw_or1 (ft_pw (fw_and (ft_ne hu (f_idx (fv 0) f_int) f_str) (fw_and1 (ft_ne hu (f_idx (fv 0) f_int) f_str))))))))
    (fs_one (fs_ret f_bl)) fs_nil)
    (fs_cons (fs_set (i := 2) scLIsStep.nd rfl (.inl rfl) (f_idx (fv 0) f_int))
    (fs_cons (fs_if (ft_pw (fw_or (ft_not (ft_val (f_isi (by rfl) M.isinstance (fa_cons (fv 2) (fa_cons (f_ty (n := "tuple") (by rfl) M.tuple (by decide +kernel)) fa_nil))))) (fw_or1 (ft_ne hu (f_len (by rfl) M.len (fa_cons (fv 2) fa_nil)) f_int))))
    (fs_one (fs_ret f_bl)) fs_nil)
    (fs_cons (fs_if (ft_eq hu (f_idx (fv 2) f_int) f_str)
    (fs_one (fs_ret (f_callD dLWhole gd hr (by decide) (by rfl) tk (fa_cons (f_idx (fv 2) f_int) (fa_cons f_int (fa_cons f_int fa_nil)))))) fs_nil)
    (fs_one (fs_ret (f_and (f_eq hu (f_idx (fv 2) f_int) f_str) (f_one (f_callD dLWhole gd hr (by decide) (by rfl) tk (fa_cons (f_idx (fv 2) f_int) (fa_cons f_int (fa_cons (f_sub (fv 1) f_int) fa_nil))))))))))))
/-! ### _law_is_right -/
abbrev sLIsRight : Stmt := topS 29
abbrev nLIsRight : List Str := ["_law_thing", "_law_steps_here", "_law_step", "_law_k", "_law_tables", "_law_slots", "_law_table"]
theorem scLIsRight : FnScope nLIsRight ["_law_thing"] (defScope sLIsRight) := ⟨rfl, rfl, rfl, by decide +kernel, rfl, by decide +kernel, by decide +kernel⟩
-- slots: 0:_law_thing 1:_law_steps_here 2:_law_step 3:_law_k 4:_law_tables 5:_law_slots 6:_law_table
noncomputable def gLIsRight : Sm :=
    (sSeq (sIf (tOrF (tNotF (fB (fApp aIsi (aCons (fVar 0) (aCons (fK (.g (.ty "tuple"))) aNil))))) (fB (fOp oNe (fApp aLen (aCons (fVar 0) aNil)) (fK (.d (.int 2))))))
    (sRet (fK (.d (.bl false)))) sNil)
    (sSeq (sAsg (.t [.n 4, .n 1]) (fVar 0))
    (sSeq (sIf (tOrF (tNotF (fB (fApp aIsi (aCons (fVar 4) (aCons (fK (.g (.ty "tuple"))) aNil))))) (tNotF (fB (fApp aIsi (aCons (fVar 1) (aCons (fK (.g (.ty "tuple"))) aNil))))))
    (sRet (fK (.d (.bl false)))) sNil)
    (sSeq (sIf (tOrF (fB (fOp oGt (fApp aLen (aCons (fVar 4) aNil)) (fK (.d (.int 3))))) (fB (fOp oNe (fLc false (iTupF (fVar 4)) (.n 6) (tNotF (fB (fApp FLWhole (aCons (fVar 6) (aCons (fK (.d (.int 1))) (aCons (fK (.d (.int 9))) aNil)))))) (fVar 6) [6]) (fApp (mkL false) aNil))))
    (sRet (fK (.d (.bl false)))) sNil)
    (sSeq (sIf (tOrF (tNotF (fB (fChain oLe oLe (fK (.d (.int 1))) (fApp aLen (aCons (fVar 1) aNil)) (fK (.d (.int 6)))))) (fB (fOp oNe (fLc false (iTupF (fVar 1)) (.n 2) (tNotF (fB (fApp FLIsStep (aCons (fVar 2) (aCons (fApp aLen (aCons (fVar 4) aNil)) aNil))))) (fVar 2) [2]) (fApp (mkL false) aNil))))
    (sRet (fK (.d (.bl false)))) sNil)
    (sSeq (sFor (iEnumT (aCons (fVar 1) aNil)) (.t [.n 3, .n 2])
    (sIf (tOrF (fB (fOp oIn (fVar 2) (fSl oSlT (fVar 1) pNo (pSo (fVar 3))))) (tAndF (fB (fOp oEq (fOp oIx (fVar 2) (fK (.d (.int 0)))) (fK (.d (.str "read"))))) (fB (fOp oIn (fApp mkT (aCons (fK (.d (.str "write"))) (aCons (fOp oIx (fVar 2) (fK (.d (.int 1)))) aNil))) (fSl oSlT (fVar 1) pNo (pSo (fVar 3)))))))
      (sRet (fK (.d (.bl false)))) sNil))
    (sSeq (sSet 5 (fLc false (iTupF (fVar 1)) (.n 2) tYesF (fOp oIx (fVar 2) (fK (.d (.int 1)))) [2]))
    (sRet (fOp oEq (fLc false (iRange1 (aCons (fApp aLen (aCons (fVar 4) aNil)) aNil)) (.n 3) (fB (fOp oNotIn (fApp mkT (aCons (fK (.d (.str "key"))) (aCons (fVar 3) aNil))) (fVar 5))) (fVar 3) [3]) (fApp (mkL false) aNil))))))))))
noncomputable def FLIsRight : Fn := fnF false 1 7 gLIsRight
theorem d_LIsRight {P : Program} {w : World} {K : PySem.W.Frag} {mg : Str → Option Value} {base : Heap} (M : Mx K mg) (D : DefAt K mg "_law_is_right" sLIsRight ["_law_thing"]) (dLWhole : DefOk P w K mg base "_law_whole" ["_law_thing", "_law_low", "_law_high"] 1 FLWhole) (dLIsStep : DefOk P w K mg base "_law_is_step" ["_law_thing", "_law_many"] 2 FLIsStep) : DefOk P w K mg base "_law_is_right" ["_law_thing"] 3 FLIsRight := by
  refine def_ok D scLIsRight (fun f cdv A outer s H E gd hr tk hp => ?_)
  have hu5 := hu65 hr
  have hu := hu64 hr
  exact (fs_cons (fs_if (ft_pw (fw_or (ft_not (ft_val (f_isi (by rfl) M.isinstance (fa_cons (fv 0) (fa_cons (f_ty (n := "tuple") (by rfl) M.tuple (by decide +kernel)) fa_nil))))) (fw_or1 (ft_ne hu (f_len (by rfl) M.len (fa_cons (fv 0) fa_nil)) f_int))))
    (fs_one (fs_ret f_bl)) fs_nil)
    (fs_cons (fs_asg (p := (.t [.n 4, .n 1])) (fv 0) (gp_t rfl (gps_cons (gp_n (i := 4) scLIsRight.nd rfl (.inr rfl)) (gps_cons (gp_n (i := 1) scLIsRight.nd rfl (.inl rfl)) gps_nil))))
    (fs_cons (fs_if (ft_pw (fw_or (ft_not (ft_val (f_isi (by rfl) M.isinstance (fa_cons (fv 4) (fa_cons (f_ty (n := "tuple") (by rfl) M.tuple (by decide +kernel)) fa_nil))))) (fw_or1 (ft_not (ft_val (f_isi (by rfl) M.isinstance (fa_cons (fv 1) (fa_cons (f_ty (n := "tuple") (by rfl) M.tuple (by decide +kernel)) fa_nil))))))))
    (fs_one (fs_ret f_bl)) fs_nil)
    (fs_cons (fs_if (ft_pw (fw_or (ft_gt (f_len (by rfl) M.len (fa_cons (fv 4) fa_nil)) f_int) (fw_or1 (ft_ne hu (f_lc false (own := [("_law_table", 6)]) (p := (.n 6)) rfl scLIsRight.nd (fi_tup (fv 4)) (blkOk_by (own := [("_law_table", 6)]) (N := nLIsRight) (sc := defScope sLIsRight) (by decide +kernel)) (fun _ _ _ _ _ => (gp_n (i := 6) scLIsRight.nd rfl (.inl rfl))) (fun _ _ _ _ _ => (fts_one (ft_not (ft_val (f_callD dLWhole gd hr (by decide) (by rfl) take_n (fa_cons (fv 6) (fa_cons f_int (fa_cons f_int fa_nil)))))))) (fun _ _ _ _ _ => (fv 6))) (f_lst false fa_nil)))))
    (fs_one (fs_ret f_bl)) fs_nil)
    (fs_cons (fs_if (ft_pw (fw_or (ft_not (ft_chain_le_le f_int (f_len (by rfl) M.len (fa_cons (fv 1) fa_nil)) f_int)) (fw_or1 (ft_ne hu (f_lc false (own := [("_law_step", 2)]) (p := (.n 2)) rfl scLIsRight.nd (fi_tup (fv 1)) (blkOk_by (own := [("_law_step", 2)]) (N := nLIsRight) (sc := defScope sLIsRight) (by decide +kernel)) (fun _ _ _ _ _ => (gp_n (i := 2) scLIsRight.nd rfl (.inl rfl))) (fun _ _ _ _ _ => (fts_one (ft_not (ft_val (f_callD dLIsStep gd hr (by decide) (by rfl) take_n (fa_cons (fv 2) (fa_cons (f_len (by rfl) M.len (fa_cons (fv 4) fa_nil)) fa_nil))))))) (fun _ _ _ _ _ => (fv 2))) (f_lst false fa_nil)))))
    (fs_one (fs_ret f_bl)) fs_nil)
    (fs_cons (fs_for (p := (.t [.n 3, .n 2])) hp rfl (fi_enumT (by rfl) M.enumerate (fa_cons (fv 1) fa_nil)) (gp_t rfl (gps_cons (gp_n (i := 3) scLIsRight.nd rfl (.inl rfl)) (gps_cons (gp_n (i := 2) scLIsRight.nd rfl (.inl rfl)) gps_nil)))
    (fs_one (fs_if (ft_pw (fw_or (ft_in hu5 (fv 2) (f_slT (fv 1) fo_no (fo_so (fv 3)))) (fw_or1 (ft_pw (fw_and (ft_eq hu (f_idx (fv 2) f_int) f_str) (fw_and1 (ft_in hu5 (f_tup (fa_cons f_str (fa_cons (f_idx (fv 2) f_int) fa_nil))) (f_slT (fv 1) fo_no (fo_so (fv 3))))))))))
      (fs_one (fs_ret f_bl)) fs_nil)))
    (fs_cons (fs_set (i := 5) scLIsRight.nd rfl (.inr rfl) (f_lc false (own := [("_law_step", 2)]) (p := (.n 2)) rfl scLIsRight.nd (fi_tup (fv 1)) (blkOk_by (own := [("_law_step", 2)]) (N := nLIsRight) (sc := defScope sLIsRight) (by decide +kernel)) (fun _ _ _ _ _ => (gp_n (i := 2) scLIsRight.nd rfl (.inl rfl))) (fun _ _ _ _ _ => fts_nil) (fun _ _ _ _ _ => (f_idx (fv 2) f_int))))
    (fs_one (fs_ret (f_eq hu (f_lc false (own := [("_law_k", 3)]) (p := (.n 3)) rfl scLIsRight.nd (fi_range1 (by rfl) M.range (fa_cons (f_len (by rfl) M.len (fa_cons (fv 4) fa_nil)) fa_nil)) (blkOk_by (own := [("_law_k", 3)]) (N := nLIsRight) (sc := defScope sLIsRight) (by decide +kernel)) (fun _ _ _ _ _ => (gp_n (i := 3) scLIsRight.nd rfl (.inl rfl))) (fun _ _ _ _ _ => (fts_one (ft_notIn hu5 (f_tup (fa_cons f_str (fa_cons (fv 3) fa_nil))) (fv 5)))) (fun _ _ _ _ _ => (fv 3))) (f_lst false fa_nil)))))))))))
/-! ### _law_are_right -/
abbrev sLAreRight : Stmt := topS 30
abbrev nLAreRight : List Str := ["_law_thing", "_law_one"]
theorem scLAreRight : FnScope nLAreRight ["_law_thing"] (defScope sLAreRight) := ⟨rfl, rfl, rfl, by decide +kernel, rfl, by decide +kernel, by decide +kernel⟩
-- slots: 0:_law_thing 1:_law_one
noncomputable def gLAreRight : Sm :=
    (sSeq (sIf (tOrF (tNotF (fB (fApp aIsi (aCons (fVar 0) (aCons (fK (.g (.ty "list"))) aNil))))) (tNotF (fB (fChain oLe oLe (fK (.d (.int 1))) (fApp aLen (aCons (fVar 0) aNil)) (fK (.d (.int 4)))))))
    (sRet (fK (.d (.bl false)))) sNil)
    (sRet (fOp oEq (fLc false (iList (fVar 0)) (.n 1) (tNotF (fB (fApp FLIsRight (aCons (fVar 1) aNil)))) (fVar 1) [1]) (fApp (mkL false) aNil))))
noncomputable def FLAreRight : Fn := fnF false 1 2 gLAreRight
theorem d_LAreRight {P : Program} {w : World} {K : PySem.W.Frag} {mg : Str → Option Value} {base : Heap} (M : Mx K mg) (D : DefAt K mg "_law_are_right" sLAreRight ["_law_thing"]) (dLIsRight : DefOk P w K mg base "_law_is_right" ["_law_thing"] 3 FLIsRight) : DefOk P w K mg base "_law_are_right" ["_law_thing"] 4 FLAreRight := by
  refine def_ok D scLAreRight (fun f cdv A outer s H E gd hr tk hp => ?_)
  have hu := hu64 hr
  exact (fs_cons (fs_if (ft_pw (fw_or (ft_not (ft_val (f_isi (by rfl) M.isinstance (fa_cons (fv 0) (fa_cons (f_ty (n := "list") (by rfl) M.list (by decide +kernel)) fa_nil))))) (fw_or1 (ft_not (ft_chain_le_le f_int (f_len (by rfl) M.len (fa_cons (fv 0) fa_nil)) f_int)))))
    (fs_one (fs_ret f_bl)) fs_nil)
    (fs_one (fs_ret (f_eq hu (f_lc false (own := [("_law_one", 1)]) (p := (.n 1)) rfl scLAreRight.nd (fi_list (fv 0)) (blkOk_by (own := [("_law_one", 1)]) (N := nLAreRight) (sc := defScope sLAreRight) (by decide +kernel)) (fun _ _ _ _ _ => (gp_n (i := 1) scLAreRight.nd rfl (.inl rfl))) (fun _ _ _ _ _ => (fts_one (ft_not (ft_val (f_callD dLIsRight gd hr (by decide) (by rfl) take_n (fa_cons (fv 1) fa_nil)))))) (fun _ _ _ _ _ => (fv 1))) (f_lst false fa_nil)))))
/-! ### _law_list -/
abbrev sLList : Stmt := topS 31
abbrev nLList : List Str := ["_law_state", "_law_good", "_law_bad", "_law_some", "_law_k"]
theorem scLList : FnScope nLList ["_law_state", "_law_good", "_law_bad"] (defScope sLList) := ⟨rfl, rfl, rfl, by decide +kernel, rfl, by decide +kernel, by decide +kernel⟩
-- slots: 0:_law_state 1:_law_good 2:_law_bad 3:_law_some 4:_law_k
noncomputable def gLList : Sm :=
    (sSeq (sSet 3 (fLc false (iRange1 (aCons (fApp FLDigit (aCons (fVar 0) (aCons (fK (.d (.int 7))) aNil))) aNil)) (.n 4) tYesF (fApp FLOf (aCons (fVar 0) (aCons (fApp (mkL false) (aCons (fVar 1) (aCons (fVar 1) (aCons (fVar 1) (aCons (fVar 2) aNil))))) aNil))) [4]))
    (sRet (fApp FLOf (aCons (fVar 0) (aCons (fApp (mkL false) (aCons (fVar 3) (aCons (fVar 3) (aCons (fVar 3) (aCons (fApp aTuple (aCons (fVar 3) aNil)) (aCons (fVar 1) (aCons (fK (.d .non)) (aCons fDct aNil)))))))) aNil)))))
noncomputable def FLList : Fn := fnF false 3 5 gLList
theorem d_LList {P : Program} {w : World} {K : PySem.W.Frag} {mg : Str → Option Value} {base : Heap} (M : Mx K mg) (D : DefAt K mg "_law_list" sLList ["_law_state", "_law_good", "_law_bad"]) (dLDigit : DefOk P w K mg base "_law_digit" ["_law_state", "_law_base"] 1 FLDigit) (dLOf : DefOk P w K mg base "_law_of" ["_law_state", "_law_some"] 2 FLOf) : DefOk P w K mg base "_law_list" ["_law_state", "_law_good", "_law_bad"] 3 FLList := by
  refine def_ok D scLList (fun f cdv A outer s H E gd hr tk hp => ?_)
  exact (fs_cons (fs_setLc false (i := 3) (own := [("_law_k", 4)]) (p := (.n 4)) rfl scLList.nd rfl rfl (sw_true rfl rfl rfl (by decide +kernel)) (fi_range1 (by rfl) M.range (fa_cons (f_callD dLDigit gd hr (by decide) (by rfl) tk (fa_cons (fv 0) (fa_cons f_int fa_nil))) fa_nil)) (blkOk_by (own := [("_law_k", 4)]) (N := nLList) (sc := defScope sLList) (by decide +kernel)) (fun _ _ _ _ _ => (gp_n (i := 4) scLList.nd rfl (.inl rfl))) (fun _ _ _ _ _ => fts_nil) (fun _ _ _ _ _ => (f_callD dLOf gd hr (by decide) (by rfl) take_n (fa_cons (fv 0) (fa_cons (f_lst false (fa_cons (fv 1) (fa_cons (fv 1) (fa_cons (fv 1) (fa_cons (fv 2) fa_nil))))) fa_nil)))))
    (fs_one (fs_ret (f_callD dLOf gd hr (by decide) (by rfl) tk (fa_cons (fv 0) (fa_cons (f_lst false (fa_cons (fv 3) (fa_cons (fv 3) (fa_cons (fv 3) (fa_cons (f_tuple (by rfl) M.tuple (fa_cons (fv 3) fa_nil)) (fa_cons (fv 1) (fa_cons f_non (fa_cons f_dct fa_nil)))))))) fa_nil))))))
/-! ### _law_truth -/
abbrev sLTruth : Stmt := topS 32
abbrev nLTruth : List Str := ["_law_found", "_law_due"]
theorem scLTruth : FnScope nLTruth ["_law_found", "_law_due"] (defScope sLTruth) := ⟨rfl, rfl, rfl, by decide +kernel, rfl, by decide +kernel, by decide +kernel⟩
-- slots: 0:_law_found 1:_law_due
noncomputable def gLTruth : Sm :=
    (sRet (fAnd (fApp aIsi (aCons (fVar 0) (aCons (fK (.g (.ty "bool"))) aNil))) (fOp oEq (fVar 0) (fVar 1))))
noncomputable def FLTruth : Fn := fnF false 2 2 gLTruth
theorem d_LTruth {P : Program} {w : World} {K : PySem.W.Frag} {mg : Str → Option Value} {base : Heap} (M : Mx K mg) (D : DefAt K mg "_law_truth" sLTruth ["_law_found", "_law_due"])  : DefOk P w K mg base "_law_truth" ["_law_found", "_law_due"] 1 FLTruth := by
  refine def_ok D scLTruth (fun f cdv A outer s H E gd hr tk hp => ?_)
  have hu := hu64 hr
  exact (fs_one (fs_ret (f_and (f_isi (by rfl) M.isinstance (fa_cons (fv 0) (fa_cons (f_ty (n := "bool") (by rfl) M.bool (by decide +kernel)) fa_nil))) (f_one (f_eq hu (fv 0) (fv 1))))))
/-! ### law -/
abbrev sLaw : Stmt := topS 33
abbrev nLaw : List Str := ["_law_script", "_law_cell", "_law_state", "_law_good", "_law_bad", "_law_turn", "_law_thing", "_law_kept", "_law_some"]
theorem scLaw : FnScope nLaw ["_law_script"] (defScope sLaw) := ⟨rfl, rfl, rfl, by decide +kernel, rfl, by decide +kernel, by decide +kernel⟩
-- slots: 0:_law_script 1:_law_cell 2:_law_state 3:_law_good 4:_law_bad 5:_law_turn 6:_law_thing 7:_law_kept 8:_law_some
noncomputable def gLaw : Sm :=
    (sSeq (sFor (iList (fOp (oCatL false) (fApp (mkL false) (aCons (fApp FLCellAt (aCons (fVar 0) (aCons (fK (.d (.int 0))) aNil))) aNil)) (fSl (oSlL false) (fVar 0) (pSo (fK (.d (.int 1)))) (pSo (fK (.d (.int 16))))))) (.n 1)
    (sGc (sSeq (sSet 2 (fApp (mkL true) (aCons (fVar 1) aNil)))
      (sSeq (sSet 3 (fApp FLProgram (aCons (fVar 2) (aCons (fK (.d (.int 3))) (aCons (fK (.d (.int 6))) aNil)))))
      (sSeq (sSet 4 (fVar 3))
      (sSeq (sFor (iRange1 (aCons (fOp oAdd (fK (.d (.int 1))) (fApp FLDigit (aCons (fVar 2) (aCons (fK (.d (.int 2))) aNil)))) aNil)) (.n 5)
      (sGc (sIf (fB (fApp FLIsRight (aCons (fVar 4) aNil)))
        (sSet 4 (fApp FLSpoilt (aCons (fVar 2) (aCons (fVar 4) aNil)))) sNil)))
      (sSeq (sFor (iTupF (fApp mkT (aCons (fVar 3) (aCons (fVar 4) aNil)))) (.n 6)
      (sGc (sSeq (sSet 7 (fApp aRepr (aCons (fVar 6) aNil)))
        (sIf (tOrF (tNotF (fB (fApp FLTruth (aCons (fApp FIsProgram (aCons (fVar 6) aNil)) (aCons (fApp FLIsRight (aCons (fVar 6) aNil)) aNil))))) (fB (fOp oNe (fApp aRepr (aCons (fVar 6) aNil)) (fVar 7))))
        (sRet (fK (.d (.bl false)))) sNil))))
      (sSeq (sSet 8 (fApp FLList (aCons (fVar 2) (aCons (fVar 3) (aCons (fVar 4) aNil)))))
      (sSeq (sSet 7 (fApp aRepr (aCons (fVar 8) aNil)))
      (sSeq (sIf (tOrF (tNotF (fB (fApp FLTruth (aCons (fApp FArePrograms (aCons (fVar 8) aNil)) (aCons (fApp FLAreRight (aCons (fVar 8) aNil)) aNil))))) (fB (fOp oNe (fApp aRepr (aCons (fVar 8) aNil)) (fVar 7))))
      (sRet (fK (.d (.bl false)))) sNil)
      (sIf (tOrF (tNotF (fB (fApp FIsProgram (aCons (fVar 3) aNil)))) (tOrF (tNotF (fB (fApp FArePrograms (aCons (fOp (oRepL false) (fApp (mkL false) (aCons (fVar 3) aNil)) (fK (.d (.int 4)))) aNil)))) (fB (fApp FArePrograms (aCons (fOp (oRepL false) (fApp (mkL false) (aCons (fVar 3) aNil)) (fK (.d (.int 5)))) aNil)))))
      (sRet (fK (.d (.bl false)))) sNil)))))))))))
    (sRet (fK (.d (.bl true)))))
noncomputable def FLaw : Fn := fnF true 1 9 gLaw
theorem d_Law {P : Program} {w : World} {K : PySem.W.Frag} {mg : Str → Option Value} {base : Heap} {f : Addr} {fd : FuncData} (M : Mx K mg) (D : Fun K "law" "law" sLaw f fd) (dLCellAt : DefOk P w K mg base "_law_cell_at" ["_law_script", "_law_k"] 1 FLCellAt) (dLProgram : DefOk P w K mg base "_law_program" ["_law_state", "_law_keys_most", "_law_most"] 3 FLProgram) (dLDigit : DefOk P w K mg base "_law_digit" ["_law_state", "_law_base"] 1 FLDigit) (dLIsRight : DefOk P w K mg base "_law_is_right" ["_law_thing"] 3 FLIsRight) (dLSpoilt : DefOk P w K mg base "_law_spoilt" ["_law_state", "_law_thing"] 5 FLSpoilt) (dLTruth : DefOk P w K mg base "_law_truth" ["_law_found", "_law_due"] 1 FLTruth) (dIsProgram : DefOk P w K mg base "is_program" ["thing"] 6 FIsProgram) (dLList : DefOk P w K mg base "_law_list" ["_law_state", "_law_good", "_law_bad"] 3 FLList) (dLAreRight : DefOk P w K mg base "_law_are_right" ["_law_thing"] 4 FLAreRight) (dArePrograms : DefOk P w K mg base "are_programs" ["thing"] 7 FArePrograms) : FnG P w K mg base (L2.CX P w) 8 f fd ["_law_script"] (spF K mg FLaw) := by
  refine fn_ok D scLaw (fun cdv A outer s H E gd hr tk hp => ?_)
  have hu := hu64 hr
  exact (fs_cons (fs_for (p := (.n 1)) hp rfl (fi_list (f_catL false (f_lst false (fa_cons (f_callD dLCellAt gd hr (by decide) (by rfl) tk (fa_cons (fv 0) (fa_cons f_int fa_nil))) fa_nil)) (f_slL false (fv 0) (fo_so f_int) (fo_so f_int)))) (gp_n (i := 1) scLaw.nd rfl (.inl rfl))
    (fss_gc (fs_cons (fs_set (i := 2) scLaw.nd rfl (.inl rfl) (f_lst true (fa_cons (fv 1) fa_nil)))
      (fs_cons (fs_set (i := 3) scLaw.nd rfl (.inl rfl) (f_callD dLProgram gd hr (by decide) (by rfl) tk (fa_cons (fv 2) (fa_cons f_int (fa_cons f_int fa_nil)))))
      (fs_cons (fs_set (i := 4) scLaw.nd rfl (.inl rfl) (fv 3))
      (fs_cons (fs_for (p := (.n 5)) hp rfl (fi_range1 (by rfl) M.range (fa_cons (f_add f_int (f_callD dLDigit gd hr (by decide) (by rfl) tk (fa_cons (fv 2) (fa_cons f_int fa_nil)))) fa_nil)) (gp_n (i := 5) scLaw.nd rfl (.inl rfl))
      (fss_gc (fs_one (fs_if (ft_val (f_callD dLIsRight gd hr (by decide) (by rfl) tk (fa_cons (fv 4) fa_nil)))
        (fs_one (fs_set (i := 4) scLaw.nd rfl (.inl rfl) (f_callD dLSpoilt gd hr (by decide) (by rfl) tk (fa_cons (fv 2) (fa_cons (fv 4) fa_nil))))) fs_nil))))
      (fs_cons (fs_for (p := (.n 6)) hp rfl (fi_tup (f_tup (fa_cons (fv 3) (fa_cons (fv 4) fa_nil)))) (gp_n (i := 6) scLaw.nd rfl (.inl rfl))
      (fss_gc (fs_cons (fs_set (i := 7) scLaw.nd rfl (.inl rfl) (f_repr gd hu (by rfl) M.repr (fa_cons (fv 6) fa_nil)))
        (fs_one (fs_if (ft_pw (fw_or (ft_not (ft_val (f_callD dLTruth gd hr (by decide) (by rfl) tk (fa_cons (f_callD dIsProgram gd hr (by decide) (by rfl) tk (fa_cons (fv 6) fa_nil)) (fa_cons (f_callD dLIsRight gd hr (by decide) (by rfl) tk (fa_cons (fv 6) fa_nil)) fa_nil))))) (fw_or1 (ft_ne hu (f_repr gd hu (by rfl) M.repr (fa_cons (fv 6) fa_nil)) (fv 7)))))
        (fs_one (fs_ret f_bl)) fs_nil)))))
      (fs_cons (fs_set (i := 8) scLaw.nd rfl (.inl rfl) (f_callD dLList gd hr (by decide) (by rfl) tk (fa_cons (fv 2) (fa_cons (fv 3) (fa_cons (fv 4) fa_nil)))))
      (fs_cons (fs_set (i := 7) scLaw.nd rfl (.inl rfl) (f_repr gd hu (by rfl) M.repr (fa_cons (fv 8) fa_nil)))
      (fs_cons (fs_if (ft_pw (fw_or (ft_not (ft_val (f_callD dLTruth gd hr (by decide) (by rfl) tk (fa_cons (f_callD dArePrograms gd hr (by decide) (by rfl) tk (fa_cons (fv 8) fa_nil)) (fa_cons (f_callD dLAreRight gd hr (by decide) (by rfl) tk (fa_cons (fv 8) fa_nil)) fa_nil))))) (fw_or1 (ft_ne hu (f_repr gd hu (by rfl) M.repr (fa_cons (fv 8) fa_nil)) (fv 7)))))
      (fs_one (fs_ret f_bl)) fs_nil)
      (fs_one (fs_if (ft_pw (fw_or (ft_not (ft_val (f_callD dIsProgram gd hr (by decide) (by rfl) tk (fa_cons (fv 3) fa_nil)))) (fw_or (ft_not (ft_val (f_callD dArePrograms gd hr (by decide) (by rfl) tk (fa_cons (f_repL false (f_lst false (fa_cons (fv 3) fa_nil)) f_int) fa_nil)))) (fw_or1 (ft_val (f_callD dArePrograms gd hr (by decide) (by rfl) tk (fa_cons (f_repL false (f_lst false (fa_cons (fv 3) fa_nil)) f_int) fa_nil)))))))
      (fs_one (fs_ret f_bl)) fs_nil))))))))))))
    (fs_one (fs_ret f_bl)))
end As

namespace As
open PySem PySem.Spec PyProof.Rows L2
def wholeD (d : D) : Bool := isInt d && !isBool d
theorem e_whole (d : D) (S : Store) : FIsWhole [.d d] S = .ok (.d (.bl (wholeD d))) S := by
  simp [FIsWhole, fnF_ap, gIsWhole, wholeD]
  cases isInt d <;> simp
def numB (d : D) (m : Int) : Bool := match d with
  | .int i => decide (0 ≤ i) && decide (i < m)
  | _ => false
theorem e_number (d : D) (m : Int) (S : Store) : FIsNumber [.d d, .d (.int m)] S = .ok (.d (.bl (numB d m))) S := by
  simp [FIsNumber, fnF_ap, gIsNumber, e_whole]
  cases d with
  | int i => 
    simp [wholeD, isInt, isBool, numB]
    cases decide (0 ≤ i) <;> simp
  | _ => simp [wholeD, isInt, isBool, numB]
@[simp] theorem mkT2 (a b : D) (S : Store) : mkT [.d a, .d b] S = .ok (.d (.tup [a, b])) S := mkT_ds [a, b] S (by simp)
theorem e_one (d : D) (a b : Str) (S : Store) : FIsOneOf [.d d, .d (.tup [.str a, .str b])] S = .ok (.d (.bl (eqS d a || eqS d b))) S := by
  simp [FIsOneOf, fnF_ap, gIsOneOf]
  cases d with
  | str z =>
    simp [isStr]
    rw [kInS_s false z _ (zs := [a, b]) S (by simp [strsD])]
    simp [eqS, eq_comm]
  | _ => simp [isStr, eqS]
@[simp] theorem ix0 (a : D) (l : List D) (S : Store) : oIx (.d (.tup (a :: l))) (.d (.int 0)) S = .ok (.d a) S := by simp [oIx_ap, atI, ixN]
@[simp] theorem ix1 (a b : D) (l : List D) (S : Store) : oIx (.d (.tup (a :: b :: l))) (.d (.int 1)) S = .ok (.d b) S := by
  have h : (1 : Int) < (l.length : Int) + 1 + 1 := by omega
  simp [oIx_ap, atI, ixN, h]
theorem st_box : PyData.strOk "box" = true := by decide +kernel
theorem st_key : PyData.strOk "key" = true := by decide +kernel
theorem st_read : PyData.strOk "read" = true := by decide +kernel
theorem st_write : PyData.strOk "write" = true := by decide +kernel
def slotB (d : D) (m : Int) : Bool := match d with
  | .tup [w, x] => if eqS w "box" then numB x 1000000 else eqS w "key" && numB x m
  | _ => false
theorem e_slot (d : D) (m : Int) (S : Store) : FIsSlot [.d d, .d (.int m)] S = .ok (.d (.bl (slotB d m))) S := by
  simp [FIsSlot, fnF_ap, gIsSlot, e_number]
  cases d with
  | tup ds =>
    match ds with
    | [] => simp [slotB, isTup]
    | [a] => simp [slotB, isTup]
    | [w, x] =>
      simp [slotB, isTup, e_one, kEq_S st_box]
      cases h1 : eqS w "box" <;> cases h2 : eqS w "key" <;> simp [h1, h2, e_number, kEq_S st_box]
    | _ :: _ :: _ :: ds =>
      have h : ¬ ((ds.length : Int) + 1 + 1 + 1 = 2) := by omega
      simp [slotB, isTup, h]
  | _ => simp [isTup, slotB]
def stepB (d : D) (m : Int) : Bool := match d with
  | .tup [w, s] => (eqS w "read" || eqS w "write") && slotB s m
  | _ => false
theorem e_slot_step (d : D) (m : Int) (S : Store) : FIsSlotStep [.d d, .d (.int m)] S = .ok (.d (.bl (stepB d m))) S := by
  simp [FIsSlotStep, fnF_ap, gIsSlotStep]
  cases d with
  | tup ds =>
    match ds with
    | [] => simp [stepB, isTup]
    | [a] => simp [stepB, isTup]
    | [w, x] =>
      simp [stepB, isTup, e_one]
      cases eqS w "read" <;> cases eqS w "write" <;> simp [e_slot]
    | _ :: _ :: _ :: ds =>
      have h : ¬ ((ds.length : Int) + 1 + 1 + 1 = 2) := by omega
      simp [stepB, isTup, h]
  | _ => simp [isTup, stepB]
/-! the law's own -/
def whB (d : D) (lo hi : Int) : Bool := match d with
  | .int i => decide (lo ≤ i) && decide (i ≤ hi)
  | _ => false
theorem e_lwhole (d : D) (lo hi : Int) (S : Store) : FLWhole [.d d, .d (.int lo), .d (.int hi)] S = .ok (.d (.bl (whB d lo hi))) S := by
  simp [FLWhole, fnF_ap, gLWhole]
  cases d with
  | int i =>
    simp [isInt, isBool, whB]
    cases decide (lo ≤ i) <;> simp
  | _ => simp [isInt, isBool, whB]
theorem whB_num (d : D) (m : Int) : whB d 0 (m - 1) = numB d m := by
  cases d with
  | int i =>
    have : (i ≤ m - 1) ↔ i < m := by omega
    simp [whB, numB, this]
  | _ => rfl
theorem eqS_box_key {d : D} (h : eqS d "box" = true) : eqS d "key" = false := by
  cases d with
  | str x =>
    have e : x = "box" := by simpa [eqS] using h
    subst e
    rfl
  | _ => cases h
theorem e_lstep (d : D) (m : Int) (S : Store) : FLIsStep [.d d, .d (.int m)] S = .ok (.d (.bl (stepB d m))) S := by
  simp [FLIsStep, fnF_ap, gLIsStep]
  cases d with
  | tup ds =>
    match ds with
    | [] => simp [stepB, isTup]
    | [a] => simp [stepB, isTup]
    | [w, x] =>
      simp [stepB, isTup, kEq_S st_read, kEq_S st_write]
      have fin : ∀ b : Bool, (if b = true then true else false) = b := by intro b; cases b <;> rfl
      have key : (match x with
          | .tup [w, x] => if eqS w "box" then numB x 1000000 else eqS w "key" && numB x m
          | _ => false) = slotB x m := rfl
      cases h1 : eqS w "read" <;> cases h2 : eqS w "write" <;> simp [h1, h2, kEq_S st_read, kEq_S st_write]
      all_goals
        cases x with
        | tup es =>
          match es with
          | [] => simp [slotB, isTup]
          | [a] => simp [slotB, isTup]
          | [u, y] =>
            have e1 : whB y 0 999999 = numB y 1000000 := whB_num y 1000000
            simp [slotB, isTup, kEq_S st_box, kEq_S st_key]
            cases h3 : eqS u "box" <;> cases h4 : eqS u "key" <;> simp [h3, h4, e_lwhole, whB_num, e1, kEq_S st_box, kEq_S st_key]
          | _ :: _ :: _ :: es =>
            have h : ¬ ((es.length : Int) + 1 + 1 + 1 = 2) := by omega
            simp [slotB, isTup, h]
        | _ => simp [isTup, slotB]
    | _ :: _ :: _ :: ds =>
      have h : ¬ ((ds.length : Int) + 1 + 1 + 1 = 2) := by omega
      simp [stepB, isTup, h]
  | _ => simp [isTup, stepB]
end As

namespace As
open PySem PySem.Spec PyProof.Rows L2
@[simp] theorem wipe0 (ρ : Env) : wipeE ρ [] = ρ := rfl
@[simp] theorem wipe1 (ρ : Env) (i : Nat) (vs : List Nat) : wipeE ρ (i :: vs) = (wipeE ρ vs).set i none := rfl
@[simp] theorem oSlT_t (ds : List D) (lo hi : Option Int) (S : Store) : oSlT (.d (.tup ds)) lo hi S = newT (cutD ds lo hi) S := rfl
def tabB (d : D) : Bool := match d with
  | .tup ds => decide (ds.length ≤ 3) && ds.all fun e => whB e 1 9
  | _ => false
theorem e_tables (d : D) (S : Store) : FAreTables [.d d] S = .ok (.d (.bl (tabB d))) S := by
  simp [FAreTables, fnF_ap, gAreTables]
  cases d with
  | tup ds =>
    simp [isTup, tabB]
    by_cases h : (3 : Int) < ds.length
    · have h2 : ¬ ds.length ≤ 3 := by omega
      simp [h, h2]
    · have h2 : ds.length ≤ 3 := by omega
      have h3 : ds.length < 100000 := by omega
      simp [h, h2, h3]
      rw [compL_map (f := fun e => .bl (whB e 1 9)) (by trivial)]
      · simp [aAll_map]
      · intro e _
        simp [e_whole]
        cases e with
        | int i =>
          simp [wholeD, isInt, isBool, whB]
          cases decide (1 ≤ i) <;> simp
        | _ => simp [wholeD, isInt, isBool, whB]
  | _ => simp [isTup, tabB]
theorem cutD_take (ds : List D) (k : Nat) (h : k ≤ ds.length) : cutD ds none (some (k : Int)) = ds.take k := by
  unfold cutD
  have e0 : HT.sIx ds.length 0 none = 0 := rfl
  have e1 : HT.sIx ds.length ds.length (some (k : Int)) = k := by
    unfold HT.sIx
    have h0 : ¬ ((k : Int) < 0) := by omega
    simp [h0]
    omega
  rw [e0, e1]
  rfl
def slotOf (d : D) : D := match d with
  | .tup [_, s] => s
  | _ => .non
def folB (s : D) (ahead : List D) : Bool := !inB s ahead && !inB (.tup [.str "write", slotOf s]) ahead
def ordB (ds : List D) : Bool := (ds.zipIdx).all fun p => folB p.1 (ds.take p.2)
def stepsB (d : D) (m : Int) : Bool := match d with
  | .tup ds => decide (1 ≤ ds.length) && decide (ds.length ≤ 6) && (ds.all fun e => stepB e m) && ordB ds
  | _ => false
theorem eqS_eq {d : D} {z : Str} (h : eqS d z = true) : d = .str z := by
  cases d with
  | str x => simp [eqS] at h; rw [h]
  | _ => cases h
theorem numB_eq {d : D} {m : Int} (h : numB d m = true) : ∃ i, d = .int i ∧ 0 ≤ i ∧ i < m := by
  cases d with
  | int i => simp [numB] at h; exact ⟨i, rfl, h⟩
  | _ => cases h
theorem slotB_eq {d : D} {m : Int} (h : slotB d m = true) : ∃ w i, d = .tup [.str w, .int i] ∧ (w = "box" ∧ 0 ≤ i ∧ i < 1000000 ∨ w = "key" ∧ 0 ≤ i ∧ i < m) := by
  unfold slotB at h
  split at h
  · rename_i w x
    by_cases h1 : eqS w "box" = true
    · rw [if_pos h1] at h
      obtain ⟨i, rfl, h2⟩ := numB_eq h
      cases eqS_eq h1
      exact ⟨_, i, rfl, .inl ⟨rfl, h2⟩⟩
    · rw [if_neg h1, Bool.and_eq_true] at h
      obtain ⟨i, rfl, h2⟩ := numB_eq h.2
      cases eqS_eq h.1
      exact ⟨_, i, rfl, .inr ⟨rfl, h2⟩⟩
  · cases h
theorem stepB_eq {d : D} {m : Int} (h : stepB d m = true) : ∃ w s, d = .tup [.str w, s] ∧ (w = "read" ∨ w = "write") ∧ slotB s m = true := by
  unfold stepB at h
  split at h
  · rename_i w s
    rw [Bool.and_eq_true, Bool.or_eq_true] at h
    rcases h.1 with h1 | h1
    · cases eqS_eq h1
      exact ⟨_, s, rfl, .inl rfl, h.2⟩
    · cases eqS_eq h1
      exact ⟨_, s, rfl, .inr rfl, h.2⟩
  · cases h
theorem slotB_ok {d : D} {m : Int} (h : slotB d m = true) : okK 1 d = true := by
  obtain ⟨w, i, e, hw⟩ := slotB_eq h
  clear h
  subst e
  refine okK_tup (n := 0) fun d hd => ?_
  simp only [List.mem_cons, List.not_mem_nil, or_false] at hd
  rcases hd with rfl | rfl
  · rcases hw with ⟨rfl, _⟩ | ⟨rfl, _⟩
    · exact okK_str 0 st_box
    · exact okK_str 0 st_key
  · exact okK_int 0 i
theorem okK_le {n m : Nat} {d : D} (h : okK n d = true) (hn : n ≤ m) : okK m d = true := by
  unfold okK at h ⊢
  simp only [Bool.and_eq_true, decide_eq_true_eq] at h ⊢
  exact ⟨h.1, by omega⟩
theorem mkS_ok {w : Str} {s : D} {m : Int} (hw : w = "read" ∨ w = "write") (h : slotB s m = true) : okK 2 (.tup [.str w, s]) = true := by
  refine okK_tup (n := 1) fun d hd => ?_
  simp only [List.mem_cons, List.not_mem_nil, or_false] at hd
  rcases hd with rfl | rfl
  · rcases hw with rfl | rfl
    · exact okK_str 1 st_read
    · exact okK_str 1 st_write
  · exact slotB_ok h
theorem stepB_ok {d : D} {m : Int} (h : stepB d m = true) : okK 2 d = true := by
  obtain ⟨w, s, rfl, hw, h⟩ := stepB_eq h
  exact mkS_ok hw h
theorem allok {ds : List D} {m : Int} (h : ∀ d ∈ ds, stepB d m = true) : okD (.tup ds) = true :=
  okK_D (okK_tup (n := 2) fun d hd => stepB_ok (h d hd)) (by decide)
theorem e_may {s : D} {ahead : List D} {m : Int} (hs : stepB s m = true) (ha : ∀ d ∈ ahead, stepB d m = true) (S : Store) : FMayFollow [.d s, .d (.tup ahead)] S = .ok (.d (.bl (folB s ahead))) S := by
  obtain ⟨w, x, rfl, hw, hx⟩ := stepB_eq hs
  have o1 := allok ha
  have o2 := okK_D (mkS_ok hw hx) (by decide)
  have o3 := okK_D (mkS_ok (.inr rfl) hx) (by decide)
  simp [FMayFollow, fnF_ap, gMayFollow, kInO_ok o2 o1, folB, slotOf]
  cases inB (.tup [.str w, x]) ahead <;> simp [kInO_ok o3 o1]
theorem e_steps (d : D) (m : Int) (S : Store) : FAreSlotSteps [.d d, .d (.int m)] S = .ok (.d (.bl (stepsB d m))) S := by
  simp [FAreSlotSteps, fnF_ap, gAreSlotSteps]
  cases d with
  | tup ds =>
    simp [isTup, stepsB]
    by_cases h1 : (1 : Int) ≤ ds.length
    · have h1' : 1 ≤ ds.length := by omega
      by_cases h : (ds.length : Int) ≤ 6
      · have h2 : ds.length ≤ 6 := by omega
        have h3 : ds.length < 100000 := by omega
        simp [h, h2, h3, h1, h1']
        rw [compL_map (f := fun e => .bl (stepB e m)) (by trivial)]
        · cases ha : ds.all fun e => stepB e m with
          | false => simp [aAll_map, ha]
          | true =>
            have hall : ∀ d ∈ ds, stepB d m = true := List.all_eq_true.mp ha
            have hl : (enumW 0 ds).length < 100000 := by rw [enumW_len]; exact h3
            simp [aAll_map, ha, hl]
            rw [compL_enum (f := fun k e => .bl (folB e (ds.take k))) (by trivial)]
            · simp [aAll_map, ordB]
            · intro k e he
              have hk : k < ds.length := (List.getElem?_eq_some_iff.mp he).1
              simp [cutD_take ds k (by omega)]
              exact e_may (hall e (List.mem_of_getElem? he)) (fun d hd => hall d (List.mem_of_mem_take hd)) S
        · intro e _
          simp [e_slot_step]
      · have h2 : ¬ ds.length ≤ 6 := by omega
        simp [h, h2, h1, h1']
    · have h1' : ¬ 1 ≤ ds.length := by omega
      simp [h1, h1']
  | _ => simp [isTup, stepsB]
end As

namespace As
open PySem PySem.Spec PyProof.Rows L2
def covB (n : Nat) (steps : List D) : Bool := (List.range n).all fun k => inB (.tup [.str "key", .int (k : Int)]) (steps.map slotOf)
def progB (d : D) : Bool := match d with
  | .tup [.tup ts, .tup ss] => tabB (.tup ts) && stepsB (.tup ss) ts.length && covB ts.length ss
  | _ => false
theorem sm_ok {n : Nat} (h : n < 100000) : smallI (n : Int) = true := by
  unfold smallI
  simp only [Bool.and_eq_true, decide_eq_true_eq]
  omega
theorem key_ok (i : Int) : okD (.tup [.str "key", .int i]) = true := by
  refine okK_D (okK_tup (n := 0) fun d hd => ?_) (by decide)
  simp only [List.mem_cons, List.not_mem_nil, or_false] at hd
  rcases hd with rfl | rfl
  · exact okK_str 0 st_key
  · exact okK_int 0 i
theorem slots_ok {ss : List D} {m : Int} (h : ∀ d ∈ ss, stepB d m = true) : okD (.lst (ss.map slotOf)) = true := by
  refine okK_D (okK_lst (n := 1) fun d hd => ?_) (by decide)
  obtain ⟨s, hs, rfl⟩ := List.mem_map.mp hd
  obtain ⟨w, x, rfl, _, hx⟩ := stepB_eq (h s hs)
  exact slotB_ok hx
theorem stepsB_all {ss : List D} {m : Int} (h : stepsB (.tup ss) m = true) : (1 ≤ ss.length ∧ ss.length ≤ 6) ∧ (∀ d ∈ ss, stepB d m = true) ∧ ordB ss = true := by
  simp only [stepsB, Bool.and_eq_true, decide_eq_true_eq, List.all_eq_true] at h
  exact ⟨h.1.1, h.1.2, h.2⟩
@[simp] theorem mkL0 (S : Store) : mkL false [] S = .ok (.d (.lst [])) S := rfl
@[simp] theorem mkL0t (S : Store) : mkL true [] S = .ok (.c S.length) (S ++ [.l []]) := rfl
@[simp] theorem tabB_nt (d : D) (h : isTup d = false) : tabB d = false := by
  cases d with
  | tup ds => cases h
  | _ => rfl
@[simp] theorem stepsB_nt (d : D) (m : Int) (h : isTup d = false) : stepsB d m = false := by
  cases d with
  | tup ds => cases h
  | _ => rfl
theorem pt54 {a0 a1 a2 a3 a4 a5 a6 : Option W} (a b : D) : bindP (.t [.n 5, .n 4]) (.d (.tup [a, b])) [a0, a1, a2, a3, a4, a5, a6] = some [a0, a1, a2, a3, some (.d b), some (.d a), a6] := by simp [bindP, unW, bindPs]
theorem compL_slots {S : Store} {m : Int} {a0 a1 a2 a3 a4 a5 a6 : Option W} {ss : List D} (h : ∀ d ∈ ss, stepB d m = true) : compL (.t [.n 5, .n 4]) (fun _ => True) tYesF (fVar 4) [a0, a1, a2, a3, a4, a5, a6] (ss.map .d) S = .ok (ss.map slotOf) S := by
  induction ss with
  | nil => rw [List.map_nil, compL, if_pos trivial]; rfl
  | cons s ss ih =>
    obtain ⟨w, x, e, _, hx⟩ := stepB_eq (h s (List.mem_cons_self ..))
    clear hx
    have ih := ih fun e he => h e (List.mem_cons_of_mem _ he)
    clear h
    subst e
    rw [List.map_cons, compL, if_pos trivial, pt54]
    show (match compL (Pt.t [Pt.n 5, Pt.n 4]) (fun x => True) tYesF (fVar 4) [a0, a1, a2, a3, a4, a5, a6] (List.map W.d ss) S with
      | Rs.ok ds S3 => Rs.ok (x :: ds) S3
      | _ => Rs.no) = _
    rw [ih]
    rfl
theorem ir1 {fs : Env → Store → Rs (List W)} {ρ : Env} {S S' : Store} {n : Nat} (h : fs ρ S = .ok [.d (.int (n : Int))] S') (hn : n < 100000) : iRange1 fs ρ S = .ok (rngW 0 n, fun _ => True) S' := by
  rw [iRange1_ap, h, Rs.bind_ok]
  dsimp only
  rw [if_pos (sm_ok hn), Int.toNat_natCast]
theorem fLc_of {b : Bool} {fi : Env → Store → Rs Itm} {p : Pt} {t : Env → Store → Rs Bool} {fe : Env → Store → Rs W} {vs : List Nat} {ρ : Env} {S S1 S2 : Store} {ws : List W} {g : Store → Prop} {ds : List D}
    (hi : fi ρ S = .ok (ws, g) S1) (hl : ws.length < 100000) (hc : compL p g t fe (wipeE ρ vs) ws S1 = .ok ds S2) : fLc b fi p t fe vs ρ S = newL b ds S2 := by
  rw [fLc_ap, hi, Rs.bind_ok]
  dsimp only
  rw [if_pos hl, hc, Rs.bind_ok]
theorem e_cov {S : Store} {ts ss : List D} {m : Int} {a0 a2 a4 a5 a6 : Option W} (h4 : ts.length < 100000) (hall : ∀ d ∈ ss, stepB d m = true) :
    fLc false (iRange1 (aCons (fApp aLen (aCons (fVar 1) aNil)) aNil)) (.n 6) tYesF (fOp oIn (fApp mkT (aCons (fK (.d (.str "key"))) (aCons (fVar 6) aNil))) (fVar 3)) [6]
      [a0, some (.d (.tup ts)), a2, some (.d (.lst (ss.map slotOf))), a4, a5, a6] S = .ok (.d (.lst (((List.range ts.length).map fun j : Nat => (j : Int)).map fun k => .bl (inB (.tup [.str "key", .int k]) (ss.map slotOf))))) S := by
  rw [fLc_of (ir1 (n := ts.length) (S' := S) (by simp) h4) (by rw [rngW_len]; exact h4) (compL_range (S := S) (q := fun _ => true) (f := fun k => .bl (inB (.tup [.str "key", .int k]) (ss.map slotOf))) (by trivial) (fun k _ _ => rfl) fun k _ _ _ => by simp [kInO_ok (key_ok k) (slots_ok hall)]), List.filter_eq_self.mpr (by simp)]
  simp only [Int.zero_add]
  rfl
theorem cov_all {S : Store} {ts ss : List D} : aAll [.d (.lst (((List.range ts.length).map fun j : Nat => (j : Int)).map fun k => .bl (inB (.tup [.str "key", .int k]) (ss.map slotOf))))] S = .ok (.d (.bl (covB ts.length ss))) S := by
  rw [aAll_map (fun k : Int => inB (.tup [.str "key", .int k]) (ss.map slotOf)), List.all_map]
  simp [covB]
  rfl
theorem e_prog (d : D) (S : Store) : FIsProgram [.d d] S = .ok (.d (.bl (progB d))) S := by
  simp [FIsProgram, fnF_ap, gIsProgram, -fLc_ap]
  cases d with
  | tup ds =>
    match ds with
    | [] => simp [progB, isTup]
    | [a] => simp [progB, isTup]
    | [t, s] =>
      simp [isTup, bindP, unW, bindPs, -fLc_ap]
      cases t with
      | tup ts =>
        cases h1 : tabB (.tup ts) with
        | false =>
          simp [e_tables, h1, -fLc_ap]
          cases s with
          | tup ss => simp [progB, h1]
          | _ => simp [progB, h1]
        | true =>
          simp [e_tables, h1, e_steps, -fLc_ap]
          cases h2 : stepsB s ts.length with
          | false =>
            simp [h2, -fLc_ap]
            cases s with
            | tup ss => simp [progB, h2]
            | _ => simp [progB]
          | true =>
            cases s with
            | tup ss =>
              obtain ⟨⟨_, hl⟩, hall, _⟩ := stepsB_all h2
              have h3 : (ss.map W.d).length < 100000 := by rw [List.length_map]; omega
              have h4 : ts.length < 100000 := by
                simp only [tabB, Bool.and_eq_true, decide_eq_true_eq] at h1
                omega
              have e1 : ∀ {a0 a1 a3 a4 a5 a6 : Option W}, fLc false (iTupF (fVar 2)) (.t [.n 5, .n 4]) tYesF (fVar 4) [5, 4] [a0, a1, some (.d (.tup ss)), a3, a4, a5, a6] S = .ok (.d (.lst (ss.map slotOf))) S := fun {a0 a1 a3 a4 a5 a6} => fLc_of (g := fun _ => True) rfl h3 (compL_slots hall)
              simp [e1, e_cov h4 hall, -fLc_ap, -List.map_map, cov_all, progB, h1, h2]
            | _ => cases h2
      | _ => simp [progB, e_tables, tabB]
    | _ :: _ :: _ :: ds =>
      have h : ¬ ((ds.length : Int) + 1 + 1 + 1 = 2) := by omega
      simp [progB, isTup, h]
  | _ => simp [isTup, progB]
/-! the law's own -/
theorem ord_eq {s : D} {ahead : List D} {m : Int} (hs : stepB s m = true) : (inB s ahead || (match s with | .tup [w, x] => eqS w "read" && inB (.tup [.str "write", x]) ahead | _ => false)) = !folB s ahead := by
  obtain ⟨w, x, rfl, hw, hx⟩ := stepB_eq hs
  rcases hw with rfl | rfl
  · simp [folB, slotOf, eqS]
  · simp [folB, slotOf, eqS]
def ordL (ds : List D) : List D → Nat → Bool
  | [], _ => true
  | s :: ss, k => folB s (ds.take k) && ordL ds ss (k + 1)
theorem ordL_eq (ds : List D) : ∀ (ss : List D) (k : Nat), ordL ds ss k = (ss.zipIdx k).all fun p => folB p.1 (ds.take p.2)
  | [], _ => rfl
  | s :: ss, k => by rw [ordL, List.zipIdx_cons, List.all_cons, ordL_eq]
theorem e_ordL {S : Store} {ds : List D} {m : Int} {a0 a4 a5 a6 : Option W} (hall : ∀ d ∈ ds, stepB d m = true) : ∀ {ss : List D} {k : Nat} {a2 a3 : Option W}, (∀ j s, ss[j]? = some s → ds[k + j]? = some s) → 
    (ordL ds ss k = true → ∃ b2 b3, forL (.t [.n 3, .n 2]) (fun _ => True) (sIf (tOrF (fB (fOp oIn (fVar 2) (fSl oSlT (fVar 1) pNo (pSo (fVar 3))))) (tAndF (fB (fOp oEq (fOp oIx (fVar 2) (fK (.d (.int 0)))) (fK (.d (.str "read"))))) (fB (fOp oIn (fApp mkT (aCons (fK (.d (.str "write"))) (aCons (fOp oIx (fVar 2) (fK (.d (.int 1)))) aNil))) (fSl oSlT (fVar 1) pNo (pSo (fVar 3))))))) (sRet (fK (.d (.bl false)))) sNil)
      (enumW k ss) [a0, some (.d (.tup ds)), a2, a3, a4, a5, a6] S = .nx [a0, some (.d (.tup ds)), b2, b3, a4, a5, a6] S) ∧
    (ordL ds ss k = false → forL (.t [.n 3, .n 2]) (fun _ => True) (sIf (tOrF (fB (fOp oIn (fVar 2) (fSl oSlT (fVar 1) pNo (pSo (fVar 3))))) (tAndF (fB (fOp oEq (fOp oIx (fVar 2) (fK (.d (.int 0)))) (fK (.d (.str "read"))))) (fB (fOp oIn (fApp mkT (aCons (fK (.d (.str "write"))) (aCons (fOp oIx (fVar 2) (fK (.d (.int 1)))) aNil))) (fSl oSlT (fVar 1) pNo (pSo (fVar 3))))))) (sRet (fK (.d (.bl false)))) sNil)
      (enumW k ss) [a0, some (.d (.tup ds)), a2, a3, a4, a5, a6] S = .rt (.d (.bl false)) S)
  | [], k, a2, a3, _ => by
    refine ⟨fun _ => ⟨a2, a3, ?_⟩, fun h => by cases h⟩
    rw [enumW, forL, if_pos trivial]
  | s :: ss, k, a2, a3, h => by
    have e0 := h 0 s rfl
    have hk : k < ds.length := (List.getElem?_eq_some_iff.mp e0).1
    have hs := hall s (List.mem_of_getElem? e0)
    have ht : ∀ d ∈ ds.take k, stepB d m = true := fun d hd => hall d (List.mem_of_mem_take hd)
    have hq := ord_eq (ahead := ds.take k) hs
    obtain ⟨w, x, rfl, hw, hx⟩ := stepB_eq hs
    have o1 := allok ht
    have o2 := okK_D (mkS_ok hw hx) (by decide)
    have o3 := okK_D (mkS_ok (.inr rfl) hx) (by decide)
    have ih := e_ordL (S := S) (a0 := a0) (a4 := a4) (a5 := a5) (a6 := a6) hall (ss := ss) (k := k + 1) (a2 := some (.d (.tup [.str w, x]))) (a3 := some (.d (.int k))) (fun j s hj => by have := h (j + 1) s hj; rwa [show k + 1 + j = k + (j + 1) by omega])
    simp only [ordL]
    rw [enumW, forL, if_pos trivial]
    have hb : (sIf (tOrF (fB (fOp oIn (fVar 2) (fSl oSlT (fVar 1) pNo (pSo (fVar 3))))) (tAndF (fB (fOp oEq (fOp oIx (fVar 2) (fK (.d (.int 0)))) (fK (.d (.str "read"))))) (fB (fOp oIn (fApp mkT (aCons (fK (.d (.str "write"))) (aCons (fOp oIx (fVar 2) (fK (.d (.int 1)))) aNil))) (fSl oSlT (fVar 1) pNo (pSo (fVar 3))))))) (sRet (fK (.d (.bl false)))) sNil)
        [a0, some (.d (.tup ds)), some (.d (.tup [.str w, x])), some (.d (.int k)), a4, a5, a6] S = if folB (.tup [.str w, x]) (ds.take k) = true then .nx [a0, some (.d (.tup ds)), some (.d (.tup [.str w, x])), some (.d (.int k)), a4, a5, a6] S else .rt (.d (.bl false)) S := by
      simp [cutD_take ds k (by omega), kInO_ok o2 o1, kEq_S st_read]
      cases h1 : inB (.tup [.str w, x]) (ds.take k) with
      | true =>
        have : folB (.tup [.str w, x]) (ds.take k) = false := by simp [folB, h1]
        simp [this]
      | false =>
        cases h2 : eqS (.str w) "read" with
        | false =>
          rw [h1] at hq
          simp only [h2] at hq
          have : folB (.tup [.str w, x]) (ds.take k) = true := by simpa using hq.symm
          simp [this]
        | true =>
          simp [cutD_take ds k (by omega), kInO_ok o3 o1]
          rw [h1] at hq
          simp only [h2] at hq
          have : folB (.tup [.str w, x]) (ds.take k) = !inB (.tup [.str "write", x]) (ds.take k) := by
            have := congrArg (!·) hq.symm
            simpa using this
          rw [this]
          cases inB (.tup [.str "write", x]) (ds.take k) <;> simp
    have hp : bindP (.t [.n 3, .n 2]) (.d (.tup [.int k, .tup [.str w, x]])) [a0, some (.d (.tup ds)), a2, a3, a4, a5, a6] = some [a0, some (.d (.tup ds)), some (.d (.tup [.str w, x])), some (.d (.int k)), a4, a5, a6] := by simp [bindP, unW, bindPs]
    rw [hp]
    dsimp only
    rw [hb]
    cases hf : folB (.tup [.str w, x]) (ds.take k) with
    | true => simpa using ih
    | false => simp
def filt (ds : List D) (f : D → Bool) : List D := (ds.filter fun e => !f e).map fun e => e
theorem filt_nil (ds : List D) (f : D → Bool) : (filt ds f).isEmpty = ds.all f := by
  unfold filt
  rw [List.map_id']
  induction ds with
  | nil => rfl
  | cons d ds ih =>
    rw [List.filter_cons, List.all_cons]
    cases f d with
    | true => simpa using ih
    | false => simp
theorem ise_append {α : Type} (a b : List α) : (a ++ b).isEmpty = (a.isEmpty && b.isEmpty) := by cases a <;> simp
theorem cov_nil (n : Nat) (f : Int → Bool) (g : Int → D) : ((((List.range n).map fun j : Nat => 0 + (j : Int)).filter fun k => !f k).map g).isEmpty = (List.range n).all fun k => f (k : Int) := by
  induction n with
  | zero => rfl
  | succ n ih =>
    rw [List.range_succ, List.map_append, List.filter_append, List.map_append, List.all_append, ise_append, ih]
    congr 1
    cases h : f (n : Int) <;> simp [h]
theorem tab_as (ts : List D) : tabB (.tup ts) = (decide (ts.length ≤ 3) && ts.all fun e => whB e 1 9) := rfl
theorem e_right (d : D) (S : Store) : FLIsRight [.d d] S = .ok (.d (.bl (progB d))) S := by
  simp [FLIsRight, fnF_ap, gLIsRight, -fLc_ap, -sFor_ap]
  cases d with
  | tup ds =>
    match ds with
    | [] => simp [progB, isTup]
    | [a] => simp [progB, isTup]
    | [t, s] =>
      simp [isTup, bindP, unW, bindPs, -fLc_ap, -sFor_ap]
      cases t with
      | tup ts =>
        cases s with
        | tup ss =>
          simp [isTup, -fLc_ap, -sFor_ap]
          by_cases g1 : (3 : Int) < ts.length
          · have g2 : ¬ ts.length ≤ 3 := by omega
            simp [g1, progB, tabB, g2, -fLc_ap, -sFor_ap]
          · have g2 : ts.length ≤ 3 := by omega
            have g3 : ts.length < 100000 := by omega
            have e2 : ∀ {a0 a1 a2 a3 a5 a6 : Option W}, fLc false (iTupF (fVar 4)) (.n 6) (tNotF (fB (fApp FLWhole (aCons (fVar 6) (aCons (fK (.d (.int 1))) (aCons (fK (.d (.int 9))) aNil)))))) (fVar 6) [6] [a0, a1, a2, a3, some (.d (.tup ts)), a5, a6] S = .ok (.d (.lst (filt ts fun e => whB e 1 9))) S := fun {a0 a1 a2 a3 a5 a6} => fLc_of (g := fun _ => True) (ds := filt ts fun e => whB e 1 9) rfl (by rw [List.length_map]; exact g3) (compL_filter (q := fun e => !whB e 1 9) (f := fun e => e) trivial (fun e _ => by simp [e_lwhole]) fun e _ _ => by simp)
            cases h1 : ts.all fun e => whB e 1 9 with
            | false => simp [g1, e2, -fLc_ap, -sFor_ap, filt_nil, progB, tab_as, h1]
            | true =>
              have t1 : tabB (.tup ts) = true := by rw [tab_as, h1]; simp [g2]
              simp [g1, e2, -fLc_ap, -sFor_ap, filt_nil, h1]
              by_cases k1 : (1 : Int) ≤ ss.length
              · have k1' : 1 ≤ ss.length := by omega
                by_cases k2 : (ss.length : Int) ≤ 6
                · have k2' : ss.length ≤ 6 := by omega
                  have k3 : ss.length < 100000 := by omega
                  have e3 : ∀ {a0 a2 a3 a5 a6 : Option W}, fLc false (iTupF (fVar 1)) (.n 2) (tNotF (fB (fApp FLIsStep (aCons (fVar 2) (aCons (fApp aLen (aCons (fVar 4) aNil)) aNil))))) (fVar 2) [2] [a0, some (.d (.tup ss)), a2, a3, some (.d (.tup ts)), a5, a6] S = .ok (.d (.lst (filt ss fun e => stepB e ts.length))) S := fun {a0 a2 a3 a5 a6} => fLc_of (g := fun _ => True) (ds := filt ss fun e => stepB e ts.length) rfl (by rw [List.length_map]; exact k3) (compL_filter (q := fun e => !stepB e ts.length) (f := fun e => e) trivial (fun e _ => by simp [e_lstep]) fun e _ _ => by simp)
                  cases h2 : ss.all fun e => stepB e ts.length with
                  | false => simp [k1, k2, e3, -fLc_ap, -sFor_ap, filt_nil, progB, stepsB, h2]
                  | true =>
                    have hall : ∀ d ∈ ss, stepB d ts.length = true := List.all_eq_true.mp h2
                    simp [k1, k2, e3, -fLc_ap, -sFor_ap, filt_nil, h2]
                    have ow : ordL ss ss 0 = ordB ss := ordL_eq ss ss 0
                    obtain ⟨L1, L2⟩ := e_ordL (S := S) (ds := ss) (a0 := some (.d (.tup [.tup ts, .tup ss]))) (a2 := none) (a3 := none) (a4 := some (.d (.tup ts))) (a5 := none) (a6 := none) hall (ss := ss) (k := 0) fun j s h => by rwa [Nat.zero_add]
                    cases h5 : ordB ss with
                    | false =>
                      have := L2 (ow.trans h5)
                      simp [this, progB, stepsB, h5]
                    | true =>
                      obtain ⟨b2, b3, e5⟩ := L1 (ow.trans h5)
                      have st : stepsB (.tup ss) ts.length = true := by simp [stepsB, k1', k2', h2, h5]
                      have e6 : ∀ {a0 a2 a3 a4 a5 a6 : Option W}, fLc false (iTupF (fVar 1)) (.n 2) tYesF (fOp oIx (fVar 2) (fK (.d (.int 1)))) [2] [a0, some (.d (.tup ss)), a2, a3, a4, a5, a6] S = .ok (.d (.lst (ss.map slotOf))) S := fun {a0 a2 a3 a4 a5 a6} => fLc_of (g := fun _ => True) (ds := ss.map slotOf) rfl (by rw [List.length_map]; exact k3) (compL_map (f := slotOf) trivial fun e he => by
                        obtain ⟨w, x, rfl, _, hx⟩ := stepB_eq (hall e he)
                        simp [slotOf])
                      have e7 : ∀ {a0 a1 a2 a3 a6 : Option W}, fLc false (iRange1 (aCons (fApp aLen (aCons (fVar 4) aNil)) aNil)) (.n 3) (fB (fOp oNotIn (fApp mkT (aCons (fK (.d (.str "key"))) (aCons (fVar 3) aNil))) (fVar 5))) (fVar 3) [3] [a0, a1, a2, a3, some (.d (.tup ts)), some (.d (.lst (ss.map slotOf))), a6] S = .ok (.d (.lst ((((List.range ts.length).map fun j : Nat => 0 + (j : Int)).filter fun k => !inB (.tup [.str "key", .int k]) (ss.map slotOf)).map fun k => .int k))) S := fun {a0 a1 a2 a3 a6} => by
                        rw [fLc_of (ir1 (n := ts.length) (S' := S) (by simp) g3) (by rw [rngW_len]; exact g3) (compL_range (S := S) (q := fun k => !inB (.tup [.str "key", .int k]) (ss.map slotOf)) (f := fun k => .int k) (by trivial) (fun k _ _ => by simp [kInO_ok (key_ok k) (slots_ok hall)]) fun k _ _ _ => by simp)]
                        rfl
                      have e8 := cov_nil ts.length (fun k => inB (.tup [.str "key", .int k]) (ss.map slotOf)) fun k => D.int k
                      have e9 : covB ts.length ss = (List.range ts.length).all fun k => inB (.tup [.str "key", .int (k : Int)]) (ss.map slotOf) := rfl
                      rw [← e9] at e8
                      simp [e5, -fLc_ap, e6, e7, -Int.zero_add, e8, progB, t1, st]
                · have k2' : ¬ ss.length ≤ 6 := by omega
                  simp [k1, k2, progB, stepsB, k1', k2', -fLc_ap, -sFor_ap]
              · have k1' : ¬ 1 ≤ ss.length := by omega
                simp [k1, progB, stepsB, k1', -fLc_ap, -sFor_ap]
        | _ => simp [progB, isTup]
      | _ => simp [progB, isTup]
    | _ :: _ :: _ :: ds =>
      have h : ¬ ((ds.length : Int) + 1 + 1 + 1 = 2) := by omega
      simp [progB, isTup, h]
  | _ => simp [isTup, progB]
end As

namespace As
open PySem PySem.Spec PyProof.Rows L2
def progsB (d : D) : Bool := match d with
  | .lst ds => decide (1 ≤ ds.length) && decide (ds.length ≤ 4) && ds.all progB
  | _ => false
theorem e_progs (d : D) (S : Store) : FArePrograms [.d d] S = .ok (.d (.bl (progsB d))) S := by
  simp [FArePrograms, fnF_ap, gArePrograms, -fLc_ap]
  cases d with
  | lst ds =>
    by_cases k1 : (1 : Int) ≤ ds.length
    · have k1' : 1 ≤ ds.length := by omega
      by_cases k2 : (ds.length : Int) ≤ 4
      · have k2' : ds.length ≤ 4 := by omega
        have e1 : fLc false (iList (fVar 0)) (.n 1) tYesF (fApp FIsProgram (aCons (fVar 1) aNil)) [1] [some (.d (.lst ds)), none] S = .ok (.d (.lst (ds.map fun e => .bl (progB e)))) S := fLc_of (g := fun _ => True) (ds := ds.map fun e => .bl (progB e)) rfl (by rw [List.length_map]; omega) (compL_map (f := fun e => .bl (progB e)) trivial fun e _ => by simp [e_prog])
        cases h : ds.all progB <;> simp [isLst, k1, k2, progsB, k1', k2', e1, -fLc_ap, aAll_map, h]
      · have k2' : ¬ ds.length ≤ 4 := by omega
        simp [isLst, k1, k2, progsB, k1', k2', -fLc_ap]
    · have k1' : ¬ 1 ≤ ds.length := by omega
      simp [isLst, k1, progsB, k1', -fLc_ap]
  | _ => simp [progsB, isLst]
theorem e_rights (d : D) (S : Store) : FLAreRight [.d d] S = .ok (.d (.bl (progsB d))) S := by
  simp [FLAreRight, fnF_ap, gLAreRight, -fLc_ap]
  cases d with
  | lst ds =>
    by_cases k1 : (1 : Int) ≤ ds.length
    · have k1' : 1 ≤ ds.length := by omega
      by_cases k2 : (ds.length : Int) ≤ 4
      · have k2' : ds.length ≤ 4 := by omega
        have e1 : fLc false (iList (fVar 0)) (.n 1) (tNotF (fB (fApp FLIsRight (aCons (fVar 1) aNil)))) (fVar 1) [1] [some (.d (.lst ds)), none] S = .ok (.d (.lst (filt ds progB))) S := fLc_of (g := fun _ => True) (ds := filt ds progB) rfl (by rw [List.length_map]; omega) (compL_filter (q := fun e => !progB e) (f := fun e => e) trivial (fun e _ => by simp [e_right]) fun e _ _ => by simp)
        cases h : ds.all progB <;> simp [isLst, k1, k2, progsB, k1', k2', e1, -fLc_ap, filt_nil, h]
      · have k2' : ¬ ds.length ≤ 4 := by omega
        simp [isLst, k1, k2, progsB, k1', k2', -fLc_ap]
    · have k1' : ¬ 1 ≤ ds.length := by omega
      simp [isLst, k1, progsB, k1', -fLc_ap]
  | _ => simp [progsB, isLst]
theorem kEq_bb (b : Bool) (S : Store) : kEq false (.bl b) (.bl b) S = .ok (.d (.bl true)) S := by
  show (if (okD (.bl b) && okD (.bl b)) = true then Rs.ok (W.d (.bl (if false then !eqB (.bl b) (.bl b) else eqB (.bl b) (.bl b)))) S else .no) = _
  rw [okD_bl, Bool.and_self, if_pos rfl]
  have e1 : eqB (.bl b) (.bl b) = true := by unfold eqB; rw [pd]; simp [PyData.eqv]
  rw [e1]; rfl
theorem e_truth (b : Bool) (S : Store) : FLTruth [.d (.bl b), .d (.bl b)] S = .ok (.d (.bl true)) S := by
  simp [FLTruth, fnF_ap, gLTruth, isBool, kEq_bb]
/-! the draws -/
def stOk (ds : List D) : Prop := (∃ a : Int, ds = [.int a]) ∨ ∃ a b c : Int, ds = [.int a, .int b, .int c]
@[simp] theorem ixc0 (a : D) (l : List D) (S : Store) : oIx (.c 0) (.d (.int 0)) (.l (a :: l) :: S) = .ok (.d a) (.l (a :: l) :: S) := by simp [oIx_ap, atI, ixN]
@[simp] theorem ixc1 (a b : D) (l : List D) (S : Store) : oIx (.c 0) (.d (.int 1)) (.l (a :: b :: l) :: S) = .ok (.d b) (.l (a :: b :: l) :: S) := by
  have h : (1 : Int) < (l.length : Int) + 1 + 1 := by omega
  simp [oIx_ap, atI, ixN, h]
@[simp] theorem ixc2 (a b c : D) (l : List D) (S : Store) : oIx (.c 0) (.d (.int 2)) (.l (a :: b :: c :: l) :: S) = .ok (.d c) (.l (a :: b :: c :: l) :: S) := by
  have h : (2 : Int) < (l.length : Int) + 1 + 1 + 1 := by omega
  simp [oIx_ap, atI, ixN, h]
theorem lt64 {i : Int} (h0 : 0 ≤ i) (h1 : i < 2147483647) : -(2 ^ 64) < i ∧ i < 2 ^ 64 := by
  refine ⟨?_, ?_⟩ <;> omega
theorem dig3 {a b c m : Int} (hm : 0 < m) (hm2 : m ≤ 1000000) (R : Store) : ∃ v ds', FLDigit [.c 0, .d (.int m)] (.l [.int a, .int b, .int c] :: R) = .ok (.d (.int v)) (.l ds' :: R) ∧ 0 ≤ v ∧ v < m ∧ stOk ds' := by
  by_cases ha : 0 < a
  · have cd : CDiv a m := by unfold CDiv; omega
    refine ⟨a % m, [.int (a / m), .int b, .int c], ?_, Int.emod_nonneg _ (by omega), Int.emod_lt_of_pos _ hm, .inr ⟨_, _, _, rfl⟩⟩
    simp [FLDigit, fnF_ap, gLDigit, ha, hm, cd, ixN]
  · have c1 : CMul 7919 (c + 1) := .inl (by constructor <;> decide)
    have c2 : CMul (b + 7919 * (c + 1) + 1) 48271 := .inr (by constructor <;> decide)
    generalize e1 : (b + 7919 * (c + 1) + 1) * 48271 % 2147483647 = n1
    have h1 : 0 ≤ n1 ∧ n1 < 2147483647 := by rw [← e1]; exact ⟨Int.emod_nonneg _ (by decide), Int.emod_lt_of_pos _ (by decide)⟩
    have c3 : CMul n1 (n1 / 1009 + 69621) := .inl (lt64 h1.1 h1.2)
    have d3 : CDiv n1 1009 := by unfold CDiv; omega
    generalize e2 : n1 * (n1 / 1009 + 69621) % 2147483647 = n2
    have h2 : 0 ≤ n2 ∧ n2 < 2147483647 := by rw [← e2]; exact ⟨Int.emod_nonneg _ (by decide), Int.emod_lt_of_pos _ (by decide)⟩
    have c4 : CMul n2 (n2 / 2003 + 40692) := .inl (lt64 h2.1 h2.2)
    have d4 : CDiv n2 2003 := by unfold CDiv; omega
    refine ⟨n2 * (n2 / 2003 + 40692) % 2147483399 % m, [.int a, .int b, .int (c + 1)], ?_, Int.emod_nonneg _ (by omega), Int.emod_lt_of_pos _ hm, .inr ⟨_, _, _, rfl⟩⟩
    simp [FLDigit, fnF_ap, gLDigit, ha, hm, ixN, c1, c2, e1, c3, d3, e2, c4, d4]
@[simp] theorem mkL2 (a b : D) (S : Store) : mkL false [.d a, .d b] S = .ok (.d (.lst [a, b])) S := mkL_ds false [a, b] S (by simp)
@[simp] theorem aInt_b (b : Bool) (S : Store) : aInt [.d (.bl b)] S = .ok (.d (.int (if b = true then 1 else 0))) S := rfl
@[simp] theorem mExt0 (ds es : List D) (S : Store) (h : ds.length + es.length ≤ 100000) : mExt (.c 0) [.d (.lst es)] (.l ds :: S) = .ok (.d .non) (.l (ds ++ es) :: S) := by simp [mExt, h]
theorem pick2 (x y : D) (b : Bool) (S : Store) : oIx (.d (.lst [x, y])) (.d (.int (if b = true then 1 else 0))) S = .ok (.d (if b = true then y else x)) S := by
  cases b <;> simp [oIx_ap, atI, ixN]
theorem dig1 {a m : Int} (hm : 0 < m) (hm2 : m ≤ 1000000) (R : Store) : ∃ v ds', FLDigit [.c 0, .d (.int m)] (.l [.int a] :: R) = .ok (.d (.int v)) (.l ds' :: R) ∧ 0 ≤ v ∧ v < m ∧ stOk ds' := by
  have cp : CPow 10 18 := by unfold CPow; decide
  have pk : ∀ S, oIx (.d (.lst [.int 0, .int a])) (.d (.int (if decide (1000000000000000000 ≤ a) = true then 1 else 0))) S = .ok (.d (.int (if 1000000000000000000 ≤ a then a else 0))) S := by
    intro S
    rw [pick2]
    by_cases h : 1000000000000000000 ≤ a <;> simp [h]
  generalize ea : (if 1000000000000000000 ≤ a then a else 0) = a' at pk
  generalize eb : a % 2147483647 = b
  have pk2 : ∀ S, oIx (.d (.lst [.int 0, .int a])) (.d (.int (if 1000000000000000000 ≤ a then 1 else 0))) S = .ok (.d (.int a')) S := by
    intro S
    have := pk S
    simpa using this
  by_cases ha : 0 < a'
  · have cd : CDiv a' m := by unfold CDiv; omega
    refine ⟨a' % m, [.int (a' / m), .int b, .int 0], ?_, Int.emod_nonneg _ (by omega), Int.emod_lt_of_pos _ hm, .inr ⟨_, _, _, rfl⟩⟩
    simp [FLDigit, fnF_ap, gLDigit, cp, pk2, ha, hm, cd, ixN, eb]
  · have c1 : CMul 7919 1 := .inl (by constructor <;> decide)
    have c2 : CMul (b + 7919 + 1) 48271 := .inr (by constructor <;> decide)
    generalize e1 : (b + 7919 + 1) * 48271 % 2147483647 = n1
    have h1 : 0 ≤ n1 ∧ n1 < 2147483647 := by rw [← e1]; exact ⟨Int.emod_nonneg _ (by decide), Int.emod_lt_of_pos _ (by decide)⟩
    have c3 : CMul n1 (n1 / 1009 + 69621) := .inl (lt64 h1.1 h1.2)
    have d3 : CDiv n1 1009 := by unfold CDiv; omega
    generalize e2 : n1 * (n1 / 1009 + 69621) % 2147483647 = n2
    have h2 : 0 ≤ n2 ∧ n2 < 2147483647 := by rw [← e2]; exact ⟨Int.emod_nonneg _ (by decide), Int.emod_lt_of_pos _ (by decide)⟩
    have c4 : CMul n2 (n2 / 2003 + 40692) := .inl (lt64 h2.1 h2.2)
    have d4 : CDiv n2 2003 := by unfold CDiv; omega
    refine ⟨n2 * (n2 / 2003 + 40692) % 2147483399 % m, [.int a', .int b, .int 1], ?_, Int.emod_nonneg _ (by omega), Int.emod_lt_of_pos _ hm, .inr ⟨_, _, _, rfl⟩⟩
    simp [FLDigit, fnF_ap, gLDigit, cp, pk2, ha, hm, ixN, eb, c1, c2, e1, c3, d3, e2, c4, d4]
theorem e_dig {ds : List D} {m : Int} (h : stOk ds) (hm : 0 < m) (hm2 : m ≤ 1000000) (R : Store) : ∃ v ds', FLDigit [.c 0, .d (.int m)] (.l ds :: R) = .ok (.d (.int v)) (.l ds' :: R) ∧ 0 ≤ v ∧ v < m ∧ stOk ds' := by
  rcases h with ⟨a, rfl⟩ | ⟨a, b, c, rfl⟩
  · exact dig1 hm hm2 R
  · exact dig3 hm hm2 R
/-- one of some -/
theorem e_of {ds es : List D} (h : stOk ds) (hl : 0 < es.length) (hl2 : es.length ≤ 1000) (R : Store) : ∃ d ds', FLOf [.c 0, .d (.lst es)] (.l ds :: R) = .ok (.d d) (.l ds' :: R) ∧ d ∈ es ∧ stOk ds' := by
  obtain ⟨v, ds', e, h0, h1, h2⟩ := e_dig (m := (es.length : Int)) h (by omega) (by omega) R
  have hj : v.toNat < es.length := by omega
  refine ⟨es[v.toNat], ds', ?_, List.getElem_mem hj, h2⟩
  have hv : v < es.length := h1
  simp [FLOf, fnF_ap, gLOf, e, oIx_ap, atI, ixN, h0, hv]
end As

namespace As
open PySem PySem.Spec PyProof.Rows L2
theorem eqB_slot {a b : D} {m m' : Int} (ha : slotB a m = true) (hb : slotB b m' = true) : eqB a b = true ↔ a = b := by
  obtain ⟨w, i, rfl, _⟩ := slotB_eq ha
  obtain ⟨w', i', rfl, _⟩ := slotB_eq hb
  unfold eqB
  rw [pd, pd, pds, pds, pds, pds, pds, pds, pd, pd, pd, pd]
  simp [PyData.eqv, PyData.eqvAll]
theorem eqB_step {a b : D} {m m' : Int} (ha : stepB a m = true) (hb : stepB b m' = true) : eqB a b = true ↔ a = b := by
  obtain ⟨w, s, rfl, _, hs⟩ := stepB_eq ha
  obtain ⟨w', s', rfl, _, hs'⟩ := stepB_eq hb
  have h := eqB_slot hs hs'
  unfold eqB at h ⊢
  rw [pd, pd, pds, pds, pds, pds, pds, pds, pd, pd]
  simp [PyData.eqv, PyData.eqvAll, h]
theorem inB_step {a : D} {ds : List D} {m : Int} (ha : stepB a m = true) (h : ∀ d ∈ ds, stepB d m = true) : inB a ds = true ↔ a ∈ ds := by
  unfold inB
  rw [List.any_eq_true]
  constructor
  · rintro ⟨z, hz, e⟩
    rwa [← (eqB_step (h z hz) ha).mp e]
  · intro hz
    exact ⟨a, hz, (eqB_step ha ha).mpr rfl⟩
theorem inB_slot {a : D} {ds : List D} {m m' : Int} (ha : slotB a m' = true) (h : ∀ d ∈ ds, slotB d m = true) : inB a ds = true ↔ a ∈ ds := by
  unfold inB
  rw [List.any_eq_true]
  constructor
  · rintro ⟨z, hz, e⟩
    rwa [← (eqB_slot (h z hz) ha).mp e]
  · intro hz
    exact ⟨a, hz, (eqB_slot ha ha).mpr rfl⟩
theorem ordB_snoc (xs : List D) (x : D) : ordB (xs ++ [x]) = (ordB xs && folB x xs) := by
  unfold ordB
  rw [List.zipIdx_append, List.all_append]
  congr 1
  · rw [Bool.eq_iff_iff, List.all_eq_true, List.all_eq_true]
    have e : ∀ p ∈ xs.zipIdx, (xs ++ [x]).take p.2 = xs.take p.2 := fun p hp => List.take_append_of_le_length (by have := List.snd_lt_of_mem_zipIdx hp; omega)
    constructor
    · intro h p hp
      rw [← e p hp]
      exact h p hp
    · intro h p hp
      rw [e p hp]
      exact h p hp
  · simp
def rdS (s : D) : D := .tup [.str "read", s]
def wrS (s : D) : D := .tup [.str "write", s]
theorem rd_ne_wr (s t : D) : rdS s ≠ wrS t := by
  intro h
  have h1 : ([.str "read", s] : List D) = [.str "write", t] := D.tup.inj h
  injection h1 with h2 h3
  exact absurd (D.str.inj h2) (by decide)
theorem rdS_inj {s t : D} (h : rdS s = rdS t) : s = t := by
  have h1 : ([.str "read", s] : List D) = [.str "read", t] := D.tup.inj h
  injection h1 with h2 h3
  injection h3
theorem wrS_inj {s t : D} (h : wrS s = wrS t) : s = t := by
  have h1 : ([.str "write", s] : List D) = [.str "write", t] := D.tup.inj h
  injection h1 with h2 h3
  injection h3
theorem rdS_ok {s : D} {m : Int} (h : slotB s m = true) : stepB (rdS s) m = true := by simp [rdS, stepB, h, eqS]
theorem wrS_ok {s : D} {m : Int} (h : slotB s m = true) : stepB (wrS s) m = true := by simp [wrS, stepB, h, eqS]
def rowD : D × Nat → List D
  | (s, 0) => [rdS s]
  | (s, 1) => [wrS s]
  | (s, _) => [rdS s, wrS s]
def tot (rows : List (D × Nat)) : Nat := (rows.map fun r => (rowD r).length).sum
structure RInv (m : Int) (T : List D) (rows : List (D × Nat)) (done : List D) : Prop where
  sl : ∀ r ∈ rows, slotB r.1 m = true
  nd : (rows.map (·.1)).Nodup
  st : ∀ d ∈ done, stepB d m = true
  od : ordB done = true
  wr : ∀ r ∈ rows, wrS r.1 ∉ done
  rd : ∀ r ∈ rows, r.2 ≠ 1 → rdS r.1 ∉ done
  ln : done.length + tot rows ≤ 6
  cov : ∀ t ∈ T, t ∈ done.map slotOf ∨ t ∈ rows.map (·.1)
theorem tot_app (a b : List (D × Nat)) : tot (a ++ b) = tot a + tot b := by simp [tot]
theorem tot_cons (r : D × Nat) (b : List (D × Nat)) : tot (r :: b) = (rowD r).length + tot b := by simp [tot]
theorem ord_step {m : Int} {done : List D} {s : D} {h : D} (hh : h = rdS s ∨ h = wrS s) (hs : slotB s m = true) (st : ∀ d ∈ done, stepB d m = true) (od : ordB done = true) (n1 : h ∉ done) (n2 : wrS s ∉ done) : ordB (done ++ [h]) = true ∧ ∀ d ∈ done ++ [h], stepB d m = true := by
  have hst : stepB h m = true := by
    rcases hh with rfl | rfl
    · exact rdS_ok hs
    · exact wrS_ok hs
  have e1 : inB h done = false := by
    rw [Bool.eq_false_iff]
    exact fun z => n1 ((inB_step hst st).mp z)
  have e2 : inB (.tup [.str "write", slotOf h]) done = false := by
    have e : (D.tup [.str "write", slotOf h]) = wrS s := by rcases hh with rfl | rfl <;> rfl
    rw [e, Bool.eq_false_iff]
    exact fun z => n2 ((inB_step (wrS_ok hs) st).mp z)
  refine ⟨?_, ?_⟩
  · rw [ordB_snoc, od]
    simp [folB, e1, e2]
  · intro d hd
    rcases List.mem_append.mp hd with hd | hd
    · exact st d hd
    · rw [List.mem_singleton.mp hd]
      exact hst
/-- both words left: the reading goes first -/
theorem RInv.two {m : Int} {T : List D} {pre post : List (D × Nat)} {s : D} {k : Nat} {done : List D} (I : RInv m T (pre ++ (s, k + 2) :: post) done) : RInv m T (pre ++ (s, 1) :: post) (done ++ [rdS s]) := by
  have hm : (s, k + 2) ∈ pre ++ (s, k + 2) :: post := by simp
  have hs := I.sl _ hm
  have nw := I.wr _ hm
  have nr := I.rd _ hm (by show k + 2 ≠ 1; omega)
  obtain ⟨o, t⟩ := ord_step (.inl rfl) hs I.st I.od nr nw
  have hmap : (pre ++ (s, 1) :: post).map (·.1) = (pre ++ (s, k + 2) :: post).map (·.1) := by simp
  have other : ∀ r, r ∈ pre ∨ r ∈ post → r ∈ pre ++ (s, k + 2) :: post := fun r hr => by rcases hr with h | h <;> simp [h]
  have ne : ∀ r, r ∈ pre ∨ r ∈ post → r.1 ≠ s := by
    have nd := I.nd
    rw [List.map_append, List.map_cons, List.nodup_append] at nd
    obtain ⟨_, n2, n3⟩ := nd
    intro r hr e
    rcases hr with h | h
    · exact n3 r.1 (List.mem_map_of_mem h) s (by simp) e
    · exact (List.nodup_cons.mp n2).1 (List.mem_map.mpr ⟨r, h, e⟩)
  refine ⟨fun r hr => ?_, hmap ▸ I.nd, t, o, fun r hr => ?_, fun r hr h1 => ?_, ?_, fun x hx => ?_⟩
  · rcases List.mem_append.mp hr with h | h
    · exact I.sl r (other r (.inl h))
    · rcases List.mem_cons.mp h with rfl | h
      · exact hs
      · exact I.sl r (other r (.inr h))
  · rw [List.mem_append, List.mem_singleton]
    rintro (z | z)
    · rcases List.mem_append.mp hr with h | h
      · exact I.wr r (other r (.inl h)) z
      · rcases List.mem_cons.mp h with rfl | h
        · exact nw z
        · exact I.wr r (other r (.inr h)) z
    · exact rd_ne_wr _ _ z.symm
  · rw [List.mem_append, List.mem_singleton]
    rintro (z | z)
    · rcases List.mem_append.mp hr with h | h
      · exact I.rd r (other r (.inl h)) h1 z
      · rcases List.mem_cons.mp h with rfl | h
        · exact h1 rfl
        · exact I.rd r (other r (.inr h)) h1 z
    · have e := rdS_inj z
      rcases List.mem_append.mp hr with h | h
      · exact ne r (.inl h) e
      · rcases List.mem_cons.mp h with rfl | h
        · exact h1 rfl
        · exact ne r (.inr h) e
  · have := I.ln
    rw [tot_app, tot_cons] at this ⊢
    rw [List.length_append]
    have e1 : (rowD (s, k + 2)).length = 2 := rfl
    have e2 : (rowD (s, 1)).length = 1 := rfl
    have e3 : [rdS s].length = 1 := rfl
    omega
  · rw [hmap, List.map_append]
    rcases I.cov x hx with h | h
    · exact .inl (List.mem_append_left _ h)
    · exact .inr h
/-- one word left: the row goes -/
theorem RInv.one {m : Int} {T : List D} {pre post : List (D × Nat)} {s : D} {k : Nat} {done : List D} {h : D} (I : RInv m T (pre ++ (s, k) :: post) done) (hk : (k = 0 ∧ h = rdS s) ∨ (k = 1 ∧ h = wrS s)) : RInv m T (pre ++ post) (done ++ [h]) := by
  have hm : (s, k) ∈ pre ++ (s, k) :: post := by simp
  have hs := I.sl _ hm
  have nw := I.wr _ hm
  have nh : h ∉ done := by
    rcases hk with ⟨rfl, rfl⟩ | ⟨rfl, rfl⟩
    · exact I.rd _ hm (by show (0 : Nat) ≠ 1; omega)
    · exact nw
  have hh : h = rdS s ∨ h = wrS s := by
    rcases hk with ⟨_, e⟩ | ⟨_, e⟩
    · exact .inl e
    · exact .inr e
  obtain ⟨o, t⟩ := ord_step hh hs I.st I.od nh nw
  have other : ∀ r, r ∈ pre ++ post → r ∈ pre ++ (s, k) :: post := fun r hr => by rcases List.mem_append.mp hr with h | h <;> simp [h]
  have nd := I.nd
  rw [List.map_append, List.map_cons, List.nodup_append] at nd
  obtain ⟨n1, n2, n3⟩ := nd
  have ne : ∀ r, r ∈ pre ++ post → r.1 ≠ s := by
    intro r hr e
    rcases List.mem_append.mp hr with h | h
    · exact n3 r.1 (List.mem_map_of_mem h) s (by simp) e
    · exact (List.nodup_cons.mp n2).1 (List.mem_map.mpr ⟨r, h, e⟩)
  refine ⟨fun r hr => I.sl r (other r hr), ?_, t, o, fun r hr => ?_, fun r hr h1 => ?_, ?_, fun x hx => ?_⟩
  · rw [List.map_append, List.nodup_append]
    exact ⟨n1, (List.nodup_cons.mp n2).2, fun a ha b hb => n3 a ha b (List.mem_cons_of_mem _ hb)⟩
  · rw [List.mem_append, List.mem_singleton]
    rintro (z | z)
    · exact I.wr r (other r hr) z
    · rcases hh with rfl | rfl
      · exact rd_ne_wr _ _ z.symm
      · exact ne r hr (wrS_inj z)
  · rw [List.mem_append, List.mem_singleton]
    rintro (z | z)
    · exact I.rd r (other r hr) h1 z
    · rcases hh with rfl | rfl
      · exact ne r hr (rdS_inj z)
      · exact rd_ne_wr _ _ z
  · have := I.ln
    rw [tot_app, tot_cons] at this
    rw [tot_app, List.length_append]
    have e1 : (rowD (s, k)).length = 1 := by rcases hk with ⟨rfl, _⟩ | ⟨rfl, _⟩ <;> rfl
    have e3 : [h].length = 1 := rfl
    omega
  · have eh : slotOf h = s := by rcases hh with rfl | rfl <;> rfl
    rw [List.map_append, List.mem_append]
    rcases I.cov x hx with g | g
    · exact .inl (.inl g)
    · rw [List.map_append, List.map_cons, List.mem_append, List.mem_cons] at g
      rcases g with g | g | g
      · exact .inr (by rw [List.map_append]; exact List.mem_append_left _ g)
      · exact .inl (.inr (by rw [g]; exact List.mem_singleton.mpr eh.symm))
      · exact .inr (by rw [List.map_append]; exact List.mem_append_right _ g)
end As

namespace As
open PySem PySem.Spec PyProof.Rows L2
noncomputable def bSteps : Sm := (sSeq (sSet 8 (fApp FLDigit (aCons (fVar 0) (aCons (fApp aLen (aCons (fVar 3) aNil)) aNil))))
      (sSeq (sExpr (fMt (fun x S => isCl x S = true) mApp (fVar 7) (aCons (fOp oIx (fOp oIx (fVar 3) (fVar 8)) (fK (.d (.int 0)))) aNil)))
      (sSeq (sPut (fVar 3) (fVar 8) (fSl (oSlL false) (fOp oIx (fVar 3) (fVar 8)) (pSo (fK (.d (.int 1)))) pNo))
      (sSet 3 (fLc true (iList (fVar 3)) (.n 9) (fB (fOp oNe (fVar 9) (fApp (mkL false) aNil))) (fVar 9) [9])))))
theorem itWc {c : Cell} {T : Store} {p : Nat} {xs : List D} (h : T[p]? = some (.l xs)) : itW (c :: T) (.c (p + 1)) = some (xs.map .d) := by simp [itW, liW, h]
theorem liWc {c : Cell} {T : Store} {p : Nat} {xs : List D} (h : T[p]? = some (.l xs)) : liW (c :: T) (.c (p + 1)) = some (xs.map .d) := by simp [liW, h]
theorem isClc {c : Cell} {T : Store} {p : Nat} {xs : List D} (h : T[p]? = some (.l xs)) : isCl (.c (p + 1)) (c :: T) = true := by simp [isCl, liW, h]
theorem rdWc {c : Cell} {T : Store} {p : Nat} {xs : List D} (h : T[p]? = some (.l xs)) : rdW (c :: T) (.c (p + 1)) = some (.lst xs) := by simp [rdW, h]
theorem ixAt {S : Store} {x : W} {xs : List D} (h : itW S x = some (xs.map .d)) {v : Nat} {d : D} (hd : xs[v]? = some d) : oIx x (.d (.int (v : Int))) S = .ok (.d d) S := by
  have hv := (List.getElem?_eq_some_iff.mp hd).1
  rw [oIx_ap, h]
  have : (v : Int) < (xs.length : Int) := by omega
  simp [atI, ixN, this, hd]
theorem cut1 (h : D) (t : List D) : cutD (h :: t) (some 1) none = t := by
  unfold cutD
  have e1 : HT.sIx (h :: t).length 0 (some 1) = 1 := by
    unfold HT.sIx
    simp
  have e2 : HT.sIx (h :: t).length (h :: t).length none = (h :: t).length := rfl
  rw [e1, e2]
  simp
def nonNil (d : D) : Bool := match d with
  | .lst l => !l.isEmpty
  | _ => true
theorem sSeq_nx {f g : Sm} {ρ ρ' : Env} {S S' : Store} (h : f ρ S = .nx ρ' S') : sSeq f g ρ S = g ρ' S' := by rw [sSeq_ap, h]
theorem iListC {fa : Env → Store → Rs W} {ρ : Env} {S S' : Store} {p : Nat} {xs : List D} (ha : fa ρ S = .ok (.c p) S') (h : S'[p]? = some (.l xs)) : iList fa ρ S = .ok (xs.map .d, fun S => S[p]? = some (.l xs)) S' := by
  rw [iList_ap, ha, Rs.bind_ok]
  dsimp only
  rw [h]
theorem e_body {ds : List D} {T : Store} {p q : Nat} {Rs : List (List D)} {done : List D} {x1 x2 x4 x5 x6 x8 x9 : Option W} (hst : stOk ds) (hp : T[p]? = some (.l (Rs.map .lst))) (hq : T[q]? = some (.l done)) (hpq : q ≠ p) (hn : 0 < Rs.length) (hl : Rs.length ≤ 6) (hne : ∀ r ∈ Rs, r ≠ []) (hd : done.length ≤ 6) :
    ∃ v ds' x8', ∃ h t, Rs[v]? = some (h :: t) ∧ stOk ds' ∧ bSteps [some (.c 0), x1, x2, some (.c (p + 1)), x4, x5, x6, some (.c (q + 1)), x8, x9] (.l ds :: T) =
      .nx [some (.c 0), x1, x2, some (.c (T.length + 1)), x4, x5, x6, some (.c (q + 1)), x8', x9] (.l ds' :: ((T.set q (.l (done ++ [h]))).set p (.l ((Rs.set v t).map .lst)) ++ [.l (((Rs.set v t).map .lst).filter nonNil)])) := by
  obtain ⟨v0, ds', e, h0, h1, h2⟩ := e_dig (m := (Rs.length : Int)) hst (by omega) (by omega) T
  obtain ⟨v, rfl⟩ : ∃ v : Nat, v0 = (v : Int) := ⟨v0.toNat, by omega⟩
  have hv : v < Rs.length := by omega
  obtain ⟨h, t, er⟩ : ∃ h t, Rs[v] = h :: t := by
    cases hr : Rs[v] with
    | nil => exact absurd hr (hne _ (List.getElem_mem hv))
    | cons h t => exact ⟨h, t, rfl⟩
  have er' : Rs[v]? = some (h :: t) := by rw [List.getElem?_eq_getElem hv, er]
  have er2 : (Rs.map D.lst)[v]? = some (.lst (h :: t)) := by rw [List.getElem?_map, er']; rfl
  refine ⟨v, ds', some (.d (.int v)), h, t, er', h2, ?_⟩
  have a1 := itWc (c := .l ds) hp
  have a2 := ixAt (itWc (c := .l ds') hp) er2
  have a3 : (T.set q (.l (done ++ [h])))[p]? = some (.l (Rs.map .lst)) := by rw [List.getElem?_set_ne hpq, hp]
  have a4 := ixAt (itWc (c := .l ds') a3) er2
  have a5 : oIx (.d (.lst (h :: t))) (.d (.int 0)) (.l ds' :: T) = .ok (.d h) (.l ds' :: T) := by simp [oIx_ap, atI, ixN]
  have a6 : mApp (.c (q + 1)) [.d h] (.l ds' :: T) = .ok (.d .non) (.l ds' :: T.set q (.l (done ++ [h]))) := by
    have : done.length < 100000 := by omega
    simp [mApp, hq, this]
  have a7 := isClc (c := .l ds') hq
  have hplen : p < T.length := (List.getElem?_eq_some_iff.mp hp).1
  have c1 : ((Rs.map D.lst).set v (.lst t)) = (Rs.set v t).map .lst := by rw [List.map_set]
  have cl : ((Rs.set v t).map D.lst).length = Rs.length := by rw [List.length_map, List.length_set]
  have cn : ∀ e ∈ (Rs.set v t).map D.lst, ∃ l, e = .lst l := fun e he => by
    obtain ⟨l, _, rfl⟩ := List.mem_map.mp he
    exact ⟨l, rfl⟩
  generalize (Rs.set v t).map D.lst = Rw at c1 cl cn ⊢
  have a8 : ((T.set q (.l (done ++ [h]))).set p (.l Rw))[p]? = some (.l Rw) := by
    rw [List.getElem?_set_self (by rw [List.length_set]; exact hplen)]
  have s1 : sSet 8 (fApp FLDigit (aCons (fVar 0) (aCons (fApp aLen (aCons (fVar 3) aNil)) aNil))) [some (.c 0), x1, x2, some (.c (p + 1)), x4, x5, x6, some (.c (q + 1)), x8, x9] (.l ds :: T)
      = .nx [some (.c 0), x1, x2, some (.c (p + 1)), x4, x5, x6, some (.c (q + 1)), some (.d (.int v)), x9] (.l ds' :: T) := by
    simp [a1, e]
  have s2 : sExpr (fMt (fun x S => isCl x S = true) mApp (fVar 7) (aCons (fOp oIx (fOp oIx (fVar 3) (fVar 8)) (fK (.d (.int 0)))) aNil)) [some (.c 0), x1, x2, some (.c (p + 1)), x4, x5, x6, some (.c (q + 1)), some (.d (.int v)), x9] (.l ds' :: T)
      = .nx [some (.c 0), x1, x2, some (.c (p + 1)), x4, x5, x6, some (.c (q + 1)), some (.d (.int v)), x9] (.l ds' :: T.set q (.l (done ++ [h]))) := by
    simp [a2, a5, a6, a7]
  have s3 : sPut (fVar 3) (fVar 8) (fSl (oSlL false) (fOp oIx (fVar 3) (fVar 8)) (pSo (fK (.d (.int 1)))) pNo) [some (.c 0), x1, x2, some (.c (p + 1)), x4, x5, x6, some (.c (q + 1)), some (.d (.int v)), x9] (.l ds' :: T.set q (.l (done ++ [h])))
      = .nx [some (.c 0), x1, x2, some (.c (p + 1)), x4, x5, x6, some (.c (q + 1)), some (.d (.int v)), x9] (.l ds' :: (T.set q (.l (done ++ [h]))).set p (.l Rw)) := by
    simp [a4, oSlL, laW, cut1, a3, ixN, hv, c1]
  have a9 : fLc true (iList (fVar 3)) (.n 9) (fB (fOp oNe (fVar 9) (fApp (mkL false) aNil))) (fVar 9) [9] [some (.c 0), x1, x2, some (.c (p + 1)), x4, x5, x6, some (.c (q + 1)), some (.d (.int v)), x9] (.l ds' :: (T.set q (.l (done ++ [h]))).set p (.l Rw))
      = newL true ((Rw.filter nonNil).map fun e => e) (.l ds' :: (T.set q (.l (done ++ [h]))).set p (.l Rw)) :=
    fLc_of (iListC (p := p + 1) (xs := Rw) (by simp) (by simpa using a8)) (by rw [List.length_map]; omega) (compL_filter (q := nonNil) (f := fun e => e) (by simpa using a8) (fun e he => by
      obtain ⟨l, rfl⟩ := cn e he
      simp [nonNil]) fun e _ _ => by simp)
  have s4 : sSet 3 (fLc true (iList (fVar 3)) (.n 9) (fB (fOp oNe (fVar 9) (fApp (mkL false) aNil))) (fVar 9) [9]) [some (.c 0), x1, x2, some (.c (p + 1)), x4, x5, x6, some (.c (q + 1)), some (.d (.int v)), x9] (.l ds' :: (T.set q (.l (done ++ [h]))).set p (.l Rw))
      = .nx [some (.c 0), x1, x2, some (.c (T.length + 1)), x4, x5, x6, some (.c (q + 1)), some (.d (.int v)), x9] (.l ds' :: ((T.set q (.l (done ++ [h]))).set p (.l Rw) ++ [.l (Rw.filter nonNil)])) := by
    rw [sSet_ap, a9, List.map_id', newL_t]
    simp
  rw [bSteps, sSeq_nx s1, sSeq_nx s2, sSeq_nx s3, s4]
end As

namespace As
open PySem PySem.Spec PyProof.Rows L2
theorem rowD_ne (r : D × Nat) : rowD r ≠ [] := by
  obtain ⟨s, k⟩ := r
  match k with
  | 0 => simp [rowD]
  | 1 => simp [rowD]
  | k + 2 => simp [rowD]
def rowsD (rows : List (D × Nat)) : List D := (rows.map rowD).map .lst
theorem rowsD_filter (rows : List (D × Nat)) : (rowsD rows).filter nonNil = rowsD rows := by
  unfold rowsD
  refine List.filter_eq_self.mpr fun d hd => ?_
  obtain ⟨l, hl, rfl⟩ := List.mem_map.mp hd
  obtain ⟨r, _, rfl⟩ := List.mem_map.mp hl
  have := rowD_ne r
  cases e : rowD r with
  | nil => exact absurd e this
  | cons a b => simp [nonNil]
theorem set_mid (pre post : List (D × Nat)) (r : D × Nat) (t : List D) : ((((pre ++ r :: post).map rowD).set pre.length t).map D.lst).filter nonNil = rowsD pre ++ (if t.isEmpty then [] else [.lst t]) ++ rowsD post := by
  have e : ((pre ++ r :: post).map rowD).set pre.length t = pre.map rowD ++ t :: post.map rowD := by
    rw [List.map_append, List.map_cons, List.set_append_right _ _ (by simp)]
    simp
  rw [e, List.map_append, List.map_cons, List.filter_append, List.filter_cons]
  have h1 := rowsD_filter pre
  have h2 := rowsD_filter post
  unfold rowsD at h1 h2
  rw [h1, h2]
  cases t <;> simp [nonNil, rowsD]
theorem RInv.move {m : Int} {Tg : List D} {rows : List (D × Nat)} {done : List D} {v : Nat} {h : D} {t : List D} (I : RInv m Tg rows done) (e : (rows.map rowD)[v]? = some (h :: t)) :
    ∃ rows', RInv m Tg rows' (done ++ [h]) ∧ tot rows' + 1 = tot rows ∧ ((((rows.map rowD).set v t).map D.lst).filter nonNil) = rowsD rows' := by
  have hv : v < rows.length := by
    have := (List.getElem?_eq_some_iff.mp e).1
    simpa using this
  have er : rowD rows[v] = h :: t := by
    rw [List.getElem?_map, List.getElem?_eq_getElem hv] at e
    exact Option.some.inj e
  obtain ⟨pre, post, r, hr, hlen, hre⟩ : ∃ pre post r, rows = pre ++ r :: post ∧ pre.length = v ∧ r = rows[v] := by
    refine ⟨rows.take v, rows.drop (v + 1), rows[v], ?_, by simp; omega, rfl⟩
    rw [List.getElem_cons_drop, List.take_append_drop]
  rw [← hre] at er
  clear hre e
  subst hr hlen
  obtain ⟨s, k⟩ := r
  match k with
  | 0 =>
    have e1 : h = rdS s ∧ t = [] := by
      rw [rowD] at er
      injection er with a b
      exact ⟨a.symm, b.symm⟩
    obtain ⟨rfl, rfl⟩ := e1
    refine ⟨pre ++ post, I.one (.inl ⟨rfl, rfl⟩), ?_, ?_⟩
    · rw [tot_app, tot_app, tot_cons, rowD]
      simp
      omega
    · rw [set_mid]
      simp [rowsD]
  | 1 =>
    have e1 : h = wrS s ∧ t = [] := by
      rw [rowD] at er
      injection er with a b
      exact ⟨a.symm, b.symm⟩
    obtain ⟨rfl, rfl⟩ := e1
    refine ⟨pre ++ post, I.one (.inr ⟨rfl, rfl⟩), ?_, ?_⟩
    · rw [tot_app, tot_app, tot_cons, rowD]
      simp
      omega
    · rw [set_mid]
      simp [rowsD]
  | k + 2 =>
    have e1 : h = rdS s ∧ t = [wrS s] := by
      have er' : [rdS s, wrS s] = h :: t := er
      injection er' with a b
      exact ⟨a.symm, b.symm⟩
    obtain ⟨rfl, rfl⟩ := e1
    refine ⟨pre ++ (s, 1) :: post, I.two, ?_, ?_⟩
    · rw [tot_app, tot_app, tot_cons, tot_cons]
      have e1 : (rowD (s, k + 2)).length = 2 := rfl
      have e2 : (rowD (s, 1)).length = 1 := rfl
      omega
    · rw [set_mid]
      simp [rowsD, rowD]
noncomputable def tSteps : Env → Store → Rs Bool := fB (fOp oNe (fVar 3) (fApp (mkL false) aNil))
theorem tot_len (rows : List (D × Nat)) : rows.length ≤ tot rows := by
  induction rows with
  | nil => simp [tot]
  | cons r rows ih =>
    rw [tot_cons, List.length_cons]
    have : 0 < (rowD r).length := List.length_pos_iff.mpr (rowD_ne r)
    omega
theorem e_while {m : Int} {Tg : List D} {q lo : Nat} {x1 x2 x4 x5 x6 x9 : Option W} (hlq : lo ≤ q) : ∀ (n f : Nat) {rows : List (D × Nat)} {done ds : List D} {T : Store} {p : Nat} {x8 : Option W}, n < f → tot rows = n → RInv m Tg rows done → stOk ds → T[p]? = some (.l (rowsD rows)) → T[q]? = some (.l done) → q ≠ p → lo ≤ p →
    ∃ ds' T' p' x8' done', whL tSteps bSteps f [some (.c 0), x1, x2, some (.c (p + 1)), x4, x5, x6, some (.c (q + 1)), x8, x9] (.l ds :: T) = .nx [some (.c 0), x1, x2, some (.c (p' + 1)), x4, x5, x6, some (.c (q + 1)), x8', x9] (.l ds' :: T') ∧
      stOk ds' ∧ T'[q]? = some (.l done') ∧ RInv m Tg [] done' ∧ done'.length = done.length + n ∧ T'.take lo = T.take lo := by
  intro n
  induction n with
  | zero =>
    intro f rows done ds T p x8 hf hn I hst hp hq hpq hlp
    obtain ⟨f, rfl⟩ : ∃ k, f = k + 1 := ⟨f - 1, by omega⟩
    have hr : rows = [] := List.eq_nil_of_length_eq_zero (by have := tot_len rows; omega)
    subst hr
    refine ⟨ds, T, p, x8, done, ?_, hst, hq, I, rfl, rfl⟩
    have h1 := rdWc (c := .l ds) hp
    rw [whL]
    have : tSteps [some (.c 0), x1, x2, some (.c (p + 1)), x4, x5, x6, some (.c (q + 1)), x8, x9] (.l ds :: T) = .ok false (.l ds :: T) := by
      simp [tSteps, oNe, onDD, h1, hp, rdW, rowsD]
    rw [this]
    rfl
  | succ n ih =>
    intro f rows done ds T p x8 hf hn I hst hp hq hpq hlp
    obtain ⟨f, rfl⟩ : ∃ k, f = k + 1 := ⟨f - 1, by omega⟩
    have hrl : 0 < rows.length := by
      cases rows with
      | nil => simp [tot] at hn
      | cons r rows => simp
    have hl := I.ln
    have hl2 := tot_len rows
    have h1 := rdWc (c := .l ds) hp
    obtain ⟨v, ds1, x8', h, t, hv, hs1, hb⟩ := e_body (x1 := x1) (x2 := x2) (x4 := x4) (x5 := x5) (x6 := x6) (x8 := x8) (x9 := x9) hst (Rs := rows.map rowD) (p := p) (q := q) hp hq hpq (by simpa using hrl) (by simp; omega) (fun r hr => by
      obtain ⟨a, _, rfl⟩ := List.mem_map.mp hr
      exact rowD_ne a) (by omega)
    obtain ⟨rows', I', ht, hrw⟩ := I.move hv
    rw [hrw] at hb
    have hplen : p < T.length := (List.getElem?_eq_some_iff.mp hp).1
    have hqlen : q < T.length := (List.getElem?_eq_some_iff.mp hq).1
    have g1 : (((T.set q (.l (done ++ [h]))).set p (.l (((rows.map rowD).set v t).map .lst))) ++ [.l (rowsD rows')])[T.length]? = some (.l (rowsD rows')) := by
      rw [List.getElem?_append_right (by simp)]
      simp
    have g2 : (((T.set q (.l (done ++ [h]))).set p (.l (((rows.map rowD).set v t).map .lst))) ++ [.l (rowsD rows')])[q]? = some (.l (done ++ [h])) := by
      rw [List.getElem?_append_left (by simpa using hqlen), List.getElem?_set_ne (Ne.symm hpq), List.getElem?_set_self hqlen]
    obtain ⟨ds', T', p', x8'', done', hw, a, b, c, d, e⟩ := ih f (rows := rows') (done := done ++ [h]) (ds := ds1) (T := ((T.set q (.l (done ++ [h]))).set p (.l (((rows.map rowD).set v t).map .lst))) ++ [.l (rowsD rows')]) (p := T.length) (x8 := x8') (by omega) (by omega) I' hs1 g1 g2 (by omega) (by omega)
    refine ⟨ds', T', p', x8'', done', ?_, a, b, c, ?_, ?_⟩
    · rw [whL]
      have : tSteps [some (.c 0), x1, x2, some (.c (p + 1)), x4, x5, x6, some (.c (q + 1)), x8, x9] (.l ds :: T) = .ok true (.l ds :: T) := by
        have hr : rows ≠ [] := fun z => by rw [z] at hrl; exact absurd hrl (by simp)
        simp [tSteps, oNe, onDD, h1, hp, rdW, rowsD, hr]
      rw [this, Rs.st_ok, if_pos rfl, hb]
      exact hw
    · rw [d, List.length_append]
      simp
      omega
    · rw [e, List.take_append_of_le_length (by simp; omega), List.take_set_of_le hlp, List.take_set_of_le hlq]
end As

namespace As
open PySem PySem.Spec PyProof.Rows L2
noncomputable def bFill : Sm := (sSeq (sSet 6 (fApp FLDigit (aCons (fVar 0) (aCons (fK (.d (.int 3))) aNil))))
      (sIf (tAndF (fB (fOp oEq (fVar 6) (fK (.d (.int 2))))) (fB (fOp oGt (fVar 4) (fK (.d (.int 0))))))
      (sSeq (sExpr (fMt (fun x S => isCl x S = true) mApp (fVar 3) (aCons (fApp (mkL false) (aCons (fApp mkT (aCons (fK (.d (.str "read"))) (aCons (fVar 5) aNil))) (aCons (fApp mkT (aCons (fK (.d (.str "write"))) (aCons (fVar 5) aNil))) aNil))) aNil)))
        (sSet 4 (fOp oSub (fVar 4) (fK (.d (.int 1)))))) (sExpr (fMt (fun x S => isCl x S = true) mApp (fVar 3) (aCons (fApp (mkL false) (aCons (fApp mkT (aCons (fOp oIx (fApp (mkL false) (aCons (fK (.d (.str "read"))) (aCons (fK (.d (.str "write"))) aNil))) (fOp oMod (fVar 6) (fK (.d (.int 2))))) (aCons (fVar 5) aNil))) aNil)) aNil)))))
@[simp] theorem mkL1 (a : D) (S : Store) : mkL false [.d a] S = .ok (.d (.lst [a])) S := mkL_ds false [a] S (by simp)
theorem rowsD_snoc (rows : List (D × Nat)) (r : D × Nat) : rowsD rows ++ [.lst (rowD r)] = rowsD (rows ++ [r]) := by simp [rowsD]
theorem mAppC {c : Cell} {T : Store} {p : Nat} {xs : List D} {d : D} (h : T[p]? = some (.l xs)) (hl : xs.length < 100000) : mApp (.c (p + 1)) [.d d] (c :: T) = .ok (.d .non) (c :: T.set p (.l (xs ++ [d]))) := by simp [mApp, h, hl]
theorem e_fill1 {ds : List D} {T : Store} {p : Nat} {rows : List (D × Nat)} {left : Int} {slot : D} {x1 x2 x6 x7 x8 x9 : Option W} (hst : stOk ds) (hp : T[p]? = some (.l (rowsD rows))) (hl : rows.length ≤ 6) :
    ∃ ds' k left' x6', stOk ds' ∧ (left' = left ∧ (rowD (slot, k)).length = 1 ∨ left' = left - 1 ∧ 0 < left ∧ (rowD (slot, k)).length = 2) ∧
      bFill [some (.c 0), x1, x2, some (.c (p + 1)), some (.d (.int left)), some (.d slot), x6, x7, x8, x9] (.l ds :: T) = .nx [some (.c 0), x1, x2, some (.c (p + 1)), some (.d (.int left')), some (.d slot), x6', x7, x8, x9] (.l ds' :: T.set p (.l (rowsD (rows ++ [(slot, k)])))) := by
  obtain ⟨v, ds', e, h0, h1, h2⟩ := e_dig (m := 3) hst (by omega) (by omega) T
  have a1 := isClc (c := .l ds') hp
  have hrl : (rowsD rows).length < 100000 := by simp [rowsD]; omega
  by_cases h3 : v = 2 ∧ 0 < left
  · obtain ⟨rfl, hleft⟩ := h3
    refine ⟨ds', 2, left - 1, some (.d (.int 2)), h2, .inr ⟨rfl, hleft, rfl⟩, ?_⟩
    have a2 := mAppC (c := .l ds') (d := .lst [rdS slot, wrS slot]) hp hrl
    rw [show D.lst [rdS slot, wrS slot] = .lst (rowD (slot, 2)) from rfl, rowsD_snoc] at a2
    simp [bFill, e, hleft, a1]
    rw [show D.lst [.tup [.str "read", slot], .tup [.str "write", slot]] = .lst (rowD (slot, 2)) from rfl, a2]
    simp
  · have h4 : v % 2 = 0 ∨ v % 2 = 1 := by omega
    have h5 : v = 0 ∨ v = 1 ∨ v = 2 := by omega
    have goal : ∀ k w, (k = 0 ∧ w = "read" ∨ k = 1 ∧ w = "write") → v % 2 = (k : Nat) → bFill [some (.c 0), x1, x2, some (.c (p + 1)), some (.d (.int left)), some (.d slot), x6, x7, x8, x9] (.l ds :: T) = .nx [some (.c 0), x1, x2, some (.c (p + 1)), some (.d (.int left)), some (.d slot), some (.d (.int v)), x7, x8, x9] (.l ds' :: T.set p (.l (rowsD (rows ++ [(slot, k)])))) := by
      intro k w hk hv
      have a2 := mAppC (c := .l ds') (d := .lst (rowD (slot, k))) hp hrl
      rw [rowsD_snoc] at a2
      have a3 : oIx (.d (.lst [.str "read", .str "write"])) (.d (.int (v % 2))) (.l ds' :: T) = .ok (.d (.str w)) (.l ds' :: T) := by
        rw [hv]
        refine ixAt (xs := [.str "read", .str "write"]) rfl ?_
        rcases hk with ⟨rfl, rfl⟩ | ⟨rfl, rfl⟩ <;> rfl
      have a4 : D.lst [.tup [.str w, slot]] = .lst (rowD (slot, k)) := by
        rcases hk with ⟨rfl, rfl⟩ | ⟨rfl, rfl⟩ <;> rfl
      by_cases h6 : v = 2
      · have h7 : ¬ 0 < left := fun z => h3 ⟨h6, z⟩
        subst h6
        rw [show (2 : Int) % 2 = 0 from rfl] at a3
        simp [bFill, e, h7, a1, a3, a4, a2]
      · simp [bFill, e, h6, a1, a3, a4, a2]
    rcases h4 with h4 | h4
    · exact ⟨ds', 0, left, _, h2, .inl ⟨rfl, rfl⟩, goal 0 "read" (.inl ⟨rfl, rfl⟩) h4⟩
    · exact ⟨ds', 1, left, _, h2, .inl ⟨rfl, rfl⟩, goal 1 "write" (.inr ⟨rfl, rfl⟩) h4⟩
theorem e_fill {kk p : Nat} {sl : List D} {x1 x2 x7 x8 x9 : Option W} (hkp : kk ≠ p) : ∀ {sl' : List D} {ds : List D} {T : Store} {rows : List (D × Nat)} {left : Int} {x5 x6 : Option W}, stOk ds → T[kk]? = some (.l sl) → T[p]? = some (.l (rowsD rows)) → rows.length + sl'.length ≤ 6 → 0 ≤ left →
    ∃ ds' rows' left' x5' x6', stOk ds' ∧ 0 ≤ left' ∧ rows'.map (·.1) = rows.map (·.1) ++ sl' ∧ (tot rows' : Int) + left' = tot rows + left + sl'.length ∧
      forL (.n 5) (fun S => S[kk + 1]? = some (.l sl)) bFill (sl'.map .d) [some (.c 0), x1, x2, some (.c (p + 1)), some (.d (.int left)), x5, x6, x7, x8, x9] (.l ds :: T) = .nx [some (.c 0), x1, x2, some (.c (p + 1)), some (.d (.int left')), x5', x6', x7, x8, x9] (.l ds' :: T.set p (.l (rowsD rows')))
  | [], ds, T, rows, left, x5, x6, hst, hk, hp, hl, h0 => by
    refine ⟨ds, rows, left, x5, x6, hst, h0, by simp, by simp, ?_⟩
    rw [List.map_nil, forL, if_pos (by simpa using hk)]
    have : T.set p (.l (rowsD rows)) = T := by
      have hpl := (List.getElem?_eq_some_iff.mp hp)
      obtain ⟨h1, h2⟩ := hpl
      rw [← h2, List.set_getElem_self]
    rw [this]
  | s :: sl', ds, T, rows, left, x5, x6, hst, hk, hp, hl, h0 => by
    rw [List.length_cons] at hl
    obtain ⟨ds1, k, left1, x6', h1, h2, hb⟩ := e_fill1 (left := left) (slot := s) (x1 := x1) (x2 := x2) (x6 := x6) (x7 := x7) (x8 := x8) (x9 := x9) hst hp (by omega)
    have hpl := (List.getElem?_eq_some_iff.mp hp).1
    obtain ⟨ds', rows', left', x5', x6'', g1, g2, g3, g4, g5⟩ := e_fill (x1 := x1) (x2 := x2) (x7 := x7) (x8 := x8) (x9 := x9) hkp (sl' := sl') (ds := ds1) (T := T.set p (.l (rowsD (rows ++ [(s, k)])))) (rows := rows ++ [(s, k)]) (left := left1) (x5 := some (.d s)) (x6 := x6') h1 (by rw [List.getElem?_set_ne (Ne.symm hkp), hk]) (by rw [List.getElem?_set_self hpl]) (by simp; omega) (by rcases h2 with ⟨a, _⟩ | ⟨a, b, _⟩ <;> omega)
    refine ⟨ds', rows', left', x5', x6'', g1, g2, ?_, ?_, ?_⟩
    · rw [g3]
      simp
    · rw [g4, tot_app, tot_cons, List.length_cons]
      have : tot [] = 0 := rfl
      rcases h2 with ⟨a, b⟩ | ⟨a, _, b⟩ <;> omega
    · rw [List.map_cons, forL, if_pos (by simpa using hk)]
      have hp' : bindP (.n 5) (.d s) [some (.c 0), x1, x2, some (.c (p + 1)), some (.d (.int left)), x5, x6, x7, x8, x9] = some [some (.c 0), x1, x2, some (.c (p + 1)), some (.d (.int left)), some (.d s), x6, x7, x8, x9] := rfl
      rw [hp']
      dsimp only
      rw [hb]
      dsimp only
      rw [g5, List.set_set]
theorem lowS_nil (n : Nat) : lowS n [] = true := rfl
theorem lowS_l (n : Nat) (ds : List D) (T : Store) : lowS n (.l ds :: T) = lowS n T := by rw [lowS]; rfl
theorem fnF_of {b : Bool} {n m : Nat} {f : Sm} {ws : List W} {S : Store} {ρ : Env} {o : Ou} (hl : ws.length = n) (hρ : ws.map some ++ List.replicate (m - ws.length) none = ρ) (h : f ρ S = o) : fnF b n m f ws S = fin b S.length o := by
  rw [fnF_ap, if_pos hl, hρ, h]
theorem fin_cut {n : Nat} {d : D} {S S' : Store} (h : S'.take n = S) (hl : lowS n S = true) : fin true n (.rt (.d d) S') = .ok (.d d) S := by
  show cutR true n (.d d) S' = _
  unfold cutR
  rw [if_pos rfl, cutW, h]
  dsimp only
  rw [if_pos hl]
theorem gLSteps_eq : gLSteps = (sSeq (sSet 3 (fApp (mkL true) aNil))
    (sSeq (sSet 4 (fOp oSub (fVar 2) (fApp aLen (aCons (fVar 1) aNil))))
    (sSeq (sFor (iList (fVar 1)) (.n 5) bFill)
    (sSeq (sSet 7 (fApp (mkL true) aNil))
    (sSeq (fun ρ S => whL tSteps bSteps 100 ρ S)
    (sRet (fApp aTuple (aCons (fVar 7) aNil)))))))) := rfl
theorem e_lsteps {ds sl : List D} {T : Store} {kk : Nat} {m : Int} (hst : stOk ds) (hk : T[kk]? = some (.l sl)) (hT : lowS (T.length + 1) T = true) (hsl : ∀ s ∈ sl, slotB s m = true) (hnd : sl.Nodup) (hl : sl.length ≤ 6) :
    ∃ ds' done, FLSteps [.c 0, .c (kk + 1), .d (.int 6)] (.l ds :: T) = .ok (.d (.tup done)) (.l ds' :: T) ∧ stOk ds' ∧ sl.length ≤ done.length ∧ done.length ≤ 6 ∧ (∀ d ∈ done, stepB d m = true) ∧ ordB done = true ∧ ∀ s ∈ sl, s ∈ done.map slotOf := by
  have hkl := (List.getElem?_eq_some_iff.mp hk).1
  have a1 := itWc (c := .l ds) hk
  -- the rows
  have T1 : (T ++ [Cell.l []])[T.length]? = some (.l (rowsD [])) := by
    rw [List.getElem?_append_right (Nat.le_refl _)]
    simp [rowsD]
  have T1k : (T ++ [Cell.l []])[kk]? = some (.l sl) := by rw [List.getElem?_append_left hkl, hk]
  obtain ⟨ds1, rows, left, x5, x6, h1, h2, h3, h4, h5⟩ := e_fill (kk := kk) (p := T.length) (sl := sl) (x1 := some (.c (kk + 1))) (x2 := some (.d (.int 6))) (x7 := none) (x8 := none) (x9 := none) (by omega) (sl' := sl) (rows := []) (left := 6 - sl.length) (x5 := none) (x6 := none) hst T1k T1 (by simpa using hl) (by omega)
  have ht0 : tot [] = 0 := rfl
  rw [List.map_nil, List.nil_append] at h3
  have e2 : (T ++ [Cell.l []]).set T.length (.l (rowsD rows)) = T ++ [.l (rowsD rows)] := by
    rw [List.set_append_right _ _ (Nat.le_refl _)]
    simp
  rw [e2] at h5
  have I0 : RInv m sl rows [] := ⟨fun r hr => hsl r.1 (by rw [← h3]; exact List.mem_map_of_mem hr), by rw [h3]; exact hnd, fun d hd => absurd hd List.not_mem_nil, rfl, fun r _ => List.not_mem_nil, fun r _ _ => List.not_mem_nil, by simp; omega, fun t ht => .inr (by rw [h3]; exact ht)⟩
  have T2 : (T ++ [Cell.l (rowsD rows)] ++ [.l []])[T.length]? = some (.l (rowsD rows)) := by
    rw [List.getElem?_append_left (by simp), List.getElem?_append_right (Nat.le_refl _)]
    simp
  have T2q : (T ++ [Cell.l (rowsD rows)] ++ [.l []])[T.length + 1]? = some (.l []) := by
    rw [List.getElem?_append_right (by simp)]
    simp
  obtain ⟨ds2, T', p', x8', done, w1, w2, w3, w4, w5, w6⟩ := e_while (m := m) (Tg := sl) (q := T.length + 1) (lo := T.length) (x1 := some (.c (kk + 1))) (x2 := some (.d (.int 6))) (x4 := some (.d (.int left))) (x5 := x5) (x6 := x6) (x9 := none) (by omega) (tot rows) 100 (rows := rows) (done := []) (ds := ds1) (T := T ++ [Cell.l (rowsD rows)] ++ [.l []]) (p := T.length) (x8 := none) (by omega) rfl I0 h1 T2 T2q (by omega) (by omega)
  have wl : T'.take T.length = T := by
    rw [w6, List.append_assoc, List.take_append_of_le_length (Nat.le_refl _), List.take_length]
  refine ⟨ds2, done, ?_, w2, ?_, ?_, w4.st, w4.od, fun s hs => ?_⟩
  · have hlen : ([W.c 0, W.c (kk + 1), W.d (.int 6)] : List W).length = 3 := rfl
    have s1 : sSet 3 (fApp (mkL true) aNil) [some (.c 0), some (.c (kk + 1)), some (.d (.int 6)), none, none, none, none, none, none, none] (.l ds :: T)
        = .nx [some (.c 0), some (.c (kk + 1)), some (.d (.int 6)), some (.c (T.length + 1)), none, none, none, none, none, none] (.l ds :: (T ++ [.l []])) := by simp
    have s2 : sSet 4 (fOp oSub (fVar 2) (fApp aLen (aCons (fVar 1) aNil))) [some (.c 0), some (.c (kk + 1)), some (.d (.int 6)), some (.c (T.length + 1)), none, none, none, none, none, none] (.l ds :: (T ++ [.l []]))
        = .nx [some (.c 0), some (.c (kk + 1)), some (.d (.int 6)), some (.c (T.length + 1)), some (.d (.int (6 - sl.length))), none, none, none, none, none] (.l ds :: (T ++ [.l []])) := by
      simp [itWc (c := .l ds) T1k]
    have s3 : sFor (iList (fVar 1)) (.n 5) bFill [some (.c 0), some (.c (kk + 1)), some (.d (.int 6)), some (.c (T.length + 1)), some (.d (.int (6 - sl.length))), none, none, none, none, none] (.l ds :: (T ++ [.l []]))
        = .nx [some (.c 0), some (.c (kk + 1)), some (.d (.int 6)), some (.c (T.length + 1)), some (.d (.int left)), x5, x6, none, none, none] (.l ds1 :: (T ++ [.l (rowsD rows)])) := by
      rw [sFor_ap, iListC (p := kk + 1) (xs := sl) (S' := .l ds :: (T ++ [.l []])) (by simp) (by simpa using T1k), Rs.st_ok]
      exact h5
    have s4 : sSet 7 (fApp (mkL true) aNil) [some (.c 0), some (.c (kk + 1)), some (.d (.int 6)), some (.c (T.length + 1)), some (.d (.int left)), x5, x6, none, none, none] (.l ds1 :: (T ++ [.l (rowsD rows)]))
        = .nx [some (.c 0), some (.c (kk + 1)), some (.d (.int 6)), some (.c (T.length + 1)), some (.d (.int left)), x5, x6, some (.c (T.length + 1 + 1)), none, none] (.l ds1 :: (T ++ [.l (rowsD rows)] ++ [.l []])) := by simp
    have s6 : sRet (fApp aTuple (aCons (fVar 7) aNil)) [some (.c 0), some (.c (kk + 1)), some (.d (.int 6)), some (.c (p' + 1)), some (.d (.int left)), x5, x6, some (.c (T.length + 1 + 1)), x8', none] (.l ds2 :: T')
        = .rt (.d (.tup done)) (.l ds2 :: T') := by
      simp [aTuple, itWc (c := .l ds2) w3]
    have hf : gLSteps [some (.c 0), some (.c (kk + 1)), some (.d (.int 6)), none, none, none, none, none, none, none] (.l ds :: T) = .rt (.d (.tup done)) (.l ds2 :: T') := by
      rw [gLSteps_eq, sSeq_nx s1, sSeq_nx s2, sSeq_nx s3, sSeq_nx s4, sSeq_nx w1, s6]
    have ec : (Cell.l ds2 :: T').take (Cell.l ds :: T).length = .l ds2 :: T := by
      rw [List.length_cons, List.take_succ_cons, wl]
    have el : lowS (Cell.l ds :: T).length (.l ds2 :: T) = true := by rw [lowS_l]; exact hT
    exact (fnF_of (b := true) (n := 3) (m := 10) (ws := [.c 0, .c (kk + 1), .d (.int 6)]) rfl rfl hf).trans (fin_cut ec el)
  · have : rows.length = sl.length := by rw [← h3, List.length_map]
    have := tot_len rows
    rw [w5]
    simp
    omega
  · rw [w5]
    simp
    omega
  · rcases w4.cov s hs with h | h
    · exact h
    · exact absurd h (by simp)
end As

namespace As
open PySem PySem.Spec PyProof.Rows L2
theorem mkL5 (a b c d e : D) (S : Store) : mkL false [.d a, .d b, .d c, .d d, .d e] S = .ok (.d (.lst [a, b, c, d, e])) S := mkL_ds false [a, b, c, d, e] S (by simp)
theorem compL_draw {i : Nat} {g : Store → Prop} {fe : Env → Store → Rs W} {ρw : Env} {T : Store} {P : D → Prop} (hg : ∀ S, g S) (h : ∀ (k : Int) (ds : List D), stOk ds → ∃ d ds', fe (ρw.set i (some (.d (.int k)))) (.l ds :: T) = .ok (.d d) (.l ds' :: T) ∧ stOk ds' ∧ P d) :
    ∀ (n : Nat) (lo : Int) (ds : List D), stOk ds → ∃ es ds', compL (.n i) g tYesF fe ρw (rngW lo n) (.l ds :: T) = .ok es (.l ds' :: T) ∧ stOk ds' ∧ es.length = n ∧ ∀ e ∈ es, P e
  | 0, lo, ds, hst => ⟨[], ds, by rw [rngW, compL, if_pos (hg _)], hst, rfl, fun e he => absurd he List.not_mem_nil⟩
  | n + 1, lo, ds, hst => by
    obtain ⟨d, ds1, h1, h2, h3⟩ := h lo ds hst
    obtain ⟨es, ds2, g1, g2, g3, g4⟩ := compL_draw hg h n (lo + 1) ds1 h2
    refine ⟨d :: es, ds2, ?_, g2, by simp [g3], fun e he => ?_⟩
    · rw [rngW, compL, if_pos (hg _), bindP]
      dsimp only [tYesF]
      rw [h1]
      dsimp only
      rw [g1]
    · rcases List.mem_cons.mp he with rfl | he
      · exact h3
      · exact g4 e he
theorem e_of5 {ds : List D} {T : Store} {a b c d : D} {fe : Env → Store → Rs W} {ρ : Env} {P : D → Prop} (hst : stOk ds) (ha : P a) (hb : P b) (hc : P c) (hd : P d) {fa fb fc fd : Env → Store → Rs W} (ea : ∀ S, fa ρ S = .ok (.d a) S) (eb : ∀ S, fb ρ S = .ok (.d b) S) (ec : ∀ S, fc ρ S = .ok (.d c) S) (ed : ∀ S, fd ρ S = .ok (.d d) S)
    (h0 : fVar 0 ρ = fun S => .ok (.c 0) S) (hf : ∃ e ds', fe ρ (.l ds :: T) = .ok (.d e) (.l ds' :: T) ∧ stOk ds' ∧ P e) :
    ∃ e ds', fApp FLOf (aCons (fVar 0) (aCons (fApp (mkL false) (aCons fa (aCons fb (aCons fc (aCons fd (aCons fe aNil)))))) aNil)) ρ (.l ds :: T) = .ok (.d e) (.l ds' :: T) ∧ stOk ds' ∧ P e := by
  obtain ⟨e, ds1, h1, h2, h3⟩ := hf
  obtain ⟨x, ds2, g1, g2, g3⟩ := e_of (es := [a, b, c, d, e]) h2 (by simp) (by simp) T
  refine ⟨x, ds2, ?_, g3, ?_⟩
  · rw [fApp_ap, aCons_ap, h0]
    simp only [Rs.bind_ok, aCons_ap, aNil_ap, fApp_ap, ea, eb, ec, ed, h1, mkL5, g1]
  · simp only [List.mem_cons, List.not_mem_nil, or_false] at g2
    rcases g2 with rfl | rfl | rfl | rfl | rfl <;> assumption
def bxD (i : D) : D := .tup [.str "box", i]
def kyD (i : Int) : D := .tup [.str "key", .int i]
noncomputable def bBox : Sm := (sSeq (sSet 7 (fApp FLOf (aCons (fVar 0) (aCons (fApp (mkL false) (aCons (fK (.d (.int 0))) (aCons (fK (.d (.int 0))) (aCons (fK (.d (.int 1))) (aCons (fK (.d (.int 2))) (aCons (fApp FLDigit (aCons (fVar 0) (aCons (fOp oPow (fK (.d (.int 10))) (fK (.d (.int 6)))) aNil))) aNil)))))) aNil))))
      (sIf (fB (fOp oNotIn (fApp mkT (aCons (fK (.d (.str "box"))) (aCons (fVar 7) aNil))) (fVar 6)))
      (sExpr (fMt (fun x S => isCl x S = true) mApp (fVar 6) (aCons (fApp mkT (aCons (fK (.d (.str "box"))) (aCons (fVar 7) aNil))) aNil))) sNil))
def bxOk (d : D) : Prop := ∃ i : Int, d = .int i ∧ 0 ≤ i ∧ i < 1000000
theorem bx_slot {d : D} {m : Int} (h : bxOk d) : slotB (bxD d) m = true := by
  obtain ⟨i, rfl, h1, h2⟩ := h
  simp [bxD, slotB, eqS, numB, h1, h2]
theorem e_box1 {ds sl : List D} {m : Int} {x1 x2 x3 x4 x5 x7 : Option W} (hst : stOk ds) (hsl : ∀ s ∈ sl, slotB s m = true) (hnd : sl.Nodup) (hl : sl.length ≤ 10) :
    ∃ ds' sl' x7', stOk ds' ∧ (∀ s ∈ sl', slotB s m = true) ∧ sl'.Nodup ∧ sl'.length ≤ sl.length + 1 ∧ (∀ s ∈ sl, s ∈ sl') ∧
      bBox [some (.c 0), x1, x2, x3, x4, x5, some (.c 1), x7] [.l ds, .l sl] = .nx [some (.c 0), x1, x2, x3, x4, x5, some (.c 1), x7'] [.l ds', .l sl'] := by
  have cp : CPow 10 6 := by unfold CPow; decide
  obtain ⟨b, ds1, h1, h2, h3⟩ := e_of5 (ds := ds) (T := [.l sl]) (P := bxOk) (ρ := [some (.c 0), x1, x2, x3, x4, x5, some (.c 1), x7]) (a := .int 0) (b := .int 0) (c := .int 1) (d := .int 2) (fa := fK (.d (.int 0))) (fb := fK (.d (.int 0))) (fc := fK (.d (.int 1))) (fd := fK (.d (.int 2)))
    (fe := fApp FLDigit (aCons (fVar 0) (aCons (fOp oPow (fK (.d (.int 10))) (fK (.d (.int 6)))) aNil))) hst ⟨0, rfl, by decide, by decide⟩ ⟨0, rfl, by decide, by decide⟩ ⟨1, rfl, by decide, by decide⟩ ⟨2, rfl, by decide, by decide⟩ (fun _ => rfl) (fun _ => rfl) (fun _ => rfl) (fun _ => rfl) rfl (by
      obtain ⟨v, ds', e, g0, g1, g2⟩ := e_dig (m := 1000000) hst (by omega) (by omega) [.l sl]
      refine ⟨.int v, ds', ?_, g2, v, rfl, g0, g1⟩
      simp [cp, e])
  have hb : slotB (bxD b) m = true := bx_slot h3
  have o1 : okD (bxD b) = true := okK_D (slotB_ok hb) (by decide)
  have o2 : okD (.lst sl) = true := okK_D (okK_lst (n := 1) fun d hd => slotB_ok (hsl d hd)) (by decide)
  have s1 : sSet 7 (fApp FLOf (aCons (fVar 0) (aCons (fApp (mkL false) (aCons (fK (.d (.int 0))) (aCons (fK (.d (.int 0))) (aCons (fK (.d (.int 1))) (aCons (fK (.d (.int 2))) (aCons (fApp FLDigit (aCons (fVar 0) (aCons (fOp oPow (fK (.d (.int 10))) (fK (.d (.int 6)))) aNil))) aNil)))))) aNil))) [some (.c 0), x1, x2, x3, x4, x5, some (.c 1), x7] [.l ds, .l sl]
      = .nx [some (.c 0), x1, x2, x3, x4, x5, some (.c 1), some (.d b)] [.l ds1, .l sl] := by
    rw [sSet_ap, h1]
    rfl
  have hin : oNotIn (.d (bxD b)) (.c 1) [.l ds1, .l sl] = .ok (.d (.bl (!inB (bxD b) sl))) [.l ds1, .l sl] := by
    show kIn true (bxD b) (.lst sl) [.l ds1, .l sl] = _
    rw [kIn_l]
    exact kInO_ok o1 o2
  by_cases hm : bxD b ∈ sl
  · refine ⟨ds1, sl, some (.d b), h2, hsl, hnd, by omega, fun s hs => hs, ?_⟩
    have hi := (inB_slot hb hsl).mpr hm
    rw [bBox, sSeq_nx s1]
    rw [hi] at hin
    simp [bxD] at hin
    simp [hin]
  · refine ⟨ds1, sl ++ [bxD b], some (.d b), h2, fun s hs => ?_, ?_, by simp, fun s hs => List.mem_append_left _ hs, ?_⟩
    · rcases List.mem_append.mp hs with h | h
      · exact hsl s h
      · rw [List.mem_singleton.mp h]
        exact hb
    · rw [List.nodup_append]
      refine ⟨hnd, by simp, fun a ha c hc e => ?_⟩
      rw [List.mem_singleton.mp hc] at e
      exact hm (e ▸ ha)
    · have hi : inB (bxD b) sl = false := by
        rw [Bool.eq_false_iff]
        exact fun z => hm ((inB_slot hb hsl).mp z)
      rw [bBox, sSeq_nx s1]
      rw [hi] at hin
      have hc := isClc (c := .l ds1) (T := [.l sl]) (p := 0) (xs := sl) rfl
      have ha := mAppC (c := .l ds1) (T := [.l sl]) (p := 0) (xs := sl) (d := bxD b) rfl (by omega)
      simp [bxD] at hin ha hc
      simp [hin, hc, ha]
      simp [bxD]
theorem e_boxes {m : Int} {x1 x2 x3 x5 : Option W} : ∀ (n : Nat) (lo : Int) {ds sl : List D} {x4 x7 : Option W}, stOk ds → (∀ s ∈ sl, slotB s m = true) → sl.Nodup → sl.length + n ≤ 10 →
    ∃ ds' sl' x4' x7', stOk ds' ∧ (∀ s ∈ sl', slotB s m = true) ∧ sl'.Nodup ∧ sl'.length ≤ sl.length + n ∧ (∀ s ∈ sl, s ∈ sl') ∧
      forL (.n 4) (fun _ => True) bBox (rngW lo n) [some (.c 0), x1, x2, x3, x4, x5, some (.c 1), x7] [.l ds, .l sl] = .nx [some (.c 0), x1, x2, x3, x4', x5, some (.c 1), x7'] [.l ds', .l sl']
  | 0, lo, ds, sl, x4, x7, hst, hsl, hnd, hl => ⟨ds, sl, x4, x7, hst, hsl, hnd, by omega, fun s hs => hs, by rw [rngW, forL, if_pos trivial]⟩
  | n + 1, lo, ds, sl, x4, x7, hst, hsl, hnd, hl => by
    obtain ⟨ds1, sl1, x7', a1, a2, a3, a4, a5, a6⟩ := e_box1 (x1 := x1) (x2 := x2) (x3 := x3) (x4 := some (.d (.int lo))) (x5 := x5) (x7 := x7) hst hsl hnd (by omega)
    obtain ⟨ds2, sl2, x4', x7'', b1, b2, b3, b4, b5, b6⟩ := e_boxes n (lo + 1) (x1 := x1) (x2 := x2) (x3 := x3) (x4 := some (.d (.int lo))) (x5 := x5) (x7 := x7') a1 a2 a3 (by omega)
    refine ⟨ds2, sl2, x4', x7'', b1, b2, b3, by omega, fun s hs => b5 s (a5 s hs), ?_⟩
    rw [rngW, forL, if_pos trivial]
    have hp : bindP (.n 4) (.d (.int lo)) [some (.c 0), x1, x2, x3, x4, x5, some (.c 1), x7] = some [some (.c 0), x1, x2, x3, some (.d (.int lo)), x5, some (.c 1), x7] := rfl
    rw [hp]
    dsimp only
    rw [a6]
    dsimp only
    rw [b6]
end As

namespace As
open PySem PySem.Spec PyProof.Rows L2
def tabOk (d : D) : Prop := whB d 1 9 = true
noncomputable def xTab : Env → Store → Rs W := fApp FLOf (aCons (fVar 0) (aCons (fApp (mkL false) (aCons (fK (.d (.int 1))) (aCons (fK (.d (.int 1))) (aCons (fK (.d (.int 1))) (aCons (fK (.d (.int 2))) (aCons (fOp oAdd (fK (.d (.int 1))) (fApp FLDigit (aCons (fVar 0) (aCons (fK (.d (.int 9))) aNil)))) aNil)))))) aNil))
theorem gLProgram_eq : gLProgram = (sSeq (sSet 3 (fApp FLDigit (aCons (fVar 0) (aCons (fOp oAdd (fVar 1) (fK (.d (.int 1)))) aNil))))
    (sSeq (sSet 5 (fApp aTuple (aCons (fLc false (iRange1 (aCons (fVar 3) aNil)) (.n 4) tYesF xTab [4]) aNil)))
    (sSeq (sSet 6 (fLc true (iRange1 (aCons (fVar 3) aNil)) (.n 4) tYesF (fApp mkT (aCons (fK (.d (.str "key"))) (aCons (fVar 4) aNil))) [4]))
    (sSeq (sFor (iRange1 (aCons (fApp FLDigit (aCons (fVar 0) (aCons (fK (.d (.int 3))) aNil))) aNil)) (.n 4) bBox)
    (sSeq (sIf (fB (fOp oEq (fVar 6) (fApp (mkL false) aNil)))
    (sSet 6 (fApp (mkL true) (aCons (fApp mkT (aCons (fK (.d (.str "box"))) (aCons (fApp FLDigit (aCons (fVar 0) (aCons (fK (.d (.int 3))) aNil))) aNil))) aNil))) sNil)
    (sRet (fApp mkT (aCons (fVar 5) (aCons (fApp FLSteps (aCons (fVar 0) (aCons (fVar 6) (aCons (fVar 2) aNil)))) aNil))))))))) := rfl
theorem key_slot {i m : Int} (h0 : 0 ≤ i) (h1 : i < m) : slotB (kyD i) m = true := by
  simp [kyD, slotB, eqS, numB, h0, h1]
  exact .inl (by decide)
theorem keys_nd (n : Nat) : ((List.range n).map fun j : Nat => kyD (j : Int)).Nodup := by
  refine List.pairwise_map.mpr (List.nodup_range.imp fun {a b} hab h => hab ?_)
  have h1 : ([.str "key", .int (a : Int)] : List D) = [.str "key", .int (b : Int)] := D.tup.inj h
  injection h1 with _ h2
  injection h2 with h3
  have := D.int.inj h3
  omega
@[simp] theorem mkL1t (a : D) (S : Store) : mkL true [.d a] S = .ok (.c S.length) (S ++ [.l [a]]) := mkL_ds true [a] S (by simp)
theorem prog_of {ts done sl : List D} (h1 : ts.length ≤ 3) (h2 : ∀ t ∈ ts, tabOk t) (d1 : 1 ≤ done.length) (d2 : done.length ≤ 6) (d3 : ∀ d ∈ done, stepB d ts.length = true) (d4 : ordB done = true) (d5 : ∀ s ∈ sl, s ∈ done.map slotOf) (d6 : ∀ j : Nat, j < ts.length → kyD (j : Int) ∈ sl) : progB (.tup [.tup ts, .tup done]) = true := by
  have e1 : tabB (.tup ts) = true := by
    simp only [tabB, Bool.and_eq_true, decide_eq_true_eq, List.all_eq_true]
    exact ⟨h1, h2⟩
  have e2 : stepsB (.tup done) ts.length = true := by
    simp only [stepsB, Bool.and_eq_true, decide_eq_true_eq, List.all_eq_true]
    exact ⟨⟨⟨d1, d2⟩, d3⟩, d4⟩
  have e3 : covB ts.length done = true := by
    unfold covB
    rw [List.all_eq_true]
    intro j hj
    have hj' : j < ts.length := List.mem_range.mp hj
    refine (inB_slot (m := ts.length) (m' := ts.length) (key_slot (by omega) (by omega)) fun d hd => ?_).mpr (d5 _ (d6 j hj'))
    obtain ⟨s, hs, rfl⟩ := List.mem_map.mp hd
    obtain ⟨w, x, rfl, _, hx⟩ := stepB_eq (d3 s hs)
    exact hx
  simp only [progB, e1, e2, e3, Bool.and_self]
theorem e_program {ds : List D} (hst : stOk ds) : ∃ ds' ts done, FLProgram [.c 0, .d (.int 3), .d (.int 6)] [.l ds] = .ok (.d (.tup [.tup ts, .tup done])) [.l ds'] ∧ stOk ds' ∧ progB (.tup [.tup ts, .tup done]) = true := by
  obtain ⟨v, ds1, e1, v0, v1, s1⟩ := e_dig (m := 4) hst (by omega) (by omega) []
  obtain ⟨n, rfl⟩ : ∃ n : Nat, v = (n : Int) := ⟨v.toNat, by omega⟩
  -- tables
  obtain ⟨ts, ds2, e2, s2, l2, p2⟩ := compL_draw (i := 4) (g := fun _ => True) (fe := xTab) (ρw := [some (.c 0), some (.d (.int 3)), some (.d (.int 6)), some (.d (.int n)), none, none, none, none]) (T := []) (P := tabOk) (fun _ => trivial) (fun k ds hs => by
    refine e_of5 (P := tabOk) (a := .int 1) (b := .int 1) (c := .int 1) (d := .int 2) hs rfl rfl rfl rfl (fun _ => rfl) (fun _ => rfl) (fun _ => rfl) (fun _ => rfl) rfl ?_
    obtain ⟨v, ds', e, g0, g1, g2⟩ := e_dig (m := 9) hs (by omega) (by omega) []
    refine ⟨.int (1 + v), ds', ?_, g2, ?_⟩
    · simp [e]
    · simp [tabOk, whB]
      omega) n 0 ds1 s1
  have a1 : sSet 3 (fApp FLDigit (aCons (fVar 0) (aCons (fOp oAdd (fVar 1) (fK (.d (.int 1)))) aNil))) [some (.c 0), some (.d (.int 3)), some (.d (.int 6)), none, none, none, none, none] [.l ds]
      = .nx [some (.c 0), some (.d (.int 3)), some (.d (.int 6)), some (.d (.int n)), none, none, none, none] [.l ds1] := by
    simp [e1]
  have a2 : sSet 5 (fApp aTuple (aCons (fLc false (iRange1 (aCons (fVar 3) aNil)) (.n 4) tYesF xTab [4]) aNil)) [some (.c 0), some (.d (.int 3)), some (.d (.int 6)), some (.d (.int n)), none, none, none, none] [.l ds1]
      = .nx [some (.c 0), some (.d (.int 3)), some (.d (.int 6)), some (.d (.int n)), none, some (.d (.tup ts)), none, none] [.l ds2] := by
    rw [sSet_ap, fApp_ap, aCons_ap, fLc_of (ir1 (n := n) (S' := [.l ds1]) rfl (by omega)) (by rw [rngW_len]; omega) e2]
    simp [aTuple, newL_f]
  -- slots
  have a3 : sSet 6 (fLc true (iRange1 (aCons (fVar 3) aNil)) (.n 4) tYesF (fApp mkT (aCons (fK (.d (.str "key"))) (aCons (fVar 4) aNil))) [4]) [some (.c 0), some (.d (.int 3)), some (.d (.int 6)), some (.d (.int n)), none, some (.d (.tup ts)), none, none] [.l ds2]
      = .nx [some (.c 0), some (.d (.int 3)), some (.d (.int 6)), some (.d (.int n)), none, some (.d (.tup ts)), some (.c 1), none] [.l ds2, .l ((List.range n).map fun j : Nat => kyD (j : Int))] := by
    rw [sSet_ap, fLc_of (ir1 (n := n) (S' := [.l ds2]) rfl (by omega)) (by rw [rngW_len]; omega) (compL_range (S := [.l ds2]) (q := fun _ => true) (f := fun k => kyD k) (by trivial) (fun k _ _ => rfl) fun k _ _ _ => by simp [kyD]), List.filter_eq_self.mpr (by simp), List.map_map]
    simp only [newL_t, Rs.st_ok]
    simp
  obtain ⟨w, ds3, e3, w0, w1, s3⟩ := e_dig (m := 3) s2 (by omega) (by omega) [.l ((List.range n).map fun j : Nat => kyD (j : Int))]
  obtain ⟨k, rfl⟩ : ∃ k : Nat, w = (k : Int) := ⟨w.toNat, by omega⟩
  obtain ⟨ds4, sl, x4, x7, s4, b1, b2, b3, b4, b5⟩ := e_boxes (m := n) (x1 := some (.d (.int 3))) (x2 := some (.d (.int 6))) (x3 := some (.d (.int n))) (x5 := some (.d (.tup ts))) k 0 (x4 := none) (x7 := none) s3 (sl := (List.range n).map fun j : Nat => kyD (j : Int)) (fun s hs => by
    obtain ⟨j, hj, rfl⟩ := List.mem_map.mp hs
    have := List.mem_range.mp hj
    exact key_slot (by omega) (by omega)) (keys_nd n) (by simp; omega)
  rw [List.length_map, List.length_range] at b3
  have a4 : sFor (iRange1 (aCons (fApp FLDigit (aCons (fVar 0) (aCons (fK (.d (.int 3))) aNil))) aNil)) (.n 4) bBox [some (.c 0), some (.d (.int 3)), some (.d (.int 6)), some (.d (.int n)), none, some (.d (.tup ts)), some (.c 1), none] [.l ds2, .l ((List.range n).map fun j : Nat => kyD (j : Int))]
      = .nx [some (.c 0), some (.d (.int 3)), some (.d (.int 6)), some (.d (.int n)), x4, some (.d (.tup ts)), some (.c 1), x7] [.l ds4, .l sl] := by
    rw [sFor_ap, ir1 (n := k) (S' := [.l ds3, .l ((List.range n).map fun j : Nat => kyD (j : Int))]) (by simp [e3]) (by omega), Rs.st_ok]
    exact b5
  have hkeys : ∀ j : Nat, j < ts.length → kyD (j : Int) ∈ sl := fun j hj => b4 _ (List.mem_map.mpr ⟨j, List.mem_range.mpr (by omega), rfl⟩)
  have fin0 : ∀ {ds5 sl' : List D} {T : Store} {kk : Nat}, T.take 0 = [] → stOk ds5 → T[kk]? = some (.l sl') → lowS (T.length + 1) T = true → (∀ s ∈ sl', slotB s n = true) → sl'.Nodup → sl'.length ≤ 6 → 1 ≤ sl'.length → (∀ j : Nat, j < ts.length → kyD (j : Int) ∈ sl') →
      ∃ ds' done, sRet (fApp mkT (aCons (fVar 5) (aCons (fApp FLSteps (aCons (fVar 0) (aCons (fVar 6) (aCons (fVar 2) aNil)))) aNil))) [some (.c 0), some (.d (.int 3)), some (.d (.int 6)), some (.d (.int n)), x4, some (.d (.tup ts)), some (.c (kk + 1)), x7] (.l ds5 :: T) = .rt (.d (.tup [.tup ts, .tup done])) (.l ds' :: T) ∧ stOk ds' ∧ progB (.tup [.tup ts, .tup done]) = true := by
    intro ds5 sl' T kk _ hs hk hT c1 c2 c3 c4 c5
    obtain ⟨ds', done, g1, g2, g3, g4, g5, g6, g7⟩ := e_lsteps hs hk hT c1 c2 c3
    refine ⟨ds', done, ?_, g2, prog_of (by omega) p2 (by omega) g4 (by rw [l2]; exact g5) g6 g7 c5⟩
    simp [g1]
  have hl0 : ∀ {T : Store}, lowS (T.length + 1) T = true → True := fun _ => trivial
  by_cases hz : sl = []
  · subst hz
    obtain ⟨u, ds5, e5, u0, u1, s5⟩ := e_dig (m := 3) s4 (by omega) (by omega) [.l []]
    obtain ⟨ds', done, g1, g2, g3⟩ := fin0 (ds5 := ds5) (sl' := [bxD (.int u)]) (T := [.l [], .l [bxD (.int u)]]) (kk := 1) rfl s5 rfl rfl (fun s hs => by rw [List.mem_singleton.mp hs]; exact bx_slot ⟨u, rfl, u0, by omega⟩) (by simp) (by simp) (by simp) (fun j hj => absurd (hkeys j hj) List.not_mem_nil)
    refine ⟨ds', ts, done, ?_, g2, g3⟩
    have a5 : sIf (fB (fOp oEq (fVar 6) (fApp (mkL false) aNil))) (sSet 6 (fApp (mkL true) (aCons (fApp mkT (aCons (fK (.d (.str "box"))) (aCons (fApp FLDigit (aCons (fVar 0) (aCons (fK (.d (.int 3))) aNil))) aNil))) aNil))) sNil [some (.c 0), some (.d (.int 3)), some (.d (.int 6)), some (.d (.int n)), x4, some (.d (.tup ts)), some (.c 1), x7] [.l ds4, .l []]
        = .nx [some (.c 0), some (.d (.int 3)), some (.d (.int 6)), some (.d (.int n)), x4, some (.d (.tup ts)), some (.c 2), x7] [.l ds5, .l [], .l [bxD (.int u)]] := by
      have h1 : oEq (.c 1) (.d (.lst [])) [.l ds4, .l []] = .ok (.d (.bl true)) [.l ds4, .l []] := rfl
      simp [h1, e5, bxD]
    have hf : gLProgram [some (.c 0), some (.d (.int 3)), some (.d (.int 6)), none, none, none, none, none] [.l ds] = .rt (.d (.tup [.tup ts, .tup done])) [.l ds', .l [], .l [bxD (.int u)]] := by
      rw [gLProgram_eq, sSeq_nx a1, sSeq_nx a2, sSeq_nx a3, sSeq_nx a4, sSeq_nx a5, g1]
    exact (fnF_of (b := true) (n := 3) (m := 8) (ws := [.c 0, .d (.int 3), .d (.int 6)]) rfl rfl hf).trans (fin_cut rfl rfl)
  · obtain ⟨ds', done, g1, g2, g3⟩ := fin0 (ds5 := ds4) (sl' := sl) (T := [.l sl]) (kk := 0) rfl s4 rfl rfl b1 b2 (by omega) (List.length_pos_iff.mpr hz) hkeys
    refine ⟨ds', ts, done, ?_, g2, g3⟩
    have a5 : sIf (fB (fOp oEq (fVar 6) (fApp (mkL false) aNil))) (sSet 6 (fApp (mkL true) (aCons (fApp mkT (aCons (fK (.d (.str "box"))) (aCons (fApp FLDigit (aCons (fVar 0) (aCons (fK (.d (.int 3))) aNil))) aNil))) aNil))) sNil [some (.c 0), some (.d (.int 3)), some (.d (.int 6)), some (.d (.int n)), x4, some (.d (.tup ts)), some (.c 1), x7] [.l ds4, .l sl]
        = .nx [some (.c 0), some (.d (.int 3)), some (.d (.int 6)), some (.d (.int n)), x4, some (.d (.tup ts)), some (.c 1), x7] [.l ds4, .l sl] := by
      have h1 : oEq (.c 1) (.d (.lst [])) [.l ds4, .l sl] = .ok (.d (.bl false)) [.l ds4, .l sl] := by
        show Rs.ok (W.d (.bl sl.isEmpty)) _ = _
        cases sl with
        | nil => exact absurd rfl hz
        | cons a b => rfl
      simp [h1]
    have hf : gLProgram [some (.c 0), some (.d (.int 3)), some (.d (.int 6)), none, none, none, none, none] [.l ds] = .rt (.d (.tup [.tup ts, .tup done])) [.l ds', .l sl] := by
      rw [gLProgram_eq, sSeq_nx a1, sSeq_nx a2, sSeq_nx a3, sSeq_nx a4, sSeq_nx a5, g1]
    exact (fnF_of (b := true) (n := 3) (m := 8) (ws := [.c 0, .d (.int 3), .d (.int 6)]) rfl rfl hf).trans (fin_cut rfl rfl)
end As

namespace As
open PySem PySem.Spec PyProof.Rows L2
/-! how long a value's text gets -/
def shK (n k : Nat) (d : D) : Prop := (pd d).showable = true ∧ (pd d).shown.length ≤ n ∧ (pd d).depth ≤ k
theorem shK.le {n k n' k' : Nat} {d : D} (h : shK n k d) (hn : n ≤ n') (hk : k ≤ k') : shK n' k' d := ⟨h.1, Nat.le_trans h.2.1 hn, Nat.le_trans h.2.2 hk⟩
theorem shK.show {n k : Nat} {d : D} (h : shK n k d) (hn : n ≤ 1000000) (hk : k ≤ 50) : showD d = true := by
  unfold showD
  simp only [Bool.and_eq_true, decide_eq_true_eq]
  exact ⟨⟨h.1, Nat.le_trans h.2.1 hn⟩, Nat.le_trans h.2.2 hk⟩
theorem shK_all {n k : Nat} : ∀ {ds : List D}, (∀ d ∈ ds, shK n k d) → PyData.showableAll (pds ds) = true ∧ ((PyData.shownAll (pds ds)).map (·.length)).sum ≤ ds.length * n ∧ (PyData.shownAll (pds ds)).length = ds.length ∧ PyData.depthAll (pds ds) ≤ k
  | [], _ => by rw [pds]; exact ⟨rfl, Nat.zero_le _, rfl, Nat.zero_le _⟩
  | d :: ds, h => by
    obtain ⟨a, b, c, e⟩ := shK_all fun x hx => h x (List.mem_cons_of_mem _ hx)
    obtain ⟨a1, b1, e1⟩ := h d (List.mem_cons_self ..)
    rw [pds]
    refine ⟨?_, ?_, ?_, ?_⟩
    · simp only [PyData.showableAll, a, a1, Bool.and_self]
    · simp only [PyData.shownAll, List.map_cons, List.sum_cons, List.length_cons, Nat.add_mul, Nat.one_mul]
      omega
    · simp only [PyData.shownAll, List.length_cons, c]
    · simp only [PyData.depthAll]
      omega
theorem shK_tup {n k N : Nat} {ds : List D} (h : ∀ d ∈ ds, shK n k d) (hN : ds.length * n + 2 * ds.length + 3 ≤ N) : shK N (k + 1) (.tup ds) := by
  obtain ⟨a, b, c, e⟩ := shK_all h
  unfold shK
  rw [pd]
  have := tupleText_len_le (PyData.shownAll (pds ds))
  refine ⟨by simpa only [PyData.showable] using a, ?_, ?_⟩
  · simp only [PyData.shown]
    omega
  · have h4 : (PyData.tuple (pds ds)).depth = PyData.depthAll (pds ds) + 1 := by rw [PyData.depth]
    omega
theorem shK_lst {n k N : Nat} {ds : List D} (h : ∀ d ∈ ds, shK n k d) (hN : ds.length * n + 2 * ds.length + 3 ≤ N) : shK N (k + 1) (.lst ds) := by
  obtain ⟨a, b, c, e⟩ := shK_all h
  unfold shK
  rw [pd]
  have := listText_len_le (PyData.shownAll (pds ds))
  refine ⟨by simpa only [PyData.showable] using a, ?_, ?_⟩
  · simp only [PyData.shown]
    omega
  · have h4 : (PyData.list (pds ds)).depth = PyData.depthAll (pds ds) + 1 := by rw [PyData.depth]
    omega
theorem log2_lt {n k : Nat} (h : n < 2 ^ k) (hk : 0 < k) : n.log2 < k := by
  by_cases h0 : n = 0
  · subst h0
    simpa using hk
  · exact (Nat.log2_lt h0).mpr h
theorem shK_int {i : Int} (h : i.natAbs < 10 ^ 12) : shK 13 0 (.int i) := by
  unfold shK
  rw [pd]
  refine ⟨?_, PyData.shown_int_le h, Nat.le_refl _⟩
  simp only [PyData.showable, decide_eq_true_eq]
  have : (10 : Nat) ^ 12 < 2 ^ 40 := by decide
  have := log2_lt (n := i.natAbs) (k := 40) (by omega) (by decide)
  omega
theorem shK_non : shK 4 0 .non := by unfold shK; rw [pd]; exact ⟨rfl, by decide, by decide⟩
theorem shK_bl (b : Bool) : shK 5 0 (.bl b) := by unfold shK; rw [pd]; cases b <;> exact ⟨rfl, by decide, by decide⟩
theorem shK_dct : shK 2 1 .dct := by unfold shK; rw [pd]; exact ⟨rfl, by decide, by decide⟩
theorem shK_s0 : shK 9 0 (.str "") := by unfold shK; rw [pd]; exact ⟨rfl, by decide +kernel, by decide⟩
theorem shK_key : shK 9 0 (.str "key") := by unfold shK; rw [pd]; exact ⟨rfl, by decide +kernel, by decide⟩
theorem shK_box : shK 9 0 (.str "box") := by unfold shK; rw [pd]; exact ⟨rfl, by decide +kernel, by decide⟩
theorem shK_read : shK 9 0 (.str "read") := by unfold shK; rw [pd]; exact ⟨rfl, by decide +kernel, by decide⟩
theorem shK_write : shK 9 0 (.str "write") := by unfold shK; rw [pd]; exact ⟨rfl, by decide +kernel, by decide⟩
theorem shK_program : shK 9 0 (.str "program") := by unfold shK; rw [pd]; exact ⟨rfl, by decide +kernel, by decide⟩
theorem shK_40 : shK 60 0 (.int (10 ^ 40)) := by unfold shK; rw [pd]; exact ⟨by decide +kernel, by decide +kernel, by decide⟩
theorem shK_two {n k N : Nat} {a b : D} (ha : shK n k a) (hb : shK n k b) (hN : 2 * n + 7 ≤ N) : shK N (k + 1) (.tup [a, b]) :=
  shK_tup (fun d hd => by
    simp only [List.mem_cons, List.not_mem_nil, or_false] at hd
    rcases hd with rfl | rfl <;> assumption) (by simp only [List.length_cons, List.length_nil]; omega)
theorem shK_onet {n k N : Nat} {a : D} (ha : shK n k a) (hN : n + 5 ≤ N) : shK N (k + 1) (.tup [a]) :=
  shK_tup (fun d hd => by
    rw [List.mem_singleton.mp hd]
    exact ha) (by simp only [List.length_cons, List.length_nil]; omega)
theorem shK_onel {n k N : Nat} {a : D} (ha : shK n k a) (hN : n + 5 ≤ N) : shK N (k + 1) (.lst [a]) :=
  shK_lst (fun d hd => by
    rw [List.mem_singleton.mp hd]
    exact ha) (by simp only [List.length_cons, List.length_nil]; omega)
theorem sh_slot {s : D} {m : Int} (h : slotB s m = true) (hm : m ≤ 1000000) : shK 40 1 s := by
  obtain ⟨w, i, rfl, hw⟩ := slotB_eq h
  have hi : shK 13 0 (.int i) := shK_int (by
    have : (10 : Nat) ^ 12 = 1000000000000 := rfl
    rcases hw with ⟨_, a, b⟩ | ⟨_, a, b⟩ <;> omega)
  rcases hw with ⟨rfl, _⟩ | ⟨rfl, _⟩
  · exact shK_two (shK_box.le (by omega) (by omega)) hi (by omega)
  · exact shK_two (shK_key.le (by omega) (by omega)) hi (by omega)
theorem sh_step {s : D} {m : Int} (h : stepB s m = true) (hm : m ≤ 1000000) : shK 90 2 s := by
  obtain ⟨w, x, rfl, hw, hx⟩ := stepB_eq h
  have := sh_slot hx hm
  rcases hw with rfl | rfl
  · exact shK_two (shK_read.le (by omega) (by omega)) this (by omega)
  · exact shK_two (shK_write.le (by omega) (by omega)) this (by omega)
/-! the odd values -/
def oddL (d : D) : List D := [.non, .bl true, .bl false, .int (-1), .int 0, .int 1, .int 2, .int 3, .int 9, .int 10, .int 999999, .int 1000000, .str "", .str "key", .str "box", .str "read", .str "write", .tup [], .lst []] ++
  [.tup [d], .lst [d], .dct, .int (10 ^ 40), .tup [.str "box", .int 5], .tup [.str "key", .int 0], .tup [.str "read", .tup [.str "box", .int 5]], .tup [.str "key", .int 3]]
theorem sh_odd {d e : D} (hd : shK 90 2 d) (h : e ∈ oddL d) : shK 95 3 e := by
  simp only [oddL, List.mem_append, List.mem_cons, List.not_mem_nil, or_false] at h
  have i5 : shK 13 0 (.int 5) := shK_int (by decide)
  have b5 : shK 40 1 (.tup [.str "box", .int 5]) := shK_two (shK_box.le (by omega) (by omega)) i5 (by omega)
  rcases h with (rfl | rfl | rfl | rfl | rfl | rfl | rfl | rfl | rfl | rfl | rfl | rfl | rfl | rfl | rfl | rfl | rfl | rfl | rfl) | (rfl | rfl | rfl | rfl | rfl | rfl | rfl | rfl)
  · exact shK_non.le (by omega) (by omega)
  · exact (shK_bl _).le (by omega) (by omega)
  · exact (shK_bl _).le (by omega) (by omega)
  iterate 9 exact (shK_int (by decide)).le (by omega) (by omega)
  · exact shK_s0.le (by omega) (by omega)
  · exact shK_key.le (by omega) (by omega)
  · exact shK_box.le (by omega) (by omega)
  · exact shK_read.le (by omega) (by omega)
  · exact shK_write.le (by omega) (by omega)
  · exact (shK_tup (n := 0) (k := 0) (ds := []) (fun d hd => absurd hd List.not_mem_nil) (Nat.le_refl _)).le (by simp) (by omega)
  · exact (shK_lst (n := 0) (k := 0) (ds := []) (fun d hd => absurd hd List.not_mem_nil) (Nat.le_refl _)).le (by simp) (by omega)
  · exact shK_onet hd (by omega)
  · exact shK_onel hd (by omega)
  · exact shK_dct.le (by omega) (by omega)
  · exact shK_40.le (by omega) (by omega)
  · exact b5.le (by omega) (by omega)
  · exact (shK_two (shK_key.le (by omega) (Nat.le_refl _)) (shK_int (by decide)) (Nat.le_refl _)).le (by omega) (by omega)
  · exact (shK_two (shK_read.le (by omega) (by omega)) b5 (Nat.le_refl _)).le (by omega) (by omega)
  · exact (shK_two (shK_key.le (by omega) (Nat.le_refl _)) (shK_int (by decide)) (Nat.le_refl _)).le (by omega) (by omega)
end As

namespace As
open PySem PySem.Spec PyProof.Rows L2
@[simp] theorem mkT0 (S : Store) : mkT [] S = .ok (.d (.tup [])) S := rfl
@[simp] theorem mkT1 (a : D) (S : Store) : mkT [.d a] S = .ok (.d (.tup [a])) S := mkT_ds [a] S (by simp)
theorem oddA (ρ : Env) (S : Store) : fApp (mkL false) (aCons (fK (.d .non)) (aCons (fK (.d (.bl true))) (aCons (fK (.d (.bl false))) (aCons (fUn uNeg (fK (.d (.int 1)))) (aCons (fK (.d (.int 0))) (aCons (fK (.d (.int 1))) (aCons (fK (.d (.int 2))) (aCons (fK (.d (.int 3))) (aCons (fK (.d (.int 9))) (aCons (fK (.d (.int 10))) (aCons (fK (.d (.int 999999))) (aCons (fK (.d (.int 1000000))) (aCons (fK (.d (.str ""))) (aCons (fK (.d (.str "key"))) (aCons (fK (.d (.str "box"))) (aCons (fK (.d (.str "read"))) (aCons (fK (.d (.str "write"))) (aCons (fApp mkT aNil) (aCons (fApp (mkL false) aNil) aNil))))))))))))))))))) ρ S
    = .ok (.d (.lst [.non, .bl true, .bl false, .int (-1), .int 0, .int 1, .int 2, .int 3, .int 9, .int 10, .int 999999, .int 1000000, .str "", .str "key", .str "box", .str "read", .str "write", .tup [], .lst []])) S := by
  simp [mkL]
theorem oddB (d : D) (x0 x2 : Option W) (S : Store) : fApp (mkL false) (aCons (fApp mkT (aCons (fVar 1) aNil)) (aCons (fApp (mkL false) (aCons (fVar 1) aNil)) (aCons fDct (aCons (fOp oPow (fK (.d (.int 10))) (fK (.d (.int 40)))) (aCons (fApp mkT (aCons (fK (.d (.str "box"))) (aCons (fK (.d (.int 5))) aNil))) (aCons (fApp mkT (aCons (fK (.d (.str "key"))) (aCons (fK (.d (.int 0))) aNil))) (aCons (fApp mkT (aCons (fK (.d (.str "read"))) (aCons (fApp mkT (aCons (fK (.d (.str "box"))) (aCons (fK (.d (.int 5))) aNil))) aNil))) (aCons (fApp mkT (aCons (fK (.d (.str "key"))) (aCons (fK (.d (.int 3))) aNil))) aNil)))))))) [x0, some (.d d), x2] S
    = .ok (.d (.lst [.tup [d], .lst [d], .dct, .int (10 ^ 40), .tup [.str "box", .int 5], .tup [.str "key", .int 0], .tup [.str "read", .tup [.str "box", .int 5]], .tup [.str "key", .int 3]])) S := by
  have cp : CPow 10 40 := by unfold CPow; decide
  simp [cp, mkL]
theorem e_odd {ds : List D} {T : Store} (hst : stOk ds) (d : D) : ∃ e ds', FLOdd [.c 0, .d d] (.l ds :: T) = .ok (.d e) (.l ds' :: T) ∧ stOk ds' ∧ e ∈ oddL d := by
  obtain ⟨e, ds', h1, h2, h3⟩ := e_of (es := oddL d) hst (by simp [oddL]) (by simp [oddL]) T
  refine ⟨e, ds', ?_, h3, h2⟩
  have s1 := oddA [some (.c 0), some (.d d), none] (.l ds :: T)
  have s2 := oddB d (some (.c 0)) (some (.d (.lst [.non, .bl true, .bl false, .int (-1), .int 0, .int 1, .int 2, .int 3, .int 9, .int 10, .int 999999, .int 1000000, .str "", .str "key", .str "box", .str "read", .str "write", .tup [], .lst []]))) (.l ds :: T)
  rw [oddL] at h1
  unfold FLOdd
  refine (fnF_of (b := false) (n := 2) (m := 3) (ws := [.c 0, .d d]) (ρ := [some (.c 0), some (.d d), none]) (o := .rt (.d e) (.l ds' :: T)) rfl rfl ?_).trans rfl
  have a1 := s1
  unfold gLOdd
  rw [sSeq_nx (S' := .l ds :: T) (ρ' := [some (.c 0), some (.d d), some (.d (.lst [.non, .bl true, .bl false, .int (-1), .int 0, .int 1, .int 2, .int 3, .int 9, .int 10, .int 999999, .int 1000000, .str "", .str "key", .str "box", .str "read", .str "write", .tup [], .lst []]))]) (by rw [sSet_ap, s1]; rfl),
    sSeq_nx (S' := .l ds :: T) (ρ' := [some (.c 0), some (.d d), some (.d (.lst (oddL d)))]) (by
      rw [sSet_ap, fOp_ap, fVar_ap]
      dsimp only [List.getElem?_cons_succ, List.getElem?_cons_zero]
      rw [Rs.bind_ok, s2, Rs.bind_ok]
      simp [oCatL, oddL])]
  rw [← oddL] at h1
  simp [h1]
theorem cutD_mem {ds : List D} {lo hi : Option Int} {d : D} (h : d ∈ cutD ds lo hi) : d ∈ ds := List.mem_of_mem_drop (List.mem_of_mem_take h)
theorem cutD_len (ds : List D) (lo hi : Option Int) : (cutD ds lo hi).length ≤ ds.length := by
  unfold cutD
  rw [List.length_take, List.length_drop]
  omega
theorem catT {a b : List D} (h : a.length + b.length ≤ 100000) (S : Store) : oCatT (.d (.tup a)) (.d (.tup b)) S = .ok (.d (.tup (a ++ b))) S := by simp [oCatT, h]
theorem e_put {r : List D} {k : Int} {x : D} (hl : r.length ≤ 100) (S : Store) : ∃ out, FLPut [.d (.tup r), .d (.int k), .d x] S = .ok (.d (.tup out)) S ∧ (∀ d ∈ out, d ∈ r ∨ d = x) ∧ out.length ≤ 2 * r.length + 1 := by
  have l1 := cutD_len r none (some k)
  have l2 := cutD_len r (some (k + 1)) none
  refine ⟨cutD r none (some k) ++ [x] ++ cutD r (some (k + 1)) none, ?_, ?_, ?_⟩
  · have c1 := fun S => catT (a := cutD r none (some k)) (b := [x]) (by simp; omega) S
    have c2 := fun S => catT (a := cutD r none (some k) ++ [x]) (b := cutD r (some (k + 1)) none) (by simp; omega) S
    simp only [List.append_assoc] at c2
    simp [FLPut, fnF_ap, gLPut, c1, c2]
  · intro d hd
    rw [List.mem_append, List.mem_append] at hd
    rcases hd with (h | h) | h
    · exact .inl (cutD_mem h)
    · exact .inr (List.mem_singleton.mp h)
    · exact .inl (cutD_mem h)
  · simp
    omega
theorem e_spoilt_step {ds : List D} {T : Store} {step : D} {m : Int} (hst : stOk ds) (h : stepB step m = true) (hm : m ≤ 1000000) : ∃ e ds', FLSpoiltStep [.c 0, .d step] (.l ds :: T) = .ok (.d e) (.l ds' :: T) ∧ stOk ds' ∧ shK 1000 10 e := by
  have hstep := sh_step h hm
  obtain ⟨w, s, rfl, hw, hs⟩ := stepB_eq h
  have hslot := sh_slot hs hm
  obtain ⟨u, i, rfl, hu⟩ := slotB_eq hs
  have shw : shK 90 2 (.str w) := by
    rcases hw with rfl | rfl
    · exact shK_read.le (by omega) (by omega)
    · exact shK_write.le (by omega) (by omega)
  have shu : shK 90 2 (.str u) := by
    rcases hu with ⟨rfl, _⟩ | ⟨rfl, _⟩
    · exact shK_box.le (by omega) (by omega)
    · exact shK_key.le (by omega) (by omega)
  have shi : shK 90 2 (.int i) := (shK_int (by
    have : (10 : Nat) ^ 12 = 1000000000000 := rfl
    rcases hu with ⟨_, a, b⟩ | ⟨_, a, b⟩ <;> omega)).le (by omega) (by omega)
  have shs : shK 95 3 (.tup [.str u, .int i]) := hslot.le (by omega) (by omega)
  obtain ⟨v, ds1, e, v0, v1, h1⟩ := e_dig (m := 6) hst (by omega) (by omega) T
  have hv : v = 0 ∨ v = 1 ∨ v = 2 ∨ v = 3 ∨ v = 4 ∨ v = 5 := by omega
  rcases hv with rfl | rfl | rfl | rfl | rfl | rfl
  · obtain ⟨o, ds2, eo, h2, mo⟩ := e_odd (T := T) h1 (.str w)
    exact ⟨.tup [o, .tup [.str u, .int i]], ds2, by simp [FLSpoiltStep, fnF_ap, gLSpoiltStep, bindP, unW, bindPs, e, eo], h2, (shK_two (sh_odd shw mo) shs (Nat.le_refl _)).le (by omega) (by omega)⟩
  · obtain ⟨o, ds2, eo, h2, mo⟩ := e_odd (T := T) h1 (.str u)
    exact ⟨.tup [.str w, .tup [o, .int i]], ds2, by simp [FLSpoiltStep, fnF_ap, gLSpoiltStep, bindP, unW, bindPs, e, eo], h2, (shK_two (shw.le (by omega) (by omega)) (shK_two (sh_odd shu mo) (shi.le (by omega) (by omega)) (Nat.le_refl _)) (Nat.le_refl _)).le (by omega) (by omega)⟩
  · obtain ⟨o, ds2, eo, h2, mo⟩ := e_odd (T := T) h1 (.int i)
    exact ⟨.tup [.str w, .tup [.str u, o]], ds2, by simp [FLSpoiltStep, fnF_ap, gLSpoiltStep, bindP, unW, bindPs, e, eo], h2, (shK_two (shw.le (by omega) (by omega)) (shK_two (shu.le (by omega) (by omega)) (sh_odd shi mo) (Nat.le_refl _)) (Nat.le_refl _)).le (by omega) (by omega)⟩
  · obtain ⟨x, ds2, eo, mx, h2⟩ := e_of (es := [.tup [.str w, .lst [.str u, .int i]], .lst [.str w, .tup [.str u, .int i]], .tup [.tup [.str u, .int i], .str w], .tup [.str w], .tup [.str w, .tup [.str u, .int i], .int 1], .tup [.str w, .tup [.str u, .int i, .int 0]]]) h1 (by simp) (by simp) T
    refine ⟨x, ds2, ?_, h2, ?_⟩
    · simp [FLSpoiltStep, fnF_ap, gLSpoiltStep, bindP, unW, bindPs, e, aList, itW, catT, mkL, eo]
    · have i1 : shK 95 3 (.int 1) := (shK_int (by decide)).le (by omega) (by omega)
      have i0 : shK 95 3 (.int 0) := (shK_int (by decide)).le (by omega) (by omega)
      have w3 : shK 95 3 (.str w) := shw.le (by omega) (by omega)
      have u3 : shK 95 3 (.str u) := shu.le (by omega) (by omega)
      have i3 : shK 95 3 (.int i) := shi.le (by omega) (by omega)
      simp only [List.mem_cons, List.not_mem_nil, or_false] at mx
      have two : ∀ a b, shK 95 3 a → shK 95 3 b → shK 197 4 (.lst [a, b]) := fun a b ha hb => shK_lst (fun d hd => by
        simp only [List.mem_cons, List.not_mem_nil, or_false] at hd
        rcases hd with rfl | rfl <;> assumption) (by simp)
      have three : ∀ a b c, shK 95 3 a → shK 95 3 b → shK 95 3 c → shK 300 4 (.tup [a, b, c]) := fun a b c ha hb hc => shK_tup (fun d hd => by
        simp only [List.mem_cons, List.not_mem_nil, or_false] at hd
        rcases hd with rfl | rfl | rfl <;> assumption) (by simp)
      rcases mx with rfl | rfl | rfl | rfl | rfl | rfl
      · exact (shK_two (shw.le (by omega) (by omega)) (two _ _ u3 i3) (Nat.le_refl _)).le (by omega) (by omega)
      · exact (two _ _ w3 shs).le (by omega) (by omega)
      · exact (shK_two shs w3 (Nat.le_refl _)).le (by omega) (by omega)
      · exact (shK_onet w3 (Nat.le_refl _)).le (by omega) (by omega)
      · exact (three _ _ _ w3 shs i1).le (by omega) (by omega)
      · exact (shK_two (shw.le (by omega) (by omega)) (three _ _ _ u3 i3 i0) (Nat.le_refl _)).le (by omega) (by omega)
  · rcases hw with rfl | rfl
    · refine ⟨.tup [.str "write", .tup [.str u, .int i]], ds1, ?_, h1, (shK_two (shK_write.le (by omega) (by omega)) shs (Nat.le_refl _)).le (by omega) (by omega)⟩
      have ix : ∀ S, oIx (.d (.lst [.str "read", .str "write"])) (.d (.int 1)) S = .ok (.d (.str "write")) S := fun S => ixAt (xs := [.str "read", .str "write"]) (v := 1) rfl rfl
      simp [FLSpoiltStep, fnF_ap, gLSpoiltStep, bindP, unW, bindPs, e, ix]
    · refine ⟨.tup [.str "read", .tup [.str u, .int i]], ds1, ?_, h1, (shK_two (shK_read.le (by omega) (by omega)) shs (Nat.le_refl _)).le (by omega) (by omega)⟩
      have ix : ∀ S, oIx (.d (.lst [.str "read", .str "write"])) (.d (.int 0)) S = .ok (.d (.str "read")) S := fun S => ixAt (xs := [.str "read", .str "write"]) (v := 0) rfl rfl
      have ne : ¬ (Str.ofString "write" = Str.ofString "read") := by decide
      simp [FLSpoiltStep, fnF_ap, gLSpoiltStep, bindP, unW, bindPs, e, ix, ne]
  · obtain ⟨o, ds2, eo, h2, mo⟩ := e_odd (T := T) h1 (.tup [.str w, .tup [.str u, .int i]])
    exact ⟨o, ds2, by simp [FLSpoiltStep, fnF_ap, gLSpoiltStep, bindP, unW, bindPs, e, eo], h2, (sh_odd hstep mo).le (by omega) (by omega)⟩
end As

namespace As
open PySem PySem.Spec PyProof.Rows L2
theorem progB_eq {d : D} (h : progB d = true) : ∃ ts ss, d = .tup [.tup ts, .tup ss] ∧ ts.length ≤ 3 ∧ (∀ t ∈ ts, shK 13 0 t) ∧ 1 ≤ ss.length ∧ ss.length ≤ 6 ∧ ∀ s ∈ ss, stepB s ts.length = true := by
  unfold progB at h
  split at h
  · rename_i ts ss
    simp only [Bool.and_eq_true] at h
    obtain ⟨⟨h1, h2⟩, _⟩ := h
    obtain ⟨⟨a, b⟩, c, _⟩ := stepsB_all h2
    simp only [tabB, Bool.and_eq_true, decide_eq_true_eq, List.all_eq_true] at h1
    refine ⟨ts, ss, rfl, h1.1, fun t ht => ?_, a, b, c⟩
    have := h1.2 t ht
    cases t with
    | int i =>
      simp [whB] at this
      refine shK_int ?_
      have : (10 : Nat) ^ 12 = 1000000000000 := rfl
      omega
    | _ => cases this
  · cases h
theorem sh_tabs {n : Nat} {ts : List D} (h : ∀ t ∈ ts, shK n 11 t) (hl : ts.length ≤ 13) (hn : n ≤ 1000) : shK 13029 12 (.tup ts) ∧ shK 13029 12 (.lst ts) := by
  have : ts.length * n ≤ 13 * 1000 := Nat.mul_le_mul hl hn
  exact ⟨shK_tup h (by omega), shK_lst h (by omega)⟩
theorem sh_prog {d : D} (h : progB d = true) : shK 40000 20 d := by
  obtain ⟨ts, ss, rfl, l1, h1, l2, l3, h2⟩ := progB_eq h
  exact (shK_two (sh_tabs (n := 13) (fun t ht => (h1 t ht).le (by omega) (by omega)) (by omega) (by omega)).1 (sh_tabs (n := 90) (fun t ht => (sh_step (h2 t ht) (by omega)).le (by omega) (by omega)) (by omega) (by omega)).1 (Nat.le_refl _)).le (by omega) (by omega)
theorem e_spoilt {ds : List D} {T : Store} {d : D} (hst : stOk ds) (h : progB d = true) : ∃ e ds', FLSpoilt [.c 0, .d d] (.l ds :: T) = .ok (.d e) (.l ds' :: T) ∧ stOk ds' ∧ shK 40000 20 e := by
  obtain ⟨ts, ss, rfl, l1, h1, l2, l3, h2⟩ := progB_eq h
  have t1 : ∀ t ∈ ts, shK 1000 11 t := fun t ht => (h1 t ht).le (by omega) (by omega)
  have s1 : ∀ t ∈ ss, shK 1000 11 t := fun t ht => (sh_step (h2 t ht) (by omega)).le (by omega) (by omega)
  obtain ⟨tt, tl⟩ := sh_tabs t1 (by omega) (by omega)
  obtain ⟨st, sl⟩ := sh_tabs s1 (by omega) (by omega)
  have pair : ∀ {a b : D}, shK 13029 12 a → shK 13029 12 b → shK 40000 20 (.tup [a, b]) := fun ha hb => (shK_two ha hb (Nat.le_refl _)).le (by omega) (by omega)
  have i1 : shK 90 2 (.int 1) := (shK_int (by decide)).le (by omega) (by omega)
  obtain ⟨v, ds1, e1, v0, v1, g1⟩ := e_dig (m := 9) hst (by omega) (by omega) T
  obtain ⟨k, ds2, e2, k0, k1, g2⟩ := e_dig (m := (ss.length : Int)) g1 (by omega) (by omega) T
  obtain ⟨j, ds3, e3, j0, j1, g3⟩ := e_dig (m := (ts.length : Int) + 1) g2 (by omega) (by omega) T
  have hv : v = 0 ∨ v = 1 ∨ v = 2 ∨ v = 3 ∨ v = 4 ∨ v = 5 ∨ v = 6 ∨ v = 7 ∨ v = 8 := by omega
  have way23 : ∀ S5 : Unit, ∃ d out ds4, FLSpoiltStep [.c 0, .d d] (.l ds3 :: T) = .ok (.d out) (.l ds4 :: T) ∧ stOk ds4 ∧ shK 1000 10 out ∧ ∀ S, oIx (.d (.tup ss)) (.d (.int k)) S = .ok (.d d) S := by
    intro _
    obtain ⟨n, rfl⟩ : ∃ n : Nat, k = (n : Int) := ⟨k.toNat, by omega⟩
    have hn : n < ss.length := by omega
    obtain ⟨out, ds4, e4, g4, m4⟩ := e_spoilt_step (T := T) g3 (h2 ss[n] (List.getElem_mem hn)) (by omega)
    exact ⟨ss[n], out, ds4, e4, g4, m4, fun S => ixAt (xs := ss) rfl (List.getElem?_eq_getElem hn)⟩
  rcases hv with rfl | rfl | rfl | rfl | rfl | rfl | rfl | rfl | rfl
  · obtain ⟨o, ds4, e4, g4, mo⟩ := e_odd (T := T) g3 (.int 1)
    have a1 := cutD_len ts none (some j)
    have a2 := cutD_len ts (some j) none
    have c1 := fun S => catT (a := cutD ts none (some j)) (b := [o]) (by simp; omega) S
    have c2 := fun S => catT (a := cutD ts none (some j) ++ [o]) (b := cutD ts (some j) none) (by simp; omega) S
    simp only [List.append_assoc] at c2
    refine ⟨.tup [.tup (cutD ts none (some j) ++ ([o] ++ cutD ts (some j) none)), .tup ss], ds4, by simp [FLSpoilt, fnF_ap, gLSpoilt, bindP, unW, bindPs, e1, e2, e3, e4, c1, c2], g4, pair (sh_tabs (n := 1000) (fun t ht => ?_) ?_ (by omega)).1 st⟩
    · rw [List.mem_append, List.mem_append] at ht
      rcases ht with h | h | h
      · exact t1 t (cutD_mem h)
      · rw [List.mem_singleton.mp h]
        exact (sh_odd i1 mo).le (by omega) (by omega)
      · exact t1 t (cutD_mem h)
    · simp
      omega
  · obtain ⟨o, ds4, e4, g4, mo⟩ := e_odd (T := T) g3 (.int 1)
    obtain ⟨out, e5, m5, l5⟩ := e_put (r := ts) (k := j) (x := o) (by omega) (.l ds4 :: T)
    refine ⟨.tup [.tup out, .tup ss], ds4, by simp [FLSpoilt, fnF_ap, gLSpoilt, bindP, unW, bindPs, e1, e2, e3, e4, e5], g4, pair (sh_tabs (n := 1000) (fun t ht => ?_) (by omega) (by omega)).1 st⟩
    rcases m5 t ht with h | rfl
    · exact t1 t h
    · exact (sh_odd i1 mo).le (by omega) (by omega)
  · obtain ⟨d, out, ds4, e4, g4, m4, ix⟩ := way23 ()
    obtain ⟨out2, e5, m5, l5⟩ := e_put (r := ss) (k := k) (x := out) (by omega) (.l ds4 :: T)
    refine ⟨.tup [.tup ts, .tup out2], ds4, by simp [FLSpoilt, fnF_ap, gLSpoilt, bindP, unW, bindPs, e1, e2, e3, e4, e5, ix], g4, pair tt (sh_tabs (n := 1000) (fun t ht => ?_) (by omega) (by omega)).1⟩
    rcases m5 t ht with h | rfl
    · exact s1 t h
    · exact m4.le (by omega) (by omega)
  · obtain ⟨d, out, ds4, e4, g4, m4, ix⟩ := way23 ()
    obtain ⟨out2, e5, m5, l5⟩ := e_put (r := ss) (k := k) (x := out) (by omega) (.l ds4 :: T)
    refine ⟨.tup [.tup ts, .tup out2], ds4, by simp [FLSpoilt, fnF_ap, gLSpoilt, bindP, unW, bindPs, e1, e2, e3, e4, e5, ix], g4, pair tt (sh_tabs (n := 1000) (fun t ht => ?_) (by omega) (by omega)).1⟩
    rcases m5 t ht with h | rfl
    · exact s1 t h
    · exact m4.le (by omega) (by omega)
  · have a1 := cutD_len ss none (some k)
    have a2 := cutD_len ss (some (k + 1)) none
    have c1 := fun S => catT (a := cutD ss none (some k)) (b := cutD ss (some (k + 1)) none) (by omega) S
    refine ⟨.tup [.tup ts, .tup (cutD ss none (some k) ++ cutD ss (some (k + 1)) none)], ds3, by simp [FLSpoilt, fnF_ap, gLSpoilt, bindP, unW, bindPs, e1, e2, e3, c1], g3, pair tt (sh_tabs (n := 1000) (fun t ht => ?_) (by simp; omega) (by omega)).1⟩
    rcases List.mem_append.mp ht with h | h <;> exact s1 t (cutD_mem h)
  · obtain ⟨b, ds4, e4, b0, b1, g4⟩ := e_dig (m := 1000000) g3 (by omega) (by omega) T
    have cp : CPow 10 6 := by unfold CPow; decide
    have a1 := cutD_len ss none (some k)
    have a2 := cutD_len ss (some k) none
    have c1 := fun S => catT (a := cutD ss none (some k)) (b := [.tup [.str "read", .tup [.str "box", .int b]]]) (by simp; omega) S
    have c2 := fun S => catT (a := cutD ss none (some k) ++ [.tup [.str "read", .tup [.str "box", .int b]]]) (b := cutD ss (some k) none) (by simp; omega) S
    simp only [List.append_assoc] at c2
    have hb : stepB (rdS (bxD (.int b))) ts.length = true := rdS_ok (bx_slot ⟨b, rfl, b0, by omega⟩)
    refine ⟨.tup [.tup ts, .tup (cutD ss none (some k) ++ ([.tup [.str "read", .tup [.str "box", .int b]]] ++ cutD ss (some k) none))], ds4, by simp [FLSpoilt, fnF_ap, gLSpoilt, bindP, unW, bindPs, e1, e2, e3, cp, e4, c1, c2], g4, pair tt (sh_tabs (n := 1000) (fun t ht => ?_) (by simp; omega) (by omega)).1⟩
    rw [List.mem_append, List.mem_append] at ht
    rcases ht with h | h | h
    · exact s1 t (cutD_mem h)
    · rw [List.mem_singleton.mp h]
      exact (sh_step hb (by omega)).le (by omega) (by omega)
    · exact s1 t (cutD_mem h)
  · refine ⟨.tup [.tup ts, .tup ss.reverse], ds3, by simp [FLSpoilt, fnF_ap, gLSpoilt, bindP, unW, bindPs, e1, e2, e3, uRevT], g3, pair tt (sh_tabs (n := 1000) (fun t ht => s1 t (List.mem_reverse.mp ht)) (by simp; omega) (by omega)).1⟩
  · have a1 := cutD_len ss (some k) (some (k + 1))
    have c1 := fun S => catT (a := ss) (b := cutD ss (some k) (some (k + 1))) (by omega) S
    refine ⟨.tup [.tup ts, .tup (ss ++ cutD ss (some k) (some (k + 1)))], ds3, by simp [FLSpoilt, fnF_ap, gLSpoilt, bindP, unW, bindPs, e1, e2, e3, c1], g3, pair tt (sh_tabs (n := 1000) (fun t ht => ?_) (by simp; omega) (by omega)).1⟩
    rcases List.mem_append.mp ht with h | h
    · exact s1 t h
    · exact s1 t (cutD_mem h)
  · obtain ⟨x, ds4, e4, mx, g4⟩ := e_of (es := [.lst [.tup ts, .tup ss], .tup [.tup ts, .tup ss, .int 1], .tup (cutD [.tup ts, .tup ss] none (some 1)), .tup [.lst ts, .tup ss], .tup [.tup ts, .lst ss], .tup ss, .non, .tup [], .tup [.tup ss, .tup ts], .tup [.tup ts, .tup []], .tup [.tup ts, .non], .tup [.non, .tup ss], .str "program"]) g3 (by simp) (by simp) T
    refine ⟨x, ds4, ?_, g4, ?_⟩
    · simp [FLSpoilt, fnF_ap, gLSpoilt, bindP, unW, bindPs, e1, e2, e3, aList, itW, catT, mkL, oCatL, liW, e4]
    · have nn : shK 13029 12 .non := shK_non.le (by omega) (by omega)
      have n1 : shK 13029 12 (.int 1) := i1.le (by omega) (by omega)
      have tn : shK 13029 12 (.tup []) := (shK_tup (n := 0) (k := 0) (ds := []) (fun d hd => absurd hd List.not_mem_nil) (Nat.le_refl _)).le (by simp) (by omega)
      simp only [List.mem_cons, List.not_mem_nil, or_false] at mx
      rcases mx with rfl | rfl | rfl | rfl | rfl | rfl | rfl | rfl | rfl | rfl | rfl | rfl | rfl
      · exact (shK_lst (n := 13029) (k := 12) (N := 40000) (fun d hd => by
          simp only [List.mem_cons, List.not_mem_nil, or_false] at hd
          rcases hd with rfl | rfl <;> assumption) (by simp)).le (by omega) (by omega)
      · exact (shK_tup (n := 13029) (k := 12) (N := 40000) (fun d hd => by
          simp only [List.mem_cons, List.not_mem_nil, or_false] at hd
          rcases hd with rfl | rfl | rfl <;> assumption) (by simp)).le (by omega) (by omega)
      · refine (shK_tup (n := 13029) (k := 12) (N := 40000) (fun d hd => ?_) ?_).le (by omega) (by omega)
        · have hd' := cutD_mem hd
          simp only [List.mem_cons, List.not_mem_nil, or_false] at hd'
          rcases hd' with rfl | rfl <;> assumption
        · have := cutD_len [D.tup ts, .tup ss] none (some 1)
          simp at this
          omega
      · exact pair tl st
      · exact pair tt sl
      · exact st.le (by omega) (by omega)
      · exact nn.le (by omega) (by omega)
      · exact tn.le (by omega) (by omega)
      · exact pair st tt
      · exact pair tt tn
      · exact pair tt nn
      · exact pair nn st
      · exact shK_program.le (by omega) (by omega)
end As

namespace As
open PySem PySem.Spec PyProof.Rows L2
theorem e_list {ds : List D} {g b : D} (hst : stOk ds) (hg : shK 40000 20 g) (hb : shK 40000 20 b) : ∃ e ds', FLList [.c 0, .d g, .d b] [.l ds] = .ok (.d e) [.l ds'] ∧ stOk ds' ∧ shK 600000 30 e := by
  obtain ⟨v, ds1, e1, v0, v1, s1⟩ := e_dig (m := 7) hst (by omega) (by omega) []
  obtain ⟨n, rfl⟩ : ∃ n : Nat, v = (n : Int) := ⟨v.toNat, by omega⟩
  have m4 : ∀ S, mkL false [.d g, .d g, .d g, .d b] S = .ok (.d (.lst [g, g, g, b])) S := fun S => mkL_ds false [g, g, g, b] S (by simp)
  obtain ⟨es, ds2, e2, s2, l2, p2⟩ := compL_draw (i := 4) (g := fun _ => True) (fe := fApp FLOf (aCons (fVar 0) (aCons (fApp (mkL false) (aCons (fVar 1) (aCons (fVar 1) (aCons (fVar 1) (aCons (fVar 2) aNil))))) aNil))) (ρw := [some (.c 0), some (.d g), some (.d b), none, none]) (T := []) (P := shK 40000 20) (fun _ => trivial) (fun k ds hs => by
    obtain ⟨x, ds', h1, h2, h3⟩ := e_of (es := [g, g, g, b]) hs (by simp) (by simp) []
    refine ⟨x, ds', by simp [m4, h1], h3, ?_⟩
    simp only [List.mem_cons, List.not_mem_nil, or_false] at h2
    rcases h2 with rfl | rfl | rfl | rfl <;> assumption) n 0 ds1 s1
  obtain ⟨x, ds3, e3, mx, s3⟩ := e_of (es := [.lst es, .lst es, .lst es, .tup es, g, .non, .dct]) s2 (by simp) (by simp) []
  have m7 : ∀ S, mkL false [.d (.lst es), .d (.lst es), .d (.lst es), .d (.tup es), .d g, .d .non, .d .dct] S = .ok (.d (.lst [.lst es, .lst es, .lst es, .tup es, g, .non, .dct])) S := fun S => mkL_ds false [.lst es, .lst es, .lst es, .tup es, g, .non, .dct] S (by simp)
  refine ⟨x, ds3, ?_, s3, ?_⟩
  · have a1 : fLc false (iRange1 (aCons (fApp FLDigit (aCons (fVar 0) (aCons (fK (.d (.int 7))) aNil))) aNil)) (.n 4) tYesF (fApp FLOf (aCons (fVar 0) (aCons (fApp (mkL false) (aCons (fVar 1) (aCons (fVar 1) (aCons (fVar 1) (aCons (fVar 2) aNil))))) aNil))) [4] [some (.c 0), some (.d g), some (.d b), none, none] [.l ds] = .ok (.d (.lst es)) [.l ds2] := by
      rw [fLc_of (ir1 (n := n) (S' := [.l ds1]) (by simp [e1]) (by omega)) (by rw [rngW_len]; omega) e2]
      rfl
    simp [FLList, fnF_ap, gLList, -fLc_ap, a1, aTuple, itW, m7, e3]
  · have he : es.length * 40000 ≤ 6 * 40000 := Nat.mul_le_mul (by omega) (Nat.le_refl _)
    have h1 := shK_lst (N := 600000) p2 (by omega)
    have h2 := shK_tup (N := 600000) p2 (by omega)
    simp only [List.mem_cons, List.not_mem_nil, or_false] at mx
    rcases mx with rfl | rfl | rfl | rfl | rfl | rfl | rfl
    · exact h1.le (by omega) (by omega)
    · exact h1.le (by omega) (by omega)
    · exact h1.le (by omega) (by omega)
    · exact h2.le (by omega) (by omega)
    · exact hg.le (by omega) (by omega)
    · exact shK_non.le (by omega) (by omega)
    · exact shK_dct.le (by omega) (by omega)
def dn (x : Option W) : Prop := x = none ∨ ∃ d, x = some (.d d)
theorem gc_dn {n : Nat} {x : Option W} {ρ : Env} (h : dn x) : gcE n (x :: ρ) = x :: gcE n ρ := by
  rcases h with rfl | ⟨d, rfl⟩
  · rfl
  · rw [gcE]
    rfl
theorem gc_s {n : Nat} {ns : List Int} {ρ : Env} : gcE n (some (.s ns) :: ρ) = some (.s ns) :: gcE n ρ := by rw [gcE]; rfl
theorem gc_c1 {ρ : Env} : gcE 1 (some (.c 0) :: ρ) = some (.c 0) :: gcE 1 ρ := by rw [gcE]; rfl
theorem gc_c0 {ρ : Env} : gcE 0 (some (.c 0) :: ρ) = some .j :: gcE 0 ρ := by rw [gcE]; rfl
theorem gc_nil {n : Nat} : gcE n [] = [] := rfl
theorem dn_d (d : D) : dn (some (.d d)) := .inr ⟨d, rfl⟩
theorem gc_env1 {ns : List Int} {x1 x3 x4 x5 x6 x7 x8 : Option W} (h1 : dn x1) (h3 : dn x3) (h4 : dn x4) (h5 : dn x5) (h6 : dn x6) (h7 : dn x7) (h8 : dn x8) : gcE 1 [some (.s ns), x1, some (.c 0), x3, x4, x5, x6, x7, x8] = [some (.s ns), x1, some (.c 0), x3, x4, x5, x6, x7, x8] := by
  rw [gc_s, gc_dn h1, gc_c1, gc_dn h3, gc_dn h4, gc_dn h5, gc_dn h6, gc_dn h7, gc_dn h8, gc_nil]
theorem gc_env0 {ns : List Int} {x1 x3 x4 x5 x6 x7 x8 : Option W} (h1 : dn x1) (h3 : dn x3) (h4 : dn x4) (h5 : dn x5) (h6 : dn x6) (h7 : dn x7) (h8 : dn x8) : gcE 0 [some (.s ns), x1, some (.c 0), x3, x4, x5, x6, x7, x8] = [some (.s ns), x1, some .j, x3, x4, x5, x6, x7, x8] := by
  rw [gc_s, gc_dn h1, gc_c0, gc_dn h3, gc_dn h4, gc_dn h5, gc_dn h6, gc_dn h7, gc_dn h8, gc_nil]
theorem sGc_nx {f : Sm} {ρ ρ' ρ'' : Env} {S S' S'' : Store} (h : f ρ S = .nx ρ' S') (ht : S'.take S.length = S'') (hl : lowS S.length S'' = true) (hg : gcE S.length ρ' = ρ'') : sGc f ρ S = .nx ρ'' S'' := by
  unfold sGc
  rw [h]
  dsimp only
  rw [ht, if_pos hl, hg]
noncomputable def bSpoil : Sm := sGc (sIf (fB (fApp FLIsRight (aCons (fVar 4) aNil)))
        (sSet 4 (fApp FLSpoilt (aCons (fVar 2) (aCons (fVar 4) aNil)))) sNil)
theorem e_spoil1 {ns : List Int} {ds : List D} {b : D} {x1 x3 x5 x6 x7 x8 : Option W} (hst : stOk ds) (hb : shK 40000 20 b) (h1 : dn x1) (h3 : dn x3) (h5 : dn x5) (h6 : dn x6) (h7 : dn x7) (h8 : dn x8) :
    ∃ b' ds', stOk ds' ∧ shK 40000 20 b' ∧ bSpoil [some (.s ns), x1, some (.c 0), x3, some (.d b), x5, x6, x7, x8] [.l ds] = .nx [some (.s ns), x1, some (.c 0), x3, some (.d b'), x5, x6, x7, x8] [.l ds'] := by
  cases hp : progB b with
  | false =>
    exact ⟨b, ds, hst, hb, sGc_nx (ρ' := [some (.s ns), x1, some (.c 0), x3, some (.d b), x5, x6, x7, x8]) (S' := [.l ds]) (by simp [e_right, hp]) rfl rfl (gc_env1 h1 h3 (dn_d b) h5 h6 h7 h8)⟩
  | true =>
    obtain ⟨e, ds', h, hs, he⟩ := e_spoilt (T := []) hst hp
    exact ⟨e, ds', hs, he, sGc_nx (ρ' := [some (.s ns), x1, some (.c 0), x3, some (.d e), x5, x6, x7, x8]) (S' := [.l ds']) (by simp [e_right, hp, h]) rfl rfl (gc_env1 h1 h3 (dn_d e) h5 h6 h7 h8)⟩
theorem e_spoils {ns : List Int} {x1 x3 x6 x7 x8 : Option W} (h1 : dn x1) (h3 : dn x3) (h6 : dn x6) (h7 : dn x7) (h8 : dn x8) : ∀ (n : Nat) (lo : Int) {ds : List D} {b : D} {x5 : Option W}, stOk ds → shK 40000 20 b → dn x5 →
    ∃ b' ds' x5', stOk ds' ∧ shK 40000 20 b' ∧ dn x5' ∧ forL (.n 5) (fun _ => True) bSpoil (rngW lo n) [some (.s ns), x1, some (.c 0), x3, some (.d b), x5, x6, x7, x8] [.l ds] = .nx [some (.s ns), x1, some (.c 0), x3, some (.d b'), x5', x6, x7, x8] [.l ds']
  | 0, lo, ds, b, x5, hst, hb, h5 => ⟨b, ds, x5, hst, hb, h5, by rw [rngW, forL, if_pos trivial]⟩
  | n + 1, lo, ds, b, x5, hst, hb, h5 => by
    obtain ⟨b1, ds1, a1, a2, a3⟩ := e_spoil1 (ns := ns) (x5 := some (.d (.int lo))) hst hb h1 h3 (dn_d _) h6 h7 h8
    obtain ⟨b2, ds2, x5', c1, c2, c3, c4⟩ := e_spoils h1 h3 h6 h7 h8 n (lo + 1) a1 a2 (dn_d (.int lo))
    refine ⟨b2, ds2, x5', c1, c2, c3, ?_⟩
    rw [rngW, forL, if_pos trivial]
    have hp : bindP (.n 5) (.d (.int lo)) [some (.s ns), x1, some (.c 0), x3, some (.d b), x5, x6, x7, x8] = some [some (.s ns), x1, some (.c 0), x3, some (.d b), some (.d (.int lo)), x6, x7, x8] := rfl
    rw [hp]
    dsimp only
    rw [a3]
    dsimp only
    rw [c4]
@[simp] theorem rep1 {d : D} (S : Store) (h : showD d = true) : aRepr [.d d] S = .ok (.d (.str (pd d).shown)) S := by simp [aRepr, rdW, h]
noncomputable def bAsk : Sm := sGc (sSeq (sSet 7 (fApp aRepr (aCons (fVar 6) aNil)))
        (sIf (tOrF (tNotF (fB (fApp FLTruth (aCons (fApp FIsProgram (aCons (fVar 6) aNil)) (aCons (fApp FLIsRight (aCons (fVar 6) aNil)) aNil))))) (fB (fOp oNe (fApp aRepr (aCons (fVar 6) aNil)) (fVar 7))))
        (sRet (fK (.d (.bl false)))) sNil))
theorem e_ask1 {ns : List Int} {ds : List D} {d : D} {x1 x3 x4 x5 x7 x8 : Option W} (hd : showD d = true) (h1 : dn x1) (h3 : dn x3) (h4 : dn x4) (h5 : dn x5) (h8 : dn x8) :
    bAsk [some (.s ns), x1, some (.c 0), x3, x4, x5, some (.d d), x7, x8] [.l ds] = .nx [some (.s ns), x1, some (.c 0), x3, x4, x5, some (.d d), some (.d (.str (pd d).shown)), x8] [.l ds] :=
  sGc_nx (ρ' := [some (.s ns), x1, some (.c 0), x3, x4, x5, some (.d d), some (.d (.str (pd d).shown)), x8]) (S' := [.l ds]) (by simp [hd, e_prog, e_right, e_truth]) rfl rfl (gc_env1 h1 h3 h4 h5 (dn_d _) (dn_d _) h8)
theorem e_asks {ns : List Int} {ds : List D} {g b : D} {x1 x3 x4 x5 x6 x7 x8 : Option W} (hg : showD g = true) (hb : showD b = true) (h1 : dn x1) (h3 : dn x3) (h4 : dn x4) (h5 : dn x5) (h8 : dn x8) :
    forL (.n 6) (fun _ => True) bAsk [.d g, .d b] [some (.s ns), x1, some (.c 0), x3, x4, x5, x6, x7, x8] [.l ds] = .nx [some (.s ns), x1, some (.c 0), x3, x4, x5, some (.d b), some (.d (.str (pd b).shown)), x8] [.l ds] := by
  have hp : ∀ (w : W) (x6 x7 : Option W), bindP (.n 6) w [some (.s ns), x1, some (.c 0), x3, x4, x5, x6, x7, x8] = some [some (.s ns), x1, some (.c 0), x3, x4, x5, some w, x7, x8] := fun _ _ _ => rfl
  rw [forL, if_pos trivial, hp]
  dsimp only
  rw [e_ask1 hg h1 h3 h4 h5 h8]
  dsimp only
  rw [forL, if_pos trivial, hp]
  dsimp only
  rw [e_ask1 hb h1 h3 h4 h5 h8]
  dsimp only
  rw [forL, if_pos trivial]
noncomputable def bTurn : Sm := sGc (sSeq (sSet 2 (fApp (mkL true) (aCons (fVar 1) aNil)))
      (sSeq (sSet 3 (fApp FLProgram (aCons (fVar 2) (aCons (fK (.d (.int 3))) (aCons (fK (.d (.int 6))) aNil)))))
      (sSeq (sSet 4 (fVar 3))
      (sSeq (sFor (iRange1 (aCons (fOp oAdd (fK (.d (.int 1))) (fApp FLDigit (aCons (fVar 2) (aCons (fK (.d (.int 2))) aNil)))) aNil)) (.n 5) bSpoil)
      (sSeq (sFor (iTupF (fApp mkT (aCons (fVar 3) (aCons (fVar 4) aNil)))) (.n 6) bAsk)
      (sSeq (sSet 8 (fApp FLList (aCons (fVar 2) (aCons (fVar 3) (aCons (fVar 4) aNil)))))
      (sSeq (sSet 7 (fApp aRepr (aCons (fVar 8) aNil)))
      (sSeq (sIf (tOrF (tNotF (fB (fApp FLTruth (aCons (fApp FArePrograms (aCons (fVar 8) aNil)) (aCons (fApp FLAreRight (aCons (fVar 8) aNil)) aNil))))) (fB (fOp oNe (fApp aRepr (aCons (fVar 8) aNil)) (fVar 7))))
      (sRet (fK (.d (.bl false)))) sNil)
      (sIf (tOrF (tNotF (fB (fApp FIsProgram (aCons (fVar 3) aNil)))) (tOrF (tNotF (fB (fApp FArePrograms (aCons (fOp (oRepL false) (fApp (mkL false) (aCons (fVar 3) aNil)) (fK (.d (.int 4)))) aNil)))) (fB (fApp FArePrograms (aCons (fOp (oRepL false) (fApp (mkL false) (aCons (fVar 3) aNil)) (fK (.d (.int 5)))) aNil)))))
      (sRet (fK (.d (.bl false)))) sNil)))))))))
theorem gLaw_eq : gLaw = (sSeq (sFor (iList (fOp (oCatL false) (fApp (mkL false) (aCons (fApp FLCellAt (aCons (fVar 0) (aCons (fK (.d (.int 0))) aNil))) aNil)) (fSl (oSlL false) (fVar 0) (pSo (fK (.d (.int 1)))) (pSo (fK (.d (.int 16))))))) (.n 1) bTurn)
    (sRet (fK (.d (.bl true))))) := rfl
theorem e_turn {ns : List Int} {a : Int} {x2 x3 x4 x5 x6 x7 x8 : Option W} (h3 : dn x3) (h4 : dn x4) (h5 : dn x5) (h6 : dn x6) (h7 : dn x7) (h8 : dn x8) :
    ∃ y3 y4 y5 y6 y7 y8, dn y3 ∧ dn y4 ∧ dn y5 ∧ dn y6 ∧ dn y7 ∧ dn y8 ∧ bTurn [some (.s ns), some (.d (.int a)), x2, x3, x4, x5, x6, x7, x8] [] = .nx [some (.s ns), some (.d (.int a)), some .j, y3, y4, y5, y6, y7, y8] [] := by
  obtain ⟨ds1, ts, done, e1, s1, hp⟩ := e_program (ds := [.int a]) (.inl ⟨a, rfl⟩)
  generalize hg : D.tup [.tup ts, .tup done] = g at e1 hp
  have sg := sh_prog hp
  obtain ⟨v, ds2, e2, v0, v1, s2⟩ := e_dig (m := 2) s1 (by omega) (by omega) []
  obtain ⟨n, rfl⟩ : ∃ n : Nat, v = (n : Int) := ⟨v.toNat, by omega⟩
  have da : dn (some (.d (.int a))) := dn_d _
  obtain ⟨b, ds3, y5, s3, sb, d5, e3⟩ := e_spoils (ns := ns) da (dn_d g) h6 h7 h8 (n + 1) 0 s2 sg h5
  have qg := sg.show (by omega) (by omega)
  have qb := sb.show (by omega) (by omega)
  have e4 := e_asks (ns := ns) (ds := ds3) (g := g) (b := b) (x6 := x6) (x7 := x7) qg qb da (dn_d g) (dn_d b) d5 h8
  obtain ⟨l, ds4, e5, s5, sl⟩ := e_list s3 sg sb
  have ql := sl.show (by omega) (by omega)
  refine ⟨some (.d g), some (.d b), y5, some (.d b), some (.d (.str (pd l).shown)), some (.d l), dn_d _, dn_d _, d5, dn_d _, dn_d _, dn_d _, ?_⟩
  have a1 : sSet 2 (fApp (mkL true) (aCons (fVar 1) aNil)) [some (.s ns), some (.d (.int a)), x2, x3, x4, x5, x6, x7, x8] [] = .nx [some (.s ns), some (.d (.int a)), some (.c 0), x3, x4, x5, x6, x7, x8] [.l [.int a]] := by simp
  have a2 : sSet 3 (fApp FLProgram (aCons (fVar 2) (aCons (fK (.d (.int 3))) (aCons (fK (.d (.int 6))) aNil)))) [some (.s ns), some (.d (.int a)), some (.c 0), x3, x4, x5, x6, x7, x8] [.l [.int a]] = .nx [some (.s ns), some (.d (.int a)), some (.c 0), some (.d g), x4, x5, x6, x7, x8] [.l ds1] := by simp [e1]
  have a3 : sSet 4 (fVar 3) [some (.s ns), some (.d (.int a)), some (.c 0), some (.d g), x4, x5, x6, x7, x8] [.l ds1] = .nx [some (.s ns), some (.d (.int a)), some (.c 0), some (.d g), some (.d g), x5, x6, x7, x8] [.l ds1] := by simp
  have a4 : sFor (iRange1 (aCons (fOp oAdd (fK (.d (.int 1))) (fApp FLDigit (aCons (fVar 2) (aCons (fK (.d (.int 2))) aNil)))) aNil)) (.n 5) bSpoil [some (.s ns), some (.d (.int a)), some (.c 0), some (.d g), some (.d g), x5, x6, x7, x8] [.l ds1] = .nx [some (.s ns), some (.d (.int a)), some (.c 0), some (.d g), some (.d b), y5, x6, x7, x8] [.l ds3] := by
    have : ((n + 1 : Nat) : Int) = 1 + (n : Int) := by omega
    rw [sFor_ap, ir1 (n := n + 1) (S' := [.l ds2]) (by rw [this]; simp [e2]) (by omega), Rs.st_ok]
    exact e3
  have a5 : sFor (iTupF (fApp mkT (aCons (fVar 3) (aCons (fVar 4) aNil)))) (.n 6) bAsk [some (.s ns), some (.d (.int a)), some (.c 0), some (.d g), some (.d b), y5, x6, x7, x8] [.l ds3] = .nx [some (.s ns), some (.d (.int a)), some (.c 0), some (.d g), some (.d b), y5, some (.d b), some (.d (.str (pd b).shown)), x8] [.l ds3] := by
    simp
    exact e4
  have a6 : sSet 8 (fApp FLList (aCons (fVar 2) (aCons (fVar 3) (aCons (fVar 4) aNil)))) [some (.s ns), some (.d (.int a)), some (.c 0), some (.d g), some (.d b), y5, some (.d b), some (.d (.str (pd b).shown)), x8] [.l ds3] = .nx [some (.s ns), some (.d (.int a)), some (.c 0), some (.d g), some (.d b), y5, some (.d b), some (.d (.str (pd b).shown)), some (.d l)] [.l ds4] := by simp [e5]
  have a7 : sSet 7 (fApp aRepr (aCons (fVar 8) aNil)) [some (.s ns), some (.d (.int a)), some (.c 0), some (.d g), some (.d b), y5, some (.d b), some (.d (.str (pd b).shown)), some (.d l)] [.l ds4] = .nx [some (.s ns), some (.d (.int a)), some (.c 0), some (.d g), some (.d b), y5, some (.d b), some (.d (.str (pd l).shown)), some (.d l)] [.l ds4] := by simp [ql]
  have a8 : sIf (tOrF (tNotF (fB (fApp FLTruth (aCons (fApp FArePrograms (aCons (fVar 8) aNil)) (aCons (fApp FLAreRight (aCons (fVar 8) aNil)) aNil))))) (fB (fOp oNe (fApp aRepr (aCons (fVar 8) aNil)) (fVar 7))))
      (sRet (fK (.d (.bl false)))) sNil [some (.s ns), some (.d (.int a)), some (.c 0), some (.d g), some (.d b), y5, some (.d b), some (.d (.str (pd l).shown)), some (.d l)] [.l ds4] = .nx [some (.s ns), some (.d (.int a)), some (.c 0), some (.d g), some (.d b), y5, some (.d b), some (.d (.str (pd l).shown)), some (.d l)] [.l ds4] := by simp [e_progs, e_rights, e_truth, ql]
  have r4 : ∀ S, oRepL false (.d (.lst [g])) (.d (.int 4)) S = .ok (.d (.lst [g, g, g, g])) S := fun S => rfl
  have r5 : ∀ S, oRepL false (.d (.lst [g])) (.d (.int 5)) S = .ok (.d (.lst [g, g, g, g, g])) S := fun S => rfl
  have p4 : progsB (.lst [g, g, g, g]) = true := by simp [progsB, hp]
  have p5 : progsB (.lst [g, g, g, g, g]) = false := by simp [progsB]
  have a9 : sIf (tOrF (tNotF (fB (fApp FIsProgram (aCons (fVar 3) aNil)))) (tOrF (tNotF (fB (fApp FArePrograms (aCons (fOp (oRepL false) (fApp (mkL false) (aCons (fVar 3) aNil)) (fK (.d (.int 4)))) aNil)))) (fB (fApp FArePrograms (aCons (fOp (oRepL false) (fApp (mkL false) (aCons (fVar 3) aNil)) (fK (.d (.int 5)))) aNil)))))
      (sRet (fK (.d (.bl false)))) sNil [some (.s ns), some (.d (.int a)), some (.c 0), some (.d g), some (.d b), y5, some (.d b), some (.d (.str (pd l).shown)), some (.d l)] [.l ds4] = .nx [some (.s ns), some (.d (.int a)), some (.c 0), some (.d g), some (.d b), y5, some (.d b), some (.d (.str (pd l).shown)), some (.d l)] [.l ds4] := by simp [e_prog, hp, r4, r5, e_progs, p4, p5]
  unfold bTurn
  exact sGc_nx (ρ' := [some (.s ns), some (.d (.int a)), some (.c 0), some (.d g), some (.d b), y5, some (.d b), some (.d (.str (pd l).shown)), some (.d l)]) (S' := [.l ds4]) (by rw [sSeq_nx a1, sSeq_nx a2, sSeq_nx a3, sSeq_nx a4, sSeq_nx a5, sSeq_nx a6, sSeq_nx a7, sSeq_nx a8, a9]) rfl rfl (gc_env0 da (dn_d _) (dn_d _) d5 (dn_d _) (dn_d _) (dn_d _))
theorem e_turns {ns : List Int} : ∀ {as : List Int} {x1 x2 x3 x4 x5 x6 x7 x8 : Option W}, dn x3 → dn x4 → dn x5 → dn x6 → dn x7 → dn x8 →
    ∃ ρ', forL (.n 1) (fun _ => True) bTurn ((as.map .int).map .d) [some (.s ns), x1, x2, x3, x4, x5, x6, x7, x8] [] = .nx ρ' []
  | [], x1, x2, x3, x4, x5, x6, x7, x8, _, _, _, _, _, _ => ⟨_, by rw [List.map_nil, List.map_nil, forL, if_pos trivial]⟩
  | a :: as, x1, x2, x3, x4, x5, x6, x7, x8, h3, h4, h5, h6, h7, h8 => by
    obtain ⟨y3, y4, y5, y6, y7, y8, d3, d4, d5, d6, d7, d8, e⟩ := e_turn (ns := ns) (a := a) (x2 := x2) h3 h4 h5 h6 h7 h8
    obtain ⟨ρ', e'⟩ := e_turns (ns := ns) (as := as) (x1 := some (.d (.int a))) (x2 := some .j) d3 d4 d5 d6 d7 d8
    refine ⟨ρ', ?_⟩
    rw [List.map_cons, List.map_cons, forL, if_pos trivial]
    have hp : bindP (.n 1) (.d (.int a)) [some (.s ns), x1, x2, x3, x4, x5, x6, x7, x8] = some [some (.s ns), some (.d (.int a)), x2, x3, x4, x5, x6, x7, x8] := rfl
    rw [hp]
    dsimp only
    rw [e]
    exact e'
theorem law_holds (ns : List Int) (hn : ns.length ≤ 63) : ∃ S', FLaw [.s ns] [] = .ok (.d (.bl true)) S' := by
  obtain ⟨c, hc⟩ : ∃ c : Int, FLCellAt [.s ns, .d (.int 0)] [] = .ok (.d (.int c)) [] := by
    cases ns with
    | nil => exact ⟨0, by simp [FLCellAt, fnF_ap, gLCellAt]⟩
    | cons a as =>
      have h : (0 : Int) < (as.length : Int) + 1 := by omega
      exact ⟨a, by simp [FLCellAt, fnF_ap, gLCellAt, h, oIx_ap, atI, ixN]⟩
  have hu : unDs (ns.map fun i => W.d (.int i)) = some (ns.map .int) := by
    have := unDs_map (ns.map D.int)
    rwa [List.map_map] at this
  obtain ⟨ms, hms, hml⟩ : ∃ ms : List Int, cutD (ns.map .int) (some 1) (some 16) = ms.map .int ∧ ms.length ≤ 63 := by
    unfold cutD
    refine ⟨(ns.drop (HT.sIx (ns.map D.int).length 0 (some 1))).take (HT.sIx (ns.map D.int).length (ns.map D.int).length (some 16) - HT.sIx (ns.map D.int).length 0 (some 1)), ?_, ?_⟩
    · rw [List.map_take, List.map_drop]
    · rw [List.length_take, List.length_drop]
      omega
  obtain ⟨ρ', e⟩ := e_turns (ns := ns) (as := c :: ms) (x1 := none) (x2 := none) (.inl rfl) (.inl rfl) (.inl rfl) (.inl rfl) (.inl rfl) (.inl rfl)
  have a1 : sFor (iList (fOp (oCatL false) (fApp (mkL false) (aCons (fApp FLCellAt (aCons (fVar 0) (aCons (fK (.d (.int 0))) aNil))) aNil)) (fSl (oSlL false) (fVar 0) (pSo (fK (.d (.int 1)))) (pSo (fK (.d (.int 16))))))) (.n 1) bTurn [some (.s ns), none, none, none, none, none, none, none, none] [] = .nx ρ' [] := by
    have hl : ms.length + 1 ≤ 100000 := by omega
    have hl2 : 1 + ms.length ≤ 100000 := by omega
    simp [hc, oSlL, laW, hu, hms, oCatL, liW, hl, hl2, -List.map_map]
    exact e
  exact ⟨[], (fnF_of (b := true) (n := 1) (m := 9) (ws := [.s ns]) (f := gLaw) (ρ := [some (.s ns), none, none, none, none, none, none, none, none]) (o := .rt (.d (.bl true)) []) rfl rfl (by rw [gLaw_eq, sSeq_nx a1]; rfl)).trans rfl⟩
end As

namespace As
open PySem PySem.Spec PyProof.Rows L2
/-! ### what the top has written; the end -/
theorem all_mk {P : Program} {w : World} {K : PySem.W.Frag} {h : Heap} {mg : Str → Option Value} {fa : Addr} (X : K.In h) (G : h.Ns mainGlobals mg) (hfa : mg "law" = some (.ref fa))
    {f1 f2 f3 f4 f5 f6 f7 f8 f9 f10 f11 f12 f13 f14 f15 f16 f17 f18 f19 f20 f21 f22 f23 f24 f25 f26 : Addr} {od1 an1 od2 an2 od3 an3 od4 an4 od5 an5 od6 an6 od7 an7 od8 an8 od9 an9 od10 an10 od11 an11 od12 an12 od13 an13 od14 an14 od15 an15 od16 an16 od17 an17 od18 an18 od19 an19 od20 an20 od21 an21 od22 an22 od23 an23 od24 an24 od25 an25 od26 an26 : Option Addr} {sl1 sl2 sl3 sl4 sl5 sl6 sl7 sl8 sl9 sl10 sl11 sl12 sl13 sl14 sl15 sl16 sl17 sl18 sl19 sl20 sl21 sl22 sl23 sl24 sl25 sl26 : Array (Option Value)} {oc1 kV1 dc1 pm1 ct1 cd1 oc2 kV2 dc2 pm2 ct2 cd2 oc3 kV3 dc3 pm3 ct3 cd3 oc4 kV4 dc4 pm4 ct4 cd4 oc5 kV5 dc5 pm5 ct5 cd5 oc6 kV6 dc6 pm6 ct6 cd6 oc7 kV7 dc7 pm7 ct7 cd7 oc8 kV8 dc8 pm8 ct8 cd8 oc9 kV9 dc9 pm9 ct9 cd9 oc10 kV10 dc10 pm10 ct10 cd10 oc11 kV11 dc11 pm11 ct11 cd11 oc12 kV12 dc12 pm12 ct12 cd12 oc13 kV13 dc13 pm13 ct13 cd13 oc14 kV14 dc14 pm14 ct14 cd14 oc15 kV15 dc15 pm15 ct15 cd15 oc16 kV16 dc16 pm16 ct16 cd16 oc17 kV17 dc17 pm17 ct17 cd17 oc18 kV18 dc18 pm18 ct18 cd18 oc19 kV19 dc19 pm19 ct19 cd19 oc20 kV20 dc20 pm20 ct20 cd20 oc21 kV21 dc21 pm21 ct21 cd21 oc22 kV22 dc22 pm22 ct22 cd22 oc23 kV23 dc23 pm23 ct23 cd23 oc24 kV24 dc24 pm24 ct24 cd24 oc25 kV25 dc25 pm25 ct25 cd25 oc26 kV26 dc26 pm26 ct26 cd26 : Value} {t1 t2 t3 t4 t5 : Tok}
    (a1 : PySem.W.nsIn K mainGlobals "is_whole" = some (some (.ref f1))) (l1 : K.lookup f1 = some ⟨oc1, od1, .func (PySem.W.fnOf "is_whole" "is_whole" (defArgs sIsWhole) (defBody sIsWhole) (defScope sIsWhole) .none kV1 dc1 pm1 an1 cd1 ct1), sl1⟩) (c1 : PySem.W.codeIn K cd1 "is_whole" = true) (k1 : PySem.W.keepIn K (.ref f1) = true)
    (a2 : PySem.W.nsIn K mainGlobals "is_number" = some (some (.ref f2))) (l2 : K.lookup f2 = some ⟨oc2, od2, .func (PySem.W.fnOf "is_number" "is_number" (defArgs sIsNumber) (defBody sIsNumber) (defScope sIsNumber) .none kV2 dc2 pm2 an2 cd2 ct2), sl2⟩) (c2 : PySem.W.codeIn K cd2 "is_number" = true) (k2 : PySem.W.keepIn K (.ref f2) = true)
    (a3 : PySem.W.nsIn K mainGlobals "is_one_of" = some (some (.ref f3))) (l3 : K.lookup f3 = some ⟨oc3, od3, .func (PySem.W.fnOf "is_one_of" "is_one_of" (defArgs sIsOneOf) (defBody sIsOneOf) (defScope sIsOneOf) .none kV3 dc3 pm3 an3 cd3 ct3), sl3⟩) (c3 : PySem.W.codeIn K cd3 "is_one_of" = true) (k3 : PySem.W.keepIn K (.ref f3) = true)
    (a4 : PySem.W.nsIn K mainGlobals "may_follow" = some (some (.ref f4))) (l4 : K.lookup f4 = some ⟨oc4, od4, .func (PySem.W.fnOf "may_follow" "may_follow" (defArgs sMayFollow) (defBody sMayFollow) (defScope sMayFollow) .none kV4 dc4 pm4 an4 cd4 ct4), sl4⟩) (c4 : PySem.W.codeIn K cd4 "may_follow" = true) (k4 : PySem.W.keepIn K (.ref f4) = true)
    (a5 : PySem.W.nsIn K mainGlobals "are_tables" = some (some (.ref f5))) (l5 : K.lookup f5 = some ⟨oc5, od5, .func (PySem.W.fnOf "are_tables" "are_tables" (defArgs sAreTables) (defBody sAreTables) (defScope sAreTables) .none kV5 dc5 pm5 an5 cd5 ct5), sl5⟩) (c5 : PySem.W.codeIn K cd5 "are_tables" = true) (k5 : PySem.W.keepIn K (.ref f5) = true)
    (a6 : PySem.W.nsIn K mainGlobals "is_slot" = some (some (.ref f6))) (l6 : K.lookup f6 = some ⟨oc6, od6, .func (PySem.W.fnOf "is_slot" "is_slot" (defArgs sIsSlot) (defBody sIsSlot) (defScope sIsSlot) .none kV6 dc6 pm6 an6 cd6 ct6), sl6⟩) (c6 : PySem.W.codeIn K cd6 "is_slot" = true) (k6 : PySem.W.keepIn K (.ref f6) = true)
    (a7 : PySem.W.nsIn K mainGlobals "is_slot_step" = some (some (.ref f7))) (l7 : K.lookup f7 = some ⟨oc7, od7, .func (PySem.W.fnOf "is_slot_step" "is_slot_step" (defArgs sIsSlotStep) (defBody sIsSlotStep) (defScope sIsSlotStep) .none kV7 dc7 pm7 an7 cd7 ct7), sl7⟩) (c7 : PySem.W.codeIn K cd7 "is_slot_step" = true) (k7 : PySem.W.keepIn K (.ref f7) = true)
    (a8 : PySem.W.nsIn K mainGlobals "are_slot_steps" = some (some (.ref f8))) (l8 : K.lookup f8 = some ⟨oc8, od8, .func (PySem.W.fnOf "are_slot_steps" "are_slot_steps" (defArgs sAreSlotSteps) (defBody sAreSlotSteps) (defScope sAreSlotSteps) .none kV8 dc8 pm8 an8 cd8 ct8), sl8⟩) (c8 : PySem.W.codeIn K cd8 "are_slot_steps" = true) (k8 : PySem.W.keepIn K (.ref f8) = true)
    (a9 : PySem.W.nsIn K mainGlobals "is_program" = some (some (.ref f9))) (l9 : K.lookup f9 = some ⟨oc9, od9, .func (PySem.W.fnOf "is_program" "is_program" (defArgs sIsProgram) (defBody sIsProgram) (defScope sIsProgram) .none kV9 dc9 pm9 an9 cd9 ct9), sl9⟩) (c9 : PySem.W.codeIn K cd9 "is_program" = true) (k9 : PySem.W.keepIn K (.ref f9) = true)
    (a10 : PySem.W.nsIn K mainGlobals "are_programs" = some (some (.ref f10))) (l10 : K.lookup f10 = some ⟨oc10, od10, .func (PySem.W.fnOf "are_programs" "are_programs" (defArgs sArePrograms) (defBody sArePrograms) (defScope sArePrograms) .none kV10 dc10 pm10 an10 cd10 ct10), sl10⟩) (c10 : PySem.W.codeIn K cd10 "are_programs" = true) (k10 : PySem.W.keepIn K (.ref f10) = true)
    (a11 : PySem.W.nsIn K mainGlobals "_law_cell_at" = some (some (.ref f11))) (l11 : K.lookup f11 = some ⟨oc11, od11, .func (PySem.W.fnOf "_law_cell_at" "_law_cell_at" (defArgs sLCellAt) (defBody sLCellAt) (defScope sLCellAt) .none kV11 dc11 pm11 an11 cd11 ct11), sl11⟩) (c11 : PySem.W.codeIn K cd11 "_law_cell_at" = true) (k11 : PySem.W.keepIn K (.ref f11) = true)
    (a12 : PySem.W.nsIn K mainGlobals "_law_digit" = some (some (.ref f12))) (l12 : K.lookup f12 = some ⟨oc12, od12, .func (PySem.W.fnOf "_law_digit" "_law_digit" (defArgs sLDigit) (defBody sLDigit) (defScope sLDigit) .none kV12 dc12 pm12 an12 cd12 ct12), sl12⟩) (c12 : PySem.W.codeIn K cd12 "_law_digit" = true) (k12 : PySem.W.keepIn K (.ref f12) = true)
    (a13 : PySem.W.nsIn K mainGlobals "_law_of" = some (some (.ref f13))) (l13 : K.lookup f13 = some ⟨oc13, od13, .func (PySem.W.fnOf "_law_of" "_law_of" (defArgs sLOf) (defBody sLOf) (defScope sLOf) .none kV13 dc13 pm13 an13 cd13 ct13), sl13⟩) (c13 : PySem.W.codeIn K cd13 "_law_of" = true) (k13 : PySem.W.keepIn K (.ref f13) = true)
    (a14 : PySem.W.nsIn K mainGlobals "_law_steps" = some (some (.ref f14))) (l14 : K.lookup f14 = some ⟨oc14, od14, .func (PySem.W.fnOf "_law_steps" "_law_steps" (defArgs sLSteps) (defBody sLSteps) (defScope sLSteps) .none kV14 dc14 pm14 an14 cd14 ct14), sl14⟩) (c14 : PySem.W.codeIn K cd14 "_law_steps" = true) (k14 : PySem.W.keepIn K (.ref f14) = true)
    (a15 : PySem.W.nsIn K mainGlobals "_law_program" = some (some (.ref f15))) (l15 : K.lookup f15 = some ⟨oc15, od15, .func (PySem.W.fnOf "_law_program" "_law_program" (defArgs sLProgram) (defBody sLProgram) (defScope sLProgram) .none kV15 dc15 pm15 an15 cd15 ct15), sl15⟩) (c15 : PySem.W.codeIn K cd15 "_law_program" = true) (k15 : PySem.W.keepIn K (.ref f15) = true)
    (a16 : PySem.W.nsIn K mainGlobals "_law_odd" = some (some (.ref f16))) (l16 : K.lookup f16 = some ⟨oc16, od16, .func (PySem.W.fnOf "_law_odd" "_law_odd" (defArgs sLOdd) (defBody sLOdd) (defScope sLOdd) .none kV16 dc16 pm16 an16 cd16 ct16), sl16⟩) (c16 : PySem.W.codeIn K cd16 "_law_odd" = true) (k16 : PySem.W.keepIn K (.ref f16) = true)
    (a17 : PySem.W.nsIn K mainGlobals "_law_put" = some (some (.ref f17))) (l17 : K.lookup f17 = some ⟨oc17, od17, .func (PySem.W.fnOf "_law_put" "_law_put" (defArgs sLPut) (defBody sLPut) (defScope sLPut) .none kV17 dc17 pm17 an17 cd17 ct17), sl17⟩) (c17 : PySem.W.codeIn K cd17 "_law_put" = true) (k17 : PySem.W.keepIn K (.ref f17) = true)
    (a18 : PySem.W.nsIn K mainGlobals "_law_spoilt_step" = some (some (.ref f18))) (l18 : K.lookup f18 = some ⟨oc18, od18, .func (PySem.W.fnOf "_law_spoilt_step" "_law_spoilt_step" (defArgs sLSpoiltStep) (defBody sLSpoiltStep) (defScope sLSpoiltStep) .none kV18 dc18 pm18 an18 cd18 ct18), sl18⟩) (c18 : PySem.W.codeIn K cd18 "_law_spoilt_step" = true) (k18 : PySem.W.keepIn K (.ref f18) = true)
    (a19 : PySem.W.nsIn K mainGlobals "_law_spoilt" = some (some (.ref f19))) (l19 : K.lookup f19 = some ⟨oc19, od19, .func (PySem.W.fnOf "_law_spoilt" "_law_spoilt" (defArgs sLSpoilt) (defBody sLSpoilt) (defScope sLSpoilt) .none kV19 dc19 pm19 an19 cd19 ct19), sl19⟩) (c19 : PySem.W.codeIn K cd19 "_law_spoilt" = true) (k19 : PySem.W.keepIn K (.ref f19) = true)
    (a20 : PySem.W.nsIn K mainGlobals "_law_whole" = some (some (.ref f20))) (l20 : K.lookup f20 = some ⟨oc20, od20, .func (PySem.W.fnOf "_law_whole" "_law_whole" (defArgs sLWhole) (defBody sLWhole) (defScope sLWhole) .none kV20 dc20 pm20 an20 cd20 ct20), sl20⟩) (c20 : PySem.W.codeIn K cd20 "_law_whole" = true) (k20 : PySem.W.keepIn K (.ref f20) = true)
    (a21 : PySem.W.nsIn K mainGlobals "_law_is_step" = some (some (.ref f21))) (l21 : K.lookup f21 = some ⟨oc21, od21, .func (PySem.W.fnOf "_law_is_step" "_law_is_step" (defArgs sLIsStep) (defBody sLIsStep) (defScope sLIsStep) .none kV21 dc21 pm21 an21 cd21 ct21), sl21⟩) (c21 : PySem.W.codeIn K cd21 "_law_is_step" = true) (k21 : PySem.W.keepIn K (.ref f21) = true)
    (a22 : PySem.W.nsIn K mainGlobals "_law_is_right" = some (some (.ref f22))) (l22 : K.lookup f22 = some ⟨oc22, od22, .func (PySem.W.fnOf "_law_is_right" "_law_is_right" (defArgs sLIsRight) (defBody sLIsRight) (defScope sLIsRight) .none kV22 dc22 pm22 an22 cd22 ct22), sl22⟩) (c22 : PySem.W.codeIn K cd22 "_law_is_right" = true) (k22 : PySem.W.keepIn K (.ref f22) = true)
    (a23 : PySem.W.nsIn K mainGlobals "_law_are_right" = some (some (.ref f23))) (l23 : K.lookup f23 = some ⟨oc23, od23, .func (PySem.W.fnOf "_law_are_right" "_law_are_right" (defArgs sLAreRight) (defBody sLAreRight) (defScope sLAreRight) .none kV23 dc23 pm23 an23 cd23 ct23), sl23⟩) (c23 : PySem.W.codeIn K cd23 "_law_are_right" = true) (k23 : PySem.W.keepIn K (.ref f23) = true)
    (a24 : PySem.W.nsIn K mainGlobals "_law_list" = some (some (.ref f24))) (l24 : K.lookup f24 = some ⟨oc24, od24, .func (PySem.W.fnOf "_law_list" "_law_list" (defArgs sLList) (defBody sLList) (defScope sLList) .none kV24 dc24 pm24 an24 cd24 ct24), sl24⟩) (c24 : PySem.W.codeIn K cd24 "_law_list" = true) (k24 : PySem.W.keepIn K (.ref f24) = true)
    (a25 : PySem.W.nsIn K mainGlobals "_law_truth" = some (some (.ref f25))) (l25 : K.lookup f25 = some ⟨oc25, od25, .func (PySem.W.fnOf "_law_truth" "_law_truth" (defArgs sLTruth) (defBody sLTruth) (defScope sLTruth) .none kV25 dc25 pm25 an25 cd25 ct25), sl25⟩) (c25 : PySem.W.codeIn K cd25 "_law_truth" = true) (k25 : PySem.W.keepIn K (.ref f25) = true)
    (a26 : PySem.W.nsIn K mainGlobals "law" = some (some (.ref f26))) (l26 : K.lookup f26 = some ⟨oc26, od26, .func (PySem.W.fnOf "law" "law" (defArgs sLaw) (defBody sLaw) (defScope sLaw) .none kV26 dc26 pm26 an26 cd26 ct26), sl26⟩) (c26 : PySem.W.codeIn K cd26 "law" = true) (k26 : PySem.W.keepIn K (.ref f26) = true)
    (z1 : PySem.W.nsIn K mainGlobals "isinstance" = some none)
    (z2 : PySem.W.nsIn K mainGlobals "int" = some none)
    (z3 : PySem.W.nsIn K mainGlobals "bool" = some none)
    (z4 : PySem.W.nsIn K mainGlobals "str" = some none)
    (z5 : PySem.W.nsIn K mainGlobals "tuple" = some none)
    (z6 : PySem.W.nsIn K mainGlobals "list" = some none)
    (z7 : PySem.W.nsIn K mainGlobals "len" = some none)
    (z8 : PySem.W.nsIn K mainGlobals "all" = some none)
    (z9 : PySem.W.nsIn K mainGlobals "enumerate" = some none)
    (z10 : PySem.W.nsIn K mainGlobals "range" = some none)
    (z11 : PySem.W.nsIn K mainGlobals "repr" = some none)
    (y1 : PySem.W.nsIn K mainGlobals "MANY_KEYS" = some (some (.int 1000000 t1)))
    (y2 : PySem.W.nsIn K mainGlobals "MOST_TABLE" = some (some (.int 9 t2)))
    (y3 : PySem.W.nsIn K mainGlobals "MOST_TABLES" = some (some (.int 3 t3)))
    (y4 : PySem.W.nsIn K mainGlobals "MOST_STEPS" = some (some (.int 6 t4)))
    (y5 : PySem.W.nsIn K mainGlobals "MOST_PROGRAMS" = some (some (.int 4 t5)))
    : ∃ fd : FuncData, (∀ (s : Shared) (v : Value), BindsTo s fd ⟨[v], []⟩ [("_law_script", v)]) ∧ ∀ base : Heap, K.In base → base.Ns mainGlobals mg → FnG P w K mg base (L2.CX P w) 8 fa fd ["_law_script"] (spLawF K) := by
  have e := hfa.symm.trans (PySem.W.mg_of X G a26)
  cases e
  have F1 := fun_mk (st := sIsWhole) l1 c1 k1
  have D1 : DefAt K mg "is_whole" sIsWhole ["thing"] := ⟨_, _, F1, PySem.W.mg_of X G a1, F1.binds (ps := ["thing"]) fun _ _ _ _ _ _ us hl => match us, hl with | [_], _ => rfl⟩
  have F2 := fun_mk (st := sIsNumber) l2 c2 k2
  have D2 : DefAt K mg "is_number" sIsNumber ["thing", "many"] := ⟨_, _, F2, PySem.W.mg_of X G a2, F2.binds (ps := ["thing", "many"]) fun _ _ _ _ _ _ us hl => match us, hl with | [_, _], _ => rfl⟩
  have F3 := fun_mk (st := sIsOneOf) l3 c3 k3
  have D3 : DefAt K mg "is_one_of" sIsOneOf ["thing", "words"] := ⟨_, _, F3, PySem.W.mg_of X G a3, F3.binds (ps := ["thing", "words"]) fun _ _ _ _ _ _ us hl => match us, hl with | [_, _], _ => rfl⟩
  have F4 := fun_mk (st := sMayFollow) l4 c4 k4
  have D4 : DefAt K mg "may_follow" sMayFollow ["step", "ahead"] := ⟨_, _, F4, PySem.W.mg_of X G a4, F4.binds (ps := ["step", "ahead"]) fun _ _ _ _ _ _ us hl => match us, hl with | [_, _], _ => rfl⟩
  have F5 := fun_mk (st := sAreTables) l5 c5 k5
  have D5 : DefAt K mg "are_tables" sAreTables ["thing"] := ⟨_, _, F5, PySem.W.mg_of X G a5, F5.binds (ps := ["thing"]) fun _ _ _ _ _ _ us hl => match us, hl with | [_], _ => rfl⟩
  have F6 := fun_mk (st := sIsSlot) l6 c6 k6
  have D6 : DefAt K mg "is_slot" sIsSlot ["thing", "many"] := ⟨_, _, F6, PySem.W.mg_of X G a6, F6.binds (ps := ["thing", "many"]) fun _ _ _ _ _ _ us hl => match us, hl with | [_, _], _ => rfl⟩
  have F7 := fun_mk (st := sIsSlotStep) l7 c7 k7
  have D7 : DefAt K mg "is_slot_step" sIsSlotStep ["thing", "many"] := ⟨_, _, F7, PySem.W.mg_of X G a7, F7.binds (ps := ["thing", "many"]) fun _ _ _ _ _ _ us hl => match us, hl with | [_, _], _ => rfl⟩
  have F8 := fun_mk (st := sAreSlotSteps) l8 c8 k8
  have D8 : DefAt K mg "are_slot_steps" sAreSlotSteps ["thing", "many"] := ⟨_, _, F8, PySem.W.mg_of X G a8, F8.binds (ps := ["thing", "many"]) fun _ _ _ _ _ _ us hl => match us, hl with | [_, _], _ => rfl⟩
  have F9 := fun_mk (st := sIsProgram) l9 c9 k9
  have D9 : DefAt K mg "is_program" sIsProgram ["thing"] := ⟨_, _, F9, PySem.W.mg_of X G a9, F9.binds (ps := ["thing"]) fun _ _ _ _ _ _ us hl => match us, hl with | [_], _ => rfl⟩
  have F10 := fun_mk (st := sArePrograms) l10 c10 k10
  have D10 : DefAt K mg "are_programs" sArePrograms ["thing"] := ⟨_, _, F10, PySem.W.mg_of X G a10, F10.binds (ps := ["thing"]) fun _ _ _ _ _ _ us hl => match us, hl with | [_], _ => rfl⟩
  have F11 := fun_mk (st := sLCellAt) l11 c11 k11
  have D11 : DefAt K mg "_law_cell_at" sLCellAt ["_law_script", "_law_k"] := ⟨_, _, F11, PySem.W.mg_of X G a11, F11.binds (ps := ["_law_script", "_law_k"]) fun _ _ _ _ _ _ us hl => match us, hl with | [_, _], _ => rfl⟩
  have F12 := fun_mk (st := sLDigit) l12 c12 k12
  have D12 : DefAt K mg "_law_digit" sLDigit ["_law_state", "_law_base"] := ⟨_, _, F12, PySem.W.mg_of X G a12, F12.binds (ps := ["_law_state", "_law_base"]) fun _ _ _ _ _ _ us hl => match us, hl with | [_, _], _ => rfl⟩
  have F13 := fun_mk (st := sLOf) l13 c13 k13
  have D13 : DefAt K mg "_law_of" sLOf ["_law_state", "_law_some"] := ⟨_, _, F13, PySem.W.mg_of X G a13, F13.binds (ps := ["_law_state", "_law_some"]) fun _ _ _ _ _ _ us hl => match us, hl with | [_, _], _ => rfl⟩
  have F14 := fun_mk (st := sLSteps) l14 c14 k14
  have D14 : DefAt K mg "_law_steps" sLSteps ["_law_state", "_law_slots", "_law_most"] := ⟨_, _, F14, PySem.W.mg_of X G a14, F14.binds (ps := ["_law_state", "_law_slots", "_law_most"]) fun _ _ _ _ _ _ us hl => match us, hl with | [_, _, _], _ => rfl⟩
  have F15 := fun_mk (st := sLProgram) l15 c15 k15
  have D15 : DefAt K mg "_law_program" sLProgram ["_law_state", "_law_keys_most", "_law_most"] := ⟨_, _, F15, PySem.W.mg_of X G a15, F15.binds (ps := ["_law_state", "_law_keys_most", "_law_most"]) fun _ _ _ _ _ _ us hl => match us, hl with | [_, _, _], _ => rfl⟩
  have F16 := fun_mk (st := sLOdd) l16 c16 k16
  have D16 : DefAt K mg "_law_odd" sLOdd ["_law_state", "_law_thing"] := ⟨_, _, F16, PySem.W.mg_of X G a16, F16.binds (ps := ["_law_state", "_law_thing"]) fun _ _ _ _ _ _ us hl => match us, hl with | [_, _], _ => rfl⟩
  have F17 := fun_mk (st := sLPut) l17 c17 k17
  have D17 : DefAt K mg "_law_put" sLPut ["_law_row", "_law_k", "_law_thing"] := ⟨_, _, F17, PySem.W.mg_of X G a17, F17.binds (ps := ["_law_row", "_law_k", "_law_thing"]) fun _ _ _ _ _ _ us hl => match us, hl with | [_, _, _], _ => rfl⟩
  have F18 := fun_mk (st := sLSpoiltStep) l18 c18 k18
  have D18 : DefAt K mg "_law_spoilt_step" sLSpoiltStep ["_law_state", "_law_step"] := ⟨_, _, F18, PySem.W.mg_of X G a18, F18.binds (ps := ["_law_state", "_law_step"]) fun _ _ _ _ _ _ us hl => match us, hl with | [_, _], _ => rfl⟩
  have F19 := fun_mk (st := sLSpoilt) l19 c19 k19
  have D19 : DefAt K mg "_law_spoilt" sLSpoilt ["_law_state", "_law_thing"] := ⟨_, _, F19, PySem.W.mg_of X G a19, F19.binds (ps := ["_law_state", "_law_thing"]) fun _ _ _ _ _ _ us hl => match us, hl with | [_, _], _ => rfl⟩
  have F20 := fun_mk (st := sLWhole) l20 c20 k20
  have D20 : DefAt K mg "_law_whole" sLWhole ["_law_thing", "_law_low", "_law_high"] := ⟨_, _, F20, PySem.W.mg_of X G a20, F20.binds (ps := ["_law_thing", "_law_low", "_law_high"]) fun _ _ _ _ _ _ us hl => match us, hl with | [_, _, _], _ => rfl⟩
  have F21 := fun_mk (st := sLIsStep) l21 c21 k21
  have D21 : DefAt K mg "_law_is_step" sLIsStep ["_law_thing", "_law_many"] := ⟨_, _, F21, PySem.W.mg_of X G a21, F21.binds (ps := ["_law_thing", "_law_many"]) fun _ _ _ _ _ _ us hl => match us, hl with | [_, _], _ => rfl⟩
  have F22 := fun_mk (st := sLIsRight) l22 c22 k22
  have D22 : DefAt K mg "_law_is_right" sLIsRight ["_law_thing"] := ⟨_, _, F22, PySem.W.mg_of X G a22, F22.binds (ps := ["_law_thing"]) fun _ _ _ _ _ _ us hl => match us, hl with | [_], _ => rfl⟩
  have F23 := fun_mk (st := sLAreRight) l23 c23 k23
  have D23 : DefAt K mg "_law_are_right" sLAreRight ["_law_thing"] := ⟨_, _, F23, PySem.W.mg_of X G a23, F23.binds (ps := ["_law_thing"]) fun _ _ _ _ _ _ us hl => match us, hl with | [_], _ => rfl⟩
  have F24 := fun_mk (st := sLList) l24 c24 k24
  have D24 : DefAt K mg "_law_list" sLList ["_law_state", "_law_good", "_law_bad"] := ⟨_, _, F24, PySem.W.mg_of X G a24, F24.binds (ps := ["_law_state", "_law_good", "_law_bad"]) fun _ _ _ _ _ _ us hl => match us, hl with | [_, _, _], _ => rfl⟩
  have F25 := fun_mk (st := sLTruth) l25 c25 k25
  have D25 : DefAt K mg "_law_truth" sLTruth ["_law_found", "_law_due"] := ⟨_, _, F25, PySem.W.mg_of X G a25, F25.binds (ps := ["_law_found", "_law_due"]) fun _ _ _ _ _ _ us hl => match us, hl with | [_, _], _ => rfl⟩
  have F26 := fun_mk (st := sLaw) l26 c26 k26
  have D26 : DefAt K mg "law" sLaw ["_law_script"] := ⟨_, _, F26, PySem.W.mg_of X G a26, F26.binds (ps := ["_law_script"]) fun _ _ _ _ _ _ us hl => match us, hl with | [_], _ => rfl⟩
  have M : Mx K mg := ⟨PySem.W.mg_none_of X G z1, PySem.W.mg_none_of X G z2, PySem.W.mg_none_of X G z3, PySem.W.mg_none_of X G z4, PySem.W.mg_none_of X G z5, PySem.W.mg_none_of X G z6, PySem.W.mg_none_of X G z7, PySem.W.mg_none_of X G z8, PySem.W.mg_none_of X G z9, PySem.W.mg_none_of X G z10, PySem.W.mg_none_of X G z11, ⟨_, PySem.W.mg_of X G y1⟩, ⟨_, PySem.W.mg_of X G y2⟩, ⟨_, PySem.W.mg_of X G y3⟩, ⟨_, PySem.W.mg_of X G y4⟩, ⟨_, PySem.W.mg_of X G y5⟩⟩
  refine ⟨PySem.W.fnOf "law" "law" (defArgs sLaw) (defBody sLaw) (defScope sLaw) .none kV26 dc26 pm26 an26 cd26 ct26, fun s v => .of_eq rfl, fun base _ _ => ?_⟩
  have K1 := d_IsWhole (P := P) (w := w) (base := base) M D1 
  have K2 := d_IsNumber (P := P) (w := w) (base := base) M D2 K1
  have K3 := d_IsOneOf (P := P) (w := w) (base := base) M D3 
  have K4 := d_MayFollow (P := P) (w := w) (base := base) M D4 
  have K5 := d_AreTables (P := P) (w := w) (base := base) M D5 K1
  have K6 := d_IsSlot (P := P) (w := w) (base := base) M D6 K3 K2
  have K7 := d_IsSlotStep (P := P) (w := w) (base := base) M D7 K6 K3
  have K8 := d_AreSlotSteps (P := P) (w := w) (base := base) M D8 K7 K4
  have K9 := d_IsProgram (P := P) (w := w) (base := base) M D9 K8 K5
  have K10 := d_ArePrograms (P := P) (w := w) (base := base) M D10 K9
  have K11 := d_LCellAt (P := P) (w := w) (base := base) M D11 
  have K12 := d_LDigit (P := P) (w := w) (base := base) M D12 
  have K13 := d_LOf (P := P) (w := w) (base := base) M D13 K12
  have K14 := d_LSteps (P := P) (w := w) (base := base) M D14 K12
  have K15 := d_LProgram (P := P) (w := w) (base := base) M D15 K12 K13 K14
  have K16 := d_LOdd (P := P) (w := w) (base := base) M D16 K13
  have K17 := d_LPut (P := P) (w := w) (base := base) M D17 
  have K18 := d_LSpoiltStep (P := P) (w := w) (base := base) M D18 K12 K16 K13
  have K19 := d_LSpoilt (P := P) (w := w) (base := base) M D19 K12 K16 K17 K18 K13
  have K20 := d_LWhole (P := P) (w := w) (base := base) M D20 
  have K21 := d_LIsStep (P := P) (w := w) (base := base) M D21 K20
  have K22 := d_LIsRight (P := P) (w := w) (base := base) M D22 K20 K21
  have K23 := d_LAreRight (P := P) (w := w) (base := base) M D23 K22
  have K24 := d_LList (P := P) (w := w) (base := base) M D24 K12 K13
  have K25 := d_LTruth (P := P) (w := w) (base := base) M D25 
  have K26 := d_Law (P := P) (w := w) (base := base) M F26 K11 K15 K12 K22 K19 K25 K9 K24 K23 K10
  exact law_fn K26 rfl law_holds
end As
open PySem PySem.W PyProof.Rows
set_option maxHeartbeats 0 in
theorem PySem.Challenge.cw_asifalone_k71_what_is_a_program_holds : PySem.Challenge.rw_asifalone_k71_what_is_a_program.Holds := by
  w_on; o_law; k_head; (case hw => w_witness2)
  k_fill
  refine As.walk_ofG (l := PySem.Challenge.rw_asifalone_k71_what_is_a_program) (n := 63) (k := 8) (x := "_law_script") (CX := fun w => L2.CX PySem.Challenge.rw_asifalone_k71_what_is_a_program.prog w) (sp := fun w => As.spLawF _) rfl (by decide) rfl ⟨rfl, by decide, by decide⟩ (fun w h Y => PySem.W.kIn_of Y) ?F (fun _ _ a ns hl _ hS => ⟨a, ns, rfl, hS, hl, fun _ => rfl⟩) (fun _ _ _ _ _ h => As.cx_no h)
  case F =>
    intro w mg fa h KX G hmg
    refine' As.all_mk KX G hmg ?a1 ?l1 ?c1 ?k1 ?a2 ?l2 ?c2 ?k2 ?a3 ?l3 ?c3 ?k3 ?a4 ?l4 ?c4 ?k4 ?a5 ?l5 ?c5 ?k5 ?a6 ?l6 ?c6 ?k6 ?a7 ?l7 ?c7 ?k7 ?a8 ?l8 ?c8 ?k8 ?a9 ?l9 ?c9 ?k9 ?a10 ?l10 ?c10 ?k10 ?a11 ?l11 ?c11 ?k11 ?a12 ?l12 ?c12 ?k12 ?a13 ?l13 ?c13 ?k13 ?a14 ?l14 ?c14 ?k14 ?a15 ?l15 ?c15 ?k15 ?a16 ?l16 ?c16 ?k16 ?a17 ?l17 ?c17 ?k17 ?a18 ?l18 ?c18 ?k18 ?a19 ?l19 ?c19 ?k19 ?a20 ?l20 ?c20 ?k20 ?a21 ?l21 ?c21 ?k21 ?a22 ?l22 ?c22 ?k22 ?a23 ?l23 ?c23 ?k23 ?a24 ?l24 ?c24 ?k24 ?a25 ?l25 ?c25 ?k25 ?a26 ?l26 ?c26 ?k26 ?z1 ?z2 ?z3 ?z4 ?z5 ?z6 ?z7 ?z8 ?z9 ?z10 ?z11 ?y1 ?y2 ?y3 ?y4 ?y5
    (case a1 => k_is); (case l1 => k_is); (case c1 => k_is); (case k1 => k_is); (case a2 => k_is); (case l2 => k_is); (case c2 => k_is); (case k2 => k_is); (case a3 => k_is); (case l3 => k_is); (case c3 => k_is); (case k3 => k_is); (case a4 => k_is); (case l4 => k_is); (case c4 => k_is); (case k4 => k_is); (case a5 => k_is); (case l5 => k_is); (case c5 => k_is); (case k5 => k_is); (case a6 => k_is); (case l6 => k_is); (case c6 => k_is); (case k6 => k_is); (case a7 => k_is); (case l7 => k_is); (case c7 => k_is); (case k7 => k_is); (case a8 => k_is); (case l8 => k_is); (case c8 => k_is); (case k8 => k_is); (case a9 => k_is); (case l9 => k_is); (case c9 => k_is); (case k9 => k_is); (case a10 => k_is); (case l10 => k_is); (case c10 => k_is); (case k10 => k_is); (case a11 => k_is); (case l11 => k_is); (case c11 => k_is); (case k11 => k_is); (case a12 => k_is); (case l12 => k_is); (case c12 => k_is); (case k12 => k_is); (case a13 => k_is); (case l13 => k_is); (case c13 => k_is); (case k13 => k_is); (case a14 => k_is); (case l14 => k_is); (case c14 => k_is); (case k14 => k_is); (case a15 => k_is); (case l15 => k_is); (case c15 => k_is); (case k15 => k_is); (case a16 => k_is); (case l16 => k_is); (case c16 => k_is); (case k16 => k_is); (case a17 => k_is); (case l17 => k_is); (case c17 => k_is); (case k17 => k_is); (case a18 => k_is); (case l18 => k_is); (case c18 => k_is); (case k18 => k_is); (case a19 => k_is); (case l19 => k_is); (case c19 => k_is); (case k19 => k_is); (case a20 => k_is); (case l20 => k_is); (case c20 => k_is); (case k20 => k_is); (case a21 => k_is); (case l21 => k_is); (case c21 => k_is); (case k21 => k_is); (case a22 => k_is); (case l22 => k_is); (case c22 => k_is); (case k22 => k_is); (case a23 => k_is); (case l23 => k_is); (case c23 => k_is); (case k23 => k_is); (case a24 => k_is); (case l24 => k_is); (case c24 => k_is); (case k24 => k_is); (case a25 => k_is); (case l25 => k_is); (case c25 => k_is); (case k25 => k_is); (case a26 => k_is); (case l26 => k_is); (case c26 => k_is); (case k26 => k_is); (case z1 => k_is); (case z2 => k_is); (case z3 => k_is); (case z4 => k_is); (case z5 => k_is); (case z6 => k_is); (case z7 => k_is); (case z8 => k_is); (case z9 => k_is); (case z10 => k_is); (case z11 => k_is); (case y1 => k_is); (case y2 => k_is); (case y3 => k_is); (case y4 => k_is); (case y5 => k_is)
