import PyProof.Rows.All
import Wide.All
import OpenK.AllK
import Wide.FinOn
import HandS.ForMost
import HandS.Walk
import HandS.Deep
import HandS.TupAny
import HandS.IsInst
import KE.GoesEnum
import KE.KRevSl
import HandS.Style
import HandS.Evl
import PySem.Challenge.RW_asifalone_k01_steps_and_dealings
set_option Elab.async false
set_option linter.all false
set_option maxRecDepth 100000
set_option maxHeartbeats 4000000
/-! rules that the layer lacks: enumerate of a tuple, in over a tuple of data, t[::-1] of a tuple -/
namespace PySem
open Sem (wp)
set_option maxHeartbeats 4000000 in
theorem as_meets_enum {v : Value} {o : Obj} {H : Heap → Prop} (B : Begins v o H) :
    Meets (Builtin.«enumerate.__new__» ⟨[.type "enumerate", v], []⟩) (fun _ R s => H s.heap ∧
      R (.ok (.ret (.ref (s.heap.push o).objs.size))) { s with heap := (s.heap.push o).push { cls := .type "enumerate", data := .fields #[.none, .bool false, .ref s.heap.objs.size, rawInt 0, .none, .none] } }) :=
  .of_wp fun prog w A R s h => by
    obtain ⟨hpk, g, d, tkk, osk⟩ := s; obtain ⟨h1, h⟩ := h
    have hsub := sub_enumerate
    have q1k : ∀ {A' : Around} {E : Value → Shared → Prop} {Q : Value → Shared → Prop}, Q (.ref hpk.objs.size) ⟨hpk.push o, g, d, tkk, osk⟩ → wpAny (model prog w) A' (pyIter v) Q E ⟨hpk, g, d, tkk, osk⟩ :=
      fun q => B.iter prog w _ _ ⟨hpk, g, d, tkk, osk⟩ _ h1 q
    wp_walk using q1k
    refine wpAny_stack_any fun st => wpAny_pure ?_
    split
    · rename_i c _ _ _ _ _
      cases (c == Value.type "enumerate")
      · wp_walk using q1k
        exact ⟨_, rfl, h⟩
      · wp_walk using q1k
        exact ⟨_, rfl, h⟩
    · wp_walk using q1k
      exact ⟨_, rfl, h⟩
section
variable {prog : Program} {w : World} {A : Around} {E : Value → Shared → Prop} {s : Shared}
theorem as_call_enum {v : Value} {o : Obj} {H : Heap → Prop} {Q : Value → Shared → Prop} (B : Begins v o H) (h1 : H s.heap)
    (h : ∀ h', IsEnum h' (s.heap.objs.size + 1) s.heap.objs.size 0 .none → h'.get? s.heap.objs.size = some o → h'.objs.size = s.heap.objs.size + 2 →
      (∀ b o, s.heap.get? b = some o → h'.get? b = some o) → Q (.ref (s.heap.objs.size + 1)) { s with heap := h' }) :
    wpAny (model prog w) A (call (.type "enumerate") [v]) Q E s := by
  refine callType_new F.called_enumerate (by decide) (F.typeCall_enumerate_1 _) (F.newCall_enumerate_1 _) (fun obj => F.args_object_init_2 obj _) F.entry_enumerate_new
    (as_meets_enum B) ⟨h1, ?_⟩
  have hzk : (s.heap.push o).objs.size = s.heap.objs.size + 1 := Heap.size_push ..
  show _ ∧ _
  rw [hzk]
  have hek : IsEnum ((s.heap.push o).push { cls := .type "enumerate", data := .fields #[.none, .bool false, .ref s.heap.objs.size, rawInt 0, .none, .none] }) (s.heap.objs.size + 1) s.heap.objs.size 0 .none := by
    have := Heap.get?_push_size (s.heap.push o) (o := { cls := .type "enumerate", data := .fields #[.none, .bool false, .ref s.heap.objs.size, rawInt 0, .none, .none] }) rfl
    rw [hzk] at this; exact this
  refine ⟨⟨_, hek, rfl⟩, h _ hek (Heap.get?_push_of_some _ (Heap.get?_push_size _ B.free)) (by rw [Heap.size_push, hzk]) fun b o x => Heap.get?_push_of_some _ (Heap.get?_push_of_some _ x)⟩
end
end PySem
namespace L2
open PySem PySem.Spec PyProof.Rows
/-! ### enumerate(tuple) -/
def ItEt (K : PySem.W.Frag) (a : Addr) : It :=
  ⟨fun i H => ∃ (xs : List V) (x : V), SqT K H a xs ∧ xs[i]? = some x, fun i H v H' => ∃ T x, v = .ref T ∧ H T = none ∧ H' = upd H T (.tup [.int (i : Nat), x]) ∧ ∀ xs, SqT K H a xs → xs[i]? = some x, fun i H => ∃ xs : List V, SqT K H a xs ∧ xs.length = i⟩
theorem turn_enumT {P : Program} {w : World} {K : PySem.W.Frag} {elts : List Expr} {kk : Nat} {tpos : Pos} (a e it : Addr) :
    Turn P w K (.Tuple elts kk tpos) (ItEt K a) [e, it] e (fun i h => (∃ oldk, IsEnum h e it ((i : Nat) : Int) oldk) ∧ h.IsTupleIter it a i ∧ e ≠ it ∧ a ≠ it ∧ a ≠ e) where
  mem := by simp
  obj := fun i h st b hbk => by
    obtain ⟨⟨oldk, hek⟩, ⟨o, ho, hc, hd⟩, _⟩ := st
    have ek' : b = e ∨ b = it := by simpa using hbk
    rcases ek' with z | z
    · rw [z]; exact ⟨_, hek, fun v q => nomatch q⟩
    · rw [z]; exact ⟨o, ho, fun v q => by rw [hd] at q; cases q⟩
  keep := fun i h h' st k => let ⟨⟨oldk, hek⟩, hik, hnek⟩ := st; ⟨⟨oldk, k e (by simp) _ hek⟩, hik.at fun o q => k it (by simp) o q, hnek⟩
  item := by
    intro X hPk hwk hKk hc i pinsk s σ H E Ik hfk st hgk
    subst hPk hwk hKk
    obtain ⟨⟨oldk, hek⟩, hitk, hnek, hai, hae⟩ := st
    obtain ⟨xs, x, hqk, hxk⟩ := hgk
    obtain ⟨itsk, rvk, p, hzk⟩ := Ik.tuple hqk
    obtain ⟨u, huk, ruk⟩ := rvk.get hxk
    have helk : e < s.heap.objs.size := Heap.lt_size hek
    have hilk : it < s.heap.objs.size := by obtain ⟨_, q, _⟩ := hitk; exact Heap.lt_size q
    have p' : s.heap.IsTuple a itsk.toArray := p
    have hlt : i < itsk.toArray.size := by
      have := (List.getElem?_eq_some_iff.mp huk).1
      simpa using this
    refine wpAny_pyNext_enum_itemD (Draws.tuple (A := X.A.in1) (Ik.ok.hd hc) it a hai itsk.toArray) hek ⟨hitk, p'⟩ hlt hnek (by simp only [List.mem_cons, List.mem_singleton, List.not_mem_nil, or_false, not_or]; exact ⟨hnek, fun z => hae z.symm⟩) fun x' h' tkk hx' ho st' hTk hszk hkk => ?_
    have exk : x' = u := by
      have q1k : itsk[i]? = some x' := by simpa using hx'
      exact Option.some.inj (q1k.symm.trans huk)
    subst exk
    obtain ⟨hit', _⟩ := st'
    refine ⟨_, rfl, wpAny_letOwnedTupleGo_enum (s := { s with heap := h', toks := tkk + 1 }) ho fun h'' he' sbk => ?_⟩
    have hT2 : h''.get? s.heap.objs.size = some { cls := .type "tuple", data := .seq #[.int i tkk, x'] } := (sbk.2 _ (Nat.ne_of_gt helk)).trans hTk
    have newk : ObjOk X.prog X.w (upd H s.heap.objs.size (.tup [.int (i : Nat), x])) h'' s.heap.objs.size (.tup [.int (i : Nat), x]) :=
      ⟨by show 2 ≤ sizeLine; decide, [.int i tkk, x'], .cons ⟨_, rfl⟩ (.cons ruk .nil), ⟨_, hT2, rfl, _, rfl⟩⟩
    have I1k : Inv X pinsk σ (upd H s.heap.objs.size (.tup [.int (i : Nat), x])) { s with heap := h'', toks := tkk + 1 } :=
      Ik.turnedNew (ch := [e, it]) (fun b ob hbk q => (sbk.2 b (fun z => hbk (by simp [z]))).trans (hkk b ob (fun z => hbk (by simp [z])) (fun z => hbk (by simp [z])) q)) hfk (Nat.le_refl _) newk
    refine ⟨.ref s.heap.objs.size, _, I1k, rfl, ⟨_, x, rfl, Ik.hok.fresh (Nat.le_refl _), rfl, fun ys hy => by rw [Ik.tuple_inj hy hqk]; exact hxk⟩, ⟨⟨x', ?_⟩, hit'.at fun o q => (sbk.2 it (Ne.symm hnek)).trans q, hnek, hai, hae⟩, fun b hbk => ?_⟩
    · have e1 : ((i + 1 : Nat) : Int) = (i : Int) + 1 := by omega
      rw [e1]; exact he'
    · have hbk' : b < s.heap.objs.size := by
        have ek' : b = e ∨ b = it := by simpa using hbk
        rcases ek' with z | z
        · rw [z]; exact helk
        · rw [z]; exact hilk
      rw [upd_ne (Nat.ne_of_lt hbk')]
      exact (hfk b hbk).1
  done := by
    intro X hPk hwk hKk hc i pinsk s σ H E Ik hfk st hgk
    subst hPk hwk hKk
    obtain ⟨⟨oldk, hek⟩, hitk, hnek, hai, hae⟩ := st
    obtain ⟨xs, hqk, hxk⟩ := hgk
    obtain ⟨itsk, rvk, p, hzk⟩ := Ik.tuple hqk
    obtain ⟨f0k, f1k, f2k, f3k, f4k, f5k⟩ := hfk it (by simp)
    have hl := rvk.length
    have hit2 : s.heap.IsTupleIter it a i := hitk
    exact wpAny_pyNext_enum_endD (Draws.tuple (A := X.A.in1) (Ik.ok.hd hc) it a hai itsk.toArray) hek (show s.heap.IsTupleIter it a itsk.toArray.size ∧ s.heap.IsTuple a itsk.toArray from ⟨by
        have e0 : itsk.toArray.size = i := by rw [List.size_toArray]; omega
        rw [e0]; exact hitk, p⟩) fun h' eb => ⟨rfl, Ik.turned (t' := s.toks) (fun b o hbk q => eb b o hbk q) f0k f1k f3k f4k f5k⟩
  self := fun A i s Q E st h => let ⟨⟨_, hek⟩, _⟩ := st; wpAny_pyIter_enum hek h
def iEnumT (K : PySem.W.Frag) (ta : TA) : TI := fun σ H R => ta σ H fun vs H1k => ∃ a xs, vs = [.ref a] ∧ SqT K H1k a xs ∧ R (ItEt K a) H1k
theorem pi_enumT {X : Cx} {e : Expr} {ta : TA} {p pos tpos : Pos} {elts : List Expr} {kk : Nat} (hgk : Gl X "enumerate") (hm : X.mg "enumerate" = none) (ha : PA X [e] ta) (hsk : starEach [e] X.env = [(false, eval e X.env)] := by rfl) :
    PI X (.Tuple elts kk tpos) (.Call (.Name "enumerate" p) [e] [] pos) (iEnumT X.K ta) := by
  refine ⟨fun pinsk s σ H R Ik h => ?_⟩
  refine Call_ (ld_blt Ik hgk hm boot_enumerate (PyProof.Rows.callWith_type1 (thn (ha.run pos pinsk s σ H _ Ik h) fun us s1k ⟨vs, H1k, I1k, r1k, q1k⟩ => ?_) hsk rfl))
  obtain ⟨a, xs, exk, hqk, q⟩ := q1k
  subst exk
  cases r1k with
  | cons r rr =>
    cases rr
    cases r
    obtain ⟨itsk, rvk, p', hzk⟩ := I1k.tuple hqk
    have p2 : s1k.heap.IsTuple a itsk.toArray := p'
    have hal : a < s1k.heap.objs.size := by obtain ⟨o, ho, _⟩ := p2; exact Heap.lt_size ho
    refine as_call_enum (begins_tuple a itsk.toArray) p2 fun h' hek hitk hszk hkk => wpAny_pyIter_enum hek ?_
    have I2k : Inv X pinsk σ H1k { s1k with heap := h' } := I1k.kept (t' := s1k.toks) hkk
    refine ⟨s1k.heap.objs.size + 1, [s1k.heap.objs.size + 1, s1k.heap.objs.size], _, _, H1k, rfl, I2k, turn_enumT a (s1k.heap.objs.size + 1) s1k.heap.objs.size, ⟨⟨.none, hek⟩, ⟨_, hitk, rfl, rfl⟩, Nat.succ_ne_self _, Nat.ne_of_lt hal, Nat.ne_of_lt (Nat.lt_succ_of_lt hal)⟩, fun b hbk => ?_, q⟩
    have ek' : b = s1k.heap.objs.size + 1 ∨ b = s1k.heap.objs.size := by simpa using hbk
    have hlek : s1k.heap.objs.size ≤ b := by
      rcases ek' with z | z
      · rw [z]; exact Nat.le_add_right _ _
      · rw [z]; exact Nat.le_refl _
    exact I1k.fpOk hlek (I1k.hok.fresh hlek)
theorem walk_enumT {K : PySem.W.Frag} {a : Addr} {xs : List V} : Walk (ItEt K a) xs.length (fun H => SqT K H a xs) (YPair (fun i => some (.int (i : Nat))) (fun i => xs[i]?)) where
  goes := fun i H hik h => ⟨xs, xs[i], h, List.getElem?_eq_getElem hik⟩
  stops := fun H h => ⟨xs, h, rfl⟩
  yields := fun i H x H' _ h y => by
    obtain ⟨T, z, e1, e2k, e3k, e4k⟩ := y
    exact ⟨T, _, z, e1, e2k, e3k, rfl, e4k xs h⟩
/-! ### in over a tuple of data -/
section
variable {X : Cx}
def rInDT (K : PySem.W.Frag) : R2 := fun x y H Q => ∃ d ds, Dp K H x d ∧ Dp K H y (.tuple ds) ∧ SeqAt.shaped d = true ∧ SeqAt.shaped (.tuple ds) = true ∧ Q (.bl (ds.any fun z => PyData.eqv z d)) H
def rNotInDT (K : PySem.W.Frag) : R2 := fun x y H Q => ∃ d ds, Dp K H x d ∧ Dp K H y (.tuple ds) ∧ SeqAt.shaped d = true ∧ SeqAt.shaped (.tuple ds) = true ∧ Q (.bl (!ds.any fun z => PyData.eqv z d)) H
theorem op_inDT (huk : X.A.units + 65 < cLine) : OpR X (compareOp .In) (rInDT X.K) := by
  intro pinsk s σ H x y v u Q Ik rxk ryk h
  obtain ⟨d, ds, hd, hek, sdk, sek, q⟩ := h
  obtain ⟨as, r1k⟩ := Dp.reads Ik d x v hd rxk
  obtain ⟨bs, r2⟩ := Dp.reads Ik (.tuple ds) y u hek ryk
  exact SeqAt.in_tuple_reads r2 r1k (SeqAt.canLay_of_shaped sek) (SeqAt.canLay_of_shaped sdk) (room_in_shaped sdk huk) ⟨.bl _, H, Ik, rfl, q⟩
theorem op_notInDT (huk : X.A.units + 65 < cLine) : OpR X (compareOp .NotIn) (rNotInDT X.K) := by
  intro pinsk s σ H x y v u Q Ik rxk ryk h
  obtain ⟨d, ds, hd, hek, sdk, sek, q⟩ := h
  obtain ⟨as, r1k⟩ := Dp.reads Ik d x v hd rxk
  obtain ⟨bs, r2⟩ := Dp.reads Ik (.tuple ds) y u hek ryk
  exact SeqAt.notIn_tuple_reads r2 r1k (SeqAt.canLay_of_shaped sek) (SeqAt.canLay_of_shaped sdk) (room_in_shaped sdk huk) ⟨.bl _, H, Ik, rfl, q⟩
end
end L2

namespace HT
open PySem PySem.Spec PyProof.Rows L2
section
variable {prog : Program} {w : World} {A : Around} {E : Value → Shared → Prop} {s : Shared}
theorem as_adjust_rev (n : Nat) : Builtin.Slice.sliceAdjust none none (-1) (n : Int) = ((n : Int) - 1, -1) := by
  unfold Builtin.Slice.sliceAdjust
  simp
theorem as_places_rev (n : Nat) : Builtin.Slice.slicePlaces ((n : Int) - 1) (-1) (-1) = n := by
  unfold Builtin.Slice.slicePlaces
  have h1 : ¬ ((-1 : Int) > 0) := by omega
  rw [if_neg h1]
  by_cases h : ((n : Int) - 1 > -1)
  · rw [if_pos h]
    have e : -(-1 : Int) = 1 := by omega
    rw [e, Int.ediv_one]
    omega
  · rw [if_neg h]
    omega
theorem as_sliceApplied_rev {sl : Addr} {vlk vuk vs : Value} {n : Nat} {Q : Int × Int × Nat → Shared → Prop} (hsk : s.heap.IsSliceOf sl vlk vuk vs) (pl : IsPart vlk none) (pu : IsPart vuk none) (ps : IsPart vs (some (-1)))
    (h : Q ((n : Int) - 1, -1, n) s) : wpAny (model prog w) A (Builtin.Slice.sliceApplied (.ref sl) (pure (n : Int))) Q E s := by
  obtain ⟨osk, hosk, hcsk, hdsk⟩ := id hsk
  unfold Builtin.Slice.sliceApplied Builtin.Slice.sliceFields
  refine wpAny_bind (wpAny_bind (wpAny_field hosk hdsk (x := vlk) rfl (wpAny_bind (wpAny_field hosk hdsk (x := vuk) rfl (wpAny_bind (wpAny_field hosk hdsk (x := vs) rfl (wpAny_pure ?_)))))))
  refine wpAny_bind (slicePart_ ps ?_)
  show wpAny _ _ (if ((-1 : Int) == 0) = true then _ else _) _ _ s
  rw [if_neg (by decide)]
  refine wpAny_bind (slicePart_ pl (wpAny_bind (slicePart_ pu (wpAny_bind (wpAny_pure ?_)))))
  show wpAny _ _ (match Builtin.Slice.sliceAdjust none none (-1) (n : Int) with | (lo, hik) => pure (lo, (-1 : Int), Builtin.Slice.slicePlaces lo hik (-1))) _ _ s
  rw [as_adjust_rev n]
  show wpAny _ _ (pure ((n : Int) - 1, (-1 : Int), Builtin.Slice.slicePlaces ((n : Int) - 1) (-1) (-1))) _ _ s
  rw [as_places_rev]
  exact wpAny_pure h
theorem as_pick_rev (xs : Array Value) : ((List.range xs.size).filterMap fun (m : Nat) => xs[((xs.size : Int) - 1 + (m : Int) * (-1)).toNat]?).toArray = xs.toList.reverse.toArray := by
  have e : (List.range xs.size).filterMap (fun (m : Nat) => xs[((xs.size : Int) - 1 + (m : Int) * (-1)).toNat]?) = ((List.range xs.size).map fun k => xs.size - 1 - k).filterMap (fun k => xs[k]?) := by
    rw [List.filterMap_map]
    congr 1
    funext m
    have : ((xs.size : Int) - 1 + (m : Int) * (-1)).toNat = xs.size - 1 - m := by omega
    simp only [this, Function.comp]
  rw [e, PySem.W.krv_range, List.filterMap_reverse, PySem.W.krv_all]
theorem as_getItem_rev {t sl : Addr} {items : Array Value} {vlk vuk vs : Value} {Q : Value → Shared → Prop} (htk : IsTup s.heap t items) (hsk : s.heap.IsSliceOf sl vlk vuk vs) (pl : IsPart vlk none) (pu : IsPart vuk none) (ps : IsPart vs (some (-1)))
    (h : Q (.ref s.heap.objs.size) { s with heap := s.heap.push { cls := .type "tuple", data := .seq items.toList.reverse.toArray } })
    (hszk : items.size ≤ sizeLine) : wpAny (model prog w) A (getItem (.ref t) (.ref sl)) Q E s := by
  have htakek : sizeOk (.seq items.toList.reverse.toArray) := by
    show items.toList.reverse.toArray.size ≤ sizeLine
    rw [List.size_toArray, List.length_reverse, Array.length_toList]
    exact hszk
  obtain ⟨osk, hosk, hcsk, hdsk⟩ := id hsk
  have hTsk : s.TypeIs (.ref sl) "slice" := ⟨osk, hosk, hcsk⟩
  unfold getItem
  try with_reducible refine wpAny_holding ?_
  first | refine wpAny_bind (wpAny_pure ?_) | skip
  refine wpAny_bind (wpAny_sequenceKey htk.typeIs (by decide) ?_)
  refine wpAny_bind (wpAny_callSpecial?_slot (name := Str.ofString "__getitem__") htk.typeIs PyProof.Rows.slot_tuple_getitem
    (wpAny_call_entry PyProof.Rows.slot_tuple_getitem htk.typeIs entry_tuple_getitem ?_ (args_tuple_getitem _ _)))
  show wpAny _ _ (Builtin.Tuple.tupleItemsOf (.ref t) >>= _) _ _ s
  refine wpAny_bind (tupleItemsOf_ htk ?_)
  refine wpAny_bind (wpAny_typeOf hTsk ?_)
  rw [if_pos (by decide)]
  refine wpAny_bind (as_sliceApplied_rev hsk pl pu ps ?_)
  have hno : ¬ ((((items.size : Int) - 1) == 0 && (-1 : Int) == 1 && items.size == items.size) = true) := by
    intro q
    rw [Bool.and_eq_true, Bool.and_eq_true] at q
    exact absurd (eq_of_beq q.1.2) (by decide)
  show wpAny _ _ (if (((items.size : Int) - 1) == 0 && (-1 : Int) == 1 && items.size == items.size) = true then _ else _) _ _ s
  rw [if_neg hno, as_pick_rev]
  first
    | exact wpAny_bind (m := Builtin.Tuple.tupleExact _) (wpAny_newObj_type (wpAny_pure ⟨_, rfl, wpAny_pure h⟩) htakek)
    | exact wpAny_bind (m := Builtin.Tuple.tupleExact _) (wpAny_newObj_type (wpAny_bind (wpAny_pure (wpAny_pure ⟨_, rfl, wpAny_pure h⟩))) htakek)
    | exact wpAny_bind (wpAny_bind (m := Builtin.Tuple.tupleExact _) (wpAny_newObj_type (wpAny_pure (wpAny_pure ⟨_, rfl, wpAny_pure h⟩)) htakek))
    | exact wpAny_bind (wpAny_bind (m := Builtin.Tuple.tupleExact _) (wpAny_newObj_type (wpAny_pure ⟨_, rfl, wpAny_pure h⟩) htakek))
end
end HT
namespace L2
open PySem PySem.Spec PyProof.Rows
section
variable {X : Cx}
def tRevT (K : PySem.W.Frag) (te : TE) : TE := fun σ H Q => te σ H fun x H1k => ∃ a xs, x = .ref a ∧ SqT K H1k a xs ∧ ∀ p, H1k p = none → Q (.ref p) (upd H1k p (.tup xs.reverse))
theorem pe_revT {e : Expr} {te : TE} {k : Nat} {p1 p2 p3 pos : Pos} (hek : PE X e te) : PE X (.Subscript e (.Slice none none (some (.UnaryOp .USub (.Constant (.int 1) k p1) p2)) p3) pos) (tRevT X.K te) := by
  refine ⟨fun pinsk s σ H Q Ik h => ?_⟩
  refine Subscript_ (thn (hek.run pinsk s σ H _ Ik h) fun v s1k ⟨x, H1k, I1k, r1k, q1k⟩ => ?_)
  obtain ⟨a, xs, exk, hxk, q⟩ := q1k
  subst exk
  cases r1k
  have hstk : PO X (some (.UnaryOp .USub (.Constant (.int 1) k p1) p2)) (tPart (tUn (rU fun i => .int (-i)) (tC (.int 1)))) := po_some (pe_un un_neg pe_int)
  refine wpAny_Slice (thn (po_none.run pinsk s1k σ H1k (fun o H2k => o = none ∧ H2k = H1k) I1k ⟨rfl, rfl⟩) fun vlk s2k ⟨l, H2k, I2k, pl, elk, e2k⟩ => ?_)
  subst elk e2k
  refine thn (po_none.run pinsk s2k σ H2k (fun o H3k => o = none ∧ H3k = H2k) I2k ⟨rfl, rfl⟩) fun vuk s3k ⟨u, H3k, I3, pu, euk, e3k⟩ => ?_
  subst euk e3k
  refine thn (hstk.run pinsk s3k σ H3k (fun o H4k => o = some (-1) ∧ H4k = H3k) I3 ⟨1, rfl, -1, rfl, rfl, rfl⟩) fun vs s4k ⟨o, H4k, I4, ps, eok, e4k⟩ => ?_
  subst eok e4k
  have I5k : Inv X pinsk σ H4k { s4k with heap := s4k.heap.push { cls := .type "slice", data := .fields #[vlk, vuk, vs] } } := I4.kept (t' := s4k.toks) fun b ob q => Heap.get?_push_of_some _ q
  obtain ⟨itsk, r, htk, hzk⟩ := I5k.tuple hxk
  have hlen := r.length
  show wpAny (model X.prog X.w) X.A (subscriptTail e (.Slice none none (some (.UnaryOp .USub (.Constant (.int 1) k p1) p2)) p3) (.ref a) (.ref s4k.heap.objs.size)) (EP X pinsk σ Q) X.xe { s4k with heap := s4k.heap.push { cls := .type "slice", data := .fields #[vlk, vuk, vs] } }
  refine tail_any (ops := [.ref a, .ref s4k.heap.objs.size]) htk.typeIs (PyProof.Rows.slot_tuple_getitem.lookup) ?_ (by with_unfolding_all rfl)
  refine HT.as_getItem_rev htk (Heap.IsSliceOf.new _ vlk vuk vs) pl pu ps ?_ (by rw [List.size_toArray]; omega)
  refine ⟨.ref _, _, I5k.laid (t' := s4k.toks) (o := .tup xs.reverse) (fun b ob q => Heap.get?_push_of_some _ q) (Nat.le_refl _) ?_, rfl, q _ (I5k.hok.fresh (Nat.le_refl _))⟩
  exact ⟨by rw [List.length_reverse]; exact hzk, _, r.reverse, ⟨_, Heap.get?_push_size _ rfl, rfl, _, rfl⟩⟩
end
end L2

namespace As
open PySem PySem.Spec PyProof.Rows L2
/-! ### heaps: all but the well of draws stays -/
def ExS (st : Addr) (H H' : Hp) : Prop := ∀ a o, a ≠ st → H a = some o → H' a = some o
theorem ExS.refl (st : Addr) (H : Hp) : ExS st H H := fun _ _ _ h => h
theorem ExS.trans {st : Addr} {H H1 H2 : Hp} (a : ExS st H H1) (b : ExS st H1 H2) : ExS st H H2 := fun x o n h => b x o n (a x o n h)
theorem ExS.of {st : Addr} {H H' : Hp} (e : Same H H') : ExS st H H' := fun a o _ h => e a o h
theorem same_new {H : Hp} {p : Addr} {o : HO} (h : H p = none) : Same H (upd H p o) := fun a u e => by
  rw [upd_ne (ne_of_none e h)]
  exact e
theorem ExS.new {st : Addr} {H : Hp} {p : Addr} {o : HO} (h : H p = none) : ExS st H (upd H p o) := .of (same_new h)
theorem ExS.at_ {st : Addr} {H : Hp} {o : HO} : ExS st H (upd H st o) := fun a u n e => by
  rw [upd_ne n]
  exact e
theorem Same.new {H H' : Hp} {p : Addr} {o : HO} (e : Same H H') (h : H' p = none) : Same H (upd H' p o) := Same.trans e (same_new h)
theorem Same.mut {H H' : Hp} {p : Addr} {o : HO} (e : Same H H') (h : H p = none) : Same H (upd H' p o) := fun a u ha => by
  rw [upd_ne (ne_of_none ha h)]
  exact e a u ha
theorem ExS.seq {K : PySem.W.Frag} {st : Addr} {H H' : Hp} {a : Addr} {xs : List V} (n : a ≠ st) (e : ExS st H H') (h : SqL K H a xs) : SqL K H' a xs := by
  rcases h with (h | ⟨o, h⟩) | h
  · exact .inl (.inl (e _ _ n h))
  · exact .inl (.inr ⟨o, e _ _ n h⟩)
  · exact .inr h
/-! ### data -/
inductive D where
  | non
  | bl (b : Bool)
  | int (i : Int)
  | str (z : Str)
  | tup (ds : List D)
  | lst (ds : List D)
  | dct
mutual
inductive TD (st : Addr) (H : Hp) : V → D → Prop
  | non : TD st H .non .non
  | bl (b : Bool) : TD st H (.bl b) (.bl b)
  | int (i : Int) : TD st H (.int i) (.int i)
  | str (z : Str) : TD st H (.str z) (.str z)
  | tup {a : Addr} {xs : List V} {ds : List D} : a ≠ st → H a = some (.tup xs) → TDs st H xs ds → TD st H (.ref a) (.tup ds)
  | lst {a : Addr} {xs : List V} {ds : List D} : a ≠ st → H a = some (.lst xs) → TDs st H xs ds → TD st H (.ref a) (.lst ds)
  | dct {a : Addr} : a ≠ st → H a = some (.dK []) → TD st H (.ref a) .dct
inductive TDs (st : Addr) (H : Hp) : List V → List D → Prop
  | nil : TDs st H [] []
  | cons {v : V} {vs : List V} {d : D} {ds : List D} : TD st H v d → TDs st H vs ds → TDs st H (v :: vs) (d :: ds)
end
mutual
theorem TD.mono {st : Addr} {H H' : Hp} (e : ExS st H H') : ∀ {v : V} {d : D}, TD st H v d → TD st H' v d
  | _, _, .non => .non
  | _, _, .bl b => .bl b
  | _, _, .int i => .int i
  | _, _, .str z => .str z
  | _, _, .tup n h t => .tup n (e _ _ n h) (TDs.mono e t)
  | _, _, .lst n h t => .lst n (e _ _ n h) (TDs.mono e t)
  | _, _, .dct n h => .dct n (e _ _ n h)
theorem TDs.mono {st : Addr} {H H' : Hp} (e : ExS st H H') : ∀ {vs : List V} {ds : List D}, TDs st H vs ds → TDs st H' vs ds
  | _, _, .nil => .nil
  | _, _, .cons h t => .cons (TD.mono e h) (TDs.mono e t)
end
theorem TDs.length {st : Addr} {H : Hp} : ∀ {vs : List V} {ds : List D}, TDs st H vs ds → vs.length = ds.length
  | _, _, .nil => rfl
  | _, _, .cons _ t => congrArg (· + 1) t.length
theorem TDs.get {st : Addr} {H : Hp} : ∀ {vs : List V} {ds : List D} {i : Nat} {v : V}, TDs st H vs ds → vs[i]? = some v → ∃ d, ds[i]? = some d ∧ TD st H v d
  | _, _, i, _, .nil, h => by simp at h
  | _, _, 0, _, .cons h _, e => by
    have e' := Option.some.inj e
    subst e'
    exact ⟨_, rfl, h⟩
  | _, _, i + 1, _, .cons _ t, e => t.get (i := i) e
theorem TDs.append {st : Addr} {H : Hp} : ∀ {vs ws : List V} {ds es : List D}, TDs st H vs ds → TDs st H ws es → TDs st H (vs ++ ws) (ds ++ es)
  | _, _, _, _, .nil, h => h
  | _, _, _, _, .cons h t, r => .cons h (t.append r)
theorem TDs.drop {st : Addr} {H : Hp} : ∀ {vs : List V} {ds : List D} (n : Nat), TDs st H vs ds → TDs st H (vs.drop n) (ds.drop n)
  | _, _, 0, h => h
  | _, _, _ + 1, .nil => .nil
  | _, _, n + 1, .cons _ t => t.drop n
theorem TDs.take {st : Addr} {H : Hp} : ∀ {vs : List V} {ds : List D} (n : Nat), TDs st H vs ds → TDs st H (vs.take n) (ds.take n)
  | _, _, 0, _ => .nil
  | _, _, _ + 1, .nil => .nil
  | _, _, n + 1, .cons h t => .cons h (t.take n)
theorem TDs.rev {st : Addr} {H : Hp} : ∀ {vs : List V} {ds : List D}, TDs st H vs ds → TDs st H vs.reverse ds.reverse
  | _, _, .nil => .nil
  | _, _, .cons h t => by
    rw [List.reverse_cons, List.reverse_cons]
    exact t.rev.append (.cons h .nil)
theorem TDs.rep {st : Addr} {H : Hp} {v : V} {d : D} (h : TD st H v d) : ∀ n : Nat, TDs st H (List.replicate n v) (List.replicate n d)
  | 0 => .nil
  | n + 1 => .cons h (TDs.rep h n)
theorem TDs.cut {st : Addr} {H : Hp} {vs : List V} {ds : List D} (lo hi : Option Int) (h : TDs st H vs ds) : ∃ es, TDs st H (cutV vs lo hi) es := ⟨_, (h.drop _).take _⟩
def tyD : D → String
  | .non => "NoneType"
  | .bl _ => "bool"
  | .int _ => "int"
  | .str _ => "str"
  | .tup _ => "tuple"
  | .lst _ => "list"
  | .dct => "dict"
theorem TD.ty {K : PySem.W.Frag} {st : Addr} {H : Hp} {v : V} {d : D} (h : TD st H v d) : TyX K H v (.type (tyD d)) := by
  cases h with
  | non => exact .base .non
  | bl b => exact .base (.bl b)
  | int i => exact .base (.int i)
  | str z => exact .base (.str z)
  | tup n h t => exact .base (.tup h)
  | lst n h t => exact .base (.lst h)
  | dct n h => exact .base (.dK h)
def isInt : D → Bool
  | .bl _ => true
  | .int _ => true
  | _ => false
def isBool : D → Bool
  | .bl _ => true
  | _ => false
def isStr : D → Bool
  | .str _ => true
  | _ => false
def isTup : D → Bool
  | .tup _ => true
  | _ => false
def isLst : D → Bool
  | .lst _ => true
  | _ => false
theorem kit_int (d : D) : kitB (tyD d) "int" = some (isInt d) := by
  cases d with
  | non => exact (show kitB "NoneType" "int" = some false by decide +kernel)
  | bl _ => exact (show kitB "bool" "int" = some true by decide +kernel)
  | int _ => exact (show kitB "int" "int" = some true by decide +kernel)
  | str _ => exact (show kitB "str" "int" = some false by decide +kernel)
  | tup _ => exact (show kitB "tuple" "int" = some false by decide +kernel)
  | lst _ => exact (show kitB "list" "int" = some false by decide +kernel)
  | dct => exact (show kitB "dict" "int" = some false by decide +kernel)
theorem kit_bool (d : D) : kitB (tyD d) "bool" = some (isBool d) := by
  cases d with
  | non => exact (show kitB "NoneType" "bool" = some false by decide +kernel)
  | bl _ => exact (show kitB "bool" "bool" = some true by decide +kernel)
  | int _ => exact (show kitB "int" "bool" = some false by decide +kernel)
  | str _ => exact (show kitB "str" "bool" = some false by decide +kernel)
  | tup _ => exact (show kitB "tuple" "bool" = some false by decide +kernel)
  | lst _ => exact (show kitB "list" "bool" = some false by decide +kernel)
  | dct => exact (show kitB "dict" "bool" = some false by decide +kernel)
theorem kit_str (d : D) : kitB (tyD d) "str" = some (isStr d) := by
  cases d with
  | non => exact (show kitB "NoneType" "str" = some false by decide +kernel)
  | bl _ => exact (show kitB "bool" "str" = some false by decide +kernel)
  | int _ => exact (show kitB "int" "str" = some false by decide +kernel)
  | str _ => exact (show kitB "str" "str" = some true by decide +kernel)
  | tup _ => exact (show kitB "tuple" "str" = some false by decide +kernel)
  | lst _ => exact (show kitB "list" "str" = some false by decide +kernel)
  | dct => exact (show kitB "dict" "str" = some false by decide +kernel)
theorem kit_tup (d : D) : kitB (tyD d) "tuple" = some (isTup d) := by
  cases d with
  | non => exact (show kitB "NoneType" "tuple" = some false by decide +kernel)
  | bl _ => exact (show kitB "bool" "tuple" = some false by decide +kernel)
  | int _ => exact (show kitB "int" "tuple" = some false by decide +kernel)
  | str _ => exact (show kitB "str" "tuple" = some false by decide +kernel)
  | tup _ => exact (show kitB "tuple" "tuple" = some true by decide +kernel)
  | lst _ => exact (show kitB "list" "tuple" = some false by decide +kernel)
  | dct => exact (show kitB "dict" "tuple" = some false by decide +kernel)
theorem kit_lst (d : D) : kitB (tyD d) "list" = some (isLst d) := by
  cases d with
  | non => exact (show kitB "NoneType" "list" = some false by decide +kernel)
  | bl _ => exact (show kitB "bool" "list" = some false by decide +kernel)
  | int _ => exact (show kitB "int" "list" = some false by decide +kernel)
  | str _ => exact (show kitB "str" "list" = some false by decide +kernel)
  | tup _ => exact (show kitB "tuple" "list" = some false by decide +kernel)
  | lst _ => exact (show kitB "list" "list" = some true by decide +kernel)
  | dct => exact (show kitB "dict" "list" = some false by decide +kernel)
theorem isi {K : PySem.W.Frag} {st : Addr} {H : Hp} {v : V} {d : D} {n : String} {b : Bool} {Q : VK} (h : TD st H v d) (k : kitB (tyD d) n = some b) (q : Q (.bl b) H) : rIsi K [v, .ty n] H Q :=
  ⟨v, .ty n, _, _, b, rfl, .ty n, h.ty, kit_ty k, q⟩
/-! ### steps -/
abbrev Pr := Str × Int
def stepD (p : Pr) : D := .tup [.str p.1, .int p.2]
def wR : Str := "read"
def wW : Str := "write"
def wordB (z : Str) : Bool := decide (z = wR) || decide (z = wW)
def boxB (i : Int) : Bool := decide (0 ≤ i) && decide (i ≤ 100000000)
def asPr : D → Option Pr
  | .tup [.str z, .int i] => if wordB z && boxB i then some (z, i) else none
  | _ => none
def isStep (d : D) : Bool := (asPr d).isSome
theorem asPr_some {d : D} {p : Pr} (h : asPr d = some p) : d = stepD p ∧ wordB p.1 = true ∧ boxB p.2 = true := by
  unfold asPr at h
  split at h
  · split at h
    · rename_i z i hc
      have e := Option.some.inj h
      subst e
      rw [Bool.and_eq_true] at hc
      exact ⟨rfl, hc.1, hc.2⟩
    · cases h
  · cases h
theorem asPr_step {p : Pr} (h1 : wordB p.1 = true) (h2 : boxB p.2 = true) : asPr (stepD p) = some p := by
  show (if (wordB p.1 && boxB p.2) = true then some (p.1, p.2) else none) = some p
  rw [h1, h2]
  rfl
/-- the place of a step among those ahead: what the program asks, and what the law does -/
def mayP (p : Pr) (l : List Pr) : Bool := !decide (p ∈ l) && !decide ((wW, p.2) ∈ l)
def mayL (p : Pr) (l : List Pr) : Bool := !decide (p ∈ l) && !(decide (p.1 = wR) && decide ((wW, p.2) ∈ l))
theorem may_eq {p : Pr} (h : wordB p.1 = true) (l : List Pr) : mayP p l = mayL p l := by
  unfold mayP mayL
  obtain ⟨z, i⟩ := p
  unfold wordB at h
  rw [Bool.or_eq_true, decide_eq_true_eq, decide_eq_true_eq] at h
  rcases h with h | h
  · have h' : z = wR := h
    subst h'
    rw [decide_eq_true (show (wR, i).1 = wR from rfl), Bool.true_and]
  · have h' : z = wW := h
    subst h'
    have n : ¬ (wW = wR) := by decide
    rw [decide_eq_false (show ¬ (wW, i).1 = wR from n), Bool.false_and]
    cases hd : decide ((wW, i) ∈ l) <;> simp_all
/-- the pairs of a list of steps -/
def prs : List D → Option (List Pr)
  | [] => some []
  | d :: ds => match asPr d, prs ds with
    | some p, some l => some (p :: l)
    | _, _ => none
theorem prs_some : ∀ {ds : List D} {l : List Pr}, prs ds = some l → ds = l.map stepD ∧ (∀ p ∈ l, wordB p.1 = true ∧ boxB p.2 = true)
  | [], l, h => by
    have e : [] = l := Option.some.inj h
    subst e
    exact ⟨rfl, fun p hp => by cases hp⟩
  | d :: ds, l, h => by
    unfold prs at h
    split at h
    · rename_i p r h1 h2
      have e := Option.some.inj h
      subst e
      obtain ⟨e1, w1, b1⟩ := asPr_some h1
      obtain ⟨e2, w2⟩ := prs_some h2
      refine ⟨by rw [e1, e2]; rfl, fun q hq => ?_⟩
      rcases List.mem_cons.mp hq with e | e
      · rw [e]; exact ⟨w1, b1⟩
      · exact w2 q e
    · cases h
theorem prs_isSome : ∀ ds : List D, (prs ds).isSome = ds.all isStep
  | [] => rfl
  | d :: ds => by
    have ih := prs_isSome ds
    rw [List.all_cons, ← ih]
    show (match asPr d, prs ds with | some p, some l => some (p :: l) | _, _ => none).isSome = (isStep d && (prs ds).isSome)
    cases h1 : asPr d with
    | none =>
      have e : isStep d = false := by unfold isStep; rw [h1]; rfl
      rw [e, Bool.false_and]
      rfl
    | some p =>
      have e : isStep d = true := by unfold isStep; rw [h1]; rfl
      rw [e, Bool.true_and]
      cases h2 : prs ds with
      | none => rfl
      | some l => rfl
theorem prs_of {l : List Pr} (h : ∀ p ∈ l, wordB p.1 = true ∧ boxB p.2 = true) : prs (l.map stepD) = some l := by
  induction l with
  | nil => rfl
  | cons p l ih =>
    have hp := h p (List.mem_cons_self ..)
    rw [List.map_cons]
    unfold prs
    rw [asPr_step hp.1 hp.2, ih fun q hq => h q (List.mem_cons_of_mem _ hq)]
/-- all places may follow -/
def follow (m : Pr → List Pr → Bool) (l : List Pr) : Bool := (List.range l.length).all fun i => match l[i]? with
  | some p => m p (l.take i)
  | none => true
def isDealing : D → Bool
  | .tup ds => decide (1 ≤ ds.length) && decide (ds.length ≤ 8) && match prs ds with
    | some l => follow mayP l
    | none => false
  | _ => false
def areDealings : D → Bool
  | .lst ds => decide (1 ≤ ds.length) && decide (ds.length ≤ 100) && ds.all isDealing
  | _ => false
/-! ### steps as the library's data -/
def stepP (p : Pr) : PyData := .tuple [.str p.1, .int p.2]
theorem word_ok {z : Str} (h : wordB z = true) : PyData.strOk z = true := by
  unfold wordB at h
  rw [Bool.or_eq_true, decide_eq_true_eq, decide_eq_true_eq] at h
  rcases h with h | h
  · subst h; decide +kernel
  · subst h; decide +kernel
theorem stepP_lay {p : Pr} (h : wordB p.1 = true) : (stepP p).canLay0 = true := by simp [stepP, PyData.canLay0, PyData.canLayAll0, word_ok h]
theorem stepP_depth (p : Pr) : (stepP p).depth = 1 := by simp [stepP, PyData.depth, PyData.depthAll]
theorem stepPs_lay : ∀ {l : List Pr}, (∀ p ∈ l, wordB p.1 = true) → PyData.canLayAll0 (l.map stepP) = true
  | [], _ => by simp [PyData.canLayAll0]
  | p :: l, h => by simp [PyData.canLayAll0, stepP_lay (h p (List.mem_cons_self ..)), stepPs_lay fun q hq => h q (List.mem_cons_of_mem _ hq)]
theorem stepPs_depth : ∀ l : List Pr, PyData.depthAll (l.map stepP) ≤ 1
  | [] => by simp [PyData.depthAll]
  | p :: l => by
    have h1 := stepPs_depth l
    have h2 := stepP_depth p
    simp only [List.map_cons, PyData.depthAll]
    omega
theorem stepP_shaped {p : Pr} (hw : wordB p.1 = true) : SeqAt.shaped (stepP p) = true := by
  have h := stepP_depth p
  show ((stepP p).canLay0 && decide ((stepP p).depth ≤ 64)) = true
  rw [Bool.and_eq_true]
  exact ⟨stepP_lay hw, decide_eq_true (by omega)⟩
theorem stepPs_shapedT {l : List Pr} (hw : ∀ p ∈ l, wordB p.1 = true) : SeqAt.shaped (.tuple (l.map stepP)) = true := by
  have h1 := stepPs_depth l
  have h2 : PyData.depth (.tuple (l.map stepP)) ≤ 64 := by
    simp only [PyData.depth]
    omega
  show (PyData.canLay0 (.tuple (l.map stepP)) && decide (PyData.depth (.tuple (l.map stepP)) ≤ 64)) = true
  rw [Bool.and_eq_true]
  exact ⟨by simp only [PyData.canLay0]; exact stepPs_lay hw, decide_eq_true h2⟩
theorem stepPs_shapedL {l : List Pr} (hw : ∀ p ∈ l, wordB p.1 = true) : SeqAt.shaped (.list (l.map stepP)) = true := by
  have h1 := stepPs_depth l
  have h2 : PyData.depth (.list (l.map stepP)) ≤ 64 := by
    simp only [PyData.depth]
    omega
  show (PyData.canLay0 (.list (l.map stepP)) && decide (PyData.depth (.list (l.map stepP)) ≤ 64)) = true
  rw [Bool.and_eq_true]
  exact ⟨by simp only [PyData.canLay0]; exact stepPs_lay hw, decide_eq_true h2⟩
theorem stepP_eqv (p q : Pr) : PyData.eqv (stepP p) (stepP q) = decide (p = q) := by
  obtain ⟨z, i⟩ := p
  obtain ⟨y, j⟩ := q
  have e : PyData.eqv (stepP (z, i)) (stepP (y, j)) = ((z == y) && ((i == j) && true)) := by simp only [stepP, PyData.eqv, PyData.eqvAll]
  rw [e]
  by_cases h1 : z = y
  · by_cases h2 : i = j
    · subst h1 h2
      simp
    · have q : (i == j) = false := beq_eq_false_iff_ne.mpr h2
      rw [q, Bool.false_and, Bool.and_false, decide_eq_false]
      intro z
      exact h2 (Prod.mk.inj z).2
  · have q : (z == y) = false := beq_eq_false_iff_ne.mpr h1
    rw [q, Bool.false_and, decide_eq_false]
    intro z
    exact h1 (Prod.mk.inj z).1
theorem any_step (l : List Pr) (p : Pr) : ((l.map stepP).any fun z => PyData.eqv z (stepP p)) = decide (p ∈ l) := by
  induction l with
  | nil => simp
  | cons q l ih =>
    rw [List.map_cons, List.any_cons, ih, stepP_eqv]
    by_cases h1 : q = p
    · subst h1
      simp
    · have h1' : ¬ p = q := fun e => h1 e.symm
      rw [decide_eq_false h1, Bool.false_or]
      exact decide_eq_decide.mpr ⟨fun h => List.mem_cons_of_mem _ h, fun h => (List.mem_cons.mp h).resolve_left h1'⟩
theorem TD.stepDp {K : PySem.W.Frag} {st : Addr} {H : Hp} {v : V} {p : Pr} (h : TD st H v (stepD p)) : Dp K H v (stepP p) := by
  cases h with
  | tup n h t =>
    cases t with
    | cons h1 t =>
      cases t with
      | cons h2 t =>
        cases t
        cases h1
        cases h2
        exact .tup (.inl (.inl h)) (.cons (.str _) (.cons (.int _) .nil))
theorem TDs.stepsDp {K : PySem.W.Frag} {st : Addr} {H : Hp} : ∀ {l : List Pr} {vs : List V}, TDs st H vs (l.map stepD) → DpAll K H vs (l.map stepP)
  | [], _, h => by
    cases h
    exact .nil
  | p :: l, _, h => by
    cases h with
    | cons h t => exact .cons h.stepDp t.stepsDp
theorem TD.stepV {st : Addr} {H : Hp} {v : V} {p : Pr} (h : TD st H v (stepD p)) : ∃ b, v = .ref b ∧ b ≠ st ∧ H b = some (.tup [.str p.1, .int p.2]) := by
  cases h with
  | @tup b ys _ n h t =>
    cases t with
    | cons h1 t =>
      cases t with
      | cons h2 t =>
        cases t
        cases h1
        cases h2
        exact ⟨b, rfl, n, h⟩
theorem TDs.stepsT {st : Addr} {H H' : Hp} (e : ∀ a ys, a ≠ st → H a = some (.tup ys) → H' a = some (.tup ys)) : ∀ {l : List Pr} {vs : List V}, TDs st H vs (l.map stepD) → TDs st H' vs (l.map stepD)
  | [], _, h => by
    cases h
    exact .nil
  | p :: l, _, h => by
    cases h with
    | cons h t =>
      obtain ⟨b, rfl, n, hb⟩ := h.stepV
      exact .cons (.tup n (e _ _ n hb) (.cons (.str _) (.cons (.int _) .nil))) (t.stepsT e)
end As

namespace As
open PySem PySem.Spec PyProof.Rows L2
theorem hu65 {A : Around} {k : Nat} (hr : Room k A) : A.units + 65 < cLine := by have := hr.un; omega
theorem sl_of {n : Nat} (h : n ≤ 100000) : n ≤ sizeLine := Nat.le_trans h (by decide)
theorem sl_lt {n : Nat} (h : n < 100000) : n < sizeLine := Nat.lt_of_lt_of_le h (by decide)
def kept (n : Nat) (t : Nat → Bool) (f : Nat → V) : List V := ((List.range n).filter t).map f
theorem kept_succ (n : Nat) (t : Nat → Bool) (f : Nat → V) : kept (n + 1) t f = kept n t f ++ (if t n then [f n] else []) := by
  unfold kept
  rw [List.range_succ, List.filter_append, List.map_append]
  cases h : t n <;> simp [h]
theorem kept_len (n : Nat) (t : Nat → Bool) (f : Nat → V) : (kept n t f).length ≤ n := by
  unfold kept
  rw [List.length_map]
  have h := List.length_filter_le t (List.range n)
  rw [List.length_range] at h
  exact h
theorem kept_all (n : Nat) (f : Nat → V) : kept n (fun _ => true) f = (List.range n).map f := by
  unfold kept
  congr 1
  exact List.filter_eq_self.mpr fun _ _ => rfl
/-- a comprehension that changes nothing that was there: what it keeps -/
theorem lc_kept {J : It} {n : Nat} {G : Hp → Prop} {Y : Nat → Hp → V → Hp → Prop} (w : Walk J n G Y) {g : TG} {tt : TT} {te : TE} {vs : List Nat} {σ : L2.St} {H1 : Hp} {D : Addr} {Qd : Hp → Prop} (t : Nat → Bool) (f : Nat → V) (hD : H1 D = none) (hn : n ≤ 10000) (hG : ∀ H, Same H1 H → G H)
    (hs : ∀ i x H H' (N : Hp → Prop) (R : VK), i < n → Same H1 H → Y i H x H' → (t i = false → ∀ H'', Same H H'' → N H'') → (t i = true → ∀ H'', Same H H'' → R (f i) H'') →
      g x (wipe σ vs) H' fun σ2 H2 => wipe σ2 vs = wipe σ vs ∧ tt σ2 H2 fun b H3 => if b = true then te σ2 H3 R else N H3)
    (hd : ∀ H, Same H1 H → H D = some (.lst (kept n t f)) → Qd H) :
    ∃ W : Nat → Nat → Hp → Prop, (∃ m, W 0 m (upd H1 D (.lst []))) ∧ ∀ i m H, W i m H →
      (J.stop i H ∧ Qd H) ∨ (J.go i H ∧ ∃ Nx : Hp → Prop, (∀ H', Nx H' → ∃ m', m' < m ∧ W (i + 1) m' H') ∧ ∀ x H', J.yld i H x H' → g x (wipe σ vs) H' fun σ2 H2 => wipe σ2 vs = wipe σ vs ∧ tt σ2 H2 fun b H3 =>
        if b = true then te σ2 H3 fun y H4 => ∃ acc, H4 D = some (.lst acc) ∧ acc.length < sizeLine ∧ Nx (upd H4 D (.lst (acc ++ [y]))) else Nx H3) := by
  refine lc_it w (fun i H => Same H1 H ∧ H D = some (.lst (kept i t f))) ⟨same_new hD, upd_same⟩ (fun i H _ p => hG H p.1) (fun i x H H' hi p y => ?_) (fun H p => hd H p.1 p.2)
  obtain ⟨p1, p2⟩ := p
  refine hs i x H H' _ _ hi p1 y (fun ht H'' e => ⟨Same.trans p1 e, ?_⟩) (fun ht H'' e => ⟨kept i t f, e _ _ p2, sl_lt (by have := kept_len i t f; omega), Same.mut (Same.trans p1 e) hD, ?_⟩)
  · rw [kept_succ, ht, if_neg Bool.false_ne_true, List.append_nil]
    exact e _ _ p2
  · rw [kept_succ, ht, if_pos rfl]
    exact upd_same
theorem yesI {te : TE} {σ : L2.St} {H : Hp} {R : VK} {N : Hp → Prop} (h : te σ H R) : tYes σ H fun b H3 => if b = true then te σ H3 R else N H3 := by
  show if true = true then te σ H R else N H
  exact iteT h
theorem isDealing_eq (ds : List D) : isDealing (.tup ds) = (decide (1 ≤ ds.length) && decide (ds.length ≤ 8) && match prs ds with | some l => follow mayP l | none => false) := rfl
theorem areDealings_eq (ds : List D) : areDealings (.lst ds) = (decide (1 ≤ ds.length) && decide (ds.length ≤ 100) && ds.all isDealing) := rfl
end As

namespace As
open PySem PySem.Spec PyProof.Rows L2
def topS (i : Nat) : Stmt := PySem.Challenge.pw_asifalone_k01_steps_and_dealings.main.body.getD i (.Pass ⟨0, 0, 0, 0⟩)
abbrev sIsWhole : Stmt := topS 4
abbrev sIsNumber : Stmt := topS 5
abbrev sIsBox : Stmt := topS 6
abbrev sIsOneOf : Stmt := topS 7
abbrev sIsStep : Stmt := topS 8
abbrev sMayFollow : Stmt := topS 9
abbrev sIsDealing : Stmt := topS 10
abbrev sAreDealings : Stmt := topS 11
theorem scIsWhole : FnScope ["thing"] ["thing"] (defScope sIsWhole) := ⟨rfl, rfl, rfl, by decide +kernel, rfl, by decide +kernel, by decide +kernel⟩
theorem scIsNumber : FnScope ["thing", "many"] ["thing", "many"] (defScope sIsNumber) := ⟨rfl, rfl, rfl, by decide +kernel, rfl, by decide +kernel, by decide +kernel⟩
theorem scIsBox : FnScope ["thing"] ["thing"] (defScope sIsBox) := ⟨rfl, rfl, rfl, by decide +kernel, rfl, by decide +kernel, by decide +kernel⟩
theorem scIsOneOf : FnScope ["thing", "words"] ["thing", "words"] (defScope sIsOneOf) := ⟨rfl, rfl, rfl, by decide +kernel, rfl, by decide +kernel, by decide +kernel⟩
theorem scIsStep : FnScope ["thing"] ["thing"] (defScope sIsStep) := ⟨rfl, rfl, rfl, by decide +kernel, rfl, by decide +kernel, by decide +kernel⟩
theorem scMayFollow : FnScope ["step", "ahead"] ["step", "ahead"] (defScope sMayFollow) := ⟨rfl, rfl, rfl, by decide +kernel, rfl, by decide +kernel, by decide +kernel⟩
theorem scIsDealing : FnScope ["thing", "step", "place"] ["thing"] (defScope sIsDealing) := ⟨rfl, rfl, rfl, by decide +kernel, rfl, by decide +kernel, by decide +kernel⟩
theorem scAreDealings : FnScope ["thing", "dealing"] ["thing"] (defScope sAreDealings) := ⟨rfl, rfl, rfl, by decide +kernel, rfl, by decide +kernel, by decide +kernel⟩
/-- what the module's names hold -/
structure Mg (mg : Str → Option Value) : Prop where
  isinstance : mg "isinstance" = none
  int : mg "int" = none
  bool : mg "bool" = none
  str : mg "str" = none
  tuple : mg "tuple" = none
  list : mg "list" = none
  len : mg "len" = none
  all : mg "all" = none
  enumerate : mg "enumerate" = none
  range : mg "range" = none
  max : mg "max" = none
  min : mg "min" = none
  box : ∃ t, mg "MOST_BOX" = some (.int 100000000 t)
  steps : ∃ t, mg "MOST_STEPS" = some (.int 8 t)
  dealings : ∃ t, mg "MOST_DEALINGS" = some (.int 100 t)
section
variable {P : Program} {w : World} {K : PySem.W.Frag} {mg : Str → Option Value} {base : Heap}
/-! ### is_whole -/
def wholeB (d : D) : Bool := isInt d && !isBool d
def spIsWhole : Sp := fun vs H Q _ => ∃ st v d, vs = [v] ∧ TD st H v d ∧ Q (.bl (wholeB d)) H
theorem ok_is_whole {f : Addr} {fd : FuncData} {k : Nat} (F : Fun K "is_whole" "is_whole" sIsWhole f fd) (M : Mg mg) : FnOk P w K mg base CX0 (k + 1) f fd ["thing"] spIsWhole := by
  refine F.ok scIsWhole (fun vs H Q E h => ?_) (fun cdv A outer s H vs Q E hr h => ?_)
  · obtain ⟨st, v, d, rfl, _⟩ := h
    rfl
  · obtain ⟨st, v, d, rfl, td, q⟩ := h
    refine ⟨_, pss_one (ps_ret (pe_and (pe_callB call_isi (by rfl) M.isinstance (by decide +kernel) (pa_cons (pv 0) (pa_cons (pe_bltn (v := .ty "int") (by rfl) M.int (by decide +kernel) rfl) pa_nil)))
      (pe_one (pe_not (pe_callB call_isi (by rfl) M.isinstance (by decide +kernel) (pa_cons (pv 0) (pa_cons (pe_bltn (v := .ty "bool") (by rfl) M.bool (by decide +kernel) rfl) pa_nil))))))), ?_⟩
    refine ⟨v, rfl, v, .ty "int", _, _, _, rfl, .ty _, td.ty, kit_ty (kit_int d), _, rfl, ?_⟩
    unfold wholeB at q
    cases hi : isInt d with
    | true =>
      rw [hi] at q
      exact iteT ⟨v, rfl, v, .ty "bool", _, _, _, rfl, .ty _, td.ty, kit_ty (kit_bool d), _, rfl, q⟩
    | false =>
      rw [hi] at q
      exact iteF q
theorem whole_int {d : D} (h : wholeB d = true) : ∃ i, d = .int i := by
  cases d with
  | int i => exact ⟨i, rfl⟩
  | _ => exact absurd h Bool.false_ne_true
/-! ### is_number -/
def numB : D → Int → Bool
  | .int i, m => decide (0 ≤ i) && decide (i < m)
  | _, _ => false
theorem num_no {d : D} {m : Int} (h : wholeB d = false) : numB d m = false := by
  cases d with
  | int i => exact absurd h.symm Bool.false_ne_true
  | _ => rfl
def spIsNumber : Sp := fun vs H Q _ => ∃ st v d m, vs = [v, .int m] ∧ TD st H v d ∧ Q (.bl (numB d m)) H
theorem ok_is_number {f f1 : Addr} {fd fd1 : FuncData} {k : Nat} (F : Fun K "is_number" "is_number" sIsNumber f fd) (M : Mg mg) (G1 : FnOk P w K mg base CX0 k f1 fd1 ["thing"] spIsWhole) (g1 : mg "is_whole" = some (.ref f1)) (k1 : PySem.W.keepIn K (.ref f1) = true) (b1 : Binds K fd1 ["thing"] []) :
    FnOk P w K mg base CX0 (k + 1) f fd ["thing", "many"] spIsNumber := by
  refine F.ok scIsNumber (fun vs H Q E h => ?_) (fun cdv A outer s H vs Q E hr h => ?_)
  · obtain ⟨st, v, d, m, rfl, _⟩ := h
    rfl
  · obtain ⟨st, v, d, m, rfl, td, q⟩ := h
    refine ⟨_, pss_one (ps_ret (pe_and (pe_call G1 hr (by rfl) g1 k1 b1 .nil pass0 (pa_cons (pv 0) pa_nil))
      (pe_one (pe_chain op_le op_lt pe_int (pv 0) (pv 1))))), ?_⟩
    refine ⟨v, rfl, st, v, d, rfl, td, _, rfl, ?_⟩
    cases hw : wholeB d with
    | false =>
      rw [num_no hw] at q
      exact iteF q
    | true =>
      obtain ⟨i, rfl⟩ := whole_int hw
      cases td
      refine iteT ⟨_, rfl, 0, i, rfl, rfl, _, rfl, ?_⟩
      have q' : Q (.bl (decide (0 ≤ i) && decide (i < m))) H := q
      cases h0 : decide (0 ≤ i) with
      | false =>
        rw [h0] at q'
        exact iteF q'
      | true =>
        rw [h0] at q'
        exact iteT ⟨_, rfl, i, m, rfl, rfl, q'⟩
/-! ### is_box -/
def boxD : D → Bool
  | .int i => boxB i
  | _ => false
theorem num_box (d : D) : numB d (100000000 + 1) = boxD d := by
  cases d with
  | int i =>
    show (decide (0 ≤ i) && decide (i < 100000000 + 1)) = (decide (0 ≤ i) && decide (i ≤ 100000000))
    rw [show decide (i < 100000000 + 1) = decide (i ≤ 100000000) from decide_eq_decide.mpr (by omega)]
  | _ => rfl
def spIsBox : Sp := fun vs H Q _ => ∃ st v d, vs = [v] ∧ TD st H v d ∧ Q (.bl (boxD d)) H
theorem ok_is_box {f f1 : Addr} {fd fd1 : FuncData} {k : Nat} (F : Fun K "is_box" "is_box" sIsBox f fd) (M : Mg mg) (G1 : FnOk P w K mg base CX0 k f1 fd1 ["thing", "many"] spIsNumber) (g1 : mg "is_number" = some (.ref f1)) (k1 : PySem.W.keepIn K (.ref f1) = true) (b1 : Binds K fd1 ["thing", "many"] []) :
    FnOk P w K mg base CX0 (k + 1) f fd ["thing"] spIsBox := by
  refine F.ok scIsBox (fun vs H Q E h => ?_) (fun cdv A outer s H vs Q E hr h => ?_)
  · obtain ⟨st, v, d, rfl, _⟩ := h
    rfl
  · obtain ⟨st, v, d, rfl, td, q⟩ := h
    obtain ⟨tb, mb⟩ := M.box
    refine ⟨_, pss_one (ps_ret (pe_call G1 hr (by rfl) g1 k1 b1 .nil pass0 (pa_cons (pv 0) (pa_cons (pe_add (pe_glob (v := .int 100000000) (by rfl) mb ⟨_, rfl⟩) pe_int) pa_nil)))), ?_⟩
    refine ⟨v, rfl, 100000000, 1, rfl, rfl, st, v, d, 100000000 + 1, rfl, td, ?_⟩
    rw [num_box]
    exact q
/-! ### is_one_of -/
def oneB : D → List Str → Bool
  | .str z, ws => decide (z ∈ ws)
  | _, _ => false
theorem inV_str (z : Str) : ∀ ws : List Str, inV (.str z) (ws.map V.str) = decide (z ∈ ws)
  | [] => by simp [inV]
  | y :: ws => by
    have ih := inV_str z ws
    unfold inV at ih ⊢
    rw [List.map_cons, List.any_cons, ih]
    by_cases e : y = z
    · subst e
      simp [eqV]
    · have e' : ¬ z = y := fun q => e q.symm
      have : eqV (.str y) (.str z) = false := by simp [eqV, e]
      rw [this, Bool.false_or]
      exact decide_eq_decide.mpr ⟨fun h => List.mem_cons_of_mem _ h, fun h => (List.mem_cons.mp h).resolve_left e'⟩
theorem flat_strs : ∀ ws : List Str, (ws.map V.str).all flatV = true
  | [] => rfl
  | y :: ws => by
    rw [List.map_cons, List.all_cons, flat_strs ws]
    rfl
def spIsOneOf (K : PySem.W.Frag) : Sp := fun vs H Q _ => ∃ st v d a ws, vs = [v, .ref a] ∧ TD st H v d ∧ SqT K H a (ws.map V.str) ∧ Q (.bl (oneB d ws)) H
theorem ok_is_one_of {f : Addr} {fd : FuncData} {k : Nat} (F : Fun K "is_one_of" "is_one_of" sIsOneOf f fd) (M : Mg mg) : FnOk P w K mg base CX0 (k + 1) f fd ["thing", "words"] (spIsOneOf K) := by
  refine F.ok scIsOneOf (fun vs H Q E h => ?_) (fun cdv A outer s H vs Q E hr h => ?_)
  · obtain ⟨st, v, d, a, ws, rfl, _⟩ := h
    rfl
  · obtain ⟨st, v, d, a, ws, rfl, td, hS, q⟩ := h
    refine ⟨_, pss_one (ps_ret (pe_and (pe_callB call_isi (by rfl) M.isinstance (by decide +kernel) (pa_cons (pv 0) (pa_cons (pe_bltn (v := .ty "str") (by rfl) M.str (by decide +kernel) rfl) pa_nil)))
      (pe_one (pe_cmpR op_in_seq (pv 0) (pv 1) (by rfl))))), ?_⟩
    refine ⟨v, rfl, v, .ty "str", _, _, _, rfl, .ty _, td.ty, kit_ty (kit_str d), _, rfl, ?_⟩
    cases td with
    | str z => exact iteT ⟨_, rfl, _, rfl, a, ws.map V.str, rfl, .inr hS, rfl, flat_strs ws, by
        show Q (.bl (inV (.str z) (ws.map V.str))) H
        rw [inV_str]
        exact q⟩
    | _ => exact iteF q
/-! ### is_step -/
theorem isStep_pair (x y : D) : isStep (.tup [x, y]) = (oneB x [wR, wW] && boxD y) := by
  cases x with
  | str z =>
    cases y with
    | int i =>
      show ((if (wordB z && boxB i) = true then some (z, i) else none).isSome) = (decide (z ∈ [wR, wW]) && boxB i)
      have e : decide (z ∈ [wR, wW]) = wordB z := by
        unfold wordB
        simp
      rw [e]
      cases (wordB z && boxB i) <;> rfl
    | _ =>
      show false = (_ && false)
      rw [Bool.and_false]
  | _ => rfl
theorem isStep_len {ds : List D} (h : ds.length ≠ 2) : isStep (.tup ds) = false := by
  match ds, h with
  | [], _ => rfl
  | [x], _ => cases x <;> rfl
  | [x, y], h => exact absurd rfl h
  | x :: y :: z :: r, _ =>
    cases x with
    | str z => cases y <;> rfl
    | _ => rfl
theorem isStep_tup {d : D} (h : isTup d = false) : isStep d = false := by
  cases d with
  | tup ds => exact absurd h.symm Bool.false_ne_true
  | _ => rfl
def spD (f : D → Bool) : Sp := fun vs H Q _ => ∃ st v d, vs = [v] ∧ TD st H v d ∧ ∀ H', Same H H' → Q (.bl (f d)) H'
theorem ok_is_step {f f1 f2 : Addr} {fd fd1 fd2 : FuncData} {k : Nat} (F : Fun K "is_step" "is_step" sIsStep f fd) (M : Mg mg) (G1 : FnOk P w K mg base CX0 k f1 fd1 ["thing", "words"] (spIsOneOf K)) (g1 : mg "is_one_of" = some (.ref f1)) (k1 : PySem.W.keepIn K (.ref f1) = true) (b1 : Binds K fd1 ["thing", "words"] [])
    (G2 : FnOk P w K mg base CX0 k f2 fd2 ["thing"] spIsBox) (g2 : mg "is_box" = some (.ref f2)) (k2 : PySem.W.keepIn K (.ref f2) = true) (b2 : Binds K fd2 ["thing"] []) :
    FnOk P w K mg base CX0 (k + 1) f fd ["thing"] (spD isStep) := by
  refine F.ok scIsStep (fun vs H Q E h => ?_) (fun cdv A outer s H vs Q E hr h => ?_)
  · obtain ⟨st, v, d, rfl, _⟩ := h
    rfl
  · obtain ⟨st, v, d, rfl, td, q⟩ := h
    refine ⟨_, pss_cons (ps_if (PW.pt (pw_or (pt_not (pt_val (pe_callB call_isi (by rfl) M.isinstance (by decide +kernel) (pa_cons (pv 0) (pa_cons (pe_bltn (v := .ty "tuple") (by rfl) M.tuple (by decide +kernel) rfl) pa_nil)))))
        (pw_or1 (pt_cmpR op_ne (pe_callB call_len_seq (by rfl) M.len PySem.boot_len (pa_cons (pv 0) pa_nil)) pe_int (nomark _))))) (pss_one (ps_ret pe_bl)) pss_nil)
      (pss_one (ps_ret (pe_and (pe_call G1 hr (by rfl) g1 k1 b1 .nil pass0 (pa_cons (pe_ix ix_tup (pv 0) pe_int (fun _ _ => rfl)) (pa_cons (pe_tup (pa_cons pe_str (pa_cons pe_str pa_nil))) pa_nil)))
        (pe_one (pe_call G2 hr (by rfl) g2 k2 b2 .nil pass0 (pa_cons (pe_ix ix_tup (pv 0) pe_int (fun _ _ => rfl)) pa_nil)))))), ?_⟩
    refine ⟨v, rfl, v, .ty "tuple", _, _, _, rfl, .ty _, td.ty, kit_ty (kit_tup d), _, rfl, ?_⟩
    cases ht : isTup d with
    | false =>
      rw [isStep_tup ht] at q
      exact iteT (iteT (q H (Same.refl H)))
    | true =>
      cases td with
      | @tup a xs ds n h t =>
        refine iteF ⟨.ref a, rfl, a, xs, rfl, .inr (SqT.of h), rfl, _, rfl, ?_⟩
        have hl := t.length
        by_cases h2 : xs.length = 2
        · rw [h2]
          refine iteF ?_
          match xs, ds, t, h2 with
          | [x, y], [dx, dy], .cons tx (.cons ty .nil), _ =>
            refine ⟨.ref a, rfl, a, [x, y], 0, x, rfl, rfl, SqT.of h, rfl, by show 2 ≤ sizeLine; decide, fun p np => ?_⟩
            have s1 : Same H (upd H p (.tup [.str wR, .str wW])) := same_new np
            refine ⟨st, x, dx, p, [wR, wW], rfl, tx.mono (.of s1), SqT.of upd_same, _, rfl, ?_⟩
            rw [isStep_pair] at q
            cases ho : oneB dx [wR, wW] with
            | false =>
              rw [ho] at q
              exact iteF (q _ s1)
            | true =>
              rw [ho] at q
              exact iteT ⟨.ref a, rfl, a, [x, y], 1, y, rfl, rfl, SqT.of (s1 _ _ h), rfl, st, y, dy, rfl, ty.mono (.of s1), q _ s1⟩
        · have e : (!decide (V.int (xs.length : Int) = V.int 2)) = true := by
            rw [Bool.not_eq_true', decide_eq_false_iff_not]
            intro z
            have z' : (xs.length : Int) = 2 := V.int.inj z
            exact h2 (by omega)
          rw [e]
          rw [isStep_len (by omega)] at q
          exact iteT (q H (Same.refl H))
      | _ => exact absurd ht Bool.false_ne_true
/-! ### may_follow -/
def spMay : Sp := fun vs H Q _ => ∃ st v p a xs l, vs = [v, .ref a] ∧ TD st H v (stepD p) ∧ H a = some (.tup xs) ∧ TDs st H xs (l.map stepD) ∧ wordB p.1 = true ∧ (∀ q ∈ l, wordB q.1 = true) ∧ ∀ H', Same H H' → Q (.bl (mayP p l)) H'
theorem ok_may_follow {f : Addr} {fd : FuncData} {k : Nat} (F : Fun K "may_follow" "may_follow" sMayFollow f fd) (M : Mg mg) : FnOk P w K mg base CX0 (k + 1) f fd ["step", "ahead"] spMay := by
  refine F.ok scMayFollow (fun vs H Q E h => ?_) (fun cdv A outer s H vs Q E hr h => ?_)
  · obtain ⟨st, v, p, a, xs, l, rfl, _⟩ := h
    rfl
  · obtain ⟨st, v, p, a, xs, l, rfl, td, h, t, wp, wl, q⟩ := h
    refine ⟨_, pss_one (ps_ret (pe_and (pe_cmpR (op_notInDT (hu65 hr)) (pv 0) (pv 1) (by rfl))
      (pe_one (pe_cmpR (op_notInDT (hu65 hr)) (pe_tup (pa_cons pe_str (pa_cons (pe_ix ix_tup (pv 0) pe_int (fun _ _ => rfl)) pa_nil))) (pv 1) (by rfl))))), ?_⟩
    refine ⟨v, rfl, .ref a, rfl, stepP p, l.map stepP, td.stepDp, .tup (SqT.of h) t.stepsDp, stepP_shaped wp, stepPs_shapedT wl, _, rfl, ?_⟩
    rw [any_step]
    unfold mayP at q
    cases h1 : decide (p ∈ l) with
    | true =>
      rw [h1] at q
      exact iteF (q H (Same.refl H))
    | false =>
      rw [h1] at q
      obtain ⟨b, rfl, nb, hb⟩ := td.stepV
      refine iteT ⟨.ref b, rfl, b, [.str p.1, .int p.2], 1, .int p.2, rfl, rfl, SqT.of hb, rfl, by show 2 ≤ sizeLine; decide, fun c nc => ?_⟩
      have s1 : Same H (upd H c (.tup [.str wW, .int p.2])) := same_new nc
      refine ⟨.ref a, rfl, stepP (wW, p.2), l.map stepP, .tup (SqT.of upd_same) (.cons (.str _) (.cons (.int _) .nil)), .tup (SqT.of (s1 _ _ h)) (t.mono (.of s1)).stepsDp, stepP_shaped (show wordB wW = true by decide +kernel), stepPs_shapedT wl, ?_⟩
      rw [any_step]
      exact q _ s1
/-! ### is_dealing -/
theorem map_range {α : Type} (xs : List α) (g : Nat → α) (h : ∀ i x, xs[i]? = some x → g i = x) : (List.range xs.length).map g = xs := by
  apply List.ext_getElem?
  intro i
  rw [List.getElem?_map]
  by_cases hi : i < xs.length
  · rw [List.getElem?_range hi, List.getElem?_eq_getElem hi]
    exact congrArg some (h i _ (List.getElem?_eq_getElem hi))
  · rw [List.getElem?_eq_none (by rw [List.length_range]; omega), List.getElem?_eq_none (by omega)]
    rfl
theorem isDealing_tup {d : D} (h : isTup d = false) : isDealing d = false := by
  cases d with
  | tup ds => exact absurd h.symm Bool.false_ne_true
  | _ => rfl
theorem cut_to (xs : List V) (i : Nat) : cutV xs none (some (i : Int)) = xs.take i := by
  unfold cutV
  rw [HT.sIx_none, HT.sIx_nat, List.drop_zero, Nat.sub_zero]
  by_cases h : i ≤ xs.length
  · rw [Nat.min_eq_left h]
  · rw [Nat.min_eq_right (by omega), List.take_of_length_le (Nat.le_refl _), List.take_of_length_le (by omega)]
theorem all_id_map {α : Type} (g : α → Bool) (xs : List α) : (xs.map g).all id = xs.all g := by
  rw [List.all_map]
  rfl
theorem ok_is_dealing {f f1 f2 : Addr} {fd fd1 fd2 : FuncData} {k : Nat} (F : Fun K "is_dealing" "is_dealing" sIsDealing f fd) (M : Mg mg) (G1 : FnOk P w K mg base CX0 k f1 fd1 ["thing"] (spD isStep)) (g1 : mg "is_step" = some (.ref f1)) (k1 : PySem.W.keepIn K (.ref f1) = true) (b1 : Binds K fd1 ["thing"] [])
    (G2 : FnOk P w K mg base CX0 k f2 fd2 ["step", "ahead"] spMay) (g2 : mg "may_follow" = some (.ref f2)) (k2 : PySem.W.keepIn K (.ref f2) = true) (b2 : Binds K fd2 ["step", "ahead"] []) :
    FnOk P w K mg base CX0 (k + 1) f fd ["thing"] (spD isDealing) := by
  refine F.ok scIsDealing (fun vs H Q E h => ?_) (fun cdv A outer s H vs Q E hr h => ?_)
  · obtain ⟨st, v, d, rfl, _⟩ := h
    rfl
  · obtain ⟨st, v, d, rfl, td, q⟩ := h
    obtain ⟨ts, ms⟩ := M.steps
    refine ⟨_, pss_cons (ps_if (PW.pt (pw_or (pt_not (pt_val (pe_callB call_isi (by rfl) M.isinstance (by decide +kernel) (pa_cons (pv 0) (pa_cons (pe_bltn (v := .ty "tuple") (by rfl) M.tuple (by decide +kernel) rfl) pa_nil)))))
        (pw_or1 (pt_not (pt_chain op_le op_le pe_int (pe_callB call_len_seq (by rfl) M.len PySem.boot_len (pa_cons (pv 0) pa_nil)) (pe_glob (v := .int 8) (by rfl) ms ⟨_, rfl⟩)))))) (pss_one (ps_ret pe_bl)) pss_nil)
      (pss_cons (ps_if (pt_not (pt_val (pe_callB (cr_all rfl) (by rfl) M.all (by decide +kernel) (pa_cons
          (pe_lc (own := [("step", 1)]) (g := gName 1) (by rfl) scIsDealing.nd (pi_tup (pv 0)) (blkOk_by (own := [("step", 1)]) (N := ["thing", "step", "place"]) (sc := defScope sIsDealing) (by decide +kernel))
            (fun _ _ _ _ _ => pg_name (i := 1) scIsDealing.nd rfl (Or.inl rfl)) (fun _ _ _ _ _ => pts_nil) (fun _ _ _ _ _ => pe_call G1 hr (by rfl) g1 k1 b1 .nil pass0 (pa_cons (pv 1) pa_nil))) pa_nil)))) (pss_one (ps_ret pe_bl)) pss_nil)
      (pss_one (ps_ret (pe_callB (cr_all rfl) (by rfl) M.all (by decide +kernel) (pa_cons
          (pe_lc (own := [("place", 2), ("step", 1)]) (g := gTup K 2 (gCons (gName 2) (gCons (gName 1) gNil))) (by rfl) scIsDealing.nd (pi_enumT (by rfl) M.enumerate (pa_cons (pv 0) pa_nil)) (blkOk_by (own := [("place", 2), ("step", 1)]) (N := ["thing", "step", "place"]) (sc := defScope sIsDealing) (by decide +kernel))
            (fun _ _ _ _ _ => pg_tup rfl (pgs_cons (pg_name (i := 2) scIsDealing.nd rfl (Or.inl rfl)) (pgs_cons (pg_name (i := 1) scIsDealing.nd rfl (Or.inl rfl)) pgs_nil))) (fun _ _ _ _ _ => pts_nil)
            (fun _ _ _ _ _ => pe_call G2 hr (by rfl) g2 k2 b2 .nil pass0 (pa_cons (pv 1) (pa_cons (pe_slice (show SlR _ (rSlA K) from sl_tupA) (pv 0) po_none (po_some (pv 2))) pa_nil)))) pa_nil))))), ?_⟩
    refine ⟨v, rfl, v, .ty "tuple", _, _, _, rfl, .ty _, td.ty, kit_ty (kit_tup d), _, rfl, ?_⟩
    cases ht : isTup d with
    | false =>
      rw [isDealing_tup ht] at q
      exact iteT (iteT (q H (Same.refl H)))
    | true =>
      cases td with
      | @tup a xs ds n h t =>
        have hl := t.length
        refine iteF ⟨.ref a, rfl, a, xs, rfl, .inr (SqT.of h), 1, _, rfl, rfl, _, rfl, ?_⟩
        by_cases h1 : 1 ≤ xs.length
        · rw [decide_eq_true (show (1 : Int) ≤ (xs.length : Int) by omega)]
          refine iteT ⟨_, 8, rfl, rfl, _, rfl, ?_⟩
          by_cases h8 : xs.length ≤ 8
          · rw [decide_eq_true (show (xs.length : Int) ≤ 8 by omega)]
            refine iteF ⟨.ref a, rfl, a, rfl, ⟨_, SqT.of h⟩, fun D1 hD1 => lc_kept walk_tup (fun _ => true) (fun i => .bl (isStep (ds.getD i .non))) hD1 (by omega) (fun H' e => SqT.of (e _ _ h)) (fun i x H2 H3 N R hi e2 y hN hR => ?_) (fun H2 e2 hL => ?_)⟩
            · obtain ⟨rfl, hx⟩ := y
              obtain ⟨di, hdi, tdi⟩ := t.get hx
              refine ⟨rfl, yesI ⟨x, rfl, st, x, di, rfl, tdi.mono (.of e2), fun H4 e4 => ?_⟩⟩
              have e5 : ds.getD i .non = di := by rw [List.getD_eq_getElem?_getD, hdi]; rfl
              have r := hR rfl H4 e4
              simp only [e5] at r
              exact r
            · have e1 : kept xs.length (fun _ => true) (fun i => V.bl (isStep (ds.getD i .non))) = (ds.map isStep).map V.bl := by
                rw [kept_all]
                have e0 : xs.length = ((ds.map isStep).map V.bl).length := by rw [List.length_map, List.length_map]; exact hl
                rw [e0]
                refine map_range _ _ fun i x hx => ?_
                rw [List.getElem?_map, List.getElem?_map] at hx
                cases hd : ds[i]? with
                | none => rw [hd] at hx; cases hx
                | some di =>
                  rw [hd] at hx
                  have e5 : ds.getD i .non = di := by rw [List.getD_eq_getElem?_getD, hd]; rfl
                  rw [e5]
                  exact Option.some.inj hx
              rw [e1] at hL
              refine ⟨D1, ds.map isStep, rfl, SqL.of hL, _, rfl, ?_⟩
              rw [all_id_map, ← prs_isSome]
              have hdl : decide (1 ≤ ds.length) = true := decide_eq_true (by omega)
              have hdl8 : decide (ds.length ≤ 8) = true := decide_eq_true (by omega)
              have q' : ∀ H', Same H H' → Q (.bl (match prs ds with | some l => follow mayP l | none => false)) H' := fun H' e => by
                have := q H' e
                rw [isDealing_eq, hdl, hdl8] at this
                exact this
              cases hp : prs ds with
              | none =>
                rw [hp] at q'
                exact iteT (q' H2 e2)
              | some l =>
                rw [hp] at q'
                obtain ⟨el, wl⟩ := prs_some hp
                have hll : xs.length = l.length := by rw [hl, el, List.length_map]
                have t' : TDs st H xs (l.map stepD) := by rw [← el]; exact t
                refine iteF ⟨.ref a, rfl, a, xs, rfl, SqT.of (e2 _ _ h), fun D2 hD2 => lc_kept walk_enumT (fun _ => true) (fun i => .bl (match l[i]? with | some p => mayP p (l.take i) | none => true)) hD2 (by omega) (fun H' e => SqT.of (e _ _ (e2 _ _ h))) (fun i x H3 H4 N R hi e3 y hN hR => ?_) (fun H3 e3 hL2 => ?_)⟩
                · obtain ⟨T, x1, x2, rfl, nT, rfl, ex1, hx2⟩ := y
                  have ex1' : x1 = .int (i : Nat) := (Option.some.inj ex1).symm
                  subst ex1'
                  obtain ⟨di, hdi, tdi⟩ := t'.get hx2
                  have hil : i < l.length := by omega
                  have hgi : l[i]? = some l[i] := List.getElem?_eq_getElem hil
                  have edi : di = stepD l[i] := by
                    rw [List.getElem?_map, hgi] at hdi
                    exact (Option.some.inj hdi).symm
                  subst edi
                  have eT : Same H (upd H3 T (.tup [.int (i : Nat), x2])) := Same.new (Same.trans e2 e3) nT
                  refine ⟨T, [.int (i : Nat), x2], rfl, SqT.of upd_same, rfl, .int (i : Nat), [x2], rfl, x2, [], rfl, rfl, rfl, yesI ⟨x2, rfl, .ref a, rfl, .int (i : Nat), rfl, i, rfl, a, xs, rfl, SqT.of (eT _ _ h), fun hw => ?_, fun hw p np => ?_⟩⟩
                  · rw [HT.sIx_nat] at hw
                    exact absurd hw.2 (by omega)
                  · have eP : Same H (upd (upd H3 T (.tup [.int (i : Nat), x2])) p (.tup (cutV xs none (some (i : Nat))))) := Same.new eT np
                    refine ⟨st, x2, l[i], p, xs.take i, l.take i, rfl, tdi.mono (.of eP), by rw [upd_same, cut_to], ?_, (wl _ (List.getElem_mem hil)).1, fun q hq => (wl q (List.mem_of_mem_take hq)).1, fun H5 e5 => ?_⟩
                    · rw [List.map_take]
                      exact (t'.take i).mono (.of eP)
                    · have r := hR rfl H5 (Same.trans (same_new nT) (Same.trans (same_new np) e5))
                      simp only [hgi] at r
                      exact r
                · have e1 : kept xs.length (fun _ => true) (fun i => V.bl (match l[i]? with | some p => mayP p (l.take i) | none => true)) = ((List.range l.length).map fun i => match l[i]? with | some p => mayP p (l.take i) | none => true).map V.bl := by
                    rw [kept_all, List.map_map, hll]
                    rfl
                  rw [e1] at hL2
                  refine ⟨D2, _, rfl, SqL.of hL2, ?_⟩
                  rw [all_id_map]
                  exact q' H3 (Same.trans e2 e3)
          · rw [decide_eq_false (show ¬ (xs.length : Int) ≤ 8 by omega)]
            have e : isDealing (.tup ds) = false := by
              rw [isDealing_eq, decide_eq_false (show ¬ ds.length ≤ 8 by omega), Bool.and_false, Bool.false_and]
            rw [e] at q
            exact iteT (q H (Same.refl H))
        · rw [decide_eq_false (show ¬ (1 : Int) ≤ (xs.length : Int) by omega)]
          have e : isDealing (.tup ds) = false := by
            rw [isDealing_eq, decide_eq_false (show ¬ 1 ≤ ds.length by omega), Bool.false_and, Bool.false_and]
          rw [e] at q
          refine iteF ⟨_, rfl, iteT (q H (Same.refl H))⟩
      | _ => exact absurd ht Bool.false_ne_true
/-! ### are_dealings -/
theorem areDealings_lst {d : D} (h : isLst d = false) : areDealings d = false := by
  cases d with
  | lst ds => exact absurd h.symm Bool.false_ne_true
  | _ => rfl
theorem ok_are_dealings {f f1 : Addr} {fd fd1 : FuncData} {k : Nat} (F : Fun K "are_dealings" "are_dealings" sAreDealings f fd) (M : Mg mg) (G1 : FnOk P w K mg base CX0 k f1 fd1 ["thing"] (spD isDealing)) (g1 : mg "is_dealing" = some (.ref f1)) (k1 : PySem.W.keepIn K (.ref f1) = true) (b1 : Binds K fd1 ["thing"] []) :
    FnOk P w K mg base CX0 (k + 1) f fd ["thing"] (spD areDealings) := by
  refine F.ok scAreDealings (fun vs H Q E h => ?_) (fun cdv A outer s H vs Q E hr h => ?_)
  · obtain ⟨st, v, d, rfl, _⟩ := h
    rfl
  · obtain ⟨st, v, d, rfl, td, q⟩ := h
    obtain ⟨ts, ms⟩ := M.dealings
    refine ⟨_, pss_cons (ps_if (PW.pt (pw_or (pt_not (pt_val (pe_callB call_isi (by rfl) M.isinstance (by decide +kernel) (pa_cons (pv 0) (pa_cons (pe_bltn (v := .ty "list") (by rfl) M.list (by decide +kernel) rfl) pa_nil)))))
        (pw_or1 (pt_not (pt_chain op_le op_le pe_int (pe_callB call_len_seq (by rfl) M.len PySem.boot_len (pa_cons (pv 0) pa_nil)) (pe_glob (v := .int 100) (by rfl) ms ⟨_, rfl⟩)))))) (pss_one (ps_ret pe_bl)) pss_nil)
      (pss_one (ps_ret (pe_callB (cr_all rfl) (by rfl) M.all (by decide +kernel) (pa_cons
          (pe_lc (own := [("dealing", 1)]) (g := gName 1) (by rfl) scAreDealings.nd (pi_list (pv 0)) (blkOk_by (own := [("dealing", 1)]) (N := ["thing", "dealing"]) (sc := defScope sAreDealings) (by decide +kernel))
            (fun _ _ _ _ _ => pg_name (i := 1) scAreDealings.nd rfl (Or.inl rfl)) (fun _ _ _ _ _ => pts_nil) (fun _ _ _ _ _ => pe_call G1 hr (by rfl) g1 k1 b1 .nil pass0 (pa_cons (pv 1) pa_nil))) pa_nil)))), ?_⟩
    refine ⟨v, rfl, v, .ty "list", _, _, _, rfl, .ty _, td.ty, kit_ty (kit_lst d), _, rfl, ?_⟩
    cases ht : isLst d with
    | false =>
      rw [areDealings_lst ht] at q
      exact iteT (iteT (q H (Same.refl H)))
    | true =>
      cases td with
      | @lst a xs ds n h t =>
        have hl := t.length
        refine iteF ⟨.ref a, rfl, a, xs, rfl, .inl (SqL.of h), 1, _, rfl, rfl, _, rfl, ?_⟩
        by_cases h1 : 1 ≤ xs.length
        · rw [decide_eq_true (show (1 : Int) ≤ (xs.length : Int) by omega)]
          refine iteT ⟨_, 100, rfl, rfl, _, rfl, ?_⟩
          by_cases h8 : xs.length ≤ 100
          · rw [decide_eq_true (show (xs.length : Int) ≤ 100 by omega)]
            refine iteF ⟨.ref a, rfl, a, rfl, ⟨_, SqL.of h⟩, fun D1 hD1 => lc_kept walk_list (fun _ => true) (fun i => .bl (isDealing (ds.getD i .non))) hD1 (by omega) (fun H' e => SqL.of (e _ _ h)) (fun i x H2 H3 N R hi e2 y hN hR => ?_) (fun H2 e2 hL => ?_)⟩
            · obtain ⟨rfl, hx⟩ := y
              obtain ⟨di, hdi, tdi⟩ := t.get hx
              refine ⟨rfl, yesI ⟨x, rfl, st, x, di, rfl, tdi.mono (.of e2), fun H4 e4 => ?_⟩⟩
              have e5 : ds.getD i .non = di := by rw [List.getD_eq_getElem?_getD, hdi]; rfl
              have r := hR rfl H4 e4
              simp only [e5] at r
              exact r
            · have e1 : kept xs.length (fun _ => true) (fun i => V.bl (isDealing (ds.getD i .non))) = (ds.map isDealing).map V.bl := by
                rw [kept_all]
                have e0 : xs.length = ((ds.map isDealing).map V.bl).length := by rw [List.length_map, List.length_map]; exact hl
                rw [e0]
                refine map_range _ _ fun i x hx => ?_
                rw [List.getElem?_map, List.getElem?_map] at hx
                cases hd : ds[i]? with
                | none => rw [hd] at hx; cases hx
                | some di =>
                  rw [hd] at hx
                  have e5 : ds.getD i .non = di := by rw [List.getD_eq_getElem?_getD, hd]; rfl
                  rw [e5]
                  exact Option.some.inj hx
              rw [e1] at hL
              refine ⟨D1, ds.map isDealing, rfl, SqL.of hL, ?_⟩
              rw [all_id_map]
              have r := q H2 e2
              rw [areDealings_eq, decide_eq_true (show 1 ≤ ds.length by omega), decide_eq_true (show ds.length ≤ 100 by omega)] at r
              exact r
          · rw [decide_eq_false (show ¬ (xs.length : Int) ≤ 100 by omega)]
            have e : areDealings (.lst ds) = false := by
              rw [areDealings_eq, decide_eq_false (show ¬ ds.length ≤ 100 by omega), Bool.and_false, Bool.false_and]
            rw [e] at q
            exact iteT (q H (Same.refl H))
        · rw [decide_eq_false (show ¬ (1 : Int) ≤ (xs.length : Int) by omega)]
          have e : areDealings (.lst ds) = false := by
            rw [areDealings_eq, decide_eq_false (show ¬ 1 ≤ ds.length by omega), Bool.false_and, Bool.false_and]
          rw [e] at q
          refine iteF ⟨_, rfl, iteT (q H (Same.refl H))⟩
      | _ => exact absurd ht Bool.false_ne_true
end
end As

namespace As
open PySem PySem.Spec PyProof.Rows L2
abbrev sCellAt : Stmt := topS 13
abbrev sDigit : Stmt := topS 14
abbrev sBox : Stmt := topS 15
abbrev sDealing : Stmt := topS 16
theorem scCellAt : FnScope ["_law_script", "_law_k"] ["_law_script", "_law_k"] (defScope sCellAt) := ⟨rfl, rfl, rfl, by decide +kernel, rfl, by decide +kernel, by decide +kernel⟩
theorem scDigit : FnScope ["_law_state", "_law_base", "_law_cell", "_law_found", "_law_number"] ["_law_state", "_law_base"] (defScope sDigit) := ⟨rfl, rfl, rfl, by decide +kernel, rfl, by decide +kernel, by decide +kernel⟩
theorem scBox : FnScope ["_law_state", "_law_few"] ["_law_state", "_law_few"] (defScope sBox) := ⟨rfl, rfl, rfl, by decide +kernel, rfl, by decide +kernel, by decide +kernel⟩
theorem scDealing : FnScope ["_law_state", "_law_few", "_law_most", "_law_steps", "_law_k", "_law_word", "_law_step"] ["_law_state", "_law_few", "_law_most"] (defScope sDealing) := ⟨rfl, rfl, rfl, by decide +kernel, rfl, by decide +kernel, by decide +kernel⟩
section
variable {P : Program} {w : World} {K : PySem.W.Frag} {mg : Str → Option Value} {base : Heap}
/-! ### cell_at -/
def spCellAt (K : PySem.W.Frag) : Sp := fun vs H Q _ => ∃ (a : Addr) (k : Nat) (ns : List Int), vs = [.ref a, .int (k : Int)] ∧ SqL K H a (ns.map V.int) ∧ ∀ i, Q (.int i) H
theorem ok_cell_at {f : Addr} {fd : FuncData} {k : Nat} (F : Fun K "_law_cell_at" "_law_cell_at" sCellAt f fd) (M : Mg mg) : FnOk P w K mg base CX0 (k + 1) f fd ["_law_script", "_law_k"] (spCellAt K) := by
  refine F.ok scCellAt (fun vs H Q E h => ?_) (fun cdv A outer s H vs Q E hr h => ?_)
  · obtain ⟨a, k, ns, rfl, _⟩ := h
    rfl
  · obtain ⟨a, k, ns, rfl, hS, q⟩ := h
    refine ⟨_, pss_cons (ps_if (pt_cmpR op_lt (pv 1) (pe_callB call_len_seq (by rfl) M.len PySem.boot_len (pa_cons (pv 0) pa_nil)) (nomark _)) (pss_one (ps_ret (pe_ix ix_list (pv 0) (pv 1) (fun _ _ => rfl)))) pss_nil)
      (pss_one (ps_ret pe_int)), ?_⟩
    refine ⟨_, rfl, .ref a, rfl, a, _, rfl, .inl hS, _, _, rfl, rfl, _, rfl, ite2 (fun e => ?_) (fun e => ?_)⟩
    · have e' := of_decide_eq_true e
      have hk : k < ns.length := by
        rw [List.length_map] at e'
        omega
      refine ⟨.ref a, rfl, _, rfl, a, _, k, .int ns[k], rfl, rfl, hS, atI_nat ?_, q _⟩
      rw [List.getElem?_map, List.getElem?_eq_getElem hk]
      rfl
    · exact q 0
/-! ### the well -/
def Well (st : Addr) (H : Hp) : Prop := (∃ c, H st = some (.lst [.int c])) ∨ ∃ a b c : Int, H st = some (.lst [.int a, .int b, .int c])
theorem Well.same {st : Addr} {H H' : Hp} (e : Same H H') (h : Well st H) : Well st H' := by
  rcases h with ⟨c, h⟩ | ⟨a, b, c, h⟩
  · exact .inl ⟨c, e _ _ h⟩
  · exact .inr ⟨a, b, c, e _ _ h⟩
theorem Well.ne {st p : Addr} {H : Hp} (h : Well st H) (np : H p = none) : p ≠ st := by
  rcases h with ⟨c, h⟩ | ⟨a, b, c, h⟩
  · exact (ne_of_none h np).symm
  · exact (ne_of_none h np).symm
def spDigit : Sp := fun vs H Q _ => ∃ (st : Addr) (b : Int), vs = [.ref st, .int b] ∧ Well st H ∧ 0 < b ∧ b < 1000000000 ∧ ∀ r H', 0 ≤ r → r < b → Well st H' → ExS st H H' → Q (.int r) H'
theorem ok_digit {f : Addr} {fd : FuncData} {k : Nat} (F : Fun K "_law_digit" "_law_digit" sDigit f fd) (M : Mg mg) : FnOk P w K mg base CX0 (k + 1) f fd ["_law_state", "_law_base"] spDigit := by
  refine F.ok scDigit (fun vs H Q E h => ?_) (fun cdv A outer s H vs Q E hr h => ?_)
  · obtain ⟨st, b, rfl, _⟩ := h
    rfl
  · obtain ⟨st, bs, rfl, hW, hb0, hb1, q⟩ := h
    refine ⟨_, Evl.pss_cut (ps_if (pt_cmpR op_eq (pe_callB call_len_seq (by rfl) M.len PySem.boot_len (pa_cons (pv 0) pa_nil)) pe_int (nomark _))
        (pss_cons (ps_set (i := 2) scDigit.nd rfl (.inl rfl) (pe_ix ix_list (pv 0) pe_int (fun _ _ => rfl)))
        (pss_cons (ps_asg (pe_ix ix_list (pe_lst (pa_cons pe_int (pa_cons (pv 2) pa_nil))) (pe_callTy call_int1 (by rfl) M.int (by decide +kernel) (pa_cons (pe_cmpR op_ge (pv 2) (pe_op op_pow pe_int pe_int) (nomark _)) pa_nil)) (fun _ _ => rfl)) (pg_sub (pv 0) pe_int set_list))
        (pss_one (ps_expr (pe_bm PySem.F.plainAttrs_list PySem.F.slot_list_extend PySem.F.type_list_extend mt_extend (pv 0) (pa_cons (pe_lst (pa_cons (pe_op op_mod (pv 2) pe_int) (pa_cons pe_int pa_nil))) pa_nil)))))) pss_nil)
      (pss_cons (ps_if (pt_cmpR op_gt (pe_ix ix_list (pv 0) pe_int (fun _ _ => rfl)) pe_int (nomark _))
        (pss_cons (ps_set (i := 3) scDigit.nd rfl (.inl rfl) (pe_op op_mod (pe_ix ix_list (pv 0) pe_int (fun _ _ => rfl)) (pv 1)))
        (pss_cons (ps_asg (pe_op op_fdiv (pe_ix ix_list (pv 0) pe_int (fun _ _ => rfl)) (pv 1)) (pg_sub (pv 0) pe_int set_list))
        (pss_one (ps_ret (pv 3))))) pss_nil)
      (pss_cons (ps_asg (pe_add (pe_ix ix_list (pv 0) pe_int (fun _ _ => rfl)) pe_int) (pg_sub (pv 0) pe_int set_list))
      (pss_cons (ps_set (i := 4) scDigit.nd rfl (.inl rfl) (pe_op op_mod (pe_op op_mul (pe_add (pe_add (pe_ix ix_list (pv 0) pe_int (fun _ _ => rfl)) (pe_op op_mul pe_int (pe_ix ix_list (pv 0) pe_int (fun _ _ => rfl)))) pe_int) pe_int) pe_int))
      (pss_cons (ps_set (i := 4) scDigit.nd rfl (.inl rfl) (pe_op op_mod (pe_op op_mul (pv 4) (pe_add (pe_op op_fdiv (pv 4) pe_int) pe_int)) pe_int))
      (pss_one (ps_ret (pe_op op_mod (pe_op op_mod (pe_op op_mul (pv 4) (pe_add (pe_op op_fdiv (pv 4) pe_int) pe_int)) pe_int) (pv 1)))))))), ?_⟩
    refine ⟨fun σ' H' => ∃ y2 a b c, σ' = [some (.ref st), some (.int bs), y2, none, none] ∧ H' st = some (.lst [.int a, .int b, .int c]) ∧ ExS st H H', ?_, fun σ' H1 hM => ?_⟩
    · rcases hW with ⟨c, h⟩ | ⟨a, b, c, h⟩
      · refine ⟨.ref st, rfl, st, _, rfl, .inl (SqL.of h), rfl, _, rfl, ite2 (fun e => ?_) (fun e => absurd (decide_eq_true rfl) e)⟩
        refine ⟨.ref st, rfl, st, _, 0, .int c, rfl, rfl, SqL.of h, rfl, ?_⟩
        refine ⟨.int c, rfl, by show 2 ≤ sizeLine; decide, fun p np => ?_⟩
        have hst : (upd H p (.lst [.int 0, .int c])) st = some (.lst [.int c]) := by
          rw [upd_ne (ne_of_none h np)]
          exact h
        refine ⟨.int c, rfl, 10, 18, rfl, rfl, ⟨by decide, by decide, by decide⟩, c, _, rfl, rfl, .inr ⟨_, rfl, p, [.int 0, .int c], _, (if decide ((10 : Int) ^ (18 : Int).toNat ≤ c) then .int c else .int 0), rfl, rfl, SqL.of upd_same, ?_, .ref st, rfl, st, [.int c], 0, 0, rfl, rfl, hst, rfl, ?_⟩⟩
        · cases decide ((10 : Int) ^ (18 : Int).toNat ≤ c) <;> rfl
        · obtain ⟨z, hz⟩ : ∃ z : Int, (if decide ((10 : Int) ^ (18 : Int).toNat ≤ c) then V.int c else V.int 0) = .int z := by
            cases decide ((10 : Int) ^ (18 : Int).toNat ≤ c)
            · exact ⟨0, rfl⟩
            · exact ⟨c, rfl⟩
          rw [hz]
          refine ⟨.ref st, rfl, .inl ⟨rfl, _, SqL.of upd_same⟩, .int c, rfl, c, 2147483647, rfl, rfl, (show (0 : Int) < 2147483647 by decide), by show 2 ≤ sizeLine; decide, fun p2 np2 => ?_⟩
          have n2 : st ≠ p2 := fun e => by
            rw [e, upd_same] at np2
            cases np2
          refine ⟨st, p2, [.int z], _, rfl, rfl, ?_, upd_same, by show 3 ≤ sizeLine; decide, ?_⟩
          · rw [upd_ne n2, upd_same]
            rfl
          · refine ⟨some (.int c), z, c % 2147483647, 0, rfl, upd_same, ?_⟩
            refine ExS.trans (ExS.new np) (ExS.trans ExS.at_ (ExS.trans (ExS.new np2) ExS.at_))
      · refine ⟨.ref st, rfl, st, _, rfl, .inl (SqL.of h), rfl, _, rfl, ite2 (fun e => ?_) (fun e => ?_)⟩
        · have e' := V.int.inj (of_decide_eq_true e)
          exact absurd e' (show ¬ (((3 : Nat) : Int) = 1) by decide)
        · exact ⟨none, a, b, c, rfl, h, ExS.refl _ _⟩
    · obtain ⟨y2, a, b, c, rfl, h, eS⟩ := hM
      refine ⟨.ref st, rfl, st, _, 0, .int a, rfl, rfl, SqL.of h, rfl, a, 0, rfl, rfl, _, rfl, ite2 (fun e => ?_) (fun e => ?_)⟩
      · have ha : 0 < a := of_decide_eq_true e
        refine ⟨.ref st, rfl, st, _, 0, .int a, rfl, rfl, SqL.of h, rfl, .int bs, rfl, a, bs, rfl, rfl, hb0, ?_⟩
        refine ⟨.ref st, rfl, st, _, 0, .int a, rfl, rfl, SqL.of h, rfl, .int bs, rfl, a, bs, rfl, rfl, ⟨hb0, by omega⟩, .ref st, rfl, st, _, 0, 0, rfl, rfl, h, rfl, ?_⟩
        refine ⟨.int (a % bs), rfl, q _ _ (Int.emod_nonneg _ (by omega)) (Int.emod_lt_of_pos _ hb0) (.inr ⟨a / bs, b, c, upd_same⟩) (eS.trans ExS.at_)⟩
      · refine ⟨.ref st, rfl, st, _, 2, .int c, rfl, rfl, SqL.of h, rfl, c, 1, rfl, rfl, .ref st, rfl, st, _, 2, 2, rfl, rfl, h, rfl, ?_⟩
        have h2 : (upd H1 st (.lst ([.int a, .int b, .int c].set 2 (.int (c + 1))))) st = some (.lst [.int a, .int b, .int (c + 1)]) := upd_same
        refine ⟨.ref st, rfl, st, _, 1, .int b, rfl, rfl, SqL.of h2, rfl, .ref st, rfl, st, _, 2, .int (c + 1), rfl, rfl, SqL.of h2, rfl, 7919, c + 1, rfl, rfl, .inl ⟨by decide, by decide⟩, b, 7919 * (c + 1), rfl, rfl, _, 1, rfl, rfl, _, 48271, rfl, rfl, .inr ⟨by decide, by decide⟩, _, 2147483647, rfl, rfl, (show (0 : Int) < 2147483647 by decide), ?_⟩
        obtain ⟨n, hn⟩ : ∃ n : Int, (b + 7919 * (c + 1) + 1) * 48271 % 2147483647 = n := ⟨_, rfl⟩
        have n0 : 0 ≤ n := by rw [← hn]; exact Int.emod_nonneg _ (by decide)
        have n1 : n < 2147483647 := by rw [← hn]; exact Int.emod_lt_of_pos _ (by decide)
        refine ⟨.int n, by rw [← hn]; rfl, .int n, by rw [← hn]; rfl, n, 1009, rfl, rfl, ⟨by decide, by decide⟩, _, 69621, rfl, rfl, n, _, rfl, rfl, .inl ⟨by omega, by omega⟩, _, 2147483647, rfl, rfl, (show (0 : Int) < 2147483647 by decide), ?_⟩
        obtain ⟨m, hm⟩ : ∃ m : Int, n * (n / 1009 + 69621) % 2147483647 = m := ⟨_, rfl⟩
        have m0 : 0 ≤ m := by rw [← hm]; exact Int.emod_nonneg _ (by decide)
        have m1 : m < 2147483647 := by rw [← hm]; exact Int.emod_lt_of_pos _ (by decide)
        refine ⟨.int m, by rw [← hm]; rfl, .int m, by rw [← hm]; rfl, m, 2003, rfl, rfl, ⟨by decide, by decide⟩, _, 40692, rfl, rfl, m, _, rfl, rfl, .inl ⟨by omega, by omega⟩, _, 2147483399, rfl, rfl, (show (0 : Int) < 2147483399 by decide), .int bs, rfl, _, bs, rfl, rfl, hb0, ?_⟩
        exact q _ _ (Int.emod_nonneg _ (by omega)) (Int.emod_lt_of_pos _ hb0) (.inr ⟨a, b, c + 1, upd_same⟩) (eS.trans ExS.at_)
/-! ### box -/
def spBox : Sp := fun vs H Q _ => ∃ (st : Addr) (b : Int), vs = [.ref st, .int b] ∧ Well st H ∧ 0 < b ∧ b ≤ 100000001 ∧ ∀ r H', boxB r = true → Well st H' → ExS st H H' → Q (.int r) H'
theorem ok_box {f f1 : Addr} {fd fd1 : FuncData} {k : Nat} (F : Fun K "_law_box" "_law_box" sBox f fd) (M : Mg mg) (G1 : FnOk P w K mg base CX0 k f1 fd1 ["_law_state", "_law_base"] spDigit) (g1 : mg "_law_digit" = some (.ref f1)) (k1 : PySem.W.keepIn K (.ref f1) = true) (b1 : Binds K fd1 ["_law_state", "_law_base"] []) :
    FnOk P w K mg base CX0 (k + 1) f fd ["_law_state", "_law_few"] spBox := by
  refine F.ok scBox (fun vs H Q E h => ?_) (fun cdv A outer s H vs Q E hr h => ?_)
  · obtain ⟨st, b, rfl, _⟩ := h
    rfl
  · obtain ⟨st, b, rfl, hW, hb0, hb1, q⟩ := h
    refine ⟨_, pss_cons (ps_if (pt_cmpR op_eq (pe_call G1 hr (by rfl) g1 k1 b1 .nil pass0 (pa_cons (pv 0) (pa_cons pe_int pa_nil))) pe_int (nomark _))
        (pss_one (ps_ret (pe_call G1 hr (by rfl) g1 k1 b1 .nil pass0 (pa_cons (pv 0) (pa_cons (pe_add (pe_op op_pow pe_int pe_int) pe_int) pa_nil))))) pss_nil)
      (pss_one (ps_ret (pe_call G1 hr (by rfl) g1 k1 b1 .nil pass0 (pa_cons (pv 0) (pa_cons (pv 1) pa_nil))))), ?_⟩
    refine ⟨.ref st, rfl, st, 12, rfl, hW, by decide, by decide, fun r H1 h0 h1 W1 e1 => ⟨rfl, _, rfl, ite2 (fun e => ?_) (fun e => ?_)⟩⟩
    · refine ⟨.ref st, rfl, 10, 8, rfl, rfl, ⟨by decide, by decide, by decide⟩, _, 1, rfl, rfl, st, 100000001, rfl, W1, by decide, by decide, fun r2 H2 h2 h3 W2 e2 => q r2 H2 ?_ W2 (e1.trans e2)⟩
      unfold boxB
      rw [decide_eq_true h2, decide_eq_true (show r2 ≤ 100000000 by omega)]
      rfl
    · refine ⟨.ref st, rfl, .int b, rfl, st, b, rfl, W1, hb0, by omega, fun r2 H2 h2 h3 W2 e2 => q r2 H2 ?_ W2 (e1.trans e2)⟩
      unfold boxB
      rw [decide_eq_true h2, decide_eq_true (show r2 ≤ 100000000 by omega)]
      rfl
/-! ### dealing -/
def StepsOk (l : List Pr) : Prop := ∀ p ∈ l, wordB p.1 = true ∧ boxB p.2 = true
def spDealing : Sp := fun vs H Q _ => ∃ (st : Addr) (b m : Int), vs = [.ref st, .int b, .int m] ∧ Well st H ∧ 0 < b ∧ b ≤ 100000001 ∧ 0 < m ∧ m ≤ 8 ∧
  ∀ v l H', TD st H' v (.tup (l.map stepD)) → 1 ≤ l.length → l.length ≤ 8 → StepsOk l → Well st H' → ExS st H H' → Q v H'
theorem word_at {r : Int} (h0 : 0 ≤ r) (h1 : r < 2) : ∃ z, wordB z = true ∧ atI [V.str wR, V.str wW] r = some (.str z) := by
  have h : r = 0 ∨ r = 1 := by omega
  rcases h with rfl | rfl
  · exact ⟨wR, by decide +kernel, rfl⟩
  · exact ⟨wW, by decide +kernel, rfl⟩
theorem ok_dealing {f f1 f2 : Addr} {fd fd1 fd2 : FuncData} {k : Nat} (F : Fun K "_law_dealing" "_law_dealing" sDealing f fd) (M : Mg mg) (G1 : FnOk P w K mg base CX0 k f1 fd1 ["_law_state", "_law_base"] spDigit) (g1 : mg "_law_digit" = some (.ref f1)) (k1 : PySem.W.keepIn K (.ref f1) = true) (b1 : Binds K fd1 ["_law_state", "_law_base"] [])
    (G2 : FnOk P w K mg base CX0 k f2 fd2 ["_law_state", "_law_few"] spBox) (g2 : mg "_law_box" = some (.ref f2)) (k2 : PySem.W.keepIn K (.ref f2) = true) (b2 : Binds K fd2 ["_law_state", "_law_few"] []) :
    FnOk P w K mg base CX0 (k + 1) f fd ["_law_state", "_law_few", "_law_most"] spDealing := by
  refine F.ok scDealing (fun vs H Q E h => ?_) (fun cdv A outer s H vs Q E hr h => ?_)
  · obtain ⟨st, b, m, rfl, _⟩ := h
    rfl
  · obtain ⟨st, b, m, rfl, hW, hb0, hb1, hm0, hm1, q⟩ := h
    refine ⟨_, pss_cons (ps_set (i := 3) scDealing.nd rfl (.inl rfl) (pe_lst pa_nil))
      (pss_cons (ps_for PassesOwn.never rfl (pi_range1 (by rfl) M.range (pa_cons (pe_add pe_int (pe_call G1 hr (by rfl) g1 k1 b1 .nil pass0 (pa_cons (pv 0) (pa_cons (pv 2) pa_nil)))) pa_nil)) (pg_name (i := 4) scDealing.nd rfl (.inl rfl))
        (pss_cons (ps_set (i := 5) scDealing.nd rfl (.inl rfl) (pe_ix ix_list (pe_lst (pa_cons pe_str (pa_cons pe_str pa_nil))) (pe_call G1 hr (by rfl) g1 k1 b1 .nil pass0 (pa_cons (pv 0) (pa_cons pe_int pa_nil))) (fun _ _ => rfl)))
        (pss_cons (ps_set (i := 6) scDealing.nd rfl (.inl rfl) (pe_tup (pa_cons (pv 5) (pa_cons (pe_call G2 hr (by rfl) g2 k2 b2 .nil pass0 (pa_cons (pv 0) (pa_cons (pv 1) pa_nil))) pa_nil))))
        (pss_one (ps_if (PW.pt (pw_and (pt_cmpR (op_notInD (hu65 hr)) (pv 6) (pv 3) (by rfl)) (pw_and1 (pt_cmpR (op_notInD (hu65 hr)) (pe_tup (pa_cons pe_str (pa_cons (pe_ix ix_tup (pv 6) pe_int (fun _ _ => rfl)) pa_nil))) (pv 3) (by rfl)))))
          (pss_one (ps_expr (pe_bm PySem.F.plainAttrs_list PySem.F.slot_list_append PySem.F.type_list_append mt_append (pv 3) (pa_cons (pv 6) pa_nil)))) pss_nil)))))
      (pss_one (ps_ret (pe_callTy call_tuple_of (by rfl) M.tuple (by decide +kernel) (pa_cons (pv 3) pa_nil))))), ?_⟩
    refine ⟨Nat.zero_le _, fun o no => ?_⟩
    have nos : o ≠ st := hW.ne no
    refine ⟨.ref st, rfl, .int m, rfl, st, m, rfl, hW.same (same_new no), hm0, by omega, fun r H1 h0 h1 W1 e1 => ⟨1, r, rfl, rfl, 1 + r, rfl, by omega, by omega, ?_⟩⟩
    have ho1 : H1 o = some (.lst []) := e1 _ _ nos upd_same
    have eH1 : ExS st H H1 := (ExS.new no).trans e1
    refine for_range (lo := 0) (n := (1 + r).toNat) (fun i σ H' => ∃ y4 y5 y6 xs l, σ = [some (.ref st), some (.int b), some (.int m), some (.ref o), y4, y5, y6] ∧ H' o = some (.lst xs) ∧ TDs st H' xs (l.map stepD) ∧ l.length ≤ i ∧ (1 ≤ i → 1 ≤ l.length) ∧ StepsOk l ∧ Well st H' ∧ ExS st H H')
      ⟨none, none, none, [], [], rfl, ho1, .nil, Nat.le_refl _, fun z => absurd z (by decide), (fun p hp => absurd hp List.not_mem_nil), W1, eH1⟩ (fun i σ H2 hi hP => ?_) (fun σ H2 hP => ?_)
    · obtain ⟨y4, y5, y6, xs, l, rfl, ho, t, hl, hne, hok, W2, e2⟩ := hP
      -- word
      refine ⟨by show 2 ≤ sizeLine; decide, fun p np => ?_⟩
      refine ⟨.ref st, rfl, st, 2, rfl, W2.same (same_new np), by decide, by decide, fun r3 H3 h30 h31 W3 e3 => ?_⟩
      obtain ⟨z, wz, az⟩ := word_at h30 h31
      have np_st : p ≠ st := W2.ne np
      refine ⟨p, [.str wR, .str wW], r3, .str z, rfl, rfl, SqL.of (e3 _ _ np_st upd_same), az, ?_⟩
      have e23 : ExS st H2 H3 := (ExS.new np).trans e3
      -- step
      refine ⟨.str z, rfl, .ref st, rfl, .int b, rfl, st, b, rfl, W3, hb0, hb1, fun r4 H4 hb4 W4 e4 => ⟨by show 2 ≤ sizeLine; decide, fun p2 np2 => ?_⟩⟩
      have e24 : ExS st H2 H4 := e23.trans e4
      have np2_st : p2 ≠ st := W4.ne np2
      have e25 : ExS st H2 (upd H4 p2 (.tup [.str z, .int r4])) := e24.trans (ExS.new np2)
      have W5 : Well st (upd H4 p2 (.tup [.str z, .int r4])) := W4.same (same_new np2)
      have ho5 := e25 _ _ nos ho
      have t5 := t.mono e25
      have tp : TD st (upd H4 p2 (.tup [.str z, .int r4])) (.ref p2) (stepD (z, r4)) := .tup np2_st upd_same (.cons (.str _) (.cons (.int _) .nil))
      have wl : ∀ q ∈ l, wordB q.1 = true := fun q hq => (hok q hq).1
      refine ⟨.ref p2, rfl, .ref o, rfl, stepP (z, r4), l.map stepP, tp.stepDp, .lst (SqL.of ho5) t5.stepsDp, stepP_shaped wz, stepPs_shapedL wl, _, rfl, ?_⟩
      rw [any_step]
      cases h1m : decide ((z, r4) ∈ l) with
      | true =>
        refine iteF (iteF ?_)
        refine ⟨_, _, _, xs, l, rfl, ho5, t5, by omega, fun _ => ?_, hok, W5, e2.trans e25⟩
        exact List.length_pos_of_mem (of_decide_eq_true h1m)
      | false =>
        refine iteT ⟨.ref p2, rfl, p2, [.str z, .int r4], 1, .int r4, rfl, rfl, SqT.of upd_same, rfl, by show 2 ≤ sizeLine; decide, fun c nc => ?_⟩
        have e26 : ExS st H2 (upd (upd H4 p2 (.tup [.str z, .int r4])) c (.tup [.str wW, .int r4])) := e25.trans (ExS.new nc)
        have W6 := W5.same (same_new (o := .tup [.str wW, .int r4]) nc)
        have ho6 := e26 _ _ nos ho
        have t6 := t.mono e26
        refine ⟨.ref o, rfl, stepP (wW, r4), l.map stepP, .tup (SqT.of upd_same) (.cons (.str _) (.cons (.int _) .nil)), .lst (SqL.of ho6) t6.stepsDp, stepP_shaped (show wordB wW = true by decide +kernel), stepPs_shapedL wl, _, rfl, ?_⟩
        rw [any_step]
        cases h2m : decide ((wW, r4) ∈ l) with
        | true =>
          refine iteF ?_
          exact ⟨_, _, _, xs, l, rfl, ho6, t6, by omega, fun _ => List.length_pos_of_mem (of_decide_eq_true h2m), hok, W6, e2.trans e26⟩
        | false =>
          have hz : xs.length = l.length := by rw [t.length, List.length_map]
          refine iteT ⟨.ref o, rfl, .inl ⟨rfl, _, SqL.of ho6⟩, .ref p2, rfl, o, xs, .ref p2, rfl, rfl, ho6, sl_lt (by omega), ?_⟩
          refine ⟨_, _, _, xs ++ [.ref p2], l ++ [(z, r4)], rfl, upd_same, ?_, by rw [List.length_append]; show l.length + 1 ≤ i + 1; omega, fun _ => by rw [List.length_append]; show 1 ≤ l.length + 1; omega, ?_, ?_, ?_⟩
          · refine (t6.append (.cons (tp.mono (ExS.new nc)) .nil) |> fun h => ?_)
            have h' : TDs st (upd (upd H4 p2 (.tup [.str z, .int r4])) c (.tup [.str wW, .int r4])) (xs ++ [.ref p2]) ((l ++ [(z, r4)]).map stepD) := by
              rw [List.map_append]
              exact h
            refine h'.stepsT fun a ys na ha => ?_
            rw [upd_ne]
            · exact ha
            · intro e
              rw [e, ho6] at ha
              cases ha
          · intro q hq
            rcases List.mem_append.mp hq with h | h
            · exact hok q h
            · rw [List.mem_singleton.mp h]
              exact ⟨wz, hb4⟩
          · rcases W6 with ⟨c1, h⟩ | ⟨a1, b1, c1, h⟩
            · exact .inl ⟨c1, by rw [upd_ne (Ne.symm nos)]; exact h⟩
            · exact .inr ⟨a1, b1, c1, by rw [upd_ne (Ne.symm nos)]; exact h⟩
          · intro a u na ha
            rw [upd_ne (ne_of_none ha no)]
            exact (e2.trans e26) a u na ha
    · obtain ⟨y4, y5, y6, xs, l, rfl, ho, t, hl, hne, hok, W2, e2⟩ := hP
      refine ⟨.ref o, rfl, o, xs, rfl, .inl ⟨SqL.of ho, fun p np => q (.ref p) l _ (.tup (W2.ne np) upd_same (t.mono (ExS.new np))) (hne (by omega)) (by omega) hok (W2.same (same_new np)) (e2.trans (ExS.new np))⟩⟩
end
end As

namespace As
open PySem PySem.Spec PyProof.Rows L2
/-! ### a list beside the empty one -/
def rEqNil (K : PySem.W.Frag) : R2 := fun x y H Q => ∃ a b xs, x = .ref a ∧ y = .ref b ∧ SqL K H a xs ∧ SqL K H b [] ∧ Q (.bl xs.isEmpty) H
theorem op_eqNil {X : Cx} (hu : X.A.units < cLine) : OpR X (compareOp .Eq) (rEqNil X.K) := by
  intro pins s σ H x y v u Q I rx ry h
  obtain ⟨a, b, xs, rfl, rfl, ha, hb, q⟩ := h
  cases rx
  cases ry
  obtain ⟨its, rv, p1, _⟩ := I.list ha
  obtain ⟨its2, rv2, p2, _⟩ := I.list hb
  cases rv2
  cases xs with
  | nil =>
    cases rv
    exact SeqAt.eq_listAt p1.isList p2.isList rfl hu (e := fun _ => true) (fun j h1 _ => absurd h1 (Nat.not_lt_zero _)) ⟨.bl true, H, I, rfl, q⟩
  | cons x xs =>
    cases rv with
    | cons r1 r2 => exact SeqAt.eq_list_lengthsAt p1.isList p2.isList (by simp) hu ⟨.bl false, H, I, rfl, q⟩
/-! ### data picked, cut, put together -/
theorem TDs.pick {st : Addr} {H : Hp} {xs : List V} {ds : List D} {r : Int} (t : TDs st H xs ds) (h0 : 0 ≤ r) (h1 : r < xs.length) : ∃ v d, atI xs r = some v ∧ TD st H v d := by
  obtain ⟨j, rfl⟩ : ∃ j : Nat, r = (j : Int) := ⟨r.toNat, by omega⟩
  have hj : j < xs.length := by omega
  have hx : xs[j]? = some xs[j] := List.getElem?_eq_getElem hj
  obtain ⟨d, _, td⟩ := t.get hx
  exact ⟨xs[j], d, atI_nat hx, td⟩
theorem cat_ok {K : PySem.W.Frag} {st a b : Addr} {H : Hp} {ds es : List D} {Q : VK} (W : Well st H) (ta : TD st H (.ref a) (.tup ds)) (tb : TD st H (.ref b) (.tup es)) (hl : ds.length + es.length ≤ 1000)
    (q : ∀ c H', TD st H' (.ref c) (.tup (ds ++ es)) → Same H H' → Q (.ref c) H') : rCatA K (.ref a) (.ref b) H Q := by
  cases ta with
  | @tup a xs _ na ha t1 =>
    cases tb with
    | @tup b ys _ nb hb t2 =>
      have l1 := t1.length
      have l2 := t2.length
      refine ⟨a, b, xs, ys, rfl, rfl, SqT.of ha, SqT.of hb, sl_of (by omega), fun e => ?_, fun _ e => ?_, fun _ _ p np => ?_⟩
      · subst e
        cases t1
        exact q b H (.tup nb hb t2) (Same.refl H)
      · subst e
        cases t2
        refine q a H ?_ (Same.refl H)
        rw [List.append_nil]
        exact .tup na ha t1
      · exact q p _ (.tup (W.ne np) upd_same ((t1.append t2).mono (ExS.new np))) (same_new np)
theorem sl_ok {K : PySem.W.Frag} {st a : Addr} {H : Hp} {ds : List D} {lo hi : Option Int} {Q : VK} (W : Well st H) (ta : TD st H (.ref a) (.tup ds))
    (q : ∀ c H' es, TD st H' (.ref c) (.tup es) → es.length ≤ ds.length → Same H H' → Q (.ref c) H') : rSlA K (.ref a) lo hi H Q := by
  cases ta with
  | @tup a xs _ na ha t1 =>
    have l1 := t1.length
    refine ⟨a, xs, rfl, SqT.of ha, fun _ => q a H ds (.tup na ha t1) (Nat.le_refl _) (Same.refl H), fun _ p np => ?_⟩
    have t2 := (t1.drop (HT.sIx xs.length 0 lo)).take (HT.sIx xs.length xs.length hi - HT.sIx xs.length 0 lo)
    refine q p _ _ (.tup (W.ne np) upd_same (t2.mono (ExS.new np))) ?_ (same_new np)
    rw [List.length_take, List.length_drop]
    omega
theorem slL_ok {K : PySem.W.Frag} {st a : Addr} {H : Hp} {ds : List D} {lo hi : Option Int} {Q : VK} (W : Well st H) (ta : TD st H (.ref a) (.lst ds))
    (q : ∀ c H' es, TD st H' (.ref c) (.lst es) → es.length ≤ ds.length → Same H H' → Q (.ref c) H') : rSlL K (.ref a) lo hi H Q := by
  cases ta with
  | @lst a xs _ na ha t1 =>
    have l1 := t1.length
    refine ⟨a, xs, rfl, SqL.of ha, fun p np => ?_⟩
    have t2 := (t1.drop (HT.sIx xs.length 0 lo)).take (HT.sIx xs.length xs.length hi - HT.sIx xs.length 0 lo)
    refine q p _ _ (.lst (W.ne np) upd_same (t2.mono (ExS.new np))) ?_ (same_new np)
    rw [List.length_take, List.length_drop]
    omega
theorem catL_ok {st a b : Addr} {H : Hp} {ds es : List D} {Q : VK} (W : Well st H) (ta : TD st H (.ref a) (.lst ds)) (tb : TD st H (.ref b) (.lst es)) (hl : ds.length + es.length ≤ 1000)
    (q : ∀ c H', TD st H' (.ref c) (.lst (ds ++ es)) → Same H H' → Q (.ref c) H') : rCat (.ref a) (.ref b) H Q := by
  cases ta with
  | @lst a xs _ na ha t1 =>
    cases tb with
    | @lst b ys _ nb hb t2 =>
      have l1 := t1.length
      have l2 := t2.length
      exact ⟨a, b, xs, ys, rfl, rfl, ha, hb, sl_of (by omega), fun p np => q p _ (.lst (W.ne np) upd_same ((t1.append t2).mono (ExS.new np))) (same_new np)⟩
/-! ### lists of steps -/
theorem prs_one {ds : List D} {l : List Pr} {d : D} {p : Pr} : prs ds = some l → asPr d = some p → prs (ds ++ [d]) = some (l ++ [p]) := by
  intro h1 h2
  obtain ⟨e1, w1⟩ := prs_some h1
  obtain ⟨e2, w2⟩ := asPr_some h2
  have e : ds ++ [d] = (l ++ [p]).map stepD := by
    rw [e1, e2, List.map_append]
    rfl
  rw [e]
  refine prs_of fun q hq => ?_
  rcases List.mem_append.mp hq with h | h
  · exact w1 q h
  · rw [List.mem_singleton.mp h]
    exact w2
theorem prs_take {ds : List D} {l : List Pr} (h : prs ds = some l) (i : Nat) : prs (ds.take i) = some (l.take i) := by
  obtain ⟨e1, w1⟩ := prs_some h
  rw [e1, ← List.map_take]
  exact prs_of fun q hq => w1 q (List.mem_of_mem_take hq)
theorem follow_all {m : Pr → List Pr → Bool} {l : List Pr} (h : ∀ i p, l[i]? = some p → m p (l.take i) = true) : follow m l = true := by
  unfold follow
  rw [List.all_eq_true]
  intro i _
  split
  · rename_i p hp
    exact h i p hp
  · rfl
theorem follow_not {m : Pr → List Pr → Bool} {l : List Pr} {i : Nat} {p : Pr} (hp : l[i]? = some p) (h : m p (l.take i) = false) : follow m l = false := by
  cases hf : follow m l with
  | false => rfl
  | true =>
    unfold follow at hf
    rw [List.all_eq_true] at hf
    have := hf i (List.mem_range.mpr (List.getElem?_eq_some_iff.mp hp).1)
    rw [hp] at this
    have this' : m p (l.take i) = true := this
    rw [h] at this'
    exact absurd this' Bool.false_ne_true
theorem isDealing_noStep {ds : List D} {d : D} {i : Nat} (hd : ds[i]? = some d) (h : isStep d = false) : isDealing (.tup ds) = false := by
  have hn : prs ds = none := by
    cases hp : prs ds with
    | none => rfl
    | some l =>
      have h1 := prs_isSome ds
      rw [hp] at h1
      have h2 : ds.all isStep = true := h1.symm
      rw [List.all_eq_true] at h2
      have := h2 d (List.mem_of_getElem? hd)
      rw [h] at this
      exact absurd this Bool.false_ne_true
  rw [isDealing_eq, hn, Bool.and_false]
theorem isDealing_noFollow {ds : List D} {d : D} {l : List Pr} {p : Pr} {i : Nat} (hd : ds[i]? = some d) (hp : asPr d = some p) (hl : prs (ds.take i) = some l) (h : mayP p l = false) : isDealing (.tup ds) = false := by
  rw [isDealing_eq]
  cases hq : prs ds with
  | none => rw [Bool.and_false]
  | some m =>
    have e1 : l = m.take i := Option.some.inj (hl.symm.trans (prs_take hq i))
    obtain ⟨e2, w2⟩ := prs_some hq
    have e3 : m[i]? = some p := by
      rw [e2, List.getElem?_map] at hd
      cases hm : m[i]? with
      | none => rw [hm] at hd; cases hd
      | some q =>
        rw [hm] at hd
        have e4 : stepD q = d := Option.some.inj hd
        have wq := w2 q (List.mem_of_getElem? hm)
        rw [← e4, asPr_step wq.1 wq.2] at hp
        exact hp
    rw [e1] at h
    show (_ && follow mayP m) = false
    rw [follow_not e3 h, Bool.and_false]
end As

namespace As
open PySem PySem.Spec PyProof.Rows L2
abbrev sTruth : Stmt := topS 18
abbrev sLIsStep : Stmt := topS 19
abbrev sLIsDealing : Stmt := topS 20
abbrev sLAre : Stmt := topS 24
theorem scTruth : FnScope ["_law_found", "_law_due"] ["_law_found", "_law_due"] (defScope sTruth) := ⟨rfl, rfl, rfl, by decide +kernel, rfl, by decide +kernel, by decide +kernel⟩
theorem scLIsStep : FnScope ["_law_thing"] ["_law_thing"] (defScope sLIsStep) := ⟨rfl, rfl, rfl, by decide +kernel, rfl, by decide +kernel, by decide +kernel⟩
theorem scLIsDealing : FnScope ["_law_thing", "_law_k", "_law_step"] ["_law_thing"] (defScope sLIsDealing) := ⟨rfl, rfl, rfl, by decide +kernel, rfl, by decide +kernel, by decide +kernel⟩
theorem scLAre : FnScope ["_law_thing", "_law_one"] ["_law_thing"] (defScope sLAre) := ⟨rfl, rfl, rfl, by decide +kernel, rfl, by decide +kernel, by decide +kernel⟩
section
variable {P : Program} {w : World} {K : PySem.W.Frag} {mg : Str → Option Value} {base : Heap}
/-! ### truth -/
def spTruth : Sp := fun vs H Q _ => ∃ b, vs = [.bl b, .bl b] ∧ Q (.bl true) H
theorem ok_truth {f : Addr} {fd : FuncData} {k : Nat} (F : Fun K "_law_truth" "_law_truth" sTruth f fd) (M : Mg mg) : FnOk P w K mg base CX0 (k + 1) f fd ["_law_found", "_law_due"] spTruth := by
  refine F.ok scTruth (fun vs H Q E h => ?_) (fun cdv A outer s H vs Q E hr h => ?_)
  · obtain ⟨b, rfl, _⟩ := h
    rfl
  · obtain ⟨b, rfl, q⟩ := h
    refine ⟨_, pss_one (ps_ret (pe_and (pe_callB call_isi (by rfl) M.isinstance (by decide +kernel) (pa_cons (pv 0) (pa_cons (pe_bltn (v := .ty "bool") (by rfl) M.bool (by decide +kernel) rfl) pa_nil)))
      (pe_one (pe_cmpR op_eq (pv 0) (pv 1) (nomark _))))), ?_⟩
    refine ⟨.bl b, rfl, .bl b, .ty "bool", _, _, true, rfl, .ty _, (TD.bl (st := 0) b).ty, kit_ty (kit_bool (.bl b)), _, rfl, iteT ⟨.bl b, rfl, .bl b, rfl, rfl, ?_⟩⟩
    rw [decide_eq_true (show V.bl b = V.bl b from rfl)]
    exact q
/-! ### the law's own is_step -/
theorem ok_l_is_step {f : Addr} {fd : FuncData} {k : Nat} (F : Fun K "_law_is_step" "_law_is_step" sLIsStep f fd) (M : Mg mg) : FnOk P w K mg base CX0 (k + 1) f fd ["_law_thing"] (spD isStep) := by
  refine F.ok scLIsStep (fun vs H Q E h => ?_) (fun cdv A outer s H vs Q E hr h => ?_)
  · obtain ⟨st, v, d, rfl, _⟩ := h
    rfl
  · obtain ⟨st, v, d, rfl, td, q⟩ := h
    refine ⟨_, pss_cons (ps_if (PW.pt (pw_or (pt_not (pt_val (pe_callB call_isi (by rfl) M.isinstance (by decide +kernel) (pa_cons (pv 0) (pa_cons (pe_bltn (v := .ty "tuple") (by rfl) M.tuple (by decide +kernel) rfl) pa_nil)))))
        (pw_or (pt_cmpR op_ne (pe_callB call_len_seq (by rfl) M.len PySem.boot_len (pa_cons (pv 0) pa_nil)) pe_int (nomark _))
        (pw_or1 (pt_not (pt_val (pe_callB call_isi (by rfl) M.isinstance (by decide +kernel) (pa_cons (pe_ix ix_tup (pv 0) pe_int (fun _ _ => rfl)) (pa_cons (pe_bltn (v := .ty "str") (by rfl) M.str (by decide +kernel) rfl) pa_nil))))))))) (pss_one (ps_ret pe_bl)) pss_nil)
      (pss_cons (ps_if (PW.pt (pw_or (pt_cmpR op_notIn_seq (pe_ix ix_tup (pv 0) pe_int (fun _ _ => rfl)) (pe_lst (pa_cons pe_str (pa_cons pe_str pa_nil))) (by rfl))
        (pw_or (pt_not (pt_val (pe_callB call_isi (by rfl) M.isinstance (by decide +kernel) (pa_cons (pe_ix ix_tup (pv 0) pe_int (fun _ _ => rfl)) (pa_cons (pe_bltn (v := .ty "int") (by rfl) M.int (by decide +kernel) rfl) pa_nil)))))
        (pw_or1 (pt_val (pe_callB call_isi (by rfl) M.isinstance (by decide +kernel) (pa_cons (pe_ix ix_tup (pv 0) pe_int (fun _ _ => rfl)) (pa_cons (pe_bltn (v := .ty "bool") (by rfl) M.bool (by decide +kernel) rfl) pa_nil)))))))) (pss_one (ps_ret pe_bl)) pss_nil)
      (pss_one (ps_ret (pe_chain op_le op_le pe_int (pe_ix ix_tup (pv 0) pe_int (fun _ _ => rfl)) (pe_op op_pow pe_int pe_int))))), ?_⟩
    refine ⟨v, rfl, v, .ty "tuple", _, _, _, rfl, .ty _, td.ty, kit_ty (kit_tup d), _, rfl, ?_⟩
    cases ht : isTup d with
    | false =>
      rw [isStep_tup ht] at q
      exact iteT (iteT (q H (Same.refl H)))
    | true =>
      cases td with
      | @tup a xs ds n h t =>
        refine iteF ⟨.ref a, rfl, a, xs, rfl, .inr (SqT.of h), rfl, _, rfl, ?_⟩
        have hl := t.length
        by_cases h2 : xs.length = 2
        · rw [h2]
          refine iteF ?_
          match xs, ds, t, h2 with
          | [x, y], [dx, dy], .cons tx (.cons ty .nil), _ =>
            rw [isStep_pair] at q
            refine ⟨.ref a, rfl, a, [x, y], 0, x, rfl, rfl, SqT.of h, rfl, x, .ty "str", _, _, _, rfl, .ty _, tx.ty, kit_ty (kit_str dx), _, rfl, ?_⟩
            cases tx with
            | str z =>
              refine iteF ⟨.ref a, rfl, a, _, 0, .str z, rfl, rfl, SqT.of h, rfl, by show 2 ≤ sizeLine; decide, fun p np => ?_⟩
              have s1 : Same H (upd H p (.lst [.str wR, .str wW])) := same_new np
              refine ⟨p, _, rfl, .inl (SqL.of upd_same), rfl, flat_strs [wR, wW], _, rfl, ?_⟩
              have e0 : inV (.str z) [.str wR, .str wW] = decide (z ∈ [wR, wW]) := inV_str z [wR, wW]
              show if (!inV (.str z) [.str wR, .str wW]) = true then _ else _
              rw [e0]
              have q1 : ∀ H', Same H H' → Q (.bl (decide (z ∈ [wR, wW]) && boxD dy)) H' := q
              cases hz : decide (z ∈ [wR, wW]) with
              | false =>
                rw [hz] at q1
                exact iteT (iteT (q1 _ s1))
              | true =>
                rw [hz] at q1
                refine iteF ⟨.ref a, rfl, a, _, 1, y, rfl, rfl, SqT.of (s1 _ _ h), rfl, y, .ty "int", _, _, _, rfl, .ty _, (ty.mono (.of s1)).ty, kit_ty (kit_int dy), _, rfl, ?_⟩
                cases hi : isInt dy with
                | false =>
                  have e : boxD dy = false := by
                    cases dy with
                    | int i => exact absurd hi.symm Bool.false_ne_true
                    | _ => rfl
                  rw [e] at q1
                  exact iteT (iteT (q1 _ s1))
                | true =>
                  refine iteF ⟨.ref a, rfl, a, _, 1, y, rfl, rfl, SqT.of (s1 _ _ h), rfl, y, .ty "bool", _, _, _, rfl, .ty _, (ty.mono (.of s1)).ty, kit_ty (kit_bool dy), _, rfl, ?_⟩
                  cases hb : isBool dy with
                  | true =>
                    have e : boxD dy = false := by
                      cases dy with
                      | int i => exact absurd hb Bool.false_ne_true
                      | _ => rfl
                    rw [e] at q1
                    exact iteT (q1 _ s1)
                  | false =>
                    cases ty with
                    | int i =>
                      have q2 : ∀ H', Same H H' → Q (.bl (decide (0 ≤ i) && decide (i ≤ 100000000))) H' := q1
                      refine iteF ⟨.ref a, rfl, a, _, 1, .int i, rfl, rfl, SqT.of (s1 _ _ h), rfl, 0, i, rfl, rfl, _, rfl, ?_⟩
                      cases h0 : decide (0 ≤ i) with
                      | false =>
                        rw [h0] at q2
                        exact iteF (q2 _ s1)
                      | true =>
                        rw [h0] at q2
                        exact iteT ⟨10, 8, rfl, rfl, ⟨by decide, by decide, by decide⟩, i, 100000000, rfl, rfl, q2 _ s1⟩
                    | bl b => exact absurd hb.symm Bool.false_ne_true
                    | _ => exact absurd hi Bool.false_ne_true
            | _ => exact iteT (q H (Same.refl H))
        · have e : (!decide (V.int (xs.length : Int) = V.int 2)) = true := by
            rw [Bool.not_eq_true', decide_eq_false_iff_not]
            intro z
            have z' : (xs.length : Int) = 2 := V.int.inj z
            exact h2 (by omega)
          rw [e]
          rw [isStep_len (by omega)] at q
          exact iteT (iteT (q H (Same.refl H)))
      | _ => exact absurd ht Bool.false_ne_true
/-! ### the law's own is_dealing -/
theorem ok_l_is_dealing {f f1 : Addr} {fd fd1 : FuncData} {k : Nat} (F : Fun K "_law_is_dealing" "_law_is_dealing" sLIsDealing f fd) (M : Mg mg) (G1 : FnOk P w K mg base CX0 k f1 fd1 ["_law_thing"] (spD isStep)) (g1 : mg "_law_is_step" = some (.ref f1)) (k1 : PySem.W.keepIn K (.ref f1) = true) (b1 : Binds K fd1 ["_law_thing"] []) :
    FnOk P w K mg base CX0 (k + 1) f fd ["_law_thing"] (spD isDealing) := by
  refine F.ok scLIsDealing (fun vs H Q E h => ?_) (fun cdv A outer s H vs Q E hr h => ?_)
  · obtain ⟨st, v, d, rfl, _⟩ := h
    rfl
  · obtain ⟨st, v, d, rfl, td, q⟩ := h
    refine ⟨_, pss_cons (ps_if (PW.pt (pw_or (pt_not (pt_val (pe_callB call_isi (by rfl) M.isinstance (by decide +kernel) (pa_cons (pv 0) (pa_cons (pe_bltn (v := .ty "tuple") (by rfl) M.tuple (by decide +kernel) rfl) pa_nil)))))
        (pw_or1 (pt_not (pt_chain op_le op_le pe_int (pe_callB call_len_seq (by rfl) M.len PySem.boot_len (pa_cons (pv 0) pa_nil)) pe_int))))) (pss_one (ps_ret pe_bl)) pss_nil)
      (pss_cons (ps_for PassesOwn.never rfl (pi_enumT (by rfl) M.enumerate (pa_cons (pv 0) pa_nil)) (pg_tup rfl (pgs_cons (pg_name (i := 1) scLIsDealing.nd rfl (.inl rfl)) (pgs_cons (pg_name (i := 2) scLIsDealing.nd rfl (.inl rfl)) pgs_nil)))
        (pss_cons (ps_if (PW.pt (pw_or (pt_not (pt_val (pe_call G1 hr (by rfl) g1 k1 b1 .nil pass0 (pa_cons (pv 2) pa_nil)))) (pw_or1 (pt_cmpR (op_inDT (hu65 hr)) (pv 2) (pe_slice sl_tupA (pv 0) po_none (po_some (pv 1))) (by rfl))))) (pss_one (ps_ret pe_bl)) pss_nil)
        (pss_one (ps_if (PW.pt (pw_and (pt_cmpR op_eq (pe_ix ix_tup (pv 2) pe_int (fun _ _ => rfl)) pe_str (nomark _)) (pw_and1 (pt_cmpR (op_inDT (hu65 hr)) (pe_tup (pa_cons pe_str (pa_cons (pe_ix ix_tup (pv 2) pe_int (fun _ _ => rfl)) pa_nil))) (pe_slice sl_tupA (pv 0) po_none (po_some (pv 1))) (by rfl))))) (pss_one (ps_ret pe_bl)) pss_nil))))
      (pss_one (ps_ret pe_bl))), ?_⟩
    refine ⟨v, rfl, v, .ty "tuple", _, _, _, rfl, .ty _, td.ty, kit_ty (kit_tup d), _, rfl, ?_⟩
    cases ht : isTup d with
    | false =>
      rw [isDealing_tup ht] at q
      exact iteT (iteT (q H (Same.refl H)))
    | true =>
      cases td with
      | @tup a xs ds n h t =>
        have hl := t.length
        refine iteF ⟨.ref a, rfl, a, xs, rfl, .inr (SqT.of h), 1, _, rfl, rfl, _, rfl, ?_⟩
        by_cases h1 : 1 ≤ xs.length
        · rw [decide_eq_true (show (1 : Int) ≤ (xs.length : Int) by omega)]
          refine iteT ⟨_, 8, rfl, rfl, _, rfl, ?_⟩
          by_cases h8 : xs.length ≤ 8
          · rw [decide_eq_true (show (xs.length : Int) ≤ 8 by omega)]
            refine iteF ⟨.ref a, rfl, a, xs, rfl, SqT.of h, for_it (walk_enumT (xs := xs)) (fun i σ H' => ∃ y1 y2 l, σ = [some (.ref a), y1, y2] ∧ Same H H' ∧ prs (ds.take i) = some l ∧ ∀ j p, l[j]? = some p → mayP p (l.take j) = true) ⟨none, none, [], rfl, Same.refl H, by rw [List.take_zero]; rfl, fun j p hj => by simp at hj⟩ (fun i σ H' hi hP => ?_) (fun i x σ H2 H3 hi hP y => ?_) (fun σ H2 hP => ?_)⟩
            · obtain ⟨_, _, _, _, e, _⟩ := hP
              exact SqT.of (e _ _ h)
            · obtain ⟨y1, y2, l, rfl, e2, hl2, hm⟩ := hP
              obtain ⟨T, x1, x2, rfl, nT, rfl, ex1, hx2⟩ := y
              have ex1' : x1 = .int (i : Nat) := (Option.some.inj ex1).symm
              subst ex1'
              obtain ⟨di, hdi, tdi⟩ := t.get hx2
              have eT : Same H (upd H2 T (.tup [.int (i : Nat), x2])) := Same.new e2 nT
              have hlen : l.length ≤ i := by
                have := congrArg List.length (prs_some hl2).1
                rw [List.length_map, List.length_take] at this
                omega
              have hleni : l.length = i := by
                have := congrArg List.length (prs_some hl2).1
                rw [List.length_map, List.length_take] at this
                omega
              refine ⟨T, [.int (i : Nat), x2], rfl, SqT.of upd_same, rfl, .int (i : Nat), [x2], rfl, x2, [], rfl, rfl, ?_⟩
              refine ⟨x2, rfl, st, x2, di, rfl, tdi.mono (.of eT), fun H4 e4 => ⟨_, rfl, ?_⟩⟩
              have eH4 : Same H H4 := Same.trans eT e4
              cases hst : isStep di with
              | false =>
                rw [isDealing_noStep hdi hst] at q
                exact iteT (iteT (q _ eH4))
              | true =>
                obtain ⟨p, hp⟩ : ∃ p, asPr di = some p := by
                  unfold isStep at hst
                  exact Option.isSome_iff_exists.mp hst
                obtain ⟨edi, wp, bp⟩ := asPr_some hp
                subst edi
                obtain ⟨el, wl⟩ := prs_some hl2
                have wl' : ∀ q ∈ l, wordB q.1 = true := fun q hq => (wl q hq).1
                obtain ⟨b, rfl, nb, hb⟩ := tdi.stepV
                have tk : TDs st H (xs.take i) (l.map stepD) := by rw [← el]; exact t.take i
                refine iteF ⟨.ref b, rfl, .ref a, rfl, .int (i : Nat), rfl, i, rfl, a, xs, rfl, SqT.of (eH4 _ _ h), fun hw => ?_, fun hw c nc => ?_⟩
                · rw [HT.sIx_nat] at hw
                  exact absurd hw.2 (by omega)
                · have e5 : Same H (upd H4 c (.tup (cutV xs none (some (i : Nat))))) := Same.new eH4 nc
                  refine ⟨stepP p, l.map stepP, (tdi.mono (.of e5)).stepDp, .tup (SqT.of upd_same) (by have z := (tk.mono (ExS.of e5)).stepsDp (K := K); rw [← cut_to xs i] at z; exact z), stepP_shaped wp, stepPs_shapedT wl', _, rfl, ?_⟩
                  rw [any_step]
                  have hmay := may_eq wp l
                  unfold mayL at hmay
                  cases hm1 : decide (p ∈ l) with
                  | true =>
                    rw [hm1] at hmay
                    rw [isDealing_noFollow hdi hp hl2 hmay] at q
                    exact iteT (q _ e5)
                  | false =>
                    rw [hm1] at hmay
                    refine iteF ?_
                    refine ⟨.ref b, rfl, b, _, 0, .str p.1, rfl, rfl, SqT.of (e5 _ _ hb), rfl, rfl, _, rfl, ?_⟩
                    have keep : ∀ y1 y2 H6, Same H H6 → mayP p l = true → ∃ y1' y2' l', [some (V.ref a), y1, y2] = [some (V.ref a), y1', y2'] ∧ Same H H6 ∧ prs (ds.take (i + 1)) = some l' ∧ ∀ j p, l'[j]? = some p → mayP p (l'.take j) = true := by
                      intro y1 y2 H6 e6 hok
                      refine ⟨y1, y2, l ++ [p], rfl, e6, ?_, fun j p' hj => ?_⟩
                      · rw [List.take_add_one, hdi]
                        exact prs_one hl2 hp
                      · by_cases hjl : j < l.length
                        · rw [List.getElem?_append_left hjl] at hj
                          rw [List.take_append_of_le_length (by omega)]
                          exact hm j p' hj
                        · have ej : j = l.length := by
                            have := (List.getElem?_eq_some_iff.mp hj).1
                            rw [List.length_append] at this
                            have h3 : ([p] : List Pr).length = 1 := rfl
                            omega
                          subst ej
                          rw [List.getElem?_append_right (Nat.le_refl _), Nat.sub_self] at hj
                          have ep : p = p' := Option.some.inj hj
                          subst ep
                          rw [List.take_append_of_le_length (Nat.le_refl _), List.take_of_length_le (Nat.le_refl _)]
                          exact hok
                    by_cases hr1 : p.1 = wR
                    · rw [decide_eq_true (show p.1 = wR from hr1)] at hmay
                      rw [decide_eq_true (show V.str p.1 = V.str (Str.ofString "read") from congrArg V.str hr1)]
                      refine iteT ⟨.ref b, rfl, b, _, 1, .int p.2, rfl, rfl, SqT.of (e5 _ _ hb), rfl, by show 2 ≤ sizeLine; decide, fun c2 nc2 => ?_⟩
                      have e6 := Same.new (o := .tup [.str wW, .int p.2]) e5 nc2
                      refine ⟨.ref a, rfl, .int (i : Nat), rfl, i, rfl, a, xs, rfl, SqT.of (e6 _ _ h), fun hw => ?_, fun hw c3 nc3 => ?_⟩
                      · rw [HT.sIx_nat] at hw
                        exact absurd hw.2 (by omega)
                      · have e7 := Same.new (o := .tup (cutV xs none (some (i : Nat)))) e6 nc3
                        refine ⟨stepP (wW, p.2), l.map stepP, .tup (SqT.of (same_new nc3 _ _ upd_same)) (.cons (.str _) (.cons (.int _) .nil)), .tup (SqT.of upd_same) (by have z := (tk.mono (ExS.of e7)).stepsDp (K := K); rw [← cut_to xs i] at z; exact z), stepP_shaped (show wordB wW = true by decide +kernel), stepPs_shapedT wl', _, rfl, ?_⟩
                        rw [any_step]
                        cases hm2 : decide ((wW, p.2) ∈ l) with
                        | true =>
                          rw [hm2] at hmay
                          rw [isDealing_noFollow hdi hp hl2 hmay] at q
                          exact iteT (q _ e7)
                        | false =>
                          rw [hm2] at hmay
                          exact iteF (keep _ _ _ e7 hmay)
                    · rw [decide_eq_false (show ¬ p.1 = wR from hr1)] at hmay
                      rw [decide_eq_false (show ¬ V.str p.1 = V.str (Str.ofString "read") from fun z => hr1 (V.str.inj z))]
                      exact iteF (iteF (keep _ _ _ e5 hmay))
            · obtain ⟨y1, y2, l, rfl, e2, hl2, hm⟩ := hP
              have e : isDealing (.tup ds) = true := by
                rw [hl, List.take_of_length_le (Nat.le_refl _)] at hl2
                rw [isDealing_eq, hl2, decide_eq_true (show 1 ≤ ds.length by omega), decide_eq_true (show ds.length ≤ 8 by omega)]
                exact follow_all hm
              rw [e] at q
              exact q _ e2
          · rw [decide_eq_false (show ¬ (xs.length : Int) ≤ 8 by omega)]
            have e : isDealing (.tup ds) = false := by
              rw [isDealing_eq, decide_eq_false (show ¬ ds.length ≤ 8 by omega), Bool.and_false, Bool.false_and]
            rw [e] at q
            exact iteT (q H (Same.refl H))
        · rw [decide_eq_false (show ¬ (1 : Int) ≤ (xs.length : Int) by omega)]
          have e : isDealing (.tup ds) = false := by
            rw [isDealing_eq, decide_eq_false (show ¬ 1 ≤ ds.length by omega), Bool.false_and, Bool.false_and]
          rw [e] at q
          refine iteF ⟨_, rfl, iteT (q H (Same.refl H))⟩
      | _ => exact absurd ht Bool.false_ne_true
end
end As

namespace As
open PySem PySem.Spec PyProof.Rows L2
abbrev sOdd : Stmt := topS 21
theorem scOdd : FnScope ["_law_state", "_law_step", "_law_way", "_law_word", "_law_box_here", "_law_words", "_law_boxes"] ["_law_state", "_law_step"] (defScope sOdd) := ⟨rfl, rfl, rfl, by decide +kernel, rfl, by decide +kernel, by decide +kernel⟩
section
variable {P : Program} {w : World} {K : PySem.W.Frag} {mg : Str → Option Value} {base : Heap}
/-! ### the law's own are_dealings -/
theorem kept_none {n : Nat} {t : Nat → Bool} {f : Nat → V} : (kept n t f).isEmpty = (List.range n).all fun i => !t i := by
  unfold kept
  rw [List.isEmpty_map]
  induction List.range n with
  | nil => rfl
  | cons x l ih =>
    rw [List.filter_cons, List.all_cons, ← ih]
    cases t x <;> rfl
theorem all_range {ds : List D} {g : D → Bool} : ((List.range ds.length).all fun i => g (ds.getD i .non)) = ds.all g := by
  rw [Bool.eq_iff_iff, List.all_eq_true, List.all_eq_true]
  constructor
  · intro h d hd
    obtain ⟨i, hi, rfl⟩ := List.mem_iff_getElem.mp hd
    have := h i (List.mem_range.mpr hi)
    rw [List.getD_eq_getElem?_getD, List.getElem?_eq_getElem hi] at this
    exact this
  · intro h i hi
    have hi' := List.mem_range.mp hi
    rw [List.getD_eq_getElem?_getD, List.getElem?_eq_getElem hi']
    exact h _ (List.getElem_mem hi')
theorem ok_l_are {f f1 : Addr} {fd fd1 : FuncData} {k : Nat} (F : Fun K "_law_are_dealings" "_law_are_dealings" sLAre f fd) (M : Mg mg) (G1 : FnOk P w K mg base CX0 k f1 fd1 ["_law_thing"] (spD isDealing)) (g1 : mg "_law_is_dealing" = some (.ref f1)) (k1 : PySem.W.keepIn K (.ref f1) = true) (b1 : Binds K fd1 ["_law_thing"] []) :
    FnOk P w K mg base CX0 (k + 1) f fd ["_law_thing"] (spD areDealings) := by
  refine F.ok scLAre (fun vs H Q E h => ?_) (fun cdv A outer s H vs Q E hr h => ?_)
  · obtain ⟨st, v, d, rfl, _⟩ := h
    rfl
  · obtain ⟨st, v, d, rfl, td, q⟩ := h
    refine ⟨_, pss_cons (ps_if (PW.pt (pw_or (pt_not (pt_val (pe_callB call_isi (by rfl) M.isinstance (by decide +kernel) (pa_cons (pv 0) (pa_cons (pe_bltn (v := .ty "list") (by rfl) M.list (by decide +kernel) rfl) pa_nil)))))
        (pw_or1 (pt_not (pt_chain op_le op_le pe_int (pe_callB call_len_seq (by rfl) M.len PySem.boot_len (pa_cons (pv 0) pa_nil)) pe_int))))) (pss_one (ps_ret pe_bl)) pss_nil)
      (pss_one (ps_ret (pe_cmpR (op_eqNil hr.units0)
          (pe_lc (own := [("_law_one", 1)]) (g := gName 1) (by rfl) scLAre.nd (pi_list (pv 0)) (blkOk_by (own := [("_law_one", 1)]) (N := ["_law_thing", "_law_one"]) (sc := defScope sLAre) (by decide +kernel))
            (fun _ _ _ _ _ => pg_name (i := 1) scLAre.nd rfl (Or.inl rfl)) (fun _ _ _ _ _ => pts_one (pt_not (pt_val (pe_call G1 hr (by rfl) g1 k1 b1 .nil pass0 (pa_cons (pv 1) pa_nil))))) (fun _ _ _ _ _ => pv 1)) (pe_lst pa_nil) (nomark _)))), ?_⟩
    refine ⟨v, rfl, v, .ty "list", _, _, _, rfl, .ty _, td.ty, kit_ty (kit_lst d), _, rfl, ?_⟩
    cases ht : isLst d with
    | false =>
      rw [areDealings_lst ht] at q
      exact iteT (iteT (q H (Same.refl H)))
    | true =>
      cases td with
      | @lst a xs ds n h t =>
        have hl := t.length
        refine iteF ⟨.ref a, rfl, a, xs, rfl, .inl (SqL.of h), 1, _, rfl, rfl, _, rfl, ?_⟩
        by_cases h1 : 1 ≤ xs.length
        · rw [decide_eq_true (show (1 : Int) ≤ (xs.length : Int) by omega)]
          refine iteT ⟨_, 100, rfl, rfl, _, rfl, ?_⟩
          by_cases h8 : xs.length ≤ 100
          · rw [decide_eq_true (show (xs.length : Int) ≤ 100 by omega)]
            refine iteF ⟨.ref a, rfl, a, rfl, ⟨_, SqL.of h⟩, fun D1 hD1 => lc_kept (walk_list (xs := xs)) (fun i => !isDealing (ds.getD i .non)) (fun i => xs.getD i .non) hD1 (by omega) (fun H' e => SqL.of (e _ _ h)) (fun i x H2 H3 N R hi e2 y hN hR => ?_) (fun H2 e2 hL => ?_)⟩
            · obtain ⟨rfl, hx⟩ := y
              obtain ⟨di, hdi, tdi⟩ := t.get hx
              have e5 : ds.getD i .non = di := by rw [List.getD_eq_getElem?_getD, hdi]; rfl
              have e6 : xs.getD i .non = x := by rw [List.getD_eq_getElem?_getD, hx]; rfl
              simp only [e5, e6] at hN hR
              refine ⟨rfl, ⟨x, rfl, st, x, di, rfl, tdi.mono (.of e2), fun H4 e4 => ⟨_, rfl, ?_⟩⟩⟩
              exact ite2 (fun e => ⟨x, rfl, hR e H4 e4⟩) (fun e => hN (by simpa using e) H4 e4)
            · refine ⟨Nat.zero_le _, fun p np => ?_⟩
              refine ⟨D1, p, _, rfl, rfl, SqL.of (same_new np _ _ hL), SqL.of upd_same, ?_⟩
              rw [kept_none]
              have e1 : ((List.range xs.length).all fun i => !!isDealing (ds.getD i .non)) = ds.all isDealing := by
                rw [hl]
                simp only [Bool.not_not]
                exact all_range
              rw [e1]
              have r := q _ (Same.trans e2 (same_new (o := .lst []) np))
              rw [areDealings_eq, decide_eq_true (show 1 ≤ ds.length by omega), decide_eq_true (show ds.length ≤ 100 by omega)] at r
              exact r
          · rw [decide_eq_false (show ¬ (xs.length : Int) ≤ 100 by omega)]
            have e : areDealings (.lst ds) = false := by
              rw [areDealings_eq, decide_eq_false (show ¬ ds.length ≤ 100 by omega), Bool.and_false, Bool.false_and]
            rw [e] at q
            exact iteT (q H (Same.refl H))
        · rw [decide_eq_false (show ¬ (1 : Int) ≤ (xs.length : Int) by omega)]
          have e : areDealings (.lst ds) = false := by
            rw [areDealings_eq, decide_eq_false (show ¬ 1 ≤ ds.length by omega), Bool.false_and, Bool.false_and]
          rw [e] at q
          refine iteF ⟨_, rfl, iteT (q H (Same.refl H))⟩
      | _ => exact absurd ht Bool.false_ne_true
/-! ### odd_step -/
/-- what a maker of things tells: data, the well still there -/
abbrev Told (st : Addr) (H : Hp) (Q : VK) : Prop := ∀ v d H', TD st H' v d → Well st H' → ExS st H H' → Q v H'
def spOdd : Sp := fun vs H Q _ => ∃ st v p, vs = [.ref st, v] ∧ Well st H ∧ TD st H v (stepD p) ∧ Told st H Q
theorem ok_odd {f f1 : Addr} {fd fd1 : FuncData} {k : Nat} (F : Fun K "_law_odd_step" "_law_odd_step" sOdd f fd) (M : Mg mg) (G1 : FnOk P w K mg base CX0 k f1 fd1 ["_law_state", "_law_base"] spDigit) (g1 : mg "_law_digit" = some (.ref f1)) (k1 : PySem.W.keepIn K (.ref f1) = true) (b1 : Binds K fd1 ["_law_state", "_law_base"] []) :
    FnOk P w K mg base CX0 (k + 1) f fd ["_law_state", "_law_step"] spOdd := by
  refine F.ok scOdd (fun vs H Q E h => ?_) (fun cdv A outer s H vs Q E hr h => ?_)
  · obtain ⟨st, v, p, rfl, _⟩ := h
    rfl
  · obtain ⟨st, v, p, rfl, hW, td, q⟩ := h
    refine ⟨_, pss_cons (ps_set (i := 2) scOdd.nd rfl (.inl rfl) (pe_call G1 hr (by rfl) g1 k1 b1 .nil pass0 (pa_cons (pv 0) (pa_cons pe_int pa_nil))))
      (pss_cons (ps_asg (pv 1) (pg_tup (by rfl) (pgs_cons (pg_name (i := 3) scOdd.nd rfl (.inl rfl)) (pgs_cons (pg_name (i := 4) scOdd.nd rfl (.inl rfl)) pgs_nil))))
      (pss_cons (ps_set (i := 5) scOdd.nd rfl (.inl rfl) (pe_lst (pa_cons pe_str (pa_cons pe_str (pa_cons pe_str (pa_cons pe_non (pa_cons pe_int (pa_cons (pe_tup (pa_cons pe_str pa_nil)) (pa_cons pe_str (pa_cons pe_str (pa_cons pe_bl pa_nil)))))))))))
      (Evl.pss_cut (ps_set (i := 6) scOdd.nd rfl (.inl rfl) (pe_lst (pa_cons (pe_un un_neg pe_int) (pa_cons (pe_add (pe_op op_pow pe_int pe_int) pe_int) (pa_cons pe_bl (pa_cons pe_bl (pa_cons pe_non (pa_cons pe_str (pa_cons (pe_tup (pa_cons pe_int pa_nil)) (pa_cons (pe_lst (pa_cons pe_int pa_nil)) (pa_cons (pe_op op_pow pe_int pe_int) (pa_cons (pe_op op_pow pe_int pe_int) pa_nil))))))))))))
      (pss_cons (ps_if (pt_cmpR op_eq (pv 2) pe_int (nomark _)) (pss_one (ps_ret (pe_tup (pa_cons (pe_ix ix_list (pv 5) (pe_call G1 hr (by rfl) g1 k1 b1 .nil pass0 (pa_cons (pv 0) (pa_cons pe_int pa_nil))) (fun _ _ => rfl)) (pa_cons (pv 4) pa_nil))))) pss_nil)
      (pss_cons (ps_if (pt_cmpR op_eq (pv 2) pe_int (nomark _)) (pss_one (ps_ret (pe_tup (pa_cons (pv 3) (pa_cons (pe_ix ix_list (pv 6) (pe_call G1 hr (by rfl) g1 k1 b1 .nil pass0 (pa_cons (pv 0) (pa_cons pe_int pa_nil))) (fun _ _ => rfl)) pa_nil))))) pss_nil)
      (pss_cons (ps_if (pt_cmpR op_eq (pv 2) pe_int (nomark _)) (pss_one (ps_ret (pe_ix ix_list (pe_lst (pa_cons (pe_callTy call_list_of (by rfl) M.list (by decide +kernel) (pa_cons (pv 1) pa_nil)) (pa_cons (pe_op op_catA (pv 1) (pe_tup (pa_cons pe_int pa_nil))) (pa_cons (pe_slice sl_tupA (pv 1) po_none (po_some pe_int)) (pa_cons (pe_tup pa_nil) (pa_cons pe_non (pa_cons (pv 4) (pa_cons (pv 3) pa_nil)))))))) (pe_call G1 hr (by rfl) g1 k1 b1 .nil pass0 (pa_cons (pv 0) (pa_cons pe_int pa_nil))) (fun _ _ => rfl)))) pss_nil)
      (pss_cons (ps_if (pt_cmpR op_eq (pv 2) pe_int (nomark _)) (pss_one (ps_ret (pe_tup (pa_cons (pv 4) (pa_cons (pv 3) pa_nil))))) pss_nil)
      (pss_cons (ps_if (pt_cmpR op_eq (pv 2) pe_int (nomark _)) (pss_one (ps_ret (pe_tup (pa_cons (pe_ix ix_list (pe_lst (pa_cons pe_str (pa_cons pe_str pa_nil))) (pe_callTy call_int1 (by rfl) M.int (by decide +kernel) (pa_cons (pe_cmpR op_eq (pv 3) pe_str (nomark _)) pa_nil)) (fun _ _ => rfl)) (pa_cons (pv 4) pa_nil))))) pss_nil)
      (pss_one (ps_ret (pv 1))))))))))), ?_⟩
    refine ⟨.ref st, rfl, st, 6, rfl, hW, by decide, by decide, fun r H1 h0 h1 W1 e1 => ?_⟩
    have td1 := td.mono e1
    obtain ⟨a, rfl, na, ha⟩ := td1.stepV
    refine ⟨.ref a, rfl, a, _, rfl, SqT.of ha, rfl, .str p.1, [.int p.2], rfl, .int p.2, [], rfl, rfl, ?_⟩
    -- the words
    refine ⟨by show 1 ≤ sizeLine; decide, fun c1 n1 => ⟨by show 9 ≤ sizeLine; decide, fun c2 n2 => ?_⟩⟩
    -- the boxes
    refine ⟨fun σ' H' => ∃ l1 l2 ws bs, σ' = [some (.ref st), some (.ref a), some (.int r), some (.str p.1), some (.int p.2), some (.ref l1), some (.ref l2)] ∧ H' l1 = some (.lst ws) ∧ (∃ wds, TDs st H' ws wds) ∧ ws.length = 9 ∧ H' l2 = some (.lst bs) ∧ (∃ bds, TDs st H' bs bds) ∧ bs.length = 10 ∧ l1 ≠ st ∧ l2 ≠ st ∧ Well st H' ∧ Same H1 H', ?_, ?_⟩
    · refine ⟨1, rfl, 10, 8, rfl, rfl, ⟨by decide, by decide, by decide⟩, _, 1, rfl, rfl, by show 1 ≤ sizeLine; decide, fun c3 n3 => ⟨by show 1 ≤ sizeLine; decide, fun c4 n4 => ⟨10, 50, rfl, rfl, ⟨by decide, by decide, by decide⟩, 10, 8, rfl, rfl, ⟨by decide, by decide, by decide⟩, by show 10 ≤ sizeLine; decide, fun c5 n5 => ?_⟩⟩⟩
      have W2 := W1.same (same_new (o := .tup [.str (Str.ofString "read")]) n1)
      have W3 := W2.same (same_new (o := .lst [.str (Str.ofString "Read"), .str (Str.ofString "reads"), .str (Str.ofString ""), .non, .int 0, .ref c1, .str (Str.ofString "r"), .str (Str.ofString "end"), .bl true]) n2)
      have W4 := W3.same (same_new (o := .tup [.int 3]) n3)
      have W5 := W4.same (same_new (o := .lst [.int 3]) n4)
      refine ⟨c2, c5, _, _, rfl, same_new n5 _ _ (same_new n4 _ _ (same_new n3 _ _ upd_same)), ?_, rfl, upd_same, ?_, rfl, W2.ne n2, W5.ne n5, W5.same (same_new n5), Same.trans (same_new n1) (Same.trans (same_new n2) (Same.trans (same_new n3) (Same.trans (same_new n4) (same_new n5))))⟩
      · exact ⟨_, .cons (.str _) (.cons (.str _) (.cons (.str _) (.cons .non (.cons (.int _) (.cons (.tup (W1.ne n1) (same_new n5 _ _ (same_new n4 _ _ (same_new n3 _ _ (same_new n2 _ _ upd_same)))) (.cons (.str _) .nil)) (.cons (.str _) (.cons (.str _) (.cons (.bl _) .nil))))))))⟩
      · exact ⟨_, .cons (.int _) (.cons (.int _) (.cons (.bl _) (.cons (.bl _) (.cons .non (.cons (.str _) (.cons (.tup (W3.ne n3) (same_new n5 _ _ (same_new n4 _ _ upd_same)) (.cons (.int _) .nil)) (.cons (.lst (W4.ne n4) (same_new n5 _ _ upd_same) (.cons (.int _) .nil)) (.cons (.int _) (.cons (.int _) .nil)))))))))⟩
    · rintro σ' H2 ⟨l1, l2, ws, bs, rfl, hl1, ⟨wds, tw⟩, lw, hl2, ⟨bds, tb⟩, lb, nl1, nl2, W2, e12⟩
      have e2 : ExS st H H2 := e1.trans (.of e12)
      have ha2 := e12 _ _ ha
      have td2 := td1.mono (.of e12)
      -- way 0
      refine ⟨_, rfl, rfl, _, rfl, ite2 (fun _ => ?_) (fun _ => ?_)⟩
      · refine ⟨.ref l1, rfl, .ref st, rfl, st, 9, rfl, W2, by decide, by decide, fun r3 H3 h30 h31 W3 e3 => ?_⟩
        obtain ⟨x, dx, ax, tx⟩ := (tw.mono e3).pick h30 (by rw [lw]; exact h31)
        refine ⟨l1, ws, r3, x, rfl, rfl, SqL.of (e3 _ _ nl1 hl1), ax, .int p.2, rfl, by show 2 ≤ sizeLine; decide, fun c nc => ?_⟩
        exact q _ _ _ (.tup (W3.ne nc) upd_same (.cons (tx.mono (ExS.new nc)) (.cons (.int _) .nil))) (W3.same (same_new nc)) (e2.trans (e3.trans (ExS.new nc)))
      -- way 1
      refine ⟨_, rfl, rfl, _, rfl, ite2 (fun _ => ?_) (fun _ => ?_)⟩
      · refine ⟨.str p.1, rfl, .ref l2, rfl, .ref st, rfl, st, 10, rfl, W2, by decide, by decide, fun r3 H3 h30 h31 W3 e3 => ?_⟩
        obtain ⟨x, dx, ax, tx⟩ := (tb.mono e3).pick h30 (by rw [lb]; exact h31)
        refine ⟨l2, bs, r3, x, rfl, rfl, SqL.of (e3 _ _ nl2 hl2), ax, by show 2 ≤ sizeLine; decide, fun c nc => ?_⟩
        exact q _ _ _ (.tup (W3.ne nc) upd_same (.cons (.str _) (.cons (tx.mono (ExS.new nc)) .nil))) (W3.same (same_new nc)) (e2.trans (e3.trans (ExS.new nc)))
      -- way 2
      refine ⟨_, rfl, rfl, _, rfl, ite2 (fun _ => ?_) (fun _ => ?_)⟩
      · refine ⟨.ref a, rfl, a, _, rfl, .inr (SqT.of ha2), fun c1 m1 => ?_⟩
        have V1 := W2.same (same_new (o := .lst [.str p.1, .int p.2]) m1)
        have ha3 := same_new (o := .lst [.str p.1, .int p.2]) m1 _ _ ha2
        refine ⟨.ref a, rfl, by show 1 ≤ sizeLine; decide, fun c2 m2 => ?_⟩
        have V2 := V1.same (same_new (o := .tup [.int 1]) m2)
        refine ⟨a, c2, _, _, rfl, rfl, SqT.of (same_new m2 _ _ ha3), SqT.of upd_same, by show 3 ≤ sizeLine; decide, fun z => (nomatch z), fun _ z => (nomatch z), fun _ _ c3 m3 => ?_⟩
        have V3 := V2.same (same_new (o := .tup ([.str p.1, .int p.2] ++ [.int 1])) m3)
        refine ⟨.ref a, rfl, 1, rfl, a, _, rfl, SqT.of (same_new m3 _ _ (same_new m2 _ _ ha3)), fun z => ?_, fun _ c4 m4 => ?_⟩
        · exact absurd z.2 (show ¬ (HT.sIx 2 2 (some 1) = 2) by decide)
        · have V4 := V3.same (same_new (o := .tup (cutV [.str p.1, .int p.2] none (some 1))) m4)
          refine ⟨by show 0 ≤ sizeLine; decide, fun c5 m5 => ?_⟩
          have V5 := V4.same (same_new (o := .tup []) m5)
          refine ⟨.int p.2, rfl, .str p.1, rfl, by show 7 ≤ sizeLine; decide, fun c6 m6 => ?_⟩
          have V6 := V5.same (same_new (o := .lst [.ref c1, .ref c3, .ref c4, .ref c5, .non, .int p.2, .str p.1]) m6)
          refine ⟨.ref st, rfl, st, 7, rfl, V6, by decide, by decide, fun r3 H3 h30 h31 W3 e3 => ?_⟩
          have tl : ∃ ds, TDs st H3 [.ref c1, .ref c3, .ref c4, .ref c5, .non, .int p.2, .str p.1] ds := by
            refine ⟨_, TDs.mono e3 (.cons (.lst (W2.ne m1) (same_new m6 _ _ (same_new m5 _ _ (same_new m4 _ _ (same_new m3 _ _ (same_new m2 _ _ upd_same))))) (.cons (.str _) (.cons (.int _) .nil)))
              (.cons (.tup (V2.ne m3) (same_new m6 _ _ (same_new m5 _ _ (same_new m4 _ _ upd_same))) (.cons (.str _) (.cons (.int _) (.cons (.int _) .nil))))
              (.cons (.tup (V3.ne m4) (same_new m6 _ _ (same_new m5 _ _ upd_same)) (.cons (.str _) .nil))
              (.cons (.tup (V4.ne m5) (same_new m6 _ _ upd_same) .nil) (.cons .non (.cons (.int _) (.cons (.str _) .nil)))))))⟩
          obtain ⟨ds, tl⟩ := tl
          obtain ⟨x, dx, ax, tx⟩ := tl.pick h30 h31
          refine ⟨c6, _, r3, x, rfl, rfl, SqL.of (e3 _ _ (V5.ne m6) upd_same), ax, q _ _ _ tx W3 (e2.trans (ExS.trans (.of ?_) e3))⟩
          exact Same.trans (same_new m1) (Same.trans (same_new m2) (Same.trans (same_new m3) (Same.trans (same_new m4) (Same.trans (same_new m5) (same_new m6)))))
      -- way 3
      refine ⟨_, rfl, rfl, _, rfl, ite2 (fun _ => ?_) (fun _ => ?_)⟩
      · refine ⟨.int p.2, rfl, .str p.1, rfl, by show 2 ≤ sizeLine; decide, fun c nc => ?_⟩
        exact q _ _ _ (.tup (W2.ne nc) upd_same (.cons (.int _) (.cons (.str _) .nil))) (W2.same (same_new nc)) (e2.trans (ExS.new nc))
      -- way 4
      refine ⟨_, rfl, rfl, _, rfl, ite2 (fun _ => ?_) (fun _ => ?_)⟩
      · refine ⟨by show 2 ≤ sizeLine; decide, fun c nc => ?_⟩
        obtain ⟨z, hz⟩ : ∃ z, atI [V.str (Str.ofString "write"), V.str (Str.ofString "read")] (if decide (V.str p.1 = V.str (Str.ofString "write")) then 1 else 0) = some (.str z) := by
          cases decide (V.str p.1 = V.str (Str.ofString "write"))
          · exact ⟨_, rfl⟩
          · exact ⟨_, rfl⟩
        refine ⟨.str p.1, rfl, rfl, .inr ⟨_, rfl, c, _, _, .str z, rfl, rfl, SqL.of upd_same, hz, .int p.2, rfl, by show 2 ≤ sizeLine; decide, fun c2 nc2 => ?_⟩⟩
        have V1 := W2.same (same_new (o := .lst [.str (Str.ofString "write"), .str (Str.ofString "read")]) nc)
        exact q _ _ _ (.tup (V1.ne nc2) upd_same (.cons (.str _) (.cons (.int _) .nil))) (V1.same (same_new nc2)) (e2.trans (ExS.trans (ExS.new nc) (ExS.new nc2)))
      -- the step itself
      exact ⟨.ref a, rfl, q _ _ _ td2 W2 e2⟩
end
end As

namespace As
open PySem PySem.Spec PyProof.Rows L2
abbrev sSpoilt : Stmt := topS 22
abbrev sLists : Stmt := topS 23
theorem scSpoilt : FnScope ["_law_state", "_law_dealing_here", "_law_way", "_law_place", "_law_step", "_law_k"] ["_law_state", "_law_dealing_here"] (defScope sSpoilt) := ⟨rfl, rfl, rfl, by decide +kernel, rfl, by decide +kernel, by decide +kernel⟩
theorem scLists : FnScope ["_law_state", "_law_dealing_here", "_law_odd", "_law_way", "_law_many", "_law_some", "_law_place"] ["_law_state", "_law_dealing_here", "_law_odd"] (defScope sLists) := ⟨rfl, rfl, rfl, by decide +kernel, rfl, by decide +kernel, by decide +kernel⟩
section
variable {P : Program} {w : World} {K : PySem.W.Frag} {mg : Str → Option Value} {base : Heap}
theorem steps_get {l : List Pr} {i : Nat} (h : i < l.length) : (l.map stepD)[i]? = some (stepD l[i]) := by
  rw [List.getElem?_map, List.getElem?_eq_getElem h]
  rfl
theorem noPart {σ : L2.St} {H : Hp} {R : Option Int → Hp → Prop} (h : R none H) : tNoPart σ H R := h
def spSpoilt : Sp := fun vs H Q _ => ∃ (st : Addr) (v : V) (l : List Pr), vs = [.ref st, v] ∧ Well st H ∧ TD st H v (.tup (l.map stepD)) ∧ 1 ≤ l.length ∧ l.length ≤ 8 ∧ Told st H Q
theorem ok_spoilt {f f1 f2 : Addr} {fd fd1 fd2 : FuncData} {k : Nat} (F : Fun K "_law_spoilt" "_law_spoilt" sSpoilt f fd) (M : Mg mg) (G1 : FnOk P w K mg base CX0 k f1 fd1 ["_law_state", "_law_base"] spDigit) (g1 : mg "_law_digit" = some (.ref f1)) (k1 : PySem.W.keepIn K (.ref f1) = true) (b1 : Binds K fd1 ["_law_state", "_law_base"] [])
    (G2 : FnOk P w K mg base CX0 k f2 fd2 ["_law_state", "_law_step"] spOdd) (g2 : mg "_law_odd_step" = some (.ref f2)) (k2 : PySem.W.keepIn K (.ref f2) = true) (b2 : Binds K fd2 ["_law_state", "_law_step"] []) :
    FnOk P w K mg base CX0 (k + 1) f fd ["_law_state", "_law_dealing_here"] spSpoilt := by
  refine F.ok scSpoilt (fun vs H Q E h => ?_) (fun cdv A outer s H vs Q E hr h => ?_)
  · obtain ⟨st, v, l, rfl, _⟩ := h
    rfl
  · obtain ⟨st, v, l, rfl, hW, td, hl1, hl8, q⟩ := h
    refine ⟨_, pss_cons (ps_set (i := 2) scSpoilt.nd rfl (.inl rfl) (pe_call G1 hr (by rfl) g1 k1 b1 .nil pass0 (pa_cons (pv 0) (pa_cons pe_int pa_nil))))
      (pss_cons (ps_set (i := 3) scSpoilt.nd rfl (.inl rfl) (pe_call G1 hr (by rfl) g1 k1 b1 .nil pass0 (pa_cons (pv 0) (pa_cons (pe_callB call_len_seq (by rfl) M.len PySem.boot_len (pa_cons (pv 1) pa_nil)) pa_nil))))
      (pss_cons (ps_set (i := 4) scSpoilt.nd rfl (.inl rfl) (pe_ix ix_tup (pv 1) (pv 3) (fun _ _ => rfl)))
      (pss_cons (ps_if (pt_cmpR op_eq (pv 2) pe_int (nomark _)) (pss_one (ps_ret (pe_callTy call_list_of (by rfl) M.list (by decide +kernel) (pa_cons (pv 1) pa_nil)))) pss_nil)
      (pss_cons (ps_if (pt_cmpR op_eq (pv 2) pe_int (nomark _)) (pss_one (ps_ret (pe_op op_catA (pe_op op_catA (pe_slice sl_tupA (pv 1) po_none (po_some (pv 3))) (pe_tup (pa_cons (pv 4) pa_nil))) (pe_slice sl_tupA (pv 1) (po_some (pv 3)) po_none)))) pss_nil)
      (pss_cons (ps_if (pt_cmpR op_eq (pv 2) pe_int (nomark _)) (pss_one (ps_ret (pe_revT (pv 1)))) pss_nil)
      (pss_cons (ps_if (pt_cmpR op_eq (pv 2) pe_int (nomark _)) (pss_one (ps_ret (pe_ix ix_list (pe_lst (pa_cons (pe_tup pa_nil) (pa_cons pe_non (pa_cons pe_str (pa_cons pe_int (pa_cons pe_dnewK (pa_cons (pe_tup (pa_cons (pv 1) pa_nil)) (pa_cons (pv 4) pa_nil)))))))) (pe_call G1 hr (by rfl) g1 k1 b1 .nil pass0 (pa_cons (pv 0) (pa_cons pe_int pa_nil))) (fun _ _ => rfl)))) pss_nil)
      (pss_cons (ps_if (pt_cmpR op_eq (pv 2) pe_int (nomark _)) (pss_one (ps_ret (pe_op op_catA (pv 1) (pe_callTy call_tuple_of (by rfl) M.tuple (by decide +kernel) (pa_cons
          (pe_lc (own := [("_law_k", 5)]) (g := gName 5) (by rfl) scSpoilt.nd (pi_range1 (by rfl) M.range (pa_cons (pe_add (pe_sub pe_int (pe_callB call_len_seq (by rfl) M.len PySem.boot_len (pa_cons (pv 1) pa_nil))) (pe_call G1 hr (by rfl) g1 k1 b1 .nil pass0 (pa_cons (pv 0) (pa_cons pe_int pa_nil)))) pa_nil)) (blkOk_by (own := [("_law_k", 5)]) (N := ["_law_state", "_law_dealing_here", "_law_way", "_law_place", "_law_step", "_law_k"]) (sc := defScope sSpoilt) (by decide +kernel))
            (fun _ _ _ _ _ => pg_name (i := 5) scSpoilt.nd rfl (Or.inl rfl)) (fun _ _ _ _ _ => pts_nil) (fun _ _ _ _ _ => pe_tup (pa_cons pe_str (pa_cons (pe_add pe_int (pv 5)) pa_nil)))) pa_nil))))) pss_nil)
      (pss_one (ps_ret (pe_op op_catA (pe_op op_catA (pe_slice sl_tupA (pv 1) po_none (po_some (pv 3))) (pe_tup (pa_cons (pe_call G2 hr (by rfl) g2 k2 b2 .nil pass0 (pa_cons (pv 0) (pa_cons (pv 4) pa_nil))) pa_nil))) (pe_slice sl_tupA (pv 1) (po_some (pe_add (pv 3) pe_int)) po_none))))))))))), ?_⟩
    refine ⟨.ref st, rfl, st, 8, rfl, hW, by decide, by decide, fun r H1 h0 h1 W1 e1 => ?_⟩
    cases td with
    | @tup a xs _ na ha t =>
    have hlx : xs.length = l.length := by rw [t.length, List.length_map]
    refine ⟨.ref st, rfl, .ref a, rfl, a, xs, rfl, .inr (SqT.of (e1 _ _ na ha)), st, (xs.length : Int), rfl, W1, by omega, by omega, fun j H2 j0 j1 W2 e2 => ?_⟩
    obtain ⟨jn, rfl⟩ : ∃ n : Nat, j = (n : Int) := ⟨j.toNat, by omega⟩
    have hjx : jn < xs.length := by omega
    have hjl : jn < l.length := by omega
    have e02 : ExS st H H2 := e1.trans e2
    have ha2 := e02 _ _ na ha
    have t2 := t.mono e02
    have td2 : TD st H2 (.ref a) (.tup (l.map stepD)) := .tup na ha2 t2
    obtain ⟨x, hx⟩ : ∃ x, xs[jn]? = some x := ⟨_, List.getElem?_eq_getElem hjx⟩
    obtain ⟨dx, hdx, tx⟩ := t2.get hx
    have edx : dx = stepD l[jn] := Option.some.inj (hdx.symm.trans (steps_get hjl))
    subst edx
    have hml : (l.map stepD).length = l.length := List.length_map ..
    refine ⟨.ref a, rfl, .int jn, rfl, a, xs, jn, x, rfl, rfl, SqT.of ha2, atI_nat hx, ?_⟩
    -- way 0
    refine ⟨_, rfl, rfl, _, rfl, ite2 (fun _ => ?_) (fun _ => ?_)⟩
    · refine ⟨.ref a, rfl, a, xs, rfl, .inr (SqT.of ha2), fun c nc => ?_⟩
      exact q _ _ _ (.lst (W2.ne nc) upd_same (t2.mono (ExS.new nc))) (W2.same (same_new nc)) (e02.trans (ExS.new nc))
    -- way 1
    refine ⟨_, rfl, rfl, _, rfl, ite2 (fun _ => ?_) (fun _ => ?_)⟩
    · refine ⟨.ref a, rfl, .int jn, rfl, jn, rfl, ?_⟩
      refine sl_ok W2 td2 fun c H3 es tc lc e3 => ?_
      have W3 := W2.same e3
      refine ⟨x, rfl, by show 1 ≤ sizeLine; decide, fun c2 n2 => ?_⟩
      have s2 := same_new (o := .tup [x]) n2
      have W4 := W3.same s2
      refine cat_ok (es := [stepD l[jn]]) W4 (tc.mono (.of s2)) (.tup (W3.ne n2) upd_same (.cons (tx.mono (.of (Same.trans e3 s2))) .nil)) (by rw [hml] at lc; show es.length + 1 ≤ 1000; omega) fun c3 H4 t3 e4 => ?_
      have W5 := W4.same e4
      have s4 := Same.trans e3 (Same.trans s2 e4)
      refine ⟨.ref a, rfl, .int jn, rfl, jn, rfl, ?_⟩
      refine noPart ?_
      refine sl_ok W5 (td2.mono (.of s4)) fun c4 H5 es2 tc4 lc4 e5 => ?_
      refine cat_ok (W5.same e5) (t3.mono (.of e5)) tc4 (by rw [hml] at lc lc4; rw [List.length_append]; show es.length + 1 + es2.length ≤ 1000; omega) fun c6 H6 t6 e6 => ?_
      exact q _ _ _ t6 ((W5.same e5).same e6) (e02.trans (.of (Same.trans s4 (Same.trans e5 e6))))
    -- way 2
    refine ⟨_, rfl, rfl, _, rfl, ite2 (fun _ => ?_) (fun _ => ?_)⟩
    · refine ⟨.ref a, rfl, a, xs, rfl, SqT.of ha2, fun c nc => ?_⟩
      exact q _ _ _ (.tup (W2.ne nc) upd_same (t2.rev.mono (ExS.new nc))) (W2.same (same_new nc)) (e02.trans (ExS.new nc))
    -- way 3
    refine ⟨_, rfl, rfl, _, rfl, ite2 (fun _ => ?_) (fun _ => ?_)⟩
    · refine ⟨by show 0 ≤ sizeLine; decide, fun c1 m1 => ?_⟩
      have V1 := W2.same (same_new (o := .tup []) m1)
      intro c2 m2
      have V2 := V1.same (same_new (o := .dK []) m2)
      refine ⟨.ref a, rfl, by show 1 ≤ sizeLine; decide, fun c3 m3 => ?_⟩
      have V3 := V2.same (same_new (o := .tup [.ref a]) m3)
      refine ⟨x, rfl, by show 7 ≤ sizeLine; decide, fun c4 m4 => ?_⟩
      have V4 := V3.same (same_new (o := .lst [.ref c1, .non, .str (Str.ofString "r3"), .int 5, .ref c2, .ref c3, x]) m4)
      refine ⟨.ref st, rfl, st, 7, rfl, V4, by decide, by decide, fun r3 H3 h30 h31 W3 e3 => ?_⟩
      have s14 : Same H2 (upd (upd (upd (upd H2 c1 (.tup [])) c2 (.dK [])) c3 (.tup [.ref a])) c4 (.lst [.ref c1, .non, .str (Str.ofString "r3"), .int 5, .ref c2, .ref c3, x])) := Same.trans (same_new m1) (Same.trans (same_new m2) (Same.trans (same_new m3) (same_new m4)))
      have tl : ∃ ds, TDs st H3 [.ref c1, .non, .str (Str.ofString "r3"), .int 5, .ref c2, .ref c3, x] ds :=
        ⟨_, TDs.mono e3 (.cons (.tup (W2.ne m1) (same_new m4 _ _ (same_new m3 _ _ (same_new m2 _ _ upd_same))) .nil) (.cons .non (.cons (.str _) (.cons (.int _)
          (.cons (.dct (V1.ne m2) (same_new m4 _ _ (same_new m3 _ _ upd_same))) (.cons (.tup (V2.ne m3) (same_new m4 _ _ upd_same) (.cons (td2.mono (.of s14)) .nil)) (.cons (tx.mono (.of s14)) .nil)))))))⟩
      obtain ⟨ds, tl⟩ := tl
      obtain ⟨y, dy, ay, ty⟩ := tl.pick h30 h31
      exact ⟨c4, _, r3, y, rfl, rfl, SqL.of (e3 _ _ (V3.ne m4) upd_same), ay, q _ _ _ ty W3 (e02.trans (ExS.trans (.of s14) e3))⟩
    -- way 4
    refine ⟨_, rfl, rfl, _, rfl, ite2 (fun _ => ?_) (fun _ => ?_)⟩
    · refine ⟨.ref a, rfl, .ref a, rfl, a, xs, rfl, .inr (SqT.of ha2), 8, _, rfl, rfl, .ref st, rfl, st, 2, rfl, W2, by decide, by decide, fun r3 H3 h30 h31 W3 e3 => ?_⟩
      refine ⟨_, r3, rfl, rfl, _, rfl, by omega, by omega, fun D1 nD => ?_⟩
      have nDst : D1 ≠ st := W3.ne nD
      refine lc_it (walk_range (lo := 0) (n := (8 - (xs.length : Int) + r3).toNat)) (fun i H' => Same H3 H' ∧ ∃ ys ms, H' D1 = some (.lst ys) ∧ TDs st H' ys (List.map stepD ms) ∧ ys.length = i) ⟨same_new nD, [], [], upd_same, .nil, rfl⟩ (fun _ _ _ _ => trivial) (fun i y H4 H5 hi hP hy => ?_) (fun H4 hP => ?_)
      · obtain ⟨s34, ys, ms, hD4, tys, hly⟩ := hP
        obtain ⟨rfl, rfl⟩ := hy
        refine ⟨rfl, yesI ⟨.int ((0 : Int) + ((i : Nat) : Int)), rfl, 50, _, rfl, rfl, by show 2 ≤ sizeLine; decide, fun c nc => ?_⟩⟩
        have hcD : D1 ≠ c := ne_of_none hD4 nc
        have hD5 := same_new (o := .tup [.str wR, .int ((50 : Int) + ((0 : Int) + ((i : Nat) : Int)))]) nc _ _ hD4
        refine ⟨ys, hD5, sl_lt (by omega), Same.mut (Same.trans s34 (same_new nc)) nD, ys ++ [.ref c], ms ++ [(wR, (50 : Int) + ((0 : Int) + ((i : Nat) : Int)))], upd_same, ?_, by rw [List.length_append]; show ys.length + 1 = i + 1; omega⟩
        rw [List.map_append]
        have W5 : Well st H5 := W3.same s34
        have z := (tys.mono (ExS.new nc)).append (TDs.cons (TD.tup (W5.ne nc) upd_same (.cons (.str wR) (.cons (.int ((50 : Int) + ((0 : Int) + ((i : Nat) : Int)))) .nil))) .nil)
        have z' : TDs st (upd H5 c (.tup [.str wR, .int ((50 : Int) + ((0 : Int) + ((i : Nat) : Int)))])) (ys ++ [.ref c]) (List.map stepD (ms ++ [(wR, (50 : Int) + ((0 : Int) + ((i : Nat) : Int)))])) := by
          rw [List.map_append]
          exact z
        rw [← List.map_append]
        refine z'.stepsT fun b us nb hb => ?_
        rw [upd_ne]
        · exact hb
        · intro e
          rw [e, hD5] at hb
          cases hb
      · obtain ⟨s34, ys, ms, hD4, tys, hly⟩ := hP
        have W4 := W3.same s34
        refine ⟨D1, ys, rfl, .inl ⟨SqL.of hD4, fun c nc => ?_⟩⟩
        have s4 := same_new (o := .tup ys) nc
        refine cat_ok (W4.same s4) ((td2.mono e3).mono (.of (Same.trans s34 s4))) (.tup (W4.ne nc) upd_same (tys.mono (.of s4))) (by rw [hml, ← tys.length]; omega) fun c6 H6 t6 e6 => ?_
        exact q _ _ _ t6 ((W4.same s4).same e6) (e02.trans (ExS.trans e3 (.of (Same.trans s34 (Same.trans s4 e6)))))
    -- the last way
    refine ⟨.ref a, rfl, .int jn, rfl, jn, rfl, ?_⟩
    refine sl_ok W2 td2 fun c H3 es tc lc e3 => ?_
    have W3 := W2.same e3
    refine ⟨.ref st, rfl, x, rfl, st, x, l[jn], rfl, W3, tx.mono (.of e3), fun y dy H4 ty W4 e4 => ⟨by show 1 ≤ sizeLine; decide, fun c2 n2 => ?_⟩⟩
    have s2 := same_new (o := .tup [y]) n2
    have W5 := W4.same s2
    refine cat_ok (es := [dy]) W5 ((tc.mono e4).mono (.of s2)) (.tup (W4.ne n2) upd_same (.cons (ty.mono (.of s2)) .nil)) (by rw [hml] at lc; show es.length + 1 ≤ 1000; omega) fun c3 H5 t3 e5 => ?_
    have W6 := W5.same e5
    have x5 : ExS st H2 H5 := ExS.trans (.of e3) (ExS.trans e4 (.of (Same.trans s2 e5)))
    refine ⟨.ref a, rfl, .int jn, rfl, jn, 1, rfl, rfl, _, rfl, ?_⟩
    refine noPart ?_
    refine sl_ok W6 (td2.mono x5) fun c4 H6 es2 tc4 lc4 e6 => ?_
    refine cat_ok (W6.same e6) (t3.mono (.of e6)) tc4 (by rw [hml] at lc lc4; rw [List.length_append]; show es.length + 1 + es2.length ≤ 1000; omega) fun c7 H7 t7 e7 => ?_
    exact q _ _ _ t7 ((W6.same e6).same e7) (e02.trans (ExS.trans x5 (.of (Same.trans e6 e7))))
end
end As

namespace As
open PySem PySem.Spec PyProof.Rows L2
abbrev sLaw : Stmt := topS 25
theorem scLaw : FnScope ["_law_script", "_law_k", "_law_state", "_law_dealing_here", "_law_odd", "_law_some", "_law_thing", "_law_step"] ["_law_script"] (defScope sLaw) := ⟨rfl, rfl, rfl, by decide +kernel, rfl, by decide +kernel, by decide +kernel⟩
section
variable {P : Program} {w : World} {K : PySem.W.Frag} {mg : Str → Option Value} {base : Heap}
/-! ### lists -/
theorem many_at {r : Int} (h0 : 0 ≤ r) (h1 : r < 6) : ∃ m : Int, atI [V.int 0, V.int 1, V.int 2, V.int 99, V.int 100, V.int 101] r = some (.int m) ∧ 0 ≤ m ∧ m ≤ 101 := by
  have h : r = 0 ∨ r = 1 ∨ r = 2 ∨ r = 3 ∨ r = 4 ∨ r = 5 := by omega
  rcases h with rfl | rfl | rfl | rfl | rfl | rfl
  · exact ⟨0, rfl, by decide, by decide⟩
  · exact ⟨1, rfl, by decide, by decide⟩
  · exact ⟨2, rfl, by decide, by decide⟩
  · exact ⟨99, rfl, by decide, by decide⟩
  · exact ⟨100, rfl, by decide, by decide⟩
  · exact ⟨101, rfl, by decide, by decide⟩
theorem rep_flat {α : Type} (v : α) : ∀ n : Nat, (List.replicate n [v]).flatten = List.replicate n v
  | 0 => rfl
  | n + 1 => by
    rw [List.replicate_succ, List.flatten_cons, rep_flat v n, List.replicate_succ]
    rfl
def spLists : Sp := fun vs H Q _ => ∃ (st : Addr) (v u : V) (d e : D), vs = [.ref st, v, u] ∧ Well st H ∧ TD st H v d ∧ TD st H u e ∧ Told st H Q
theorem ok_lists {f f1 : Addr} {fd fd1 : FuncData} {k : Nat} (F : Fun K "_law_lists" "_law_lists" sLists f fd) (M : Mg mg) (G1 : FnOk P w K mg base CX0 k f1 fd1 ["_law_state", "_law_base"] spDigit) (g1 : mg "_law_digit" = some (.ref f1)) (k1 : PySem.W.keepIn K (.ref f1) = true) (b1 : Binds K fd1 ["_law_state", "_law_base"] []) :
    FnOk P w K mg base CX0 (k + 1) f fd ["_law_state", "_law_dealing_here", "_law_odd"] spLists := by
  refine F.ok scLists (fun vs H Q E h => ?_) (fun cdv A outer s H vs Q E hr h => ?_)
  · obtain ⟨st, v, u, d, e, rfl, _⟩ := h
    rfl
  · obtain ⟨st, v, u, d, e, rfl, hW, td, te, q⟩ := h
    refine ⟨_, pss_cons (ps_set (i := 3) scLists.nd rfl (.inl rfl) (pe_call G1 hr (by rfl) g1 k1 b1 .nil pass0 (pa_cons (pv 0) (pa_cons pe_int pa_nil))))
      (pss_cons (ps_set (i := 4) scLists.nd rfl (.inl rfl) (pe_ix ix_list (pe_lst (pa_cons pe_int (pa_cons pe_int (pa_cons pe_int (pa_cons pe_int (pa_cons pe_int (pa_cons pe_int pa_nil))))))) (pe_call G1 hr (by rfl) g1 k1 b1 .nil pass0 (pa_cons (pv 0) (pa_cons pe_int pa_nil))) (fun _ _ => rfl)))
      (pss_cons (ps_set (i := 5) scLists.nd rfl (.inl rfl) (pe_op op_rep (pe_lst (pa_cons (pv 1) pa_nil)) (pv 4)))
      (pss_cons (ps_set (i := 6) scLists.nd rfl (.inl rfl) (pe_call G1 hr (by rfl) g1 k1 b1 .nil pass0 (pa_cons (pv 0) (pa_cons (pe_add (pv 4) pe_int) pa_nil))))
      (pss_cons (ps_if (pt_cmpR op_eq (pv 3) pe_int (nomark _)) (pss_one (ps_ret (pe_callTy call_tuple_of (by rfl) M.tuple (by decide +kernel) (pa_cons (pv 5) pa_nil)))) pss_nil)
      (pss_cons (ps_if (pt_cmpR op_lt (pv 3) pe_int (nomark _)) (pss_one (ps_ret (pe_op op_cat (pe_op op_cat (pe_slice sl_list (pv 5) po_none (po_some (pv 6))) (pe_lst (pa_cons (pv 2) pa_nil))) (pe_slice sl_list (pv 5) (po_some (pv 6)) po_none)))) pss_nil)
      (pss_one (ps_ret (pe_ix ix_list (pe_lst (pa_cons (pv 5) (pa_cons (pv 5) (pa_cons (pe_ix ix_list (pe_lst (pa_cons pe_non (pa_cons (pe_tup pa_nil) (pa_cons pe_int (pa_cons pe_str (pa_cons pe_dnewK pa_nil)))))) (pe_call G1 hr (by rfl) g1 k1 b1 .nil pass0 (pa_cons (pv 0) (pa_cons pe_int pa_nil))) (fun _ _ => rfl)) pa_nil)))) (pe_sub (pv 3) pe_int) (fun _ _ => rfl))))))))), ?_⟩
    refine ⟨.ref st, rfl, st, 6, rfl, hW, by decide, by decide, fun r H1 h0 h1 W1 e1 => ?_⟩
    refine ⟨by show 6 ≤ sizeLine; decide, fun c1 n1 => ?_⟩
    have V1 := W1.same (same_new (o := .lst [.int 0, .int 1, .int 2, .int 99, .int 100, .int 101]) n1)
    refine ⟨.ref st, rfl, st, 6, rfl, V1, by decide, by decide, fun r2 H2 h20 h21 W2 e2 => ?_⟩
    obtain ⟨m, am, m0, m1⟩ := many_at h20 h21
    refine ⟨c1, _, r2, .int m, rfl, rfl, SqL.of (e2 _ _ (W1.ne n1) upd_same), am, ?_⟩
    refine ⟨v, rfl, by show 1 ≤ sizeLine; decide, fun c2 n2 => ⟨.int m, rfl, c2, m, [v], rfl, rfl, upd_same, by omega, by omega, sl_of (by show 1 * m.toNat ≤ 100000; omega), fun c3 n3 => ?_⟩⟩
    have s2 := same_new (o := .lst [v]) n2
    have V2 := W2.same s2
    have s3 := same_new (o := .lst (List.replicate m.toNat [v]).flatten) n3
    have V3 := V2.same s3
    refine ⟨.ref st, rfl, .int m, rfl, m, 1, rfl, rfl, st, m + 1, rfl, V3, by omega, by omega, fun j H3 j0 j1 W3 e3 => ?_⟩
    have x02 : ExS st H H2 := e1.trans ((ExS.new n1).trans e2)
    have x03 : ExS st H H3 := x02.trans ((ExS.of s2).trans ((ExS.of s3).trans e3))
    have h3 : H3 c3 = some (.lst (List.replicate m.toNat v)) := by
      rw [← rep_flat]
      exact e3 _ _ (V2.ne n3) upd_same
    have td3 := td.mono x03
    have te3 := te.mono x03
    have ts : TD st H3 (.ref c3) (.lst (List.replicate m.toNat d)) := .lst (V2.ne n3) h3 (TDs.rep td3 _)
    have hlen : (List.replicate m.toNat d).length = m.toNat := List.length_replicate ..
    -- way 0
    refine ⟨_, rfl, rfl, _, rfl, ite2 (fun _ => ?_) (fun hr0 => ?_)⟩
    · refine ⟨.ref c3, rfl, c3, _, rfl, .inl ⟨SqL.of h3, fun c nc => ?_⟩⟩
      exact q _ _ _ (.tup (W3.ne nc) upd_same (TDs.rep (td3.mono (ExS.new nc)) _)) (W3.same (same_new nc)) (x03.trans (ExS.new nc))
    -- way 1, 2
    refine ⟨.int r, rfl, r, 3, rfl, rfl, _, rfl, ite2 (fun _ => ?_) (fun hr3 => ?_)⟩
    · refine ⟨.ref c3, rfl, .int j, rfl, j, rfl, ?_⟩
      refine slL_ok W3 ts fun c H4 es tc lc e4 => ?_
      have W4 := W3.same e4
      refine ⟨u, rfl, by show 1 ≤ sizeLine; decide, fun c5 n5 => ?_⟩
      have s5 := same_new (o := .lst [u]) n5
      have W5 := W4.same s5
      refine catL_ok (es := [e]) W5 (tc.mono (.of s5)) (.lst (W4.ne n5) upd_same (.cons (te3.mono (.of (Same.trans e4 s5))) .nil)) (by rw [hlen] at lc; show es.length + 1 ≤ 1000; omega) fun c6 H6 t6 e6 => ?_
      have W6 := W5.same e6
      have s6 := Same.trans e4 (Same.trans s5 e6)
      refine ⟨.ref c3, rfl, .int j, rfl, j, rfl, ?_⟩
      refine noPart ?_
      refine slL_ok W6 (ts.mono (.of s6)) fun c7 H7 es2 tc7 lc7 e7 => ?_
      refine catL_ok (W6.same e7) (t6.mono (.of e7)) tc7 (by rw [hlen] at lc lc7; rw [List.length_append]; show es.length + 1 + es2.length ≤ 1000; omega) fun c8 H8 t8 e8 => ?_
      exact q _ _ _ t8 ((W6.same e7).same e8) (x03.trans (.of (Same.trans s6 (Same.trans e7 e8))))
    -- the others
    · have hr3' : ¬ r < 3 := fun z => hr3 (decide_eq_true z)
      refine ⟨.ref c3, rfl, .ref c3, rfl, by show 0 ≤ sizeLine; decide, fun c4 n4 => ?_⟩
      intro c5 n5
      refine ⟨by show 5 ≤ sizeLine; decide, fun c6 n6 => ?_⟩
      have V4 := W3.same (same_new (o := .tup []) n4)
      have V5 := V4.same (same_new (o := .dK []) n5)
      have V6 := V5.same (same_new (o := .lst [.non, .ref c4, .int 5, .str (Str.ofString "r1"), .ref c5]) n6)
      refine ⟨.ref st, rfl, st, 5, rfl, V6, by decide, by decide, fun r4 H4 h40 h41 W4 e4 => ?_⟩
      have tl : ∃ ds, TDs st H4 [.non, .ref c4, .int 5, .str (Str.ofString "r1"), .ref c5] ds :=
        ⟨_, TDs.mono e4 (.cons .non (.cons (.tup (W3.ne n4) (same_new n6 _ _ (same_new n5 _ _ upd_same)) .nil) (.cons (.int _) (.cons (.str _) (.cons (.dct (V4.ne n5) (same_new n6 _ _ upd_same)) .nil)))))⟩
      obtain ⟨ds, tl⟩ := tl
      obtain ⟨y, dy, ay, ty⟩ := tl.pick h40 h41
      refine ⟨c6, _, r4, y, rfl, rfl, SqL.of (e4 _ _ (V5.ne n6) upd_same), ay, by show 3 ≤ sizeLine; decide, fun c7 n7 => ?_⟩
      have x34 : ExS st H3 H4 := ExS.trans (.of (Same.trans (same_new n4) (Same.trans (same_new n5) (same_new n6)))) e4
      have s7 := same_new (o := .lst [.ref c3, .ref c3, y]) n7
      have tl2 : TDs st (upd H4 c7 (.lst [.ref c3, .ref c3, y])) [.ref c3, .ref c3, y] [_, _, _] := .cons ((ts.mono x34).mono (.of s7)) (.cons ((ts.mono x34).mono (.of s7)) (.cons (ty.mono (.of s7)) .nil))
      obtain ⟨z, dz, az, tz⟩ := tl2.pick (r := r - 3) (by omega) (by show r - 3 < 3; omega)
      refine ⟨.int r, rfl, r, 3, rfl, rfl, c7, _, r - 3, z, rfl, rfl, SqL.of upd_same, az, q _ _ _ tz (W4.same s7) (x03.trans (x34.trans (.of s7)))⟩
end
end As

namespace As
open PySem PySem.Spec PyProof.Rows L2
section
variable {P : Program} {w : World} {K : PySem.W.Frag} {mg : Str → Option Value} {base : Heap}
theorem sq_keep {st a : Addr} {H H' : Hp} {o : HO} {xs : List V} (h : SqL K H a xs) (n : H st = none) (e : ExS st (upd H st o) H') : SqL K H' a xs := by
  rcases h with (h | ⟨u, h⟩) | h
  · have na : a ≠ st := ne_of_none h n
    exact .inl (.inl (e _ _ na (by rw [upd_ne na]; exact h)))
  · have na : a ≠ st := ne_of_none h n
    exact .inl (.inr ⟨u, e _ _ na (by rw [upd_ne na]; exact h)⟩)
  · exact .inr h
/-- a def as its callers need it -/
structure Ok (P : Program) (w : World) (K : PySem.W.Frag) (mg : Str → Option Value) (base : Heap) (k : Nat) (x : Str) (ps : List Str) (sp : Sp) : Prop where
  ex : ∃ f fd, FnOk P w K mg base CX0 k f fd ps sp ∧ mg x = some (.ref f) ∧ PySem.W.keepIn K (.ref f) = true ∧ Binds K fd ps []
def spLaw (K : PySem.W.Frag) : Sp := fun vs H Q _ => ∃ (a : Addr) (ns : List Int), vs = [.ref a] ∧ SqL K H a (ns.map V.int) ∧ ns.length ≤ 63 ∧ ∀ H', Q (.bl true) H'
theorem ok_law {f : Addr} {fd : FuncData} {k : Nat} (F : Fun K "law" "law" sLaw f fd) (M : Mg mg)
    (Kcell : Ok P w K mg base k "_law_cell_at" ["_law_script", "_law_k"] (spCellAt K)) (Kdeal : Ok P w K mg base k "_law_dealing" ["_law_state", "_law_few", "_law_most"] spDealing) (Kspoilt : Ok P w K mg base k "_law_spoilt" ["_law_state", "_law_dealing_here"] spSpoilt)
    (Klists : Ok P w K mg base k "_law_lists" ["_law_state", "_law_dealing_here", "_law_odd"] spLists) (Kodd : Ok P w K mg base k "_law_odd_step" ["_law_state", "_law_step"] spOdd) (Ktruth : Ok P w K mg base k "_law_truth" ["_law_found", "_law_due"] spTruth)
    (Kisd : Ok P w K mg base k "is_dealing" ["thing"] (spD isDealing)) (Klisd : Ok P w K mg base k "_law_is_dealing" ["_law_thing"] (spD isDealing)) (Kiss : Ok P w K mg base k "is_step" ["thing"] (spD isStep)) (Kliss : Ok P w K mg base k "_law_is_step" ["_law_thing"] (spD isStep))
    (Kare : Ok P w K mg base k "are_dealings" ["thing"] (spD areDealings)) (Klare : Ok P w K mg base k "_law_are_dealings" ["_law_thing"] (spD areDealings)) :
    FnOk P w K mg base CX0 (k + 1) f fd ["_law_script"] (spLaw K) := by
  obtain ⟨f1, fd1, G1, g1, k1, b1⟩ := Kcell.ex
  obtain ⟨f2, fd2, G2, g2, k2, b2⟩ := Kdeal.ex
  obtain ⟨f3, fd3, G3, g3, k3, b3⟩ := Kspoilt.ex
  obtain ⟨f4, fd4, G4, g4, k4, b4⟩ := Klists.ex
  obtain ⟨f5, fd5, G5, g5, k5, b5⟩ := Kodd.ex
  obtain ⟨f6, fd6, G6, g6, k6, b6⟩ := Ktruth.ex
  obtain ⟨f7, fd7, G7, g7, k7, b7⟩ := Kisd.ex
  obtain ⟨f8, fd8, G8, g8, k8, b8⟩ := Klisd.ex
  obtain ⟨f9, fd9, G9, g9, k9, b9⟩ := Kiss.ex
  obtain ⟨f10, fd10, G10, g10, k10, b10⟩ := Kliss.ex
  obtain ⟨f11, fd11, G11, g11, k11, b11⟩ := Kare.ex
  obtain ⟨f12, fd12, G12, g12, k12, b12⟩ := Klare.ex
  refine F.ok scLaw (fun vs H Q E h => ?_) (fun cdv A outer s H vs Q E hr h => ?_)
  · obtain ⟨a, ns, rfl, _⟩ := h
    rfl
  · obtain ⟨a, ns, rfl, hS, hlen, q⟩ := h
    refine ⟨_, pss_cons (ps_for PassesOwn.never rfl (pi_range1 (by rfl) M.range (pa_cons (pe_callB (call_max2 rfl) (by rfl) M.max (by decide +kernel) (pa_cons pe_int (pa_cons (pe_callB (call_min2 rfl) (by rfl) M.min (by decide +kernel) (pa_cons pe_int (pa_cons (pe_callB call_len_seq (by rfl) M.len PySem.boot_len (pa_cons (pv 0) pa_nil)) pa_nil))) pa_nil))) pa_nil)) (pg_name (i := 1) scLaw.nd rfl (.inl rfl))
        (pss_cons (ps_set (i := 2) scLaw.nd rfl (.inl rfl) (pe_lst (pa_cons (pe_add (pe_call G1 hr (by rfl) g1 k1 b1 .nil pass0 (pa_cons (pv 0) (pa_cons (pv 1) pa_nil))) (pe_op op_mul pe_int (pv 1))) pa_nil)))
        (pss_cons (ps_set (i := 3) scLaw.nd rfl (.inl rfl) (pe_call G2 hr (by rfl) g2 k2 b2 .nil pass0 (pa_cons (pv 2) (pa_cons pe_int (pa_cons pe_int pa_nil)))))
        (pss_cons (ps_set (i := 4) scLaw.nd rfl (.inl rfl) (pe_call G3 hr (by rfl) g3 k3 b3 .nil pass0 (pa_cons (pv 2) (pa_cons (pv 3) pa_nil))))
        (pss_cons (ps_set (i := 5) scLaw.nd rfl (.inl rfl) (pe_call G4 hr (by rfl) g4 k4 b4 .nil pass0 (pa_cons (pv 2) (pa_cons (pv 3) (pa_cons (pv 4) pa_nil)))))
        (pss_cons (ps_for PassesOwn.never rfl (pi_list (pe_lst (pa_cons (pv 3) (pa_cons (pv 4) pa_nil)))) (pg_name (i := 6) scLaw.nd rfl (.inl rfl))
          (pss_one (ps_if (pt_not (pt_val (pe_call G6 hr (by rfl) g6 k6 b6 .nil pass0 (pa_cons (pe_call G7 hr (by rfl) g7 k7 b7 .nil pass0 (pa_cons (pv 6) pa_nil)) (pa_cons (pe_call G8 hr (by rfl) g8 k8 b8 .nil pass0 (pa_cons (pv 6) pa_nil)) pa_nil))))) (pss_one (ps_ret pe_bl)) pss_nil)))
        (pss_cons (ps_for PassesOwn.never rfl (pi_tup (pe_op op_catA (pv 3) (pe_tup (pa_cons (pv 4) (pa_cons (pe_call G5 hr (by rfl) g5 k5 b5 .nil pass0 (pa_cons (pv 2) (pa_cons (pe_ix ix_tup (pv 3) pe_int (fun _ _ => rfl)) pa_nil))) pa_nil))))) (pg_name (i := 7) scLaw.nd rfl (.inl rfl))
          (pss_one (ps_if (pt_not (pt_val (pe_call G6 hr (by rfl) g6 k6 b6 .nil pass0 (pa_cons (pe_call G9 hr (by rfl) g9 k9 b9 .nil pass0 (pa_cons (pv 7) pa_nil)) (pa_cons (pe_call G10 hr (by rfl) g10 k10 b10 .nil pass0 (pa_cons (pv 7) pa_nil)) pa_nil))))) (pss_one (ps_ret pe_bl)) pss_nil)))
        (pss_one (ps_if (pt_not (pt_val (pe_call G6 hr (by rfl) g6 k6 b6 .nil pass0 (pa_cons (pe_call G11 hr (by rfl) g11 k11 b11 .nil pass0 (pa_cons (pv 5) pa_nil)) (pa_cons (pe_call G12 hr (by rfl) g12 k12 b12 .nil pass0 (pa_cons (pv 5) pa_nil)) pa_nil))))) (pss_one (ps_ret pe_bl)) pss_nil)))))))))
      (pss_one (ps_ret pe_bl)), ?_⟩
    refine ⟨.ref a, rfl, a, _, rfl, .inl hS, 16, _, rfl, 1, _, rfl, _, rfl, ?_, ?_, ?_⟩
    · split <;> split <;> omega
    · rw [List.length_map]
      split <;> split <;> omega
    refine for_range (lo := 0) (fun i σ H' => ∃ y1 y2 y3 y4 y5 y6 y7, σ = [some (.ref a), y1, y2, y3, y4, y5, y6, y7] ∧ SqL K H' a (ns.map V.int)) ⟨_, _, _, _, _, _, _, rfl, hS⟩ (fun i σ H0 hi hP => ?_) (fun σ H0 hP => q H0)
    obtain ⟨y1, y2, y3, y4, y5, y6, y7, rfl, hS0⟩ := hP
    -- the state
    refine ⟨.ref a, rfl, .int (0 + (i : Nat)), rfl, a, i, ns, (by show [V.ref a, V.int ((0 : Int) + ((i : Nat) : Int))] = [V.ref a, V.int ((i : Nat) : Int)]; rw [Int.zero_add]), hS0, fun z => ⟨.int (0 + (i : Nat)), rfl, 17, _, rfl, rfl, .inl ⟨by decide, by decide⟩, z, _, rfl, rfl, by show 1 ≤ sizeLine; decide, fun st nst => ?_⟩⟩
    -- the dealing
    refine ⟨.ref st, rfl, st, 3, 8, rfl, .inl ⟨_, upd_same⟩, by decide, by decide, by decide, by decide, fun v l H1 td hl1 hl8 hok W1 e1 => ?_⟩
    -- the spoilt one
    refine ⟨.ref st, rfl, v, rfl, st, v, l, rfl, W1, td, hl1, hl8, fun o dO H2 tO W2 e2 => ?_⟩
    -- the lists
    refine ⟨.ref st, rfl, v, rfl, o, rfl, st, v, o, _, _, rfl, W2, td.mono e2, tO, fun sm dS H3 tS W3 e3 => ?_⟩
    have td3 := (td.mono e2).mono e3
    have tO3 := tO.mono e3
    -- both dealings
    refine ⟨v, rfl, o, rfl, by show 2 ≤ sizeLine; decide, fun c nc => ⟨c, rfl, ⟨_, SqL.of upd_same⟩, ?_⟩⟩
    refine for_list (xs := [v, o]) (fun i σ H' => ∃ y6, σ = [some (.ref a), _, some (.ref st), some v, some o, some sm, y6, y7] ∧ Same (upd H3 c (.lst [v, o])) H') ⟨_, rfl, Same.refl _⟩ (fun i σ H' _ hP => ?_) (fun i x σ H4 hx hP => ?_) (fun σ H4 hP => ?_)
    · obtain ⟨_, _, e⟩ := hP
      exact SqL.of (e _ _ upd_same)
    · obtain ⟨y, rfl, e4⟩ := hP
      have e34 : Same H3 H4 := Same.trans (same_new nc) e4
      obtain ⟨d, tx⟩ : ∃ d, TD st H4 x d := by
        have tl : TDs st H4 [v, o] [_, _] := .cons (td3.mono (.of e34)) (.cons (tO3.mono (.of e34)) .nil)
        obtain ⟨d, _, h⟩ := tl.get hx
        exact ⟨d, h⟩
      refine ⟨x, rfl, st, x, d, rfl, tx, fun H5 e5 => ⟨x, rfl, st, x, d, rfl, tx.mono (.of e5), fun H6 e6 => ⟨_, rfl, _, rfl, iteF ⟨_, rfl, Same.trans e4 (Same.trans e5 e6)⟩⟩⟩⟩
    · obtain ⟨y, rfl, e4⟩ := hP
      have e34 : Same H3 H4 := Same.trans (same_new nc) e4
      have W4 := W3.same e34
      have td4 := td3.mono (.of e34)
      have tO4 := tO3.mono (.of e34)
      have tS4 := tS.mono (.of e34)
      cases td4 with
      | @tup va vx _ nv hv tv =>
      have hvl : vx.length = l.length := by rw [tv.length, List.length_map]
      have td4 : TD st H4 (.ref va) (.tup (l.map stepD)) := .tup nv hv tv
      obtain ⟨x0, hx0⟩ : ∃ x, vx[0]? = some x := ⟨_, List.getElem?_eq_getElem (show 0 < vx.length by omega)⟩
      obtain ⟨d0, hd0, tx0⟩ := tv.get hx0
      have ed0 : d0 = stepD l[0] := Option.some.inj (hd0.symm.trans (steps_get (show 0 < l.length by omega)))
      subst ed0
      refine ⟨.ref va, rfl, o, rfl, .ref st, rfl, .ref va, rfl, va, vx, 0, x0, rfl, rfl, SqT.of hv, atI_nat (j := 0) hx0, st, x0, l[0], rfl, W4, tx0, fun y5 d5 H5 t5 W5 e5 => ⟨by show 2 ≤ sizeLine; decide, fun c5 n5 => ?_⟩⟩
      have s5 := same_new (o := .tup [o, y5]) n5
      refine cat_ok (es := [dO, d5]) (W5.same s5) ((td4.mono e5).mono (.of s5)) (.tup (W5.ne n5) upd_same (.cons ((tO4.mono e5).mono (.of s5)) (.cons (t5.mono (.of s5)) .nil))) (by rw [List.length_map]; show l.length + 2 ≤ 1000; omega) fun c6 H6 t6 e6 => ?_
      have x46 : ExS st H4 H6 := e5.trans (.of (Same.trans s5 e6))
      have tS6 := tS4.mono x46
      cases t6 with
      | @tup _ sx _ n6 h6 ts6 =>
      refine ⟨c6, rfl, ⟨_, SqT.of h6⟩, ?_⟩
      refine for_tup (xs := sx) (fun i σ H' => ∃ y6 y7, σ = [some (.ref a), _, some (.ref st), some (.ref va), some o, some sm, y6, y7] ∧ Same H6 H') ⟨_, _, rfl, Same.refl _⟩ (fun i σ H' _ hP => ?_) (fun i x σ H7 hx hP => ?_) (fun σ H7 hP => ?_)
      · obtain ⟨_, _, _, e⟩ := hP
        exact SqT.of (e _ _ h6)
      · obtain ⟨z6, z7, rfl, e7⟩ := hP
        obtain ⟨d, _, tx⟩ := ts6.get hx
        have tx7 := tx.mono (.of e7)
        refine ⟨x, rfl, st, x, d, rfl, tx7, fun H8 e8 => ⟨x, rfl, st, x, d, rfl, tx7.mono (.of e8), fun H9 e9 => ⟨_, rfl, _, rfl, iteF ⟨_, _, rfl, Same.trans e7 (Same.trans e8 e9)⟩⟩⟩⟩
      · obtain ⟨z6, z7, rfl, e7⟩ := hP
        have tS7 := tS6.mono (.of e7)
        refine ⟨sm, rfl, st, sm, dS, rfl, tS7, fun H8 e8 => ⟨sm, rfl, st, sm, dS, rfl, tS7.mono (.of e8), fun H9 e9 => ⟨_, rfl, _, rfl, iteF ⟨_, _, _, _, _, _, _, rfl, ?_⟩⟩⟩⟩
        exact sq_keep hS0 nst (e1.trans (e2.trans (e3.trans (ExS.trans (.of e34) (x46.trans (.of (Same.trans e7 (Same.trans e8 e9))))))))
end
end As

namespace As
open PySem PySem.Spec PyProof.Rows L2
/-! ### what the top has written; the end -/
theorem all_mk {l : PySem.W.OpenLaw} {w : World} {K : PySem.W.Frag} {h : Heap} {mg : Str → Option Value} {fa : Addr} (X : K.In h) (G : h.Ns mainGlobals mg) (hfa : mg "law" = some (.ref fa))
    {f1 f2 f3 f4 f5 f6 f7 f8 f9 f10 f11 f12 f13 f14 f15 f16 f17 f18 f19 f20 : Addr} {od1 an1 od2 an2 od3 an3 od4 an4 od5 an5 od6 an6 od7 an7 od8 an8 od9 an9 od10 an10 od11 an11 od12 an12 od13 an13 od14 an14 od15 an15 od16 an16 od17 an17 od18 an18 od19 an19 od20 an20 : Option Addr} {sl1 sl2 sl3 sl4 sl5 sl6 sl7 sl8 sl9 sl10 sl11 sl12 sl13 sl14 sl15 sl16 sl17 sl18 sl19 sl20 : Array (Option Value)} {oc1 kV1 dc1 pm1 cd1 ct1 oc2 kV2 dc2 pm2 cd2 ct2 oc3 kV3 dc3 pm3 cd3 ct3 oc4 kV4 dc4 pm4 cd4 ct4 oc5 kV5 dc5 pm5 cd5 ct5 oc6 kV6 dc6 pm6 cd6 ct6 oc7 kV7 dc7 pm7 cd7 ct7 oc8 kV8 dc8 pm8 cd8 ct8 oc9 kV9 dc9 pm9 cd9 ct9 oc10 kV10 dc10 pm10 cd10 ct10 oc11 kV11 dc11 pm11 cd11 ct11 oc12 kV12 dc12 pm12 cd12 ct12 oc13 kV13 dc13 pm13 cd13 ct13 oc14 kV14 dc14 pm14 cd14 ct14 oc15 kV15 dc15 pm15 cd15 ct15 oc16 kV16 dc16 pm16 cd16 ct16 oc17 kV17 dc17 pm17 cd17 ct17 oc18 kV18 dc18 pm18 cd18 ct18 oc19 kV19 dc19 pm19 cd19 ct19 oc20 kV20 dc20 pm20 cd20 ct20 : Value} {t1 : Tok} {t2 : Tok} {t3 : Tok}
    (a1 : PySem.W.nsIn K mainGlobals "is_whole" = some (some (.ref f1))) (l1 : K.lookup f1 = some ⟨oc1, od1, .func (PySem.W.fnOf "is_whole" "is_whole" (defArgs sIsWhole) (defBody sIsWhole) (defScope sIsWhole) .none kV1 dc1 pm1 an1 cd1 ct1), sl1⟩) (c1 : PySem.W.codeIn K cd1 "is_whole" = true) (k1 : PySem.W.keepIn K (.ref f1) = true)
    (a2 : PySem.W.nsIn K mainGlobals "is_number" = some (some (.ref f2))) (l2 : K.lookup f2 = some ⟨oc2, od2, .func (PySem.W.fnOf "is_number" "is_number" (defArgs sIsNumber) (defBody sIsNumber) (defScope sIsNumber) .none kV2 dc2 pm2 an2 cd2 ct2), sl2⟩) (c2 : PySem.W.codeIn K cd2 "is_number" = true) (k2 : PySem.W.keepIn K (.ref f2) = true)
    (a3 : PySem.W.nsIn K mainGlobals "is_box" = some (some (.ref f3))) (l3 : K.lookup f3 = some ⟨oc3, od3, .func (PySem.W.fnOf "is_box" "is_box" (defArgs sIsBox) (defBody sIsBox) (defScope sIsBox) .none kV3 dc3 pm3 an3 cd3 ct3), sl3⟩) (c3 : PySem.W.codeIn K cd3 "is_box" = true) (k3 : PySem.W.keepIn K (.ref f3) = true)
    (a4 : PySem.W.nsIn K mainGlobals "is_one_of" = some (some (.ref f4))) (l4 : K.lookup f4 = some ⟨oc4, od4, .func (PySem.W.fnOf "is_one_of" "is_one_of" (defArgs sIsOneOf) (defBody sIsOneOf) (defScope sIsOneOf) .none kV4 dc4 pm4 an4 cd4 ct4), sl4⟩) (c4 : PySem.W.codeIn K cd4 "is_one_of" = true) (k4 : PySem.W.keepIn K (.ref f4) = true)
    (a5 : PySem.W.nsIn K mainGlobals "is_step" = some (some (.ref f5))) (l5 : K.lookup f5 = some ⟨oc5, od5, .func (PySem.W.fnOf "is_step" "is_step" (defArgs sIsStep) (defBody sIsStep) (defScope sIsStep) .none kV5 dc5 pm5 an5 cd5 ct5), sl5⟩) (c5 : PySem.W.codeIn K cd5 "is_step" = true) (k5 : PySem.W.keepIn K (.ref f5) = true)
    (a6 : PySem.W.nsIn K mainGlobals "may_follow" = some (some (.ref f6))) (l6 : K.lookup f6 = some ⟨oc6, od6, .func (PySem.W.fnOf "may_follow" "may_follow" (defArgs sMayFollow) (defBody sMayFollow) (defScope sMayFollow) .none kV6 dc6 pm6 an6 cd6 ct6), sl6⟩) (c6 : PySem.W.codeIn K cd6 "may_follow" = true) (k6 : PySem.W.keepIn K (.ref f6) = true)
    (a7 : PySem.W.nsIn K mainGlobals "is_dealing" = some (some (.ref f7))) (l7 : K.lookup f7 = some ⟨oc7, od7, .func (PySem.W.fnOf "is_dealing" "is_dealing" (defArgs sIsDealing) (defBody sIsDealing) (defScope sIsDealing) .none kV7 dc7 pm7 an7 cd7 ct7), sl7⟩) (c7 : PySem.W.codeIn K cd7 "is_dealing" = true) (k7 : PySem.W.keepIn K (.ref f7) = true)
    (a8 : PySem.W.nsIn K mainGlobals "are_dealings" = some (some (.ref f8))) (l8 : K.lookup f8 = some ⟨oc8, od8, .func (PySem.W.fnOf "are_dealings" "are_dealings" (defArgs sAreDealings) (defBody sAreDealings) (defScope sAreDealings) .none kV8 dc8 pm8 an8 cd8 ct8), sl8⟩) (c8 : PySem.W.codeIn K cd8 "are_dealings" = true) (k8 : PySem.W.keepIn K (.ref f8) = true)
    (a9 : PySem.W.nsIn K mainGlobals "_law_cell_at" = some (some (.ref f9))) (l9 : K.lookup f9 = some ⟨oc9, od9, .func (PySem.W.fnOf "_law_cell_at" "_law_cell_at" (defArgs sCellAt) (defBody sCellAt) (defScope sCellAt) .none kV9 dc9 pm9 an9 cd9 ct9), sl9⟩) (c9 : PySem.W.codeIn K cd9 "_law_cell_at" = true) (k9 : PySem.W.keepIn K (.ref f9) = true)
    (a10 : PySem.W.nsIn K mainGlobals "_law_digit" = some (some (.ref f10))) (l10 : K.lookup f10 = some ⟨oc10, od10, .func (PySem.W.fnOf "_law_digit" "_law_digit" (defArgs sDigit) (defBody sDigit) (defScope sDigit) .none kV10 dc10 pm10 an10 cd10 ct10), sl10⟩) (c10 : PySem.W.codeIn K cd10 "_law_digit" = true) (k10 : PySem.W.keepIn K (.ref f10) = true)
    (a11 : PySem.W.nsIn K mainGlobals "_law_box" = some (some (.ref f11))) (l11 : K.lookup f11 = some ⟨oc11, od11, .func (PySem.W.fnOf "_law_box" "_law_box" (defArgs sBox) (defBody sBox) (defScope sBox) .none kV11 dc11 pm11 an11 cd11 ct11), sl11⟩) (c11 : PySem.W.codeIn K cd11 "_law_box" = true) (k11 : PySem.W.keepIn K (.ref f11) = true)
    (a12 : PySem.W.nsIn K mainGlobals "_law_dealing" = some (some (.ref f12))) (l12 : K.lookup f12 = some ⟨oc12, od12, .func (PySem.W.fnOf "_law_dealing" "_law_dealing" (defArgs sDealing) (defBody sDealing) (defScope sDealing) .none kV12 dc12 pm12 an12 cd12 ct12), sl12⟩) (c12 : PySem.W.codeIn K cd12 "_law_dealing" = true) (k12 : PySem.W.keepIn K (.ref f12) = true)
    (a13 : PySem.W.nsIn K mainGlobals "_law_truth" = some (some (.ref f13))) (l13 : K.lookup f13 = some ⟨oc13, od13, .func (PySem.W.fnOf "_law_truth" "_law_truth" (defArgs sTruth) (defBody sTruth) (defScope sTruth) .none kV13 dc13 pm13 an13 cd13 ct13), sl13⟩) (c13 : PySem.W.codeIn K cd13 "_law_truth" = true) (k13 : PySem.W.keepIn K (.ref f13) = true)
    (a14 : PySem.W.nsIn K mainGlobals "_law_is_step" = some (some (.ref f14))) (l14 : K.lookup f14 = some ⟨oc14, od14, .func (PySem.W.fnOf "_law_is_step" "_law_is_step" (defArgs sLIsStep) (defBody sLIsStep) (defScope sLIsStep) .none kV14 dc14 pm14 an14 cd14 ct14), sl14⟩) (c14 : PySem.W.codeIn K cd14 "_law_is_step" = true) (k14 : PySem.W.keepIn K (.ref f14) = true)
    (a15 : PySem.W.nsIn K mainGlobals "_law_is_dealing" = some (some (.ref f15))) (l15 : K.lookup f15 = some ⟨oc15, od15, .func (PySem.W.fnOf "_law_is_dealing" "_law_is_dealing" (defArgs sLIsDealing) (defBody sLIsDealing) (defScope sLIsDealing) .none kV15 dc15 pm15 an15 cd15 ct15), sl15⟩) (c15 : PySem.W.codeIn K cd15 "_law_is_dealing" = true) (k15 : PySem.W.keepIn K (.ref f15) = true)
    (a16 : PySem.W.nsIn K mainGlobals "_law_odd_step" = some (some (.ref f16))) (l16 : K.lookup f16 = some ⟨oc16, od16, .func (PySem.W.fnOf "_law_odd_step" "_law_odd_step" (defArgs sOdd) (defBody sOdd) (defScope sOdd) .none kV16 dc16 pm16 an16 cd16 ct16), sl16⟩) (c16 : PySem.W.codeIn K cd16 "_law_odd_step" = true) (k16 : PySem.W.keepIn K (.ref f16) = true)
    (a17 : PySem.W.nsIn K mainGlobals "_law_spoilt" = some (some (.ref f17))) (l17 : K.lookup f17 = some ⟨oc17, od17, .func (PySem.W.fnOf "_law_spoilt" "_law_spoilt" (defArgs sSpoilt) (defBody sSpoilt) (defScope sSpoilt) .none kV17 dc17 pm17 an17 cd17 ct17), sl17⟩) (c17 : PySem.W.codeIn K cd17 "_law_spoilt" = true) (k17 : PySem.W.keepIn K (.ref f17) = true)
    (a18 : PySem.W.nsIn K mainGlobals "_law_lists" = some (some (.ref f18))) (l18 : K.lookup f18 = some ⟨oc18, od18, .func (PySem.W.fnOf "_law_lists" "_law_lists" (defArgs sLists) (defBody sLists) (defScope sLists) .none kV18 dc18 pm18 an18 cd18 ct18), sl18⟩) (c18 : PySem.W.codeIn K cd18 "_law_lists" = true) (k18 : PySem.W.keepIn K (.ref f18) = true)
    (a19 : PySem.W.nsIn K mainGlobals "_law_are_dealings" = some (some (.ref f19))) (l19 : K.lookup f19 = some ⟨oc19, od19, .func (PySem.W.fnOf "_law_are_dealings" "_law_are_dealings" (defArgs sLAre) (defBody sLAre) (defScope sLAre) .none kV19 dc19 pm19 an19 cd19 ct19), sl19⟩) (c19 : PySem.W.codeIn K cd19 "_law_are_dealings" = true) (k19 : PySem.W.keepIn K (.ref f19) = true)
    (a20 : PySem.W.nsIn K mainGlobals "law" = some (some (.ref f20))) (l20 : K.lookup f20 = some ⟨oc20, od20, .func (PySem.W.fnOf "law" "law" (defArgs sLaw) (defBody sLaw) (defScope sLaw) .none kV20 dc20 pm20 an20 cd20 ct20), sl20⟩) (c20 : PySem.W.codeIn K cd20 "law" = true) (k20 : PySem.W.keepIn K (.ref f20) = true)
    (z1 : PySem.W.nsIn K mainGlobals "isinstance" = some none)
    (z2 : PySem.W.nsIn K mainGlobals "int" = some none)
    (z3 : PySem.W.nsIn K mainGlobals "bool" = some none)
    (z4 : PySem.W.nsIn K mainGlobals "str" = some none)
    (z5 : PySem.W.nsIn K mainGlobals "tuple" = some none)
    (z6 : PySem.W.nsIn K mainGlobals "list" = some none)
    (z7 : PySem.W.nsIn K mainGlobals "len" = some none)
    (z8 : PySem.W.nsIn K mainGlobals "all" = some none)
    (z9 : PySem.W.nsIn K mainGlobals "enumerate" = some none)
    (z10 : PySem.W.nsIn K mainGlobals "range" = some none)
    (z11 : PySem.W.nsIn K mainGlobals "max" = some none)
    (z12 : PySem.W.nsIn K mainGlobals "min" = some none)
    (y1 : PySem.W.nsIn K mainGlobals "MOST_BOX" = some (some (.int 100000000 t1)))
    (y2 : PySem.W.nsIn K mainGlobals "MOST_STEPS" = some (some (.int 8 t2)))
    (y3 : PySem.W.nsIn K mainGlobals "MOST_DEALINGS" = some (some (.int 100 t3)))
    : ∃ fd : FuncData, (∀ (s : Shared) (v : Value), BindsTo s fd ⟨[v], []⟩ [("_law_script", v)]) ∧ ∀ base : Heap, K.In base → base.Ns mainGlobals mg → FnOk l.prog w K mg base CX0 7 fa fd ["_law_script"] (spLaw K) := by
  have e := hfa.symm.trans (PySem.W.mg_of X G a20)
  cases e
  have F1 := fun_mk (st := sIsWhole) l1 c1 k1
  have b1 := F1.binds (ps := ["thing"]) fun _ _ _ _ _ _ us hl => match us, hl with | [_], _ => rfl
  have g1 := PySem.W.mg_of X G a1
  have F2 := fun_mk (st := sIsNumber) l2 c2 k2
  have b2 := F2.binds (ps := ["thing", "many"]) fun _ _ _ _ _ _ us hl => match us, hl with | [_, _], _ => rfl
  have g2 := PySem.W.mg_of X G a2
  have F3 := fun_mk (st := sIsBox) l3 c3 k3
  have b3 := F3.binds (ps := ["thing"]) fun _ _ _ _ _ _ us hl => match us, hl with | [_], _ => rfl
  have g3 := PySem.W.mg_of X G a3
  have F4 := fun_mk (st := sIsOneOf) l4 c4 k4
  have b4 := F4.binds (ps := ["thing", "words"]) fun _ _ _ _ _ _ us hl => match us, hl with | [_, _], _ => rfl
  have g4 := PySem.W.mg_of X G a4
  have F5 := fun_mk (st := sIsStep) l5 c5 k5
  have b5 := F5.binds (ps := ["thing"]) fun _ _ _ _ _ _ us hl => match us, hl with | [_], _ => rfl
  have g5 := PySem.W.mg_of X G a5
  have F6 := fun_mk (st := sMayFollow) l6 c6 k6
  have b6 := F6.binds (ps := ["step", "ahead"]) fun _ _ _ _ _ _ us hl => match us, hl with | [_, _], _ => rfl
  have g6 := PySem.W.mg_of X G a6
  have F7 := fun_mk (st := sIsDealing) l7 c7 k7
  have b7 := F7.binds (ps := ["thing"]) fun _ _ _ _ _ _ us hl => match us, hl with | [_], _ => rfl
  have g7 := PySem.W.mg_of X G a7
  have F8 := fun_mk (st := sAreDealings) l8 c8 k8
  have b8 := F8.binds (ps := ["thing"]) fun _ _ _ _ _ _ us hl => match us, hl with | [_], _ => rfl
  have g8 := PySem.W.mg_of X G a8
  have F9 := fun_mk (st := sCellAt) l9 c9 k9
  have b9 := F9.binds (ps := ["_law_script", "_law_k"]) fun _ _ _ _ _ _ us hl => match us, hl with | [_, _], _ => rfl
  have g9 := PySem.W.mg_of X G a9
  have F10 := fun_mk (st := sDigit) l10 c10 k10
  have b10 := F10.binds (ps := ["_law_state", "_law_base"]) fun _ _ _ _ _ _ us hl => match us, hl with | [_, _], _ => rfl
  have g10 := PySem.W.mg_of X G a10
  have F11 := fun_mk (st := sBox) l11 c11 k11
  have b11 := F11.binds (ps := ["_law_state", "_law_few"]) fun _ _ _ _ _ _ us hl => match us, hl with | [_, _], _ => rfl
  have g11 := PySem.W.mg_of X G a11
  have F12 := fun_mk (st := sDealing) l12 c12 k12
  have b12 := F12.binds (ps := ["_law_state", "_law_few", "_law_most"]) fun _ _ _ _ _ _ us hl => match us, hl with | [_, _, _], _ => rfl
  have g12 := PySem.W.mg_of X G a12
  have F13 := fun_mk (st := sTruth) l13 c13 k13
  have b13 := F13.binds (ps := ["_law_found", "_law_due"]) fun _ _ _ _ _ _ us hl => match us, hl with | [_, _], _ => rfl
  have g13 := PySem.W.mg_of X G a13
  have F14 := fun_mk (st := sLIsStep) l14 c14 k14
  have b14 := F14.binds (ps := ["_law_thing"]) fun _ _ _ _ _ _ us hl => match us, hl with | [_], _ => rfl
  have g14 := PySem.W.mg_of X G a14
  have F15 := fun_mk (st := sLIsDealing) l15 c15 k15
  have b15 := F15.binds (ps := ["_law_thing"]) fun _ _ _ _ _ _ us hl => match us, hl with | [_], _ => rfl
  have g15 := PySem.W.mg_of X G a15
  have F16 := fun_mk (st := sOdd) l16 c16 k16
  have b16 := F16.binds (ps := ["_law_state", "_law_step"]) fun _ _ _ _ _ _ us hl => match us, hl with | [_, _], _ => rfl
  have g16 := PySem.W.mg_of X G a16
  have F17 := fun_mk (st := sSpoilt) l17 c17 k17
  have b17 := F17.binds (ps := ["_law_state", "_law_dealing_here"]) fun _ _ _ _ _ _ us hl => match us, hl with | [_, _], _ => rfl
  have g17 := PySem.W.mg_of X G a17
  have F18 := fun_mk (st := sLists) l18 c18 k18
  have b18 := F18.binds (ps := ["_law_state", "_law_dealing_here", "_law_odd"]) fun _ _ _ _ _ _ us hl => match us, hl with | [_, _, _], _ => rfl
  have g18 := PySem.W.mg_of X G a18
  have F19 := fun_mk (st := sLAre) l19 c19 k19
  have b19 := F19.binds (ps := ["_law_thing"]) fun _ _ _ _ _ _ us hl => match us, hl with | [_], _ => rfl
  have g19 := PySem.W.mg_of X G a19
  have F20 := fun_mk (st := sLaw) l20 c20 k20
  have M : Mg mg := ⟨PySem.W.mg_none_of X G z1, PySem.W.mg_none_of X G z2, PySem.W.mg_none_of X G z3, PySem.W.mg_none_of X G z4, PySem.W.mg_none_of X G z5, PySem.W.mg_none_of X G z6, PySem.W.mg_none_of X G z7, PySem.W.mg_none_of X G z8, PySem.W.mg_none_of X G z9, PySem.W.mg_none_of X G z10, PySem.W.mg_none_of X G z11, PySem.W.mg_none_of X G z12, ⟨_, PySem.W.mg_of X G y1⟩, ⟨_, PySem.W.mg_of X G y2⟩, ⟨_, PySem.W.mg_of X G y3⟩⟩
  refine ⟨PySem.W.fnOf "law" "law" (defArgs sLaw) (defBody sLaw) (defScope sLaw) .none kV20 dc20 pm20 an20 cd20 ct20, fun s v => .of_eq rfl, fun base _ _ => ?_⟩
  have W1 := fun k => ok_is_whole (P := l.prog) (w := w) (base := base) (k := k) F1 M
  have W2 := fun k => ok_is_number (k := k + 1) F2 M (W1 k) g1 k1 b1
  have W3 := fun k => ok_is_box (k := k + 2) F3 M (W2 k) g2 k2 b2
  have W4 := fun k => ok_is_one_of (P := l.prog) (w := w) (base := base) (k := k) F4 M
  have W5 := fun k => ok_is_step (k := k + 3) F5 M (W4 (k + 2)) g4 k4 b4 (W3 k) g3 k3 b3
  have W6 := fun k => ok_may_follow (P := l.prog) (w := w) (base := base) (k := k) F6 M
  have W7 := fun k => ok_is_dealing (k := k + 4) F7 M (W5 k) g5 k5 b5 (W6 (k + 3)) g6 k6 b6
  have W8 := fun k => ok_are_dealings (k := k + 5) F8 M (W7 k) g7 k7 b7
  have D := fun k => ok_digit (P := l.prog) (w := w) (base := base) (k := k) F10 M
  have B := fun k => ok_box (k := k + 1) F11 M (D k) g10 k10 b10
  have O := fun k => ok_odd (k := k + 1) F16 M (D k) g10 k10 b10
  have LS := fun k => ok_l_is_step (P := l.prog) (w := w) (base := base) (k := k) F14 M
  have LD := fun k => ok_l_is_dealing (k := k + 1) F15 M (LS k) g14 k14 b14
  exact ok_law (k := 6) F20 M ⟨f9, _, ok_cell_at F9 M, g9, k9, b9⟩ ⟨f12, _, ok_dealing F12 M (D 4) g10 k10 b10 (B 3) g11 k11 b11, g12, k12, b12⟩ ⟨f17, _, ok_spoilt F17 M (D 4) g10 k10 b10 (O 3) g16 k16 b16, g17, k17, b17⟩
    ⟨f18, _, ok_lists F18 M (D 4) g10 k10 b10, g18, k18, b18⟩ ⟨f16, _, O 4, g16, k16, b16⟩ ⟨f13, _, ok_truth F13 M, g13, k13, b13⟩ ⟨f7, _, W7 1, g7, k7, b7⟩
    ⟨f15, _, LD 4, g15, k15, b15⟩ ⟨f5, _, W5 2, g5, k5, b5⟩ ⟨f14, _, LS 5, g14, k14, b14⟩ ⟨f8, _, W8 0, g8, k8, b8⟩
    ⟨f19, _, ok_l_are F19 M (LD 3) g15 k15 b15, g19, k19, b19⟩
end As
open PySem PySem.W PyProof.Rows
set_option maxHeartbeats 0 in
theorem PySem.Challenge.cw_asifalone_k01_steps_and_dealings_holds : PySem.Challenge.rw_asifalone_k01_steps_and_dealings.Holds := by
  w_on; o_law; k_head; (case hw => w_witness2)
  k_fill
  refine L2.walk_of (l := PySem.Challenge.rw_asifalone_k01_steps_and_dealings) (n := 63) (k := 7) (x := "_law_script") (CX := fun _ => L2.CX0) (sp := fun w => As.spLaw _) rfl (by decide) rfl ⟨rfl, by decide, by decide⟩ (fun w h Y => PySem.W.kIn_of Y) ?F (fun _ _ a ns hl _ hS => ⟨a, ns, rfl, hS, hl, fun _ => rfl⟩) (fun _ _ _ _ _ h => h)
  case F =>
    intro w mg fa h KX G hmg
    refine' As.all_mk KX G hmg ?a1 ?l1 ?c1 ?k1 ?a2 ?l2 ?c2 ?k2 ?a3 ?l3 ?c3 ?k3 ?a4 ?l4 ?c4 ?k4 ?a5 ?l5 ?c5 ?k5 ?a6 ?l6 ?c6 ?k6 ?a7 ?l7 ?c7 ?k7 ?a8 ?l8 ?c8 ?k8 ?a9 ?l9 ?c9 ?k9 ?a10 ?l10 ?c10 ?k10 ?a11 ?l11 ?c11 ?k11 ?a12 ?l12 ?c12 ?k12 ?a13 ?l13 ?c13 ?k13 ?a14 ?l14 ?c14 ?k14 ?a15 ?l15 ?c15 ?k15 ?a16 ?l16 ?c16 ?k16 ?a17 ?l17 ?c17 ?k17 ?a18 ?l18 ?c18 ?k18 ?a19 ?l19 ?c19 ?k19 ?a20 ?l20 ?c20 ?k20 ?z1 ?z2 ?z3 ?z4 ?z5 ?z6 ?z7 ?z8 ?z9 ?z10 ?z11 ?z12 ?y1 ?y2 ?y3
    (case a1 => k_is); (case l1 => k_is); (case c1 => k_is); (case k1 => k_is); (case a2 => k_is); (case l2 => k_is); (case c2 => k_is); (case k2 => k_is); (case a3 => k_is); (case l3 => k_is); (case c3 => k_is); (case k3 => k_is); (case a4 => k_is); (case l4 => k_is); (case c4 => k_is); (case k4 => k_is); (case a5 => k_is); (case l5 => k_is); (case c5 => k_is); (case k5 => k_is); (case a6 => k_is); (case l6 => k_is); (case c6 => k_is); (case k6 => k_is); (case a7 => k_is); (case l7 => k_is); (case c7 => k_is); (case k7 => k_is); (case a8 => k_is); (case l8 => k_is); (case c8 => k_is); (case k8 => k_is); (case a9 => k_is); (case l9 => k_is); (case c9 => k_is); (case k9 => k_is); (case a10 => k_is); (case l10 => k_is); (case c10 => k_is); (case k10 => k_is); (case a11 => k_is); (case l11 => k_is); (case c11 => k_is); (case k11 => k_is); (case a12 => k_is); (case l12 => k_is); (case c12 => k_is); (case k12 => k_is); (case a13 => k_is); (case l13 => k_is); (case c13 => k_is); (case k13 => k_is); (case a14 => k_is); (case l14 => k_is); (case c14 => k_is); (case k14 => k_is); (case a15 => k_is); (case l15 => k_is); (case c15 => k_is); (case k15 => k_is); (case a16 => k_is); (case l16 => k_is); (case c16 => k_is); (case k16 => k_is); (case a17 => k_is); (case l17 => k_is); (case c17 => k_is); (case k17 => k_is); (case a18 => k_is); (case l18 => k_is); (case c18 => k_is); (case k18 => k_is); (case a19 => k_is); (case l19 => k_is); (case c19 => k_is); (case k19 => k_is); (case a20 => k_is); (case l20 => k_is); (case c20 => k_is); (case k20 => k_is); (case z1 => k_is); (case z2 => k_is); (case z3 => k_is); (case z4 => k_is); (case z5 => k_is); (case z6 => k_is); (case z7 => k_is); (case z8 => k_is); (case z9 => k_is); (case z10 => k_is); (case z11 => k_is); (case z12 => k_is); (case y1 => k_is); (case y2 => k_is); (case y3 => k_is)
